/-
  The law NodeBack, walked: it answers true and turns nothing that was there, if package node answers as the document has it. Condition: lists and texts of fewer than 10^8 parts.
-/
import Derived.Test.YtlgfdfpafmopdaaDoorNB
import Derived.Test.YtlgfdfpafmopdaaDoorNq
namespace Go.Proofs.YtlgfdfpafmopdaaDoor
open Go.RowKit
set_option linter.unusedVariables false

theorem nil0_zers (n : Nat) : nil0 (List.replicate n 0) = true := by unfold nil0; rw [List.all_replicate]; simp
theorem nil0_one (l : List UInt8) : nil0 (l ++ [1]) = false := by unfold nil0; rw [List.all_append]; simp
theorem ba_app (a b : ByteArray) : (a ++ b).data.toList = a.data.toList ++ b.data.toList := Joins.data_append a b
theorem Nv.back {v : Nv} (ho : v.Ok) (hfit : v.fits = true) (z : List UInt8) : ddec (ndb v.leaf v.es ++ z) = if nil0 z then some (v.leaf, v.es) else none := by
  have hf := Nv.fine ho
  have hn := Nv.norm hfit
  refine ddec_ndb v.leaf v.es z (by rw [Nv.es_len]; have := ho.lk; omega) (fun e he => ⟨(hf e he).1, (hf e he).2.1, hn e he⟩) ?_
  unfold Nv.fits at hfit
  rw [Bool.and_eq_true] at hfit
  exact hfit.2
theorem Nv.short {v : Nv} (hfit : v.fits = true) : (ndb v.leaf v.es).length ≤ 1024 := by
  unfold Nv.fits fitN at hfit
  rw [Bool.and_eq_true, Bool.and_eq_true, Bool.and_eq_true] at hfit
  exact of_decide_eq_true hfit.2.1.2

set_option maxRecDepth 100000 in
set_option maxHeartbeats 1000000 in
theorem nback_no (HE : EncSpec) (HP : PlaSpec) (v : Nv) (z : Int) (w : World) (h : IsNv w v) (ho : v.Ok) (hc : v.caps) (hfit : v.fits = false) :
    Calls Tryd.prog 4 #[.agg #[.bool v.leaf, .slice v.ka v.kn v.kc, .slice v.va v.vn v.vc, .slice v.ia v.im v.ic], .int .i64 z] w fun e w' => e = .returned (.bool true) ∧ Tch [] w w' := by
  have T0 : Tch [] w (w.alloc (.cells #[.bool v.leaf, .slice v.ka v.kn v.kc, .slice v.va v.vn v.vc, .slice v.ia v.im v.ic] 25)) := (Tch.refl _ _).alloc _
  have hb : IsNb (w.alloc (.cells #[.bool v.leaf, .slice v.ka v.kn v.kc, .slice v.va v.vn v.vc, .slice v.ia v.im v.ic] 25)) w.heap.size v := blk_new w _
  have HEN := Lib.hid (HE v _ (h.keep0 T0) ho hc)
  rw [hfit] at HEN
  simp only [if_false, Bool.false_eq_true] at HEN
  have HKK := Lib.hid (nwakes_any HE HP)
  obtain ⟨c0, c1, c2, c3⟩ := hb.c
  clear h ho hc hfit
  go_enter Tryd.func4, Tryd.ntmps4
  go_wp2_with fail
  refine HEN.out.mono ?_
  rintro e w1 ⟨rfl, t1⟩
  clear c0 c1 c2 c3
  go_wp2_with fail
  refine (HKK.out _).mono ?_
  rintro e w2 ⟨rfl, t2⟩
  go_wp2_with fail
  refine (HKK.out _).mono ?_
  rintro e w3 ⟨rfl, t3⟩
  go_wp2_with fail
  go_ret
  exact ⟨rfl, ((T0.trans t1).trans t2).trans t3⟩

set_option maxRecDepth 100000 in
set_option maxHeartbeats 2000000 in
theorem nback_yes (HE : EncSpec) (HD : DecSpec) (HP : PlaSpec) (v : Nv) (z : Int) (w : World) (h : IsNv w v) (ho : v.Ok) (hc : v.caps) (hfit : v.fits = true) :
    Calls Tryd.prog 4 #[.agg #[.bool v.leaf, .slice v.ka v.kn v.kc, .slice v.va v.vn v.vc, .slice v.ia v.im v.ic], .int .i64 z] w fun e w' => e = .returned (.bool true) ∧ Tch [] w w' := by
  have T0 : Tch [] w (w.alloc (.cells #[.bool v.leaf, .slice v.ka v.kn v.kc, .slice v.va v.vn v.vc, .slice v.ia v.im v.ic] 25)) := (Tch.refl _ _).alloc _
  have hb : IsNb (w.alloc (.cells #[.bool v.leaf, .slice v.ka v.kn v.kc, .slice v.va v.vn v.vc, .slice v.ia v.im v.ic] 25)) w.heap.size v := blk_new w _
  have HKEEP : Hid (∀ w', Tch [] (w.alloc (.cells #[.bool v.leaf, .slice v.ka v.kn v.kc, .slice v.va v.vn v.vc, .slice v.ia v.im v.ic] 25)) w' → IsNb w' w.heap.size v) := fun w' t => t.keep hb (by simp)
  have HEN := Lib.hid (HE v _ (h.keep0 T0) ho hc)
  rw [hfit] at HEN
  simp only [if_true] at HEN
  have HKK := Lib.hid (nwakes_any HE HP)
  have HRR : Hid (∀ w', Tch [] w w' → _) := fun w' t => nref_any v w' (h.keep0 t) ho
  have hsh := Nv.short hfit
  have hsz : (⟨(ndb v.leaf v.es).toArray⟩ : ByteArray).size = (ndb v.leaf v.es).length := List.size_toArray
  obtain ⟨q, hq⟩ : ∃ q : Nat, max 0 z = (q : Int) := ⟨(max 0 z).toNat, by omega⟩
  obtain ⟨m, hm, hm2⟩ : ∃ m : Nat, (q : Int) % 2000 = (m : Int) ∧ m < 2000 := ⟨q % 2000, by omega, by omega⟩
  have hm3 : (q : Int).tmod 2000 = (m : Int) := by rw [Int.tmod_eq_emod_of_nonneg (by omega)]; exact hm
  have hm4 : q % 2000 = m := by omega
  have hzl : (zers m).size = m := by rw [Lib.size_eq]; simp [zers]
  have hd1 : ddec ((⟨(ndb v.leaf v.es).toArray⟩ : ByteArray) ++ zers m).data.toList = some (v.leaf, v.es) := by
    rw [ba_app]
    show ddec (ndb v.leaf v.es ++ List.replicate m 0) = _
    rw [Nv.back ho hfit, nil0_zers]; rfl
  have hd2 : ddec (((⟨(ndb v.leaf v.es).toArray⟩ : ByteArray) ++ zers m) ++ (⟨#[1]⟩ : ByteArray)).data.toList = none := by
    rw [ba_app, ba_app]
    show ddec ((ndb v.leaf v.es ++ List.replicate m 0) ++ [1]) = _
    rw [List.append_assoc, Nv.back ho hfit, nil0_one]; rfl
  generalize (⟨(ndb v.leaf v.es).toArray⟩ : ByteArray) = sb at HEN hsz hd1 hd2
  have hs1 : (sb ++ zers m).size = sb.size + m := by rw [Lib.size_eq, ba_app, List.length_append, ← Lib.size_eq, ← Lib.size_eq, hzl]
  have hs2 : ((sb ++ zers m) ++ (⟨#[1]⟩ : ByteArray)).size = sb.size + m + 1 := by rw [Lib.size_eq, ba_app, List.length_append, ← Lib.size_eq, hs1]; rfl
  have HD1 : Hid (∀ w1, Calls Tryd.prog 5 #[.string (sb ++ zers m)] w1 fun e w' => Tch [] w1 w' ∧ ∃ u : Nv, e = .returned (.tuple #[.agg #[.bool u.leaf, .slice u.ka u.kn u.kc, .slice u.va u.vn u.vc, .slice u.ia u.im u.ic], .int .i64 0]) ∧ u.Good w' v.leaf v.es) := fun w1 => by
    refine (HD (sb ++ zers m) w1 (by omega)).mono ?_
    rintro e w' ⟨t, hx⟩
    refine ⟨t, ?_⟩
    rw [hd1] at hx
    rcases hx with ⟨h0, _⟩ | ⟨leaf, es, u, h1, h2, h3⟩
    · cases h0
    · cases h1
      exact ⟨u, h2, h3⟩
  have HD2 : Hid (∀ w1, Calls Tryd.prog 5 #[.string ((sb ++ zers m) ++ (⟨#[1]⟩ : ByteArray))] w1 fun e w' => Tch [] w1 w' ∧ ∃ u : Nv, e = .returned (.tuple #[.agg #[.bool u.leaf, .slice u.ka u.kn u.kc, .slice u.va u.vn u.vc, .slice u.ia u.im u.ic], .int .i64 40])) := fun w1 => by
    refine (HD ((sb ++ zers m) ++ (⟨#[1]⟩ : ByteArray)) w1 (by omega)).mono ?_
    rintro e w' ⟨t, hx⟩
    refine ⟨t, ?_⟩
    rw [hd2] at hx
    rcases hx with ⟨_, u, h1, _⟩ | ⟨leaf, es, u, h1, _⟩
    · exact ⟨u, h1⟩
    · cases h1
  obtain ⟨i0, hi0, hz0, hz1, hz2⟩ := info_parts Tryd.info_u8z
  have hmk : ∀ w2 : World, (Instr.makeSlice 39 (.int .i64 (m : Int)) (.int .i64 (m : Int))).run Tryd.prog w2 = .ok (.slice (some ⟨w2.heap.size, 0, none⟩) m m) (w2.alloc (.cells (madeCells #[.int .u8 0] m) 5)) := fun w2 => by
    have hmk := run_make (P := Tryd.prog) w2 39 5 i0 (.int .u8 0) Tryd.underlying39 hi0 hz0 .i64 .i64 (m : Int) (m : Int) (by omega) (by omega) (by rw [hz2]; omega) (by omega)
    rw [hz1, Nat.mul_one, Int.toNat_natCast, show Value.cells (.int .u8 0) = #[.int .u8 0] from rfl] at hmk
    exact hmk
  have hcv : ∀ w2 : World, (convert 39 9 (.slice (some ⟨w2.heap.size, 0, none⟩) m m)).run Tryd.prog (w2.alloc (.cells (madeCells #[.int .u8 0] m) 5)) = .ok (.string (zers m)) (w2.alloc (.cells (madeCells #[.int .u8 0] m) 5)) := fun w2 => conv_zers _ _ _ _ (blk_new w2 _)
  have HAL : Hid (∀ (u : Nv) w' a c b o, u.Good w' v.leaf v.es → IsR fEn 3 w' a v.es.length b o v.es → Calls Tryd.prog 9 #[.agg #[.bool u.leaf, .slice u.ka u.kn u.kc, .slice u.va u.vn u.vc, .slice u.ia u.im u.ic], .agg #[.bool v.leaf, .slice a v.es.length c]] w' fun e w'' => e = .returned (.bool true) ∧ Tch [] w' w'') := fun u w' a c b o g hr => by
    have := nalike_yes u a v.es.length c b o w' g.nv g.ok (by rw [g.es]; exact hr) g.lens
    rw [g.leaf] at this ⊢
    exact this
  have hsum1 : ¬ 9223372036854775807 < sb.size + (zers m).size := by omega
  have hsum2 : ¬ 9223372036854775807 < (sb ++ zers m).size + (⟨#[1]⟩ : ByteArray).size := by
    have : (⟨#[1]⟩ : ByteArray).size = 1 := rfl
    omega
  obtain ⟨c0, c1, c2, c3⟩ := hb.c
  clear h ho hc hfit hsh hsz hd1 hd2 hs1 hs2 hzl hi0 hz0 hz1 hz2
  go_enter Tryd.func4, Tryd.ntmps4
  go_wp2_with fail
  refine HEN.out.mono ?_
  rintro e w1 ⟨rfl, t1⟩
  clear c0 c1 c2 c3
  go_wp2_with fail
  refine (HKK.out _).mono ?_
  rintro e w2 ⟨rfl, t2⟩
  have T2 := (T0.trans t1).trans t2
  go_wp2_with fail
  refine (HD1.out _).mono ?_
  rintro e w3 ⟨t3, u, rfl, hg⟩
  have T3 := (T2.alloc (.cells (madeCells #[.int .u8 0] m) 5)).trans t3
  have tk3 := (((t1.trans t2).alloc (.cells (madeCells #[.int .u8 0] m) 5)).trans t3)
  have tX : Tch [] w3 (w3.alloc (.cells #[.bool u.leaf, .slice u.ka u.kn u.kc, .slice u.va u.vn u.vc, .slice u.ia u.im u.ic] 25)) := (Tch.refl _ _).alloc _
  have hX : IsNb (w3.alloc (.cells #[.bool u.leaf, .slice u.ka u.kn u.kc, .slice u.va u.vn u.vc, .slice u.ia u.im u.ic] 25)) w3.heap.size u := blk_new w3 _
  have HB4 : Hid (∀ w', Tch [] (w3.alloc (.cells #[.bool u.leaf, .slice u.ka u.kn u.kc, .slice u.va u.vn u.vc, .slice u.ia u.im u.ic] 25)).drew w' → IsNb w' w3.heap.size u ∧ IsNb w' w.heap.size v ∧ u.Good w' v.leaf v.es ∧ Tch [] w w') := fun w' t =>
    ⟨((Tch.refl [] _).drew.trans t).keep hX (by simp), HKEEP.out w' ((tk3.trans tX).trans ((Tch.refl [] _).drew.trans t)), (hg.keep0 tX).keep0 ((Tch.refl [] _).drew.trans t), (T3.trans tX).trans ((Tch.refl [] _).drew.trans t)⟩
  have HS : Hid (∀ w', Tch [] (w3.alloc (.cells #[.bool u.leaf, .slice u.ka u.kn u.kc, .slice u.va u.vn u.vc, .slice u.ia u.im u.ic] 25)).drew w' → w'.cell? ⟨w3.heap.size, 0, none⟩ = some (.bool u.leaf) ∧ w'.cell? ⟨w3.heap.size, 1, none⟩ = some (.slice u.ka u.kn u.kc) ∧ w'.cell? ⟨w3.heap.size, 2, none⟩ = some (.slice u.va u.vn u.vc) ∧ w'.cell? ⟨w3.heap.size, 3, none⟩ = some (.slice u.ia u.im u.ic) ∧ w'.cell? ⟨w.heap.size, 0, none⟩ = some (.bool v.leaf) ∧ w'.cell? ⟨w.heap.size, 1, none⟩ = some (.slice v.ka v.kn v.kc) ∧ w'.cell? ⟨w.heap.size, 2, none⟩ = some (.slice v.va v.vn v.vc) ∧ w'.cell? ⟨w.heap.size, 3, none⟩ = some (.slice v.ia v.im v.ic)) := fun w' t => by
    obtain ⟨h1, h2, _⟩ := HB4.out w' t
    obtain ⟨a0, a1, a2, a3⟩ := h1.c
    obtain ⟨b0, b1, b2, b3⟩ := h2.c
    exact ⟨a0, a1, a2, a3, b0, b1, b2, b3⟩
  clear hX tX hg t3 tk3 hmk hcv
  go_wp2_with fail
  generalize (w3.alloc (.cells #[.bool u.leaf, .slice u.ka u.kn u.kc, .slice u.va u.vn u.vc, .slice u.ia u.im u.ic] 25)) = W4 at HB4 HS ⊢
  generalize w3.heap.size = X at HB4 HS ⊢
  generalize w.heap.size = p at HB4 HS HKEEP hb ⊢
  go_region_held3 (fun w' => w'.cell? ⟨X, 0, none⟩ = some (.bool u.leaf) ∧ w'.cell? ⟨X, 1, none⟩ = some (.slice u.ka u.kn u.kc) ∧ w'.cell? ⟨X, 2, none⟩ = some (.slice u.va u.vn u.vc) ∧ w'.cell? ⟨X, 3, none⟩ = some (.slice u.ia u.im u.ic) ∧ w'.cell? ⟨p, 0, none⟩ = some (.bool v.leaf) ∧ w'.cell? ⟨p, 1, none⟩ = some (.slice v.ka v.kn v.kc) ∧ w'.cell? ⟨p, 2, none⟩ = some (.slice v.va v.vn v.vc) ∧ w'.cell? ⟨p, 3, none⟩ = some (.slice v.ia v.im v.ic))
    (first | exact HS.out _ (t5.trans t6) | exact HS.out _ t5 | exact HS.out _ (Tch.refl _ _))
    (first | (go_at_call 10; refine (HRR.out _ (HB4.out _ (Tch.refl _ _)).2.2.2).mono ?_; rintro e w5 ⟨x, c, b, rfl, hx, _, _, t5⟩; have HA5 := HAL.out u w5 x c b 0 (HB4.out _ t5).2.2.1 hx) | (go_at_call 9; refine HA5.mono ?_; rintro e w6 ⟨rfl, t6⟩))
  have T6 := (HB4.out _ (t5.trans t6)).2.2.2
  clear hx HA5
  go_wp2_with fail
  refine (HD2.out _).mono ?_
  rintro e w7 ⟨t7, u2, rfl⟩
  go_wp2_with fail
  go_ret
  exact ⟨rfl, T6.trans t7⟩
theorem nback_walk (HE : EncSpec) (HD : DecSpec) (HP : PlaSpec) (v : Nv) (z : Int) (w : World) (h : IsNv w v) (ho : v.Ok) (hc : v.caps) :
    Calls Tryd.prog 4 #[.agg #[.bool v.leaf, .slice v.ka v.kn v.kc, .slice v.va v.vn v.vc, .slice v.ia v.im v.ic], .int .i64 z] w fun e w' => e = .returned (.bool true) ∧ Tch [] w w' := by
  cases hfit : v.fits
  · exact nback_no HE HP v z w h ho hc hfit
  · exact nback_yes HE HD HP v z w h ho hc hfit
end Go.Proofs.YtlgfdfpafmopdaaDoor
