/-
  The law NodeReads, walked: it answers true and turns nothing that was there, if package node answers as the document has it. Condition: the text is shorter than 10^7 bytes.
-/
import Derived.Test.YtlgfdfpafmopdaaDoorNK
namespace Go.Proofs.YtlgfdfpafmopdaaDoor
open Go.RowKit
set_option linter.unusedVariables false

theorem slice_pre (s t : ByteArray) (z : List UInt8) (h : s.data.toList = t.data.toList ++ z) (w : World) : (Instr.slice 9 (.string s) none (some (.int .i64 (t.size : Int))) none).run Tryd.prog w = .ok (.string t) w := by
  have hl : t.size ≤ s.size := by rw [Lib.size_eq s, h, List.length_append, ← Lib.size_eq]; omega
  rw [run_slice_string_h _ _ _ Tryd.underlying9 _ _ (by omega) (by omega), Int.toNat_natCast]
  congr 2
  apply ba_ext
  rw [Lib.extract_data, List.drop_zero, Nat.sub_zero, h, List.take_append_of_le_length (by rw [← Lib.size_eq]; omega), List.take_of_length_le (by rw [← Lib.size_eq]; omega)]

set_option maxRecDepth 100000 in
set_option maxHeartbeats 2000000 in
theorem nreads_none (HE : EncSpec) (HD : DecSpec) (HP : PlaSpec) (s : ByteArray) (w : World) (hs : s.size ≤ 10000000) (hd : ddec s.data.toList = none) :
    Calls Tryd.prog 3 #[.string s] w fun e w' => e = .returned (.bool true) ∧ Tch [] w w' := by
  have HKK := Lib.hid (nwakes_any HE HP)
  have HD1 : Hid (∀ w1, Calls Tryd.prog 5 #[.string s] w1 fun e w' => Tch [] w1 w' ∧ ∃ u : Nv, e = .returned (.tuple #[.agg #[.bool u.leaf, .slice u.ka u.kn u.kc, .slice u.va u.vn u.vc, .slice u.ia u.im u.ic], .int .i64 40]) ∧ u.leaf = false ∧ u.kn = 0 ∧ u.vn = 0 ∧ u.im = 0) := fun w1 => by
    refine (HD s w1 hs).mono ?_
    rintro e w' ⟨t, hx⟩
    refine ⟨t, ?_⟩
    rw [hd] at hx
    rcases hx with ⟨_, u, h1⟩ | ⟨leaf, es, u, h1, _⟩
    · exact ⟨u, h1⟩
    · cases h1
  have HD2 : Hid (∀ w1, Calls Tryd.prog 6 #[.string s] w1 fun e w' => e = .returned (.tuple #[.agg #[.bool false, .slice none 0 0], .int .i64 40]) ∧ Tch [] w1 w') := fun w1 => by
    refine (rdec_any s w1 (by omega)).mono ?_
    rintro e w' ⟨t, hx⟩
    rw [hd] at hx
    rcases hx with ⟨_, h1⟩ | ⟨leaf, es, x, c, b, h1, _⟩
    · exact ⟨h1, t⟩
    · cases h1
  clear hd hs
  go_enter Tryd.func3, Tryd.ntmps3
  go_wp2_with fail
  refine (HD1.out _).mono ?_
  rintro e w1 ⟨t1, u, rfl, h1, h2, h3, h4⟩
  rw [h1, h2, h3, h4]
  have hX := blk_new w1 (.cells #[.bool false, .slice u.ka 0 u.kc, .slice u.va 0 u.vc, .slice u.ia 0 u.ic] 25)
  have T1 := t1.alloc (.cells #[.bool false, .slice u.ka 0 u.kc, .slice u.va 0 u.vc, .slice u.ia 0 u.ic] 25)
  clear h1 h2 h3 h4
  go_wp2_with fail
  refine (HD2.out _).mono ?_
  rintro e w2 ⟨rfl, t2⟩
  have hX2 := t2.keep hX (by simp)
  have T2 := T1.trans t2
  have hX3 := blk_alloc hX2 (.cells #[.bool false, .slice none 0 0] 31)
  have T3 := T2.alloc (.cells #[.bool false, .slice none 0 0] 31)
  clear hX hX2 t2 T1 T2
  go_wp2_with fail
  refine (HKK.out _).mono ?_
  rintro e w3 ⟨rfl, t3⟩
  have hX4 := t3.keep hX3 (by simp)
  have c0 := blk_cell hX4 0
  have c1 := blk_cell hX4 1
  have c2 := blk_cell hX4 2
  have c3 := blk_cell hX4 3
  simp only [List.getElem?_toArray, List.getElem?_cons_zero, List.getElem?_cons_succ] at c0 c1 c2 c3
  clear hX3 hX4
  go_wp2_with fail
  go_ret
  exact ⟨rfl, T3.trans t3⟩

set_option maxRecDepth 100000 in
set_option maxHeartbeats 2000000 in
theorem nreads_some (HE : EncSpec) (HD : DecSpec) (HP : PlaSpec) (s : ByteArray) (leaf : Bool) (es : List En) (w : World) (hs : s.size ≤ 10000000) (hd : ddec s.data.toList = some (leaf, es)) :
    Calls Tryd.prog 3 #[.string s] w fun e w' => e = .returned (.bool true) ∧ Tch [] w w' := by
  have HKK := Lib.hid (nwakes_any HE HP)
  obtain ⟨hfit, ⟨z, hz⟩, _⟩ := ddec_pre hd
  have HD1 : Hid (∀ w1, Calls Tryd.prog 5 #[.string s] w1 fun e w' => Tch [] w1 w' ∧ ∃ u : Nv, e = .returned (.tuple #[.agg #[.bool u.leaf, .slice u.ka u.kn u.kc, .slice u.va u.vn u.vc, .slice u.ia u.im u.ic], .int .i64 0]) ∧ u.Good w' leaf es) := fun w1 => by
    refine (HD s w1 hs).mono ?_
    rintro e w' ⟨t, hx⟩
    refine ⟨t, ?_⟩
    rw [hd] at hx
    rcases hx with ⟨h0, _⟩ | ⟨leaf, es, u, h1, h2, h3⟩
    · cases h0
    · cases h1
      exact ⟨u, h2, h3⟩
  have HD2 : Hid (∀ w1, Calls Tryd.prog 6 #[.string s] w1 fun e w' => ∃ x c b, e = .returned (.tuple #[.agg #[.bool leaf, .slice x es.length c], .int .i64 0]) ∧ IsR fEn 3 w' x es.length b 0 es ∧ Tch [] w1 w') := fun w1 => by
    refine (rdec_any s w1 (by omega)).mono ?_
    rintro e w' ⟨t, hx⟩
    rw [hd] at hx
    rcases hx with ⟨h0, _⟩ | ⟨leaf, es, x, c, b, h1, h2, h3, _⟩
    · cases h0
    · cases h1
      exact ⟨x, c, b, h2, h3, t⟩
  have hsb : (⟨(ndb leaf es).toArray⟩ : ByteArray).data.toList = ndb leaf es := rfl
  rw [← hsb] at hz
  have HEN : Hid (∀ (u : Nv) w', u.Good w' leaf es → Calls Tryd.prog 8 #[.agg #[.bool u.leaf, .slice u.ka u.kn u.kc, .slice u.va u.vn u.vc, .slice u.ia u.im u.ic]] w' fun e w'' => e = .returned (.tuple #[.string ⟨(ndb leaf es).toArray⟩, .int .i64 0]) ∧ Tch [] w' w'') := fun u w' g => by
    have := HE u w' g.nv g.ok g.caps
    have hf : u.fits = true := by unfold Nv.fits; rw [g.lens, g.leaf, g.es, hfit]; rfl
    rw [hf, if_pos rfl, if_pos rfl, g.es] at this
    have h2 : (⟨(ndb u.leaf es).toArray⟩ : ByteArray) = ⟨(ndb leaf es).toArray⟩ := by rw [g.leaf]
    rw [h2] at this
    exact this
  have HAL : Hid (∀ (u : Nv) w' a c b o, u.Good w' leaf es → IsR fEn 3 w' a es.length b o es → Calls Tryd.prog 9 #[.agg #[.bool u.leaf, .slice u.ka u.kn u.kc, .slice u.va u.vn u.vc, .slice u.ia u.im u.ic], .agg #[.bool leaf, .slice a es.length c]] w' fun e w'' => e = .returned (.bool true) ∧ Tch [] w' w'') := fun u w' a c b o g hr => by
    have := nalike_yes u a es.length c b o w' g.nv g.ok (by rw [g.es]; exact hr) g.lens
    rw [g.leaf] at this ⊢
    exact this
  generalize (⟨(ndb leaf es).toArray⟩ : ByteArray) = sb at HEN hz
  have hsl := slice_pre s sb z hz
  have hle : sb.size ≤ s.size := by rw [Lib.size_eq s, hz, List.length_append, ← Lib.size_eq]; omega
  have hle2 : decide ((sb.size : Int) ≤ (s.size : Int)) = true := decide_eq_true (by omega)
  have hle3 : decide (sb.size ≤ s.size) = true := decide_eq_true hle
  clear hd hs hz hfit hsb
  go_enter Tryd.func3, Tryd.ntmps3
  go_wp2_with fail
  refine (HD1.out _).mono ?_
  rintro e w1 ⟨t1, u, rfl, hg⟩
  have tX : Tch [] w1 (w1.alloc (.cells #[.bool u.leaf, .slice u.ka u.kn u.kc, .slice u.va u.vn u.vc, .slice u.ia u.im u.ic] 25)) := (Tch.refl _ _).alloc _
  have hX : IsNb (w1.alloc (.cells #[.bool u.leaf, .slice u.ka u.kn u.kc, .slice u.va u.vn u.vc, .slice u.ia u.im u.ic] 25)) w1.heap.size u := blk_new w1 _
  have hg1 := hg.keep0 tX
  have T1 := t1.trans tX
  clear hg tX t1
  go_wp2_with fail
  generalize w1.alloc (.cells #[.bool u.leaf, .slice u.ka u.kn u.kc, .slice u.va u.vn u.vc, .slice u.ia u.im u.ic] 25) = W1 at hX hg1 T1 ⊢
  generalize w1.heap.size = X at hX ⊢
  refine (HD2.out _).mono ?_
  rintro e w2 ⟨x, c, b, rfl, hx, t2⟩
  have tY : Tch [] w2 (w2.alloc (.cells #[.bool leaf, .slice x es.length c] 31)) := (Tch.refl _ _).alloc _
  have hY := blk_new w2 (.cells #[.bool leaf, .slice x es.length c] 31)
  have HK : Hid (∀ w', Tch [] (w2.alloc (.cells #[.bool leaf, .slice x es.length c] 31)) w' → IsNb w' X u ∧ u.Good w' leaf es ∧ IsR fEn 3 w' x es.length b 0 es ∧ w'.heap[w2.heap.size]? = some (.cells #[.bool leaf, .slice x es.length c] 31 (0, 0)) ∧ Tch [] w w') := fun w' t =>
    ⟨((t2.trans tY).trans t).keep hX (by simp), hg1.keep0 ((t2.trans tY).trans t), (hx.keep0 tY).keep0 t, t.keep hY (by simp), ((T1.trans t2).trans tY).trans t⟩
  clear hX hg1 T1 t2 hx tY hY
  go_wp2_with fail
  generalize w2.alloc (.cells #[.bool leaf, .slice x es.length c] 31) = W2 at HK ⊢
  generalize w2.heap.size = Y at HK ⊢
  refine (HKK.out _).mono ?_
  rintro e w3 ⟨rfl, t3⟩
  obtain ⟨hx3, hg3, hr3, hy3, T3⟩ := HK.out w3 t3
  have HE3 := Lib.hid (HEN.out u w3 hg3)
  obtain ⟨c0, c1, c2, c3⟩ := hx3.c
  clear hx3 hg3 hr3 hy3
  go_wp2_with fail
  refine HE3.out.mono ?_
  rintro e w4 ⟨rfl, t4⟩
  obtain ⟨hx4, hg4, hr4, hy4, T4⟩ := HK.out w4 (t3.trans t4)
  have HA4 := Lib.hid (HAL.out u w4 x c b 0 hg4 hr4)
  obtain ⟨d0, d1, d2, d3⟩ := hx4.c
  have y0 := blk_cell hy4 0
  have y1 := blk_cell hy4 1
  simp only [List.getElem?_toArray, List.getElem?_cons_zero, List.getElem?_cons_succ] at y0 y1
  clear hx4 hg4 hr4 hy4 c0 c1 c2 c3 T3
  go_wp2_with fail
  refine HA4.out.mono ?_
  rintro e w5 ⟨rfl, t5⟩
  clear d0 d1 d2 d3 y0 y1
  go_wp2_with fail
  go_ret
  refine ⟨?_, T4.trans t5⟩
  rfl
theorem nreads_walk (HE : EncSpec) (HD : DecSpec) (HP : PlaSpec) (s : ByteArray) (w : World) (hs : s.size ≤ 10000000) :
    Calls Tryd.prog 3 #[.string s] w fun e w' => e = .returned (.bool true) ∧ Tch [] w w' := by
  rcases hd : ddec s.data.toList with _ | ⟨leaf, es⟩
  · exact nreads_none HE HD HP s w hs hd
  · exact nreads_some HE HD HP s leaf es w hs hd
end Go.Proofs.YtlgfdfpafmopdaaDoor
