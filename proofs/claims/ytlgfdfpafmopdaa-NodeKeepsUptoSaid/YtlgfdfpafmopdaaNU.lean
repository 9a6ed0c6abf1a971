/-
  The law NodeSums, walked: it answers true and turns nothing that was there, if package node answers as the document has it. Condition: lists and texts of fewer than 10^7 parts.
-/
import Derived.Test.YtlgfdfpafmopdaaNC
namespace Go.Proofs.Ytlgfdfpafmopdaa
open Go.RowKit
set_option linter.unusedVariables false

def nv0 (leaf : Bool) : Nv := ⟨leaf, none, 0, 0, none, 0, 0, none, 0, 0, 0, 0, 0, 0, 0, 0, [], [], []⟩
theorem nv0_nv (leaf : Bool) (w : World) : IsNv w (nv0 leaf) := ⟨IsR.nil _ _ _ _, IsR.nil _ _ _ _, IsR.nil _ _ _ _⟩
theorem nv0_ok (leaf : Bool) : (nv0 leaf).Ok := by refine ⟨?_, ?_, ?_, ?_, ?_, ?_, ?_⟩ <;> simp [nv0]
theorem nv0_caps (leaf : Bool) : (nv0 leaf).caps := by unfold Nv.caps nv0 maxLen; simp
theorem ub_len1 {n : Nat} (h : n ≤ 127) : (ub n).length = 1 := by rw [ub_small (by omega)]; rfl
theorem ub_len2 {n : Nat} (h : 127 < n) (h2 : n < 16384) : (ub n).length = 2 := by rw [ub_big (by omega), ub_small (by omega)]; rfl
theorem nv0_len (leaf : Bool) : (ndb (nv0 leaf).leaf (nv0 leaf).es).length = 2 := by
  show (_ :: (ub 0 ++ [])).length = 2
  rw [ub_small (by omega)]; rfl
theorem flat_pos (leaf : Bool) (es : List En) : es.length ≤ (es.flatMap (enb leaf)).length := by
  induction es with
  | nil => simp
  | cons e es ih =>
    rw [List.flatMap_cons, List.length_append, List.length_cons]
    have : 0 < (enb leaf e).length := by
      unfold enb tx
      have := List.length_pos_iff.2 (ub_ne e.key.size)
      simp only [List.length_append]; omega
    omega
/-- The weight of two together. -/
theorem sums (leaf : Bool) (es fs : List En) (h1 : (ndb leaf es).length ≤ 1024) (h2 : (ndb leaf fs).length ≤ 1024) :
    ((ndb leaf (es ++ fs)).length : Int) = (ndb leaf es).length + (ndb leaf fs).length - 2 + (if 127 < es.length + fs.length then 1 else 0) - (if 127 < es.length then 1 else 0) - (if 127 < fs.length then 1 else 0) := by
  have p1 := flat_pos leaf es
  have p2 := flat_pos leaf fs
  have e1 : (ndb leaf es).length = 1 + ((ub es.length).length + (es.flatMap (enb leaf)).length) := by unfold ndb; rw [List.length_cons, List.length_append]; omega
  have e2 : (ndb leaf fs).length = 1 + ((ub fs.length).length + (fs.flatMap (enb leaf)).length) := by unfold ndb; rw [List.length_cons, List.length_append]; omega
  have e3 : (ndb leaf (es ++ fs)).length = 1 + ((ub (es.length + fs.length)).length + ((es.flatMap (enb leaf)).length + (fs.flatMap (enb leaf)).length)) := by unfold ndb; rw [List.length_cons, List.length_append, List.flatMap_append, List.length_append, List.length_append]; omega
  have u1 : (ub es.length).length = if 127 < es.length then 2 else 1 := by split; exact ub_len2 (by omega) (by omega); exact ub_len1 (by omega)
  have u2 : (ub fs.length).length = if 127 < fs.length then 2 else 1 := by split; exact ub_len2 (by omega) (by omega); exact ub_len1 (by omega)
  have u3 : (ub (es.length + fs.length)).length = if 127 < es.length + fs.length then 2 else 1 := by split; exact ub_len2 (by omega) (by omega); exact ub_len1 (by omega)
  rw [e1, e2, e3, u1, u2, u3]
  split <;> split <;> split <;> omega

set_option maxRecDepth 100000 in
set_option maxHeartbeats 4000000 in
theorem nsums_walk (HE : EncSpec) (HW : WeiSpec) (HJ : JoiSpec) (HP : PlaSpec) (v u : Nv) (w : World) (hv : IsNv w v) (hov : v.Ok) (hcv : v.caps) (hlv : v.upto 10000000) (hu : IsNv w u) (hou : u.Ok) (hcu : u.caps) (hlu : u.upto 10000000) :
    Calls Try.prog 7 #[.agg #[.bool v.leaf, .slice v.ka v.kn v.kc, .slice v.va v.vn v.vc, .slice v.ia v.im v.ic], .agg #[.bool u.leaf, .slice u.ka u.kn u.kc, .slice u.va u.vn u.vc, .slice u.ia u.im u.ic]] w fun e w' => e = .returned (.bool true) ∧ Tch [] w w' := by
  have T0 : Tch [] w ((w.alloc (.cells #[.bool v.leaf, .slice v.ka v.kn v.kc, .slice v.va v.vn v.vc, .slice v.ia v.im v.ic] 25)).alloc (.cells #[.bool u.leaf, .slice u.ka u.kn u.kc, .slice u.va u.vn u.vc, .slice u.ia u.im u.ic] 25)) := ((Tch.refl _ _).alloc _).alloc _
  have hb : IsNb ((w.alloc (.cells #[.bool v.leaf, .slice v.ka v.kn v.kc, .slice v.va v.vn v.vc, .slice v.ia v.im v.ic] 25)).alloc (.cells #[.bool u.leaf, .slice u.ka u.kn u.kc, .slice u.va u.vn u.vc, .slice u.ia u.im u.ic] 25)) w.heap.size v := blk_alloc (blk_new w _) _
  have hb2 : IsNb ((w.alloc (.cells #[.bool v.leaf, .slice v.ka v.kn v.kc, .slice v.va v.vn v.vc, .slice v.ia v.im v.ic] 25)).alloc (.cells #[.bool u.leaf, .slice u.ka u.kn u.kc, .slice u.va u.vn u.vc, .slice u.ia u.im u.ic] 25)) (w.heap.size + 1) u := by
    unfold IsNb
    rw [show w.heap.size + 1 = (w.alloc (.cells #[.bool v.leaf, .slice v.ka v.kn v.kc, .slice v.va v.vn v.vc, .slice v.ia v.im v.ic] 25)).heap.size from by simp]; exact blk_new _ _
  have HK : Hid (∀ w', Tch [] ((w.alloc (.cells #[.bool v.leaf, .slice v.ka v.kn v.kc, .slice v.va v.vn v.vc, .slice v.ia v.im v.ic] 25)).alloc (.cells #[.bool u.leaf, .slice u.ka u.kn u.kc, .slice u.va u.vn u.vc, .slice u.ia u.im u.ic] 25)) w' → IsNb w' w.heap.size v ∧ IsNb w' (w.heap.size + 1) u ∧ IsNv w' v ∧ IsNv w' u ∧ Tch [] w w') := fun w' t =>
    ⟨t.keep hb (by simp), t.keep hb2 (by simp), hv.keep0 (T0.trans t), hu.keep0 (T0.trans t), T0.trans t⟩
  have HKK := Lib.hid (nwakes_any HE HP)
  have HF1 : Hid (∀ w', IsNv w' v → _) := fun w' h => nfit_any v w' h hov
  have HF2 : Hid (∀ w', IsNv w' u → _) := fun w' h => nfit_any u w' h hou
  obtain ⟨c0, c1, c2, c3⟩ := hb.c
  cases hf1 : v.fits
  · rw [hf1] at HF1
    clear hf1 hv hov hcv hlv hu hou hcu hlu hb hb2
    go_enter Try.func7, Try.ntmps7
    go_wp2_with fail
    generalize (w.alloc (.cells #[.bool v.leaf, .slice v.ka v.kn v.kc, .slice v.va v.vn v.vc, .slice v.ia v.im v.ic] 25)).alloc (.cells #[.bool u.leaf, .slice u.ka u.kn u.kc, .slice u.va u.vn u.vc, .slice u.ia u.im u.ic] 25) = W1 at T0 HK c0 c1 c2 c3 ⊢
    generalize w.heap.size = p at HK c0 c1 c2 c3 ⊢
    refine (HKK.out _).mono ?_
    rintro e w1 ⟨rfl, t1⟩
    clear c0 c1 c2 c3
    obtain ⟨hbv, hbu, hnv, hnu, TW⟩ := HK.out w1 t1
    obtain ⟨c0, c1, c2, c3⟩ := hbv.c
    have HG1 := Lib.hid (HF1.out w1 hnv)
    clear hbv hbu hnv hnu
    go_wp2_with (first | (go_at_call 15; ((with_reducible refine HG1.out.mono ?_); rintro e w2 ⟨rfl, t2⟩; obtain ⟨hbv2, hbu2, hnv2, hnu2, TW2⟩ := HK.out w2 (t1.trans t2); obtain ⟨d0, d1, d2, d3⟩ := hbv2.c; obtain ⟨f0, f1, f2, f3⟩ := hbu2.c; have HG2 := Lib.hid (HF2.out w2 hnu2); clear hbv2 hbu2 hnv2 hnu2)))
    refine (HKK.out _).mono ?_
    rintro e w9 ⟨rfl, t9⟩
    go_wp2_with fail
    go_ret
    exact ⟨rfl, TW2.trans t9⟩
  cases hf2 : u.fits
  · rw [hf1] at HF1
    rw [hf2] at HF2
    clear hf1 hf2 hv hov hcv hlv hu hou hcu hlu hb hb2
    go_enter Try.func7, Try.ntmps7
    go_wp2_with fail
    generalize (w.alloc (.cells #[.bool v.leaf, .slice v.ka v.kn v.kc, .slice v.va v.vn v.vc, .slice v.ia v.im v.ic] 25)).alloc (.cells #[.bool u.leaf, .slice u.ka u.kn u.kc, .slice u.va u.vn u.vc, .slice u.ia u.im u.ic] 25) = W1 at T0 HK c0 c1 c2 c3 ⊢
    generalize w.heap.size = p at HK c0 c1 c2 c3 ⊢
    refine (HKK.out _).mono ?_
    rintro e w1 ⟨rfl, t1⟩
    clear c0 c1 c2 c3
    obtain ⟨hbv, hbu, hnv, hnu, TW⟩ := HK.out w1 t1
    obtain ⟨c0, c1, c2, c3⟩ := hbv.c
    have HG1 := Lib.hid (HF1.out w1 hnv)
    clear hbv hbu hnv hnu
    go_wp2_with (first | (go_at_call 15; ((with_reducible refine HG1.out.mono ?_); rintro e w2 ⟨rfl, t2⟩; obtain ⟨hbv2, hbu2, hnv2, hnu2, TW2⟩ := HK.out w2 (t1.trans t2); obtain ⟨d0, d1, d2, d3⟩ := hbv2.c; obtain ⟨f0, f1, f2, f3⟩ := hbu2.c; have HG2 := Lib.hid (HF2.out w2 hnu2); clear hbv2 hbu2 hnv2 hnu2)) | (go_at_call 15; ((with_reducible refine HG2.out.mono ?_); rintro e w3 ⟨rfl, t3⟩; obtain ⟨hbv3, hbu3, hnv3, hnu3, TW3⟩ := HK.out w3 ((t1.trans t2).trans t3); obtain ⟨g0, g1, g2, g3⟩ := hbv3.c; obtain ⟨k0, k1, k2, k3⟩ := hbu3.c; clear hbv3 hbu3 hnv3 hnu3)))
    refine (HKK.out _).mono ?_
    rintro e w9 ⟨rfl, t9⟩
    go_wp2_with fail
    go_ret
    exact ⟨rfl, TW3.trans t9⟩
  by_cases hl : v.leaf = u.leaf
  rotate_left
  · rw [hf1] at HF1
    rw [hf2] at HF2
    have hne : (v.leaf == u.leaf) = false := by simpa using hl
    clear hf1 hf2 hv hov hcv hlv hu hou hcu hlu hb hb2 hl
    go_enter Try.func7, Try.ntmps7
    go_wp2_with fail
    generalize (w.alloc (.cells #[.bool v.leaf, .slice v.ka v.kn v.kc, .slice v.va v.vn v.vc, .slice v.ia v.im v.ic] 25)).alloc (.cells #[.bool u.leaf, .slice u.ka u.kn u.kc, .slice u.va u.vn u.vc, .slice u.ia u.im u.ic] 25) = W1 at T0 HK c0 c1 c2 c3 ⊢
    generalize w.heap.size = p at HK c0 c1 c2 c3 ⊢
    refine (HKK.out _).mono ?_
    rintro e w1 ⟨rfl, t1⟩
    clear c0 c1 c2 c3
    obtain ⟨hbv, hbu, hnv, hnu, TW⟩ := HK.out w1 t1
    obtain ⟨c0, c1, c2, c3⟩ := hbv.c
    have HG1 := Lib.hid (HF1.out w1 hnv)
    clear hbv hbu hnv hnu
    go_wp2_with (first | (go_at_call 15; ((with_reducible refine HG1.out.mono ?_); rintro e w2 ⟨rfl, t2⟩; obtain ⟨hbv2, hbu2, hnv2, hnu2, TW2⟩ := HK.out w2 (t1.trans t2); obtain ⟨d0, d1, d2, d3⟩ := hbv2.c; obtain ⟨f0, f1, f2, f3⟩ := hbu2.c; have HG2 := Lib.hid (HF2.out w2 hnu2); clear hbv2 hbu2 hnv2 hnu2)) | (go_at_call 15; ((with_reducible refine HG2.out.mono ?_); rintro e w3 ⟨rfl, t3⟩; obtain ⟨hbv3, hbu3, hnv3, hnu3, TW3⟩ := HK.out w3 ((t1.trans t2).trans t3); obtain ⟨g0, g1, g2, g3⟩ := hbv3.c; obtain ⟨k0, k1, k2, k3⟩ := hbu3.c; clear hbv3 hbu3 hnv3 hnu3)))
    refine (HKK.out _).mono ?_
    rintro e w9 ⟨rfl, t9⟩
    go_wp2_with fail
    go_ret
    exact ⟨rfl, TW3.trans t9⟩
  have hne : (v.leaf == u.leaf) = true := by simpa using hl
  have hs1 := Nv.short hf1
  have hs2 : (ndb v.leaf u.es).length ≤ 1024 := by rw [hl]; exact Nv.short hf2
  have hsum := sums v.leaf v.es u.es hs1 hs2
  have hel1 := Nv.es_len v
  have hel2 := Nv.es_len u
  have hkl1 := hv.rk.hlen
  have hkl2 := hu.rk.hlen
  rw [hel1, hel2, ← hkl1, ← hkl2] at hsum
  have hk1 : v.kn ≤ 1024 := by have h1 := flat_pos v.leaf v.es; unfold ndb at hs1; rw [List.length_cons, List.length_append] at hs1; omega
  have hk2 : u.kn ≤ 1024 := by have h1 := flat_pos v.leaf u.es; unfold ndb at hs2; rw [List.length_cons, List.length_append] at hs2; omega
  have HJ1 : Hid (∀ w', IsNv w' v → IsNv w' u → Calls Try.prog 20 #[.agg #[.bool v.leaf, .slice v.ka v.kn v.kc, .slice v.va v.vn v.vc, .slice v.ia v.im v.ic], .agg #[.bool u.leaf, .slice u.ka u.kn u.kc, .slice u.va u.vn u.vc, .slice u.ia u.im u.ic]] w' fun e w'' => Tch [] w' w'' ∧ ∃ z : Nv, e = .returned (.agg #[.bool z.leaf, .slice z.ka z.kn z.kc, .slice z.va z.vn z.vc, .slice z.ia z.im z.ic]) ∧ z.Good w'' v.leaf (v.es ++ u.es) ∧ z.kn = v.kn + u.kn) := fun w' h1 h2 => by
    refine (HJ v u w' h1 h2 hov hou hlv hlu hcv hcu).mono ?_
    rintro e w'' ⟨t, z, he, hg⟩
    have hes : mkN v.leaf u.keys u.vals u.kids = u.es := by unfold Nv.es; rw [hl]
    rw [hes] at hg
    refine ⟨t, z, he, hg, ?_⟩
    have h3 := hg.nv.rk.hlen
    have h4 := Nv.es_len z
    rw [hg.es, List.length_append] at h4
    omega
  have HWZ : Hid (∀ (z : Nv) w', z.Good w' v.leaf (v.es ++ u.es) → Calls Try.prog 14 #[.agg #[.bool z.leaf, .slice z.ka z.kn z.kc, .slice z.va z.vn z.vc, .slice z.ia z.im z.ic]] w' fun e w'' => e = .returned (.int .i64 ((ndb v.leaf (v.es ++ u.es)).length : Nat)) ∧ Tch [] w' w'') := fun z w' g => by
    have := HW z w' g.nv g.ok g.caps
    rw [g.es] at this
    have h2 : (ndb z.leaf (v.es ++ u.es)).length = (ndb v.leaf (v.es ++ u.es)).length := by rw [g.leaf]
    rw [h2] at this
    exact this
  have HWV : Hid (∀ w', IsNv w' v → Calls Try.prog 14 #[.agg #[.bool v.leaf, .slice v.ka v.kn v.kc, .slice v.va v.vn v.vc, .slice v.ia v.im v.ic]] w' fun e w'' => e = .returned (.int .i64 ((ndb v.leaf v.es).length : Nat)) ∧ Tch [] w' w'') := fun w' h => HW v w' h hov hcv
  have HWU : Hid (∀ w', IsNv w' u → Calls Try.prog 14 #[.agg #[.bool u.leaf, .slice u.ka u.kn u.kc, .slice u.va u.vn u.vc, .slice u.ia u.im u.ic]] w' fun e w'' => e = .returned (.int .i64 ((ndb v.leaf u.es).length : Nat)) ∧ Tch [] w' w'') := fun w' h => by
    have := HW u w' h hou hcu
    have h2 : (ndb u.leaf u.es).length = (ndb v.leaf u.es).length := by rw [hl]
    rw [h2] at this
    exact this
  have HW0 : Hid (∀ w', Calls Try.prog 14 #[.agg #[.bool v.leaf, .slice none 0 0, .slice none 0 0, .slice none 0 0]] w' fun e w'' => e = .returned (.int .i64 2) ∧ Tch [] w' w'') := fun w' => by
    have := HW (nv0 v.leaf) w' (nv0_nv _ _) (nv0_ok _) (nv0_caps _)
    rw [nv0_len] at this
    exact this
  generalize v.es ++ u.es = es3 at HJ1 HWZ hsum
  generalize (ndb v.leaf es3).length = n3 at HWZ hsum
  generalize (ndb v.leaf v.es).length = n1 at HWV hsum hs1
  generalize (ndb v.leaf u.es).length = n2 at HWU hsum hs2
  have HSUM := Lib.hid hsum
  have hs3 : n3 ≤ 4096 := by split at hsum <;> split at hsum <;> split at hsum <;> omega
  rw [hf1] at HF1
  rw [hf2] at HF2
  clear hf1 hf2 hv hov hcv hlv hu hou hcu hlu hb hb2 hl hel1 hel2 hkl1 hkl2 hsum
  go_enter Try.func7, Try.ntmps7
  go_wp2_with fail
  generalize (w.alloc (.cells #[.bool v.leaf, .slice v.ka v.kn v.kc, .slice v.va v.vn v.vc, .slice v.ia v.im v.ic] 25)).alloc (.cells #[.bool u.leaf, .slice u.ka u.kn u.kc, .slice u.va u.vn u.vc, .slice u.ia u.im u.ic] 25) = W1 at T0 HK c0 c1 c2 c3 ⊢
  generalize w.heap.size = p at HK c0 c1 c2 c3 ⊢
  refine (HKK.out _).mono ?_
  rintro e w1 ⟨rfl, t1⟩
  clear c0 c1 c2 c3
  obtain ⟨hbv, hbu, hnv, hnu, TW⟩ := HK.out w1 t1
  obtain ⟨c0, c1, c2, c3⟩ := hbv.c
  have HG1 := Lib.hid (HF1.out w1 hnv)
  clear hbv hbu hnv hnu
  go_wp2_with (first | (go_at_call 15; ((with_reducible refine HG1.out.mono ?_); rintro e w2 ⟨rfl, t2⟩; obtain ⟨hbv2, hbu2, hnv2, hnu2, TW2⟩ := HK.out w2 (t1.trans t2); obtain ⟨d0, d1, d2, d3⟩ := hbv2.c; obtain ⟨f0, f1, f2, f3⟩ := hbu2.c; have HG2 := Lib.hid (HF2.out w2 hnu2); clear hbv2 hbu2 hnv2 hnu2)) | (go_at_call 15; ((with_reducible refine HG2.out.mono ?_); rintro e w3 ⟨rfl, t3⟩; obtain ⟨hbv3, hbu3, hnv3, hnu3, TW3⟩ := HK.out w3 ((t1.trans t2).trans t3); obtain ⟨g0, g1, g2, g3⟩ := hbv3.c; obtain ⟨k0, k1, k2, k3⟩ := hbu3.c; clear hbv3 hbu3 hnv3 hnu3)))
  refine (HJ1.out _ (HK.out _ ((t1.trans t2).trans t3)).2.2.1 (HK.out _ ((t1.trans t2).trans t3)).2.2.2.1).mono ?_
  rintro e w4 ⟨t4, z, rfl, hg, hzk⟩
  rw [hzk]
  have t14 := ((t1.trans t2).trans t3).trans t4
  have tX : Tch [] w4 (w4.alloc (.cells #[.bool z.leaf, .slice z.ka (v.kn + u.kn) z.kc, .slice z.va z.vn z.vc, .slice z.ia z.im z.ic] 25)) := (Tch.refl _ _).alloc _
  have hX : IsNb (w4.alloc (.cells #[.bool z.leaf, .slice z.ka (v.kn + u.kn) z.kc, .slice z.va z.vn z.vc, .slice z.ia z.im z.ic] 25)) w4.heap.size z := by
    unfold IsNb; rw [hzk]; exact blk_new w4 _
  have HQ : Hid (∀ w', Tch [] (w4.alloc (.cells #[.bool z.leaf, .slice z.ka (v.kn + u.kn) z.kc, .slice z.va z.vn z.vc, .slice z.ia z.im z.ic] 25)) w' → IsNb w' w4.heap.size z ∧ IsNb w' p v ∧ IsNb w' (p + 1) u ∧ z.Good w' v.leaf es3 ∧ IsNv w' v ∧ IsNv w' u ∧ Tch [] w w') := fun w' t => by
    obtain ⟨a1, a2, a3, a4, a5⟩ := HK.out w' ((t14.trans tX).trans t)
    exact ⟨t.keep hX (by simp), a1, a2, hg.keep0 (tX.trans t), a3, a4, a5⟩
  have HZK := Lib.hid hzk
  obtain ⟨q0, q1, q2, q3⟩ := (HQ.out _ (Tch.refl _ _)).1.c
  rw [hzk] at q1
  obtain ⟨g0', g1', g2', g3'⟩ := (HQ.out _ (Tch.refl _ _)).2.1.c
  obtain ⟨k0', k1', k2', k3'⟩ := (HQ.out _ (Tch.refl _ _)).2.2.1.c
  clear g0 g1 g2 g3 k0 k1 k2 k3 hg hzk tX hX t14 HJ1
  go_wp2_with fail
  generalize w4.alloc (.cells #[.bool z.leaf, .slice z.ka (v.kn + u.kn) z.kc, .slice z.va z.vn z.vc, .slice z.ia z.im z.ic] 25) = W4 at HQ q0 q1 q2 q3 g0' g1' g2' g3' k0' k1' k2' k3' ⊢
  generalize w4.heap.size = X at HQ q0 q1 q2 q3 ⊢
  refine (HW0.out _).mono ?_
  rintro e w5 ⟨rfl, t5⟩
  obtain ⟨hx5, hv5, hu5, _⟩ := HQ.out w5 t5
  have x5 := hx5.c
  rw [HZK.out] at x5
  obtain ⟨x0, x1, x2, x3⟩ := x5
  obtain ⟨y0, y1, y2, y3⟩ := hv5.c
  obtain ⟨z0, z1, z2, z3⟩ := hu5.c
  have l5 := lt_of_block hx5
  have l6 := lt_of_block hv5
  have l7 := lt_of_block hu5
  clear q0 q1 q2 q3 g0' g1' g2' g3' k0' k1' k2' k3' hx5 hv5 hu5
  by_cases hC : 127 < v.kn + u.kn
  · by_cases hA : 127 < v.kn
    · by_cases hB : 127 < u.kn
      · have i1 : decide ((127 : Int) < (v.kn : Int)) = true := decide_eq_true (by omega)
        have i2 : decide ((127 : Int) < (u.kn : Int)) = true := decide_eq_true (by omega)
        have i3 : decide ((127 : Int) < (v.kn : Int) + (u.kn : Int)) = true := decide_eq_true (by omega)
        have hsu : (n3 : Int) = n1 + n2 - 2 + (-1) := by have := HSUM.out; rw [if_pos hC, if_pos hA, if_pos hB] at this; omega
        have HS3 := Lib.hid hsu
        clear hA hB hC hsu
        go_wp2_with fail
        refine wp_loop_rounds 3 ?_
        rw [rounds_succ]
        go_wp2_with fail
        rw [rounds_succ]
        go_wp2_with fail
        obtain ⟨w6, hw6⟩ : ∃ w6 : World, w6 = ((w5.alloc (.cells #[.bool v.leaf, .slice v.ka v.kn v.kc, .slice v.va v.vn v.vc, .slice v.ia v.im v.ic, .bool u.leaf, .slice u.ka u.kn u.kc, .slice u.va u.vn u.vc, .slice u.ia u.im u.ic] 25)).alloc (.cells #[.bool v.leaf, .slice v.ka v.kn v.kc, .slice v.va v.vn v.vc, .slice v.ia v.im v.ic] 25)).alloc (.cells #[.bool u.leaf, .slice u.ka u.kn u.kc, .slice u.va u.vn u.vc, .slice u.ia u.im u.ic] 25) := ⟨_, rfl⟩
        rw [← hw6]
        have t6 : Tch [] W4 w6 := by rw [hw6]; exact ((t5.alloc _).alloc _).alloc _
        have HS : Hid (∀ w', Tch [] w6 w' → (w'.cell? { block := X, off := 0 } = some (.bool z.leaf) ∧ w'.cell? { block := X, off := 1 } = some (.slice z.ka (v.kn + u.kn) z.kc) ∧ w'.cell? { block := X, off := 2 } = some (.slice z.va z.vn z.vc) ∧ w'.cell? { block := X, off := 3 } = some (.slice z.ia z.im z.ic)) ∧ (w'.cell? { block := p, off := 0 } = some (.bool v.leaf) ∧ w'.cell? { block := p, off := 1 } = some (.slice v.ka v.kn v.kc) ∧ w'.cell? { block := p, off := 2 } = some (.slice v.va v.vn v.vc) ∧ w'.cell? { block := p, off := 3 } = some (.slice v.ia v.im v.ic)) ∧ (w'.cell? { block := p + 1, off := 0 } = some (.bool u.leaf) ∧ w'.cell? { block := p + 1, off := 1 } = some (.slice u.ka u.kn u.kc) ∧ w'.cell? { block := p + 1, off := 2 } = some (.slice u.va u.vn u.vc) ∧ w'.cell? { block := p + 1, off := 3 } = some (.slice u.ia u.im u.ic)) ∧ z.Good w' v.leaf es3 ∧ IsNv w' v ∧ IsNv w' u ∧ Tch [] w w') := fun w' t => by
          obtain ⟨a1, a2, a3, a4, a5, a6, a7⟩ := HQ.out w' (t6.trans t)
          have h1 := a1.c
          rw [HZK.out] at h1
          exact ⟨h1, a2.c, a3.c, a4, a5, a6, a7⟩
        clear HQ HK x0 x1 x2 x3 y0 y1 y2 y3 z0 z1 z2 z3 l5 l6 l7 hw6
        have HC : Hid (∀ w', Tch [] w6.drew w' → w'.cell? { block := X, off := 0 } = some (.bool z.leaf) ∧ w'.cell? { block := X, off := 1 } = some (.slice z.ka (v.kn + u.kn) z.kc) ∧ w'.cell? { block := X, off := 2 } = some (.slice z.va z.vn z.vc) ∧ w'.cell? { block := X, off := 3 } = some (.slice z.ia z.im z.ic) ∧ w'.cell? { block := p, off := 0 } = some (.bool v.leaf) ∧ w'.cell? { block := p, off := 1 } = some (.slice v.ka v.kn v.kc) ∧ w'.cell? { block := p, off := 2 } = some (.slice v.va v.vn v.vc) ∧ w'.cell? { block := p, off := 3 } = some (.slice v.ia v.im v.ic) ∧ w'.cell? { block := p + 1, off := 0 } = some (.bool u.leaf) ∧ w'.cell? { block := p + 1, off := 1 } = some (.slice u.ka u.kn u.kc) ∧ w'.cell? { block := p + 1, off := 2 } = some (.slice u.va u.vn u.vc) ∧ w'.cell? { block := p + 1, off := 3 } = some (.slice u.ia u.im u.ic)) := fun w' t => by
          obtain ⟨⟨a0, a1, a2, a3⟩, ⟨b0, b1, b2, b3⟩, ⟨c0, c1, c2, c3⟩, _⟩ := HS.out w' ((Tch.refl _ _).drew.trans t)
          exact ⟨a0, a1, a2, a3, b0, b1, b2, b3, c0, c1, c2, c3⟩
        have HG : Hid (∀ w', Tch [] w6.drew w' → z.Good w' v.leaf es3 ∧ IsNv w' v ∧ IsNv w' u ∧ Tch [] w w') := fun w' t => (HS.out w' ((Tch.refl _ _).drew.trans t)).2.2.2
        obtain ⟨⟨x0, x1, x2, x3⟩, ⟨y0, y1, y2, y3⟩, ⟨z0, z1, z2, z3⟩, _⟩ := HS.out w6 (Tch.refl _ _)
        have HWZ1 : Hid (Calls Try.prog 14 #[.agg #[.bool z.leaf, .slice z.ka (v.kn + u.kn) z.kc, .slice z.va z.vn z.vc, .slice z.ia z.im z.ic]] w6.drew fun e w'' => e = .returned (.int .i64 (n3 : Nat)) ∧ Tch [] w6.drew w'') := by
          have := HWZ.out z w6.drew (HG.out _ (Tch.refl _ _)).1
          rw [HZK.out] at this
          exact this
        rw [rounds_succ]
        go_wp2_with fail
        go_region_held3 (fun w' => w'.cell? { block := X, off := 0 } = some (.bool z.leaf) ∧ w'.cell? { block := X, off := 1 } = some (.slice z.ka (v.kn + u.kn) z.kc) ∧ w'.cell? { block := X, off := 2 } = some (.slice z.va z.vn z.vc) ∧ w'.cell? { block := X, off := 3 } = some (.slice z.ia z.im z.ic) ∧ w'.cell? { block := p, off := 0 } = some (.bool v.leaf) ∧ w'.cell? { block := p, off := 1 } = some (.slice v.ka v.kn v.kc) ∧ w'.cell? { block := p, off := 2 } = some (.slice v.va v.vn v.vc) ∧ w'.cell? { block := p, off := 3 } = some (.slice v.ia v.im v.ic) ∧ w'.cell? { block := p + 1, off := 0 } = some (.bool u.leaf) ∧ w'.cell? { block := p + 1, off := 1 } = some (.slice u.ka u.kn u.kc) ∧ w'.cell? { block := p + 1, off := 2 } = some (.slice u.va u.vn u.vc) ∧ w'.cell? { block := p + 1, off := 3 } = some (.slice u.ia u.im u.ic))
          (first | exact HC.out _ t9 | exact HC.out _ t8 | exact HC.out _ t7 | exact HC.out _ (Tch.refl _ _))
          (first | (go_at_call 14; (with_reducible refine (HWZ1.out).mono ?_); rintro e w7 ⟨rfl, t7⟩) | (go_at_call 14; (with_reducible refine (HWV.out _ (HG.out _ t7).2.1).mono ?_); rintro e w8 ⟨rfl, t8a⟩; have t8 := t7.trans t8a) | (go_at_call 14; (with_reducible refine (HWU.out _ (HG.out _ t8).2.2.1).mono ?_); rintro e w9 ⟨rfl, t9a⟩; have t9 := t8.trans t9a))
        have T9 := (HG.out _ t9).2.2.2
        go_wp2_with fail
        go_ret
        have hS := HS3.out
        have e1 : IntKind.i64.wrap ((n1 : Int) + n2) = n1 + n2 := IntWalk.i64_in _ (by omega)
        have e2 : IntKind.i64.wrap ((n1 : Int) + n2 - 2) = n1 + n2 - 2 := IntWalk.i64_in _ (by omega)
        have e3 : IntKind.i64.wrap ((n1 : Int) + n2 - 2 + -1) = n1 + n2 - 2 + -1 := IntWalk.i64_in _ (by omega)
        have e4 : ((n3 : Int) == (n1 : Int) + n2 - 2 + -1) = true := by rw [beq_iff_eq]; omega
        refine ⟨?_, T9⟩
        rw [e1, e2, e3, e4]
        try rfl
      · have i1 : decide ((127 : Int) < (v.kn : Int)) = true := decide_eq_true (by omega)
        have i2 : decide ((127 : Int) < (u.kn : Int)) = false := decide_eq_false (by omega)
        have i3 : decide ((127 : Int) < (v.kn : Int) + (u.kn : Int)) = true := decide_eq_true (by omega)
        have hsu : (n3 : Int) = n1 + n2 - 2 + (0) := by have := HSUM.out; rw [if_pos hC, if_pos hA, if_neg hB] at this; omega
        have HS3 := Lib.hid hsu
        clear hA hB hC hsu
        go_wp2_with fail
        refine wp_loop_rounds 3 ?_
        rw [rounds_succ]
        go_wp2_with fail
        rw [rounds_succ]
        go_wp2_with fail
        obtain ⟨w6, hw6⟩ : ∃ w6 : World, w6 = ((w5.alloc (.cells #[.bool v.leaf, .slice v.ka v.kn v.kc, .slice v.va v.vn v.vc, .slice v.ia v.im v.ic, .bool u.leaf, .slice u.ka u.kn u.kc, .slice u.va u.vn u.vc, .slice u.ia u.im u.ic] 25)).alloc (.cells #[.bool v.leaf, .slice v.ka v.kn v.kc, .slice v.va v.vn v.vc, .slice v.ia v.im v.ic] 25)).alloc (.cells #[.bool u.leaf, .slice u.ka u.kn u.kc, .slice u.va u.vn u.vc, .slice u.ia u.im u.ic] 25) := ⟨_, rfl⟩
        rw [← hw6]
        have t6 : Tch [] W4 w6 := by rw [hw6]; exact ((t5.alloc _).alloc _).alloc _
        have HS : Hid (∀ w', Tch [] w6 w' → (w'.cell? { block := X, off := 0 } = some (.bool z.leaf) ∧ w'.cell? { block := X, off := 1 } = some (.slice z.ka (v.kn + u.kn) z.kc) ∧ w'.cell? { block := X, off := 2 } = some (.slice z.va z.vn z.vc) ∧ w'.cell? { block := X, off := 3 } = some (.slice z.ia z.im z.ic)) ∧ (w'.cell? { block := p, off := 0 } = some (.bool v.leaf) ∧ w'.cell? { block := p, off := 1 } = some (.slice v.ka v.kn v.kc) ∧ w'.cell? { block := p, off := 2 } = some (.slice v.va v.vn v.vc) ∧ w'.cell? { block := p, off := 3 } = some (.slice v.ia v.im v.ic)) ∧ (w'.cell? { block := p + 1, off := 0 } = some (.bool u.leaf) ∧ w'.cell? { block := p + 1, off := 1 } = some (.slice u.ka u.kn u.kc) ∧ w'.cell? { block := p + 1, off := 2 } = some (.slice u.va u.vn u.vc) ∧ w'.cell? { block := p + 1, off := 3 } = some (.slice u.ia u.im u.ic)) ∧ z.Good w' v.leaf es3 ∧ IsNv w' v ∧ IsNv w' u ∧ Tch [] w w') := fun w' t => by
          obtain ⟨a1, a2, a3, a4, a5, a6, a7⟩ := HQ.out w' (t6.trans t)
          have h1 := a1.c
          rw [HZK.out] at h1
          exact ⟨h1, a2.c, a3.c, a4, a5, a6, a7⟩
        clear HQ HK x0 x1 x2 x3 y0 y1 y2 y3 z0 z1 z2 z3 l5 l6 l7 hw6
        have HC : Hid (∀ w', Tch [] w6.drew w' → w'.cell? { block := X, off := 0 } = some (.bool z.leaf) ∧ w'.cell? { block := X, off := 1 } = some (.slice z.ka (v.kn + u.kn) z.kc) ∧ w'.cell? { block := X, off := 2 } = some (.slice z.va z.vn z.vc) ∧ w'.cell? { block := X, off := 3 } = some (.slice z.ia z.im z.ic) ∧ w'.cell? { block := p, off := 0 } = some (.bool v.leaf) ∧ w'.cell? { block := p, off := 1 } = some (.slice v.ka v.kn v.kc) ∧ w'.cell? { block := p, off := 2 } = some (.slice v.va v.vn v.vc) ∧ w'.cell? { block := p, off := 3 } = some (.slice v.ia v.im v.ic) ∧ w'.cell? { block := p + 1, off := 0 } = some (.bool u.leaf) ∧ w'.cell? { block := p + 1, off := 1 } = some (.slice u.ka u.kn u.kc) ∧ w'.cell? { block := p + 1, off := 2 } = some (.slice u.va u.vn u.vc) ∧ w'.cell? { block := p + 1, off := 3 } = some (.slice u.ia u.im u.ic)) := fun w' t => by
          obtain ⟨⟨a0, a1, a2, a3⟩, ⟨b0, b1, b2, b3⟩, ⟨c0, c1, c2, c3⟩, _⟩ := HS.out w' ((Tch.refl _ _).drew.trans t)
          exact ⟨a0, a1, a2, a3, b0, b1, b2, b3, c0, c1, c2, c3⟩
        have HG : Hid (∀ w', Tch [] w6.drew w' → z.Good w' v.leaf es3 ∧ IsNv w' v ∧ IsNv w' u ∧ Tch [] w w') := fun w' t => (HS.out w' ((Tch.refl _ _).drew.trans t)).2.2.2
        obtain ⟨⟨x0, x1, x2, x3⟩, ⟨y0, y1, y2, y3⟩, ⟨z0, z1, z2, z3⟩, _⟩ := HS.out w6 (Tch.refl _ _)
        have HWZ1 : Hid (Calls Try.prog 14 #[.agg #[.bool z.leaf, .slice z.ka (v.kn + u.kn) z.kc, .slice z.va z.vn z.vc, .slice z.ia z.im z.ic]] w6.drew fun e w'' => e = .returned (.int .i64 (n3 : Nat)) ∧ Tch [] w6.drew w'') := by
          have := HWZ.out z w6.drew (HG.out _ (Tch.refl _ _)).1
          rw [HZK.out] at this
          exact this
        rw [rounds_succ]
        go_wp2_with fail
        go_region_held3 (fun w' => w'.cell? { block := X, off := 0 } = some (.bool z.leaf) ∧ w'.cell? { block := X, off := 1 } = some (.slice z.ka (v.kn + u.kn) z.kc) ∧ w'.cell? { block := X, off := 2 } = some (.slice z.va z.vn z.vc) ∧ w'.cell? { block := X, off := 3 } = some (.slice z.ia z.im z.ic) ∧ w'.cell? { block := p, off := 0 } = some (.bool v.leaf) ∧ w'.cell? { block := p, off := 1 } = some (.slice v.ka v.kn v.kc) ∧ w'.cell? { block := p, off := 2 } = some (.slice v.va v.vn v.vc) ∧ w'.cell? { block := p, off := 3 } = some (.slice v.ia v.im v.ic) ∧ w'.cell? { block := p + 1, off := 0 } = some (.bool u.leaf) ∧ w'.cell? { block := p + 1, off := 1 } = some (.slice u.ka u.kn u.kc) ∧ w'.cell? { block := p + 1, off := 2 } = some (.slice u.va u.vn u.vc) ∧ w'.cell? { block := p + 1, off := 3 } = some (.slice u.ia u.im u.ic))
          (first | exact HC.out _ t9 | exact HC.out _ t8 | exact HC.out _ t7 | exact HC.out _ (Tch.refl _ _))
          (first | (go_at_call 14; (with_reducible refine (HWZ1.out).mono ?_); rintro e w7 ⟨rfl, t7⟩) | (go_at_call 14; (with_reducible refine (HWV.out _ (HG.out _ t7).2.1).mono ?_); rintro e w8 ⟨rfl, t8a⟩; have t8 := t7.trans t8a) | (go_at_call 14; (with_reducible refine (HWU.out _ (HG.out _ t8).2.2.1).mono ?_); rintro e w9 ⟨rfl, t9a⟩; have t9 := t8.trans t9a))
        have T9 := (HG.out _ t9).2.2.2
        go_wp2_with fail
        go_ret
        have hS := HS3.out
        have e1 : IntKind.i64.wrap ((n1 : Int) + n2) = n1 + n2 := IntWalk.i64_in _ (by omega)
        have e2 : IntKind.i64.wrap ((n1 : Int) + n2 - 2) = n1 + n2 - 2 := IntWalk.i64_in _ (by omega)
        have e3 : IntKind.i64.wrap ((n1 : Int) + n2 - 2) = n1 + n2 - 2 := IntWalk.i64_in _ (by omega)
        have e4 : ((n3 : Int) == (n1 : Int) + n2 - 2) = true := by rw [beq_iff_eq]; omega
        refine ⟨?_, T9⟩
        rw [e1, e2, e3, e4]
        try rfl
    by_cases hB : 127 < u.kn
    · have i1 : decide ((127 : Int) < (v.kn : Int)) = false := decide_eq_false (by omega)
      have i2 : decide ((127 : Int) < (u.kn : Int)) = true := decide_eq_true (by omega)
      have i3 : decide ((127 : Int) < (v.kn : Int) + (u.kn : Int)) = true := decide_eq_true (by omega)
      have hsu : (n3 : Int) = n1 + n2 - 2 + (0) := by have := HSUM.out; rw [if_pos hC, if_neg hA, if_pos hB] at this; omega
      have HS3 := Lib.hid hsu
      clear hA hB hC hsu
      go_wp2_with fail
      refine wp_loop_rounds 3 ?_
      rw [rounds_succ]
      go_wp2_with fail
      rw [rounds_succ]
      go_wp2_with fail
      obtain ⟨w6, hw6⟩ : ∃ w6 : World, w6 = ((w5.alloc (.cells #[.bool v.leaf, .slice v.ka v.kn v.kc, .slice v.va v.vn v.vc, .slice v.ia v.im v.ic, .bool u.leaf, .slice u.ka u.kn u.kc, .slice u.va u.vn u.vc, .slice u.ia u.im u.ic] 25)).alloc (.cells #[.bool v.leaf, .slice v.ka v.kn v.kc, .slice v.va v.vn v.vc, .slice v.ia v.im v.ic] 25)).alloc (.cells #[.bool u.leaf, .slice u.ka u.kn u.kc, .slice u.va u.vn u.vc, .slice u.ia u.im u.ic] 25) := ⟨_, rfl⟩
      rw [← hw6]
      have t6 : Tch [] W4 w6 := by rw [hw6]; exact ((t5.alloc _).alloc _).alloc _
      have HS : Hid (∀ w', Tch [] w6 w' → (w'.cell? { block := X, off := 0 } = some (.bool z.leaf) ∧ w'.cell? { block := X, off := 1 } = some (.slice z.ka (v.kn + u.kn) z.kc) ∧ w'.cell? { block := X, off := 2 } = some (.slice z.va z.vn z.vc) ∧ w'.cell? { block := X, off := 3 } = some (.slice z.ia z.im z.ic)) ∧ (w'.cell? { block := p, off := 0 } = some (.bool v.leaf) ∧ w'.cell? { block := p, off := 1 } = some (.slice v.ka v.kn v.kc) ∧ w'.cell? { block := p, off := 2 } = some (.slice v.va v.vn v.vc) ∧ w'.cell? { block := p, off := 3 } = some (.slice v.ia v.im v.ic)) ∧ (w'.cell? { block := p + 1, off := 0 } = some (.bool u.leaf) ∧ w'.cell? { block := p + 1, off := 1 } = some (.slice u.ka u.kn u.kc) ∧ w'.cell? { block := p + 1, off := 2 } = some (.slice u.va u.vn u.vc) ∧ w'.cell? { block := p + 1, off := 3 } = some (.slice u.ia u.im u.ic)) ∧ z.Good w' v.leaf es3 ∧ IsNv w' v ∧ IsNv w' u ∧ Tch [] w w') := fun w' t => by
        obtain ⟨a1, a2, a3, a4, a5, a6, a7⟩ := HQ.out w' (t6.trans t)
        have h1 := a1.c
        rw [HZK.out] at h1
        exact ⟨h1, a2.c, a3.c, a4, a5, a6, a7⟩
      clear HQ HK x0 x1 x2 x3 y0 y1 y2 y3 z0 z1 z2 z3 l5 l6 l7 hw6
      have HC : Hid (∀ w', Tch [] w6.drew w' → w'.cell? { block := X, off := 0 } = some (.bool z.leaf) ∧ w'.cell? { block := X, off := 1 } = some (.slice z.ka (v.kn + u.kn) z.kc) ∧ w'.cell? { block := X, off := 2 } = some (.slice z.va z.vn z.vc) ∧ w'.cell? { block := X, off := 3 } = some (.slice z.ia z.im z.ic) ∧ w'.cell? { block := p, off := 0 } = some (.bool v.leaf) ∧ w'.cell? { block := p, off := 1 } = some (.slice v.ka v.kn v.kc) ∧ w'.cell? { block := p, off := 2 } = some (.slice v.va v.vn v.vc) ∧ w'.cell? { block := p, off := 3 } = some (.slice v.ia v.im v.ic) ∧ w'.cell? { block := p + 1, off := 0 } = some (.bool u.leaf) ∧ w'.cell? { block := p + 1, off := 1 } = some (.slice u.ka u.kn u.kc) ∧ w'.cell? { block := p + 1, off := 2 } = some (.slice u.va u.vn u.vc) ∧ w'.cell? { block := p + 1, off := 3 } = some (.slice u.ia u.im u.ic)) := fun w' t => by
        obtain ⟨⟨a0, a1, a2, a3⟩, ⟨b0, b1, b2, b3⟩, ⟨c0, c1, c2, c3⟩, _⟩ := HS.out w' ((Tch.refl _ _).drew.trans t)
        exact ⟨a0, a1, a2, a3, b0, b1, b2, b3, c0, c1, c2, c3⟩
      have HG : Hid (∀ w', Tch [] w6.drew w' → z.Good w' v.leaf es3 ∧ IsNv w' v ∧ IsNv w' u ∧ Tch [] w w') := fun w' t => (HS.out w' ((Tch.refl _ _).drew.trans t)).2.2.2
      obtain ⟨⟨x0, x1, x2, x3⟩, ⟨y0, y1, y2, y3⟩, ⟨z0, z1, z2, z3⟩, _⟩ := HS.out w6 (Tch.refl _ _)
      have HWZ1 : Hid (Calls Try.prog 14 #[.agg #[.bool z.leaf, .slice z.ka (v.kn + u.kn) z.kc, .slice z.va z.vn z.vc, .slice z.ia z.im z.ic]] w6.drew fun e w'' => e = .returned (.int .i64 (n3 : Nat)) ∧ Tch [] w6.drew w'') := by
        have := HWZ.out z w6.drew (HG.out _ (Tch.refl _ _)).1
        rw [HZK.out] at this
        exact this
      rw [rounds_succ]
      go_wp2_with fail
      go_region_held3 (fun w' => w'.cell? { block := X, off := 0 } = some (.bool z.leaf) ∧ w'.cell? { block := X, off := 1 } = some (.slice z.ka (v.kn + u.kn) z.kc) ∧ w'.cell? { block := X, off := 2 } = some (.slice z.va z.vn z.vc) ∧ w'.cell? { block := X, off := 3 } = some (.slice z.ia z.im z.ic) ∧ w'.cell? { block := p, off := 0 } = some (.bool v.leaf) ∧ w'.cell? { block := p, off := 1 } = some (.slice v.ka v.kn v.kc) ∧ w'.cell? { block := p, off := 2 } = some (.slice v.va v.vn v.vc) ∧ w'.cell? { block := p, off := 3 } = some (.slice v.ia v.im v.ic) ∧ w'.cell? { block := p + 1, off := 0 } = some (.bool u.leaf) ∧ w'.cell? { block := p + 1, off := 1 } = some (.slice u.ka u.kn u.kc) ∧ w'.cell? { block := p + 1, off := 2 } = some (.slice u.va u.vn u.vc) ∧ w'.cell? { block := p + 1, off := 3 } = some (.slice u.ia u.im u.ic))
        (first | exact HC.out _ t9 | exact HC.out _ t8 | exact HC.out _ t7 | exact HC.out _ (Tch.refl _ _))
        (first | (go_at_call 14; (with_reducible refine (HWZ1.out).mono ?_); rintro e w7 ⟨rfl, t7⟩) | (go_at_call 14; (with_reducible refine (HWV.out _ (HG.out _ t7).2.1).mono ?_); rintro e w8 ⟨rfl, t8a⟩; have t8 := t7.trans t8a) | (go_at_call 14; (with_reducible refine (HWU.out _ (HG.out _ t8).2.2.1).mono ?_); rintro e w9 ⟨rfl, t9a⟩; have t9 := t8.trans t9a))
      have T9 := (HG.out _ t9).2.2.2
      go_wp2_with fail
      go_ret
      have hS := HS3.out
      have e1 : IntKind.i64.wrap ((n1 : Int) + n2) = n1 + n2 := IntWalk.i64_in _ (by omega)
      have e2 : IntKind.i64.wrap ((n1 : Int) + n2 - 2) = n1 + n2 - 2 := IntWalk.i64_in _ (by omega)
      have e3 : IntKind.i64.wrap ((n1 : Int) + n2 - 2) = n1 + n2 - 2 := IntWalk.i64_in _ (by omega)
      have e4 : ((n3 : Int) == (n1 : Int) + n2 - 2) = true := by rw [beq_iff_eq]; omega
      refine ⟨?_, T9⟩
      rw [e1, e2, e3, e4]
      try rfl
    have i1 : decide ((127 : Int) < (v.kn : Int)) = false := decide_eq_false (by omega)
    have i2 : decide ((127 : Int) < (u.kn : Int)) = false := decide_eq_false (by omega)
    have i3 : decide ((127 : Int) < (v.kn : Int) + (u.kn : Int)) = true := decide_eq_true (by omega)
    have hsu : (n3 : Int) = n1 + n2 - 2 + (1) := by have := HSUM.out; rw [if_pos hC, if_neg hA, if_neg hB] at this; omega
    have HS3 := Lib.hid hsu
    clear hA hB hC hsu
    go_wp2_with fail
    refine wp_loop_rounds 3 ?_
    rw [rounds_succ]
    go_wp2_with fail
    rw [rounds_succ]
    go_wp2_with fail
    obtain ⟨w6, hw6⟩ : ∃ w6 : World, w6 = ((w5.alloc (.cells #[.bool v.leaf, .slice v.ka v.kn v.kc, .slice v.va v.vn v.vc, .slice v.ia v.im v.ic, .bool u.leaf, .slice u.ka u.kn u.kc, .slice u.va u.vn u.vc, .slice u.ia u.im u.ic] 25)).alloc (.cells #[.bool v.leaf, .slice v.ka v.kn v.kc, .slice v.va v.vn v.vc, .slice v.ia v.im v.ic] 25)).alloc (.cells #[.bool u.leaf, .slice u.ka u.kn u.kc, .slice u.va u.vn u.vc, .slice u.ia u.im u.ic] 25) := ⟨_, rfl⟩
    rw [← hw6]
    have t6 : Tch [] W4 w6 := by rw [hw6]; exact ((t5.alloc _).alloc _).alloc _
    have HS : Hid (∀ w', Tch [] w6 w' → (w'.cell? { block := X, off := 0 } = some (.bool z.leaf) ∧ w'.cell? { block := X, off := 1 } = some (.slice z.ka (v.kn + u.kn) z.kc) ∧ w'.cell? { block := X, off := 2 } = some (.slice z.va z.vn z.vc) ∧ w'.cell? { block := X, off := 3 } = some (.slice z.ia z.im z.ic)) ∧ (w'.cell? { block := p, off := 0 } = some (.bool v.leaf) ∧ w'.cell? { block := p, off := 1 } = some (.slice v.ka v.kn v.kc) ∧ w'.cell? { block := p, off := 2 } = some (.slice v.va v.vn v.vc) ∧ w'.cell? { block := p, off := 3 } = some (.slice v.ia v.im v.ic)) ∧ (w'.cell? { block := p + 1, off := 0 } = some (.bool u.leaf) ∧ w'.cell? { block := p + 1, off := 1 } = some (.slice u.ka u.kn u.kc) ∧ w'.cell? { block := p + 1, off := 2 } = some (.slice u.va u.vn u.vc) ∧ w'.cell? { block := p + 1, off := 3 } = some (.slice u.ia u.im u.ic)) ∧ z.Good w' v.leaf es3 ∧ IsNv w' v ∧ IsNv w' u ∧ Tch [] w w') := fun w' t => by
      obtain ⟨a1, a2, a3, a4, a5, a6, a7⟩ := HQ.out w' (t6.trans t)
      have h1 := a1.c
      rw [HZK.out] at h1
      exact ⟨h1, a2.c, a3.c, a4, a5, a6, a7⟩
    clear HQ HK x0 x1 x2 x3 y0 y1 y2 y3 z0 z1 z2 z3 l5 l6 l7 hw6
    have HC : Hid (∀ w', Tch [] w6.drew w' → w'.cell? { block := X, off := 0 } = some (.bool z.leaf) ∧ w'.cell? { block := X, off := 1 } = some (.slice z.ka (v.kn + u.kn) z.kc) ∧ w'.cell? { block := X, off := 2 } = some (.slice z.va z.vn z.vc) ∧ w'.cell? { block := X, off := 3 } = some (.slice z.ia z.im z.ic) ∧ w'.cell? { block := p, off := 0 } = some (.bool v.leaf) ∧ w'.cell? { block := p, off := 1 } = some (.slice v.ka v.kn v.kc) ∧ w'.cell? { block := p, off := 2 } = some (.slice v.va v.vn v.vc) ∧ w'.cell? { block := p, off := 3 } = some (.slice v.ia v.im v.ic) ∧ w'.cell? { block := p + 1, off := 0 } = some (.bool u.leaf) ∧ w'.cell? { block := p + 1, off := 1 } = some (.slice u.ka u.kn u.kc) ∧ w'.cell? { block := p + 1, off := 2 } = some (.slice u.va u.vn u.vc) ∧ w'.cell? { block := p + 1, off := 3 } = some (.slice u.ia u.im u.ic)) := fun w' t => by
      obtain ⟨⟨a0, a1, a2, a3⟩, ⟨b0, b1, b2, b3⟩, ⟨c0, c1, c2, c3⟩, _⟩ := HS.out w' ((Tch.refl _ _).drew.trans t)
      exact ⟨a0, a1, a2, a3, b0, b1, b2, b3, c0, c1, c2, c3⟩
    have HG : Hid (∀ w', Tch [] w6.drew w' → z.Good w' v.leaf es3 ∧ IsNv w' v ∧ IsNv w' u ∧ Tch [] w w') := fun w' t => (HS.out w' ((Tch.refl _ _).drew.trans t)).2.2.2
    obtain ⟨⟨x0, x1, x2, x3⟩, ⟨y0, y1, y2, y3⟩, ⟨z0, z1, z2, z3⟩, _⟩ := HS.out w6 (Tch.refl _ _)
    have HWZ1 : Hid (Calls Try.prog 14 #[.agg #[.bool z.leaf, .slice z.ka (v.kn + u.kn) z.kc, .slice z.va z.vn z.vc, .slice z.ia z.im z.ic]] w6.drew fun e w'' => e = .returned (.int .i64 (n3 : Nat)) ∧ Tch [] w6.drew w'') := by
      have := HWZ.out z w6.drew (HG.out _ (Tch.refl _ _)).1
      rw [HZK.out] at this
      exact this
    rw [rounds_succ]
    go_wp2_with fail
    go_region_held3 (fun w' => w'.cell? { block := X, off := 0 } = some (.bool z.leaf) ∧ w'.cell? { block := X, off := 1 } = some (.slice z.ka (v.kn + u.kn) z.kc) ∧ w'.cell? { block := X, off := 2 } = some (.slice z.va z.vn z.vc) ∧ w'.cell? { block := X, off := 3 } = some (.slice z.ia z.im z.ic) ∧ w'.cell? { block := p, off := 0 } = some (.bool v.leaf) ∧ w'.cell? { block := p, off := 1 } = some (.slice v.ka v.kn v.kc) ∧ w'.cell? { block := p, off := 2 } = some (.slice v.va v.vn v.vc) ∧ w'.cell? { block := p, off := 3 } = some (.slice v.ia v.im v.ic) ∧ w'.cell? { block := p + 1, off := 0 } = some (.bool u.leaf) ∧ w'.cell? { block := p + 1, off := 1 } = some (.slice u.ka u.kn u.kc) ∧ w'.cell? { block := p + 1, off := 2 } = some (.slice u.va u.vn u.vc) ∧ w'.cell? { block := p + 1, off := 3 } = some (.slice u.ia u.im u.ic))
      (first | exact HC.out _ t9 | exact HC.out _ t8 | exact HC.out _ t7 | exact HC.out _ (Tch.refl _ _))
      (first | (go_at_call 14; (with_reducible refine (HWZ1.out).mono ?_); rintro e w7 ⟨rfl, t7⟩) | (go_at_call 14; (with_reducible refine (HWV.out _ (HG.out _ t7).2.1).mono ?_); rintro e w8 ⟨rfl, t8a⟩; have t8 := t7.trans t8a) | (go_at_call 14; (with_reducible refine (HWU.out _ (HG.out _ t8).2.2.1).mono ?_); rintro e w9 ⟨rfl, t9a⟩; have t9 := t8.trans t9a))
    have T9 := (HG.out _ t9).2.2.2
    go_wp2_with fail
    go_ret
    have hS := HS3.out
    have e1 : IntKind.i64.wrap ((n1 : Int) + n2) = n1 + n2 := IntWalk.i64_in _ (by omega)
    have e2 : IntKind.i64.wrap ((n1 : Int) + n2 - 2) = n1 + n2 - 2 := IntWalk.i64_in _ (by omega)
    have e3 : IntKind.i64.wrap ((n1 : Int) + n2 - 2 + 1) = n1 + n2 - 2 + 1 := IntWalk.i64_in _ (by omega)
    have e4 : ((n3 : Int) == (n1 : Int) + n2 - 2 + 1) = true := by rw [beq_iff_eq]; omega
    refine ⟨?_, T9⟩
    rw [e1, e2, e3, e4]
    try rfl
  have hA : ¬ 127 < v.kn := by omega
  have hB : ¬ 127 < u.kn := by omega
  have i1 : decide ((127 : Int) < (v.kn : Int)) = false := decide_eq_false (by omega)
  have i2 : decide ((127 : Int) < (u.kn : Int)) = false := decide_eq_false (by omega)
  have i3 : decide ((127 : Int) < (v.kn : Int) + (u.kn : Int)) = false := decide_eq_false (by omega)
  have hsu : (n3 : Int) = n1 + n2 - 2 + (0) := by have := HSUM.out; rw [if_neg hC, if_neg hA, if_neg hB] at this; omega
  have HS3 := Lib.hid hsu
  clear hA hB hC hsu
  go_wp2_with fail
  refine wp_loop_rounds 3 ?_
  rw [rounds_succ]
  go_wp2_with fail
  rw [rounds_succ]
  go_wp2_with fail
  obtain ⟨w6, hw6⟩ : ∃ w6 : World, w6 = ((w5.alloc (.cells #[.bool v.leaf, .slice v.ka v.kn v.kc, .slice v.va v.vn v.vc, .slice v.ia v.im v.ic, .bool u.leaf, .slice u.ka u.kn u.kc, .slice u.va u.vn u.vc, .slice u.ia u.im u.ic] 25)).alloc (.cells #[.bool v.leaf, .slice v.ka v.kn v.kc, .slice v.va v.vn v.vc, .slice v.ia v.im v.ic] 25)).alloc (.cells #[.bool u.leaf, .slice u.ka u.kn u.kc, .slice u.va u.vn u.vc, .slice u.ia u.im u.ic] 25) := ⟨_, rfl⟩
  rw [← hw6]
  have t6 : Tch [] W4 w6 := by rw [hw6]; exact ((t5.alloc _).alloc _).alloc _
  have HS : Hid (∀ w', Tch [] w6 w' → (w'.cell? { block := X, off := 0 } = some (.bool z.leaf) ∧ w'.cell? { block := X, off := 1 } = some (.slice z.ka (v.kn + u.kn) z.kc) ∧ w'.cell? { block := X, off := 2 } = some (.slice z.va z.vn z.vc) ∧ w'.cell? { block := X, off := 3 } = some (.slice z.ia z.im z.ic)) ∧ (w'.cell? { block := p, off := 0 } = some (.bool v.leaf) ∧ w'.cell? { block := p, off := 1 } = some (.slice v.ka v.kn v.kc) ∧ w'.cell? { block := p, off := 2 } = some (.slice v.va v.vn v.vc) ∧ w'.cell? { block := p, off := 3 } = some (.slice v.ia v.im v.ic)) ∧ (w'.cell? { block := p + 1, off := 0 } = some (.bool u.leaf) ∧ w'.cell? { block := p + 1, off := 1 } = some (.slice u.ka u.kn u.kc) ∧ w'.cell? { block := p + 1, off := 2 } = some (.slice u.va u.vn u.vc) ∧ w'.cell? { block := p + 1, off := 3 } = some (.slice u.ia u.im u.ic)) ∧ z.Good w' v.leaf es3 ∧ IsNv w' v ∧ IsNv w' u ∧ Tch [] w w') := fun w' t => by
    obtain ⟨a1, a2, a3, a4, a5, a6, a7⟩ := HQ.out w' (t6.trans t)
    have h1 := a1.c
    rw [HZK.out] at h1
    exact ⟨h1, a2.c, a3.c, a4, a5, a6, a7⟩
  clear HQ HK x0 x1 x2 x3 y0 y1 y2 y3 z0 z1 z2 z3 l5 l6 l7 hw6
  have HC : Hid (∀ w', Tch [] w6.drew w' → w'.cell? { block := X, off := 0 } = some (.bool z.leaf) ∧ w'.cell? { block := X, off := 1 } = some (.slice z.ka (v.kn + u.kn) z.kc) ∧ w'.cell? { block := X, off := 2 } = some (.slice z.va z.vn z.vc) ∧ w'.cell? { block := X, off := 3 } = some (.slice z.ia z.im z.ic) ∧ w'.cell? { block := p, off := 0 } = some (.bool v.leaf) ∧ w'.cell? { block := p, off := 1 } = some (.slice v.ka v.kn v.kc) ∧ w'.cell? { block := p, off := 2 } = some (.slice v.va v.vn v.vc) ∧ w'.cell? { block := p, off := 3 } = some (.slice v.ia v.im v.ic) ∧ w'.cell? { block := p + 1, off := 0 } = some (.bool u.leaf) ∧ w'.cell? { block := p + 1, off := 1 } = some (.slice u.ka u.kn u.kc) ∧ w'.cell? { block := p + 1, off := 2 } = some (.slice u.va u.vn u.vc) ∧ w'.cell? { block := p + 1, off := 3 } = some (.slice u.ia u.im u.ic)) := fun w' t => by
    obtain ⟨⟨a0, a1, a2, a3⟩, ⟨b0, b1, b2, b3⟩, ⟨c0, c1, c2, c3⟩, _⟩ := HS.out w' ((Tch.refl _ _).drew.trans t)
    exact ⟨a0, a1, a2, a3, b0, b1, b2, b3, c0, c1, c2, c3⟩
  have HG : Hid (∀ w', Tch [] w6.drew w' → z.Good w' v.leaf es3 ∧ IsNv w' v ∧ IsNv w' u ∧ Tch [] w w') := fun w' t => (HS.out w' ((Tch.refl _ _).drew.trans t)).2.2.2
  obtain ⟨⟨x0, x1, x2, x3⟩, ⟨y0, y1, y2, y3⟩, ⟨z0, z1, z2, z3⟩, _⟩ := HS.out w6 (Tch.refl _ _)
  have HWZ1 : Hid (Calls Try.prog 14 #[.agg #[.bool z.leaf, .slice z.ka (v.kn + u.kn) z.kc, .slice z.va z.vn z.vc, .slice z.ia z.im z.ic]] w6.drew fun e w'' => e = .returned (.int .i64 (n3 : Nat)) ∧ Tch [] w6.drew w'') := by
    have := HWZ.out z w6.drew (HG.out _ (Tch.refl _ _)).1
    rw [HZK.out] at this
    exact this
  rw [rounds_succ]
  go_wp2_with fail
  go_region_held3 (fun w' => w'.cell? { block := X, off := 0 } = some (.bool z.leaf) ∧ w'.cell? { block := X, off := 1 } = some (.slice z.ka (v.kn + u.kn) z.kc) ∧ w'.cell? { block := X, off := 2 } = some (.slice z.va z.vn z.vc) ∧ w'.cell? { block := X, off := 3 } = some (.slice z.ia z.im z.ic) ∧ w'.cell? { block := p, off := 0 } = some (.bool v.leaf) ∧ w'.cell? { block := p, off := 1 } = some (.slice v.ka v.kn v.kc) ∧ w'.cell? { block := p, off := 2 } = some (.slice v.va v.vn v.vc) ∧ w'.cell? { block := p, off := 3 } = some (.slice v.ia v.im v.ic) ∧ w'.cell? { block := p + 1, off := 0 } = some (.bool u.leaf) ∧ w'.cell? { block := p + 1, off := 1 } = some (.slice u.ka u.kn u.kc) ∧ w'.cell? { block := p + 1, off := 2 } = some (.slice u.va u.vn u.vc) ∧ w'.cell? { block := p + 1, off := 3 } = some (.slice u.ia u.im u.ic))
    (first | exact HC.out _ t9 | exact HC.out _ t8 | exact HC.out _ t7 | exact HC.out _ (Tch.refl _ _))
    (first | (go_at_call 14; (with_reducible refine (HWZ1.out).mono ?_); rintro e w7 ⟨rfl, t7⟩) | (go_at_call 14; (with_reducible refine (HWV.out _ (HG.out _ t7).2.1).mono ?_); rintro e w8 ⟨rfl, t8a⟩; have t8 := t7.trans t8a) | (go_at_call 14; (with_reducible refine (HWU.out _ (HG.out _ t8).2.2.1).mono ?_); rintro e w9 ⟨rfl, t9a⟩; have t9 := t8.trans t9a))
  have T9 := (HG.out _ t9).2.2.2
  go_wp2_with fail
  go_ret
  have hS := HS3.out
  have e1 : IntKind.i64.wrap ((n1 : Int) + n2) = n1 + n2 := IntWalk.i64_in _ (by omega)
  have e2 : IntKind.i64.wrap ((n1 : Int) + n2 - 2) = n1 + n2 - 2 := IntWalk.i64_in _ (by omega)
  have e3 : IntKind.i64.wrap ((n1 : Int) + n2 - 2) = n1 + n2 - 2 := IntWalk.i64_in _ (by omega)
  have e4 : ((n3 : Int) == (n1 : Int) + n2 - 2) = true := by rw [beq_iff_eq]; omega
  refine ⟨?_, T9⟩
  rw [e1, e2, e3, e4]
  try rfl
end Go.Proofs.Ytlgfdfpafmopdaa
