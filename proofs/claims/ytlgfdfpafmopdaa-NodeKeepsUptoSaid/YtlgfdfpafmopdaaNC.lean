/-
  The law NodeCuts, walked: it answers true and turns nothing that was there, if package node answers as the document has it. Condition: lists and texts of fewer than 10^7 parts.
-/
import Derived.Test.YtlgfdfpafmopdaaNR
namespace Go.Proofs.Ytlgfdfpafmopdaa
open Go.RowKit
set_option linter.unusedVariables false

/-- What stands behind the first part of the law. -/
def CtRel (W : World) (m : Nat) (v25 : Value) (wr : World) : Prop := ∃ k : Nat, k ≤ m ∧ v25 = .int .i64 k ∧ Tch [] W wr

set_option maxRecDepth 100000 in
set_option maxHeartbeats 4000000 in
theorem ncuts_walk (HE : EncSpec) (HSP : SplSpec) (HJ : JoiSpec) (HP : PlaSpec) (v u : Nv) (w : World) (hv : IsNv w v) (hov : v.Ok) (hcv : v.caps) (hlv : v.upto 10000000) (hu : IsNv w u) (hou : u.Ok) (hcu : u.caps) (hlu : u.upto 10000000) :
    Calls Try.prog 4 #[.agg #[.bool v.leaf, .slice v.ka v.kn v.kc, .slice v.va v.vn v.vc, .slice v.ia v.im v.ic], .agg #[.bool u.leaf, .slice u.ka u.kn u.kc, .slice u.va u.vn u.vc, .slice u.ia u.im u.ic]] w fun e w' => e = .returned (.bool true) ∧ Tch [] w w' := by
  have T0 : Tch [] w ((w.alloc (.cells #[.bool v.leaf, .slice v.ka v.kn v.kc, .slice v.va v.vn v.vc, .slice v.ia v.im v.ic] 25)).alloc (.cells #[.bool u.leaf, .slice u.ka u.kn u.kc, .slice u.va u.vn u.vc, .slice u.ia u.im u.ic] 25)) := ((Tch.refl _ _).alloc _).alloc _
  have hb : IsNb ((w.alloc (.cells #[.bool v.leaf, .slice v.ka v.kn v.kc, .slice v.va v.vn v.vc, .slice v.ia v.im v.ic] 25)).alloc (.cells #[.bool u.leaf, .slice u.ka u.kn u.kc, .slice u.va u.vn u.vc, .slice u.ia u.im u.ic] 25)) w.heap.size v := blk_alloc (blk_new w _) _
  have hb2 : IsNb ((w.alloc (.cells #[.bool v.leaf, .slice v.ka v.kn v.kc, .slice v.va v.vn v.vc, .slice v.ia v.im v.ic] 25)).alloc (.cells #[.bool u.leaf, .slice u.ka u.kn u.kc, .slice u.va u.vn u.vc, .slice u.ia u.im u.ic] 25)) (w.heap.size + 1) u := by
    unfold IsNb
    rw [show w.heap.size + 1 = (w.alloc (.cells #[.bool v.leaf, .slice v.ka v.kn v.kc, .slice v.va v.vn v.vc, .slice v.ia v.im v.ic] 25)).heap.size from by simp]; exact blk_new _ _
  have HK : Hid (∀ w', Tch [] ((w.alloc (.cells #[.bool v.leaf, .slice v.ka v.kn v.kc, .slice v.va v.vn v.vc, .slice v.ia v.im v.ic] 25)).alloc (.cells #[.bool u.leaf, .slice u.ka u.kn u.kc, .slice u.va u.vn u.vc, .slice u.ia u.im u.ic] 25)) w' → IsNb w' w.heap.size v ∧ IsNb w' (w.heap.size + 1) u ∧ IsNv w' v ∧ IsNv w' u ∧ Tch [] w w') := fun w' t =>
    ⟨t.keep hb (by simp), t.keep hb2 (by simp), hv.keep0 (T0.trans t), hu.keep0 (T0.trans t), T0.trans t⟩
  have HKK := Lib.hid (nwakes_any HE HP)
  have HS1 : Hid (∀ w', IsNv w' v → _) := fun w' h => HSP v w' h hov hcv
  have HR1 : Hid (∀ w', IsNv w' v → _) := fun w' h => nref_any v w' h hov
  have HR2 : Hid (∀ w', IsNv w' u → _) := fun w' h => nref_any u w' h hou
  have HO2 : Hid (∀ w', IsNv w' u → Calls Try.prog 19 #[.bool v.leaf, .slice u.ka u.kn u.kc, .slice u.va u.vn u.vc, .slice u.ia u.im u.ic] w' (OfPost w' v.leaf (mkN v.leaf u.keys u.vals u.kids))) := fun w' h => of_any v.leaf u.ka u.va u.ia u.kn u.kc u.kb u.ko u.vn u.vc u.vb u.vo u.im u.ic u.ib u.io u.keys u.vals u.kids w' h.rk h.rv h.ri (by have := h.rk.hlen; have := hou.lk; omega) (by have := h.rv.hlen; have := hou.lv; omega) (by have := h.ri.hlen; have := hou.li; omega)
  have HSS : Hid (∀ w' x c b, IsR fEn 3 w' x v.es.length b 0 v.es → v.es.length ≤ c → _) := fun w' x c b hx hc => rsplit_any v.leaf x v.es.length c b 0 v.es w' hx (Nv.fine hov) (by rw [Nv.es_len]; exact hov.lk) hc
  have HJ1 : Hid (∀ w', IsNv w' v → IsNv w' u → _) := fun w' h1 h2 => HJ v u w' h1 h2 hov hou hlv hlu hcv hcu
  have HRJ : Hid (∀ w' x c b (l2 : Bool) y c2 b2, IsR fEn 3 w' x v.es.length b 0 v.es → IsR fEn 3 w' y (mkN v.leaf u.keys u.vals u.kids).length b2 0 (mkN v.leaf u.keys u.vals u.kids) → _) := fun w' x c b l2 y c2 b2 h1 h2 =>
    rjoin_any v.leaf l2 x v.es.length c b 0 v.es y (mkN v.leaf u.keys u.vals u.kids).length c2 b2 0 (mkN v.leaf u.keys u.vals u.kids) w' h1 h2 (by rw [Nv.es_len, mkN_len]; have := hov.lk; have := hou.lk; omega)
  have HAL : Hid (∀ (z : Nv) w' a c b o leaf es, z.Good w' leaf es → IsR fEn 3 w' a es.length b o es → Calls Try.prog 18 #[.agg #[.bool z.leaf, .slice z.ka z.kn z.kc, .slice z.va z.vn z.vc, .slice z.ia z.im z.ic], .agg #[.bool leaf, .slice a es.length c]] w' fun e w'' => e = .returned (.bool true) ∧ Tch [] w' w'') := fun z w' a c b o leaf es g hr => by
    have := nalike_yes z a es.length c b o w' g.nv g.ok (by rw [g.es]; exact hr) g.lens
    rw [g.leaf] at this ⊢
    exact this
  have HSAME : Hid (u.leaf = v.leaf → mkN v.leaf u.keys u.vals u.kids = u.es) := fun h => by unfold Nv.es; rw [h]
  obtain ⟨c0, c1, c2, c3⟩ := hb.c
  have HSL : Hid ((splitN v.leaf v.es).length ≤ 2) := by show _ ≤ _; unfold splitN; split <;> simp
  generalize hes2 : mkN v.leaf u.keys u.vals u.kids = es2 at HO2 HJ1 HRJ HSAME
  generalize v.es ++ es2 = es3 at HJ1 HRJ
  clear hv hov hcv hlv hu hou hcu hlu hb hb2 hes2
  go_enter Try.func4, Try.ntmps4
  go_wp2_with fail
  generalize (w.alloc (.cells #[.bool v.leaf, .slice v.ka v.kn v.kc, .slice v.va v.vn v.vc, .slice v.ia v.im v.ic] 25)).alloc (.cells #[.bool u.leaf, .slice u.ka u.kn u.kc, .slice u.va u.vn u.vc, .slice u.ia u.im u.ic] 25) = W1 at T0 HK c0 c1 c2 c3 ⊢
  generalize w.heap.size = p at HK c0 c1 c2 c3 ⊢
  refine (HS1.out _ (HK.out _ (Tch.refl _ _)).2.2.1).mono ?_
  rintro e w1 ⟨t1, us, la, lc, lb, lo, rfl, _, hrow, hmap, hgood⟩
  clear c0 c1 c2 c3
  obtain ⟨c0, c1, c2, c3⟩ := (HK.out w1 t1).1.c
  go_wp2_with fail
  refine (HR1.out _ (HK.out _ t1).2.2.1).mono ?_
  rintro e w2 ⟨x, c, b, rfl, hx, _, hcap, t2⟩
  have HS2 := Lib.hid (HSS.out w2 x c b hx hcap)
  clear c0 c1 c2 c3 hx hcap
  go_wp2_with fail
  refine HS2.out.mono ?_
  rintro e w3 ⟨g, rfl, hg, hns, t3⟩
  have hlen : us.length = (splitN v.leaf v.es).length := by rw [← hmap, List.length_map]
  rw [← hlen]
  have HROW : Hid (∀ w', Tch [] w3 w' → IsR fNv 4 w' la us.length lb lo us ∧ (∀ z ∈ us, z.Good w' v.leaf z.es) ∧ (∀ (k : Nat) z, us[k]? = some z → ∃ x c b o, w'.cell? ⟨g, k * 2, none⟩ = some (.bool v.leaf) ∧ w'.cell? ⟨g, k * 2 + 1, none⟩ = some (.slice x z.es.length c) ∧ IsR fEn 3 w' x z.es.length b o z.es) ∧ Tch [] W1 w') := fun w' t =>
    ⟨hrow.keep0 ((t2.trans t3).trans t), fun z hz => (hgood z hz).keep0 ((t2.trans t3).trans t), fun k z hz => by
      have hp : (splitN v.leaf v.es)[k]? = some z.es := by rw [← hmap, List.getElem?_map, hz]; rfl
      obtain ⟨x, c, b, o, h1, h2, h3⟩ := hns k z.es hp
      have hgl : g < w3.heap.size := by
        unfold World.cell? at h1
        rcases Nat.lt_or_ge g w3.heap.size with h' | h'
        · exact h'
        · simp [Array.getElem?_eq_none h'] at h1
      exact ⟨x, c, b, o, (t.cell hgl (by simp)).trans h1, (t.cell hgl (by simp)).trans h2, h3.keep0 t⟩, ((t1.trans t2).trans t3).trans t⟩
  have hus2 : us.length ≤ 2 := by rw [hlen]; exact HSL.out
  clear hrow hgood hns hg t1 t2 t3 hmap hlen HSS HS2 HS1
  go_wp2_with fail
  refine (HKK.out _).mono ?_
  rintro e w4 ⟨rfl, t4⟩
  go_wp2_with fail
  go_loopw [25] (fun v25 wr => CtRel w3 us.length v25 wr) (fun v25 _ => us.length - (intOf v25).toNat)
  case atStart => exact ⟨0, by omega, rfl, t4⟩
  case round =>
    obtain ⟨k, hk, rfl, T⟩ := hrel
    obtain ⟨hrow, hgood, hwant, TW⟩ := HROW.out _ T
    by_cases hkl : k < us.length
    · have hget := List.getElem?_eq_getElem hkl
      have hgz := hgood _ (List.getElem_mem hkl)
      obtain ⟨x2, cx, bx, ox, hz0, hz1, hrz⟩ := hwant k _ hget
      have y0 := hrow.c0 hget (v := .bool us[k].leaf) rfl
      have y1 := hrow.c hget 1 (v := .slice us[k].ka us[k].kn us[k].kc) rfl
      have y2 := hrow.c hget 2 (v := .slice us[k].va us[k].vn us[k].vc) rfl
      have y3 := hrow.c hget 3 (v := .slice us[k].ia us[k].im us[k].ic) rfl
      have hla := hrow.some_ (by omega)
      have hlb := hrow.lt (by omega)
      subst hla
      generalize us[k] = z at hgz hz1 hrz y0 y1 y2 y3
      rename_i wr
      have hgl : g < wr.heap.size := by
        unfold World.cell? at hz0
        rcases Nat.lt_or_ge g wr.heap.size with h' | h'
        · exact h'
        · simp [Array.getElem?_eq_none h'] at hz0
      have td : Tch [] wr wr.drew := (Tch.refl [] wr).drew
      have HA := Lib.hid (HAL.out z wr.drew x2 cx bx ox v.leaf z.es (hgz.keep0 td) (hrz.keep0 td))
      have HSX : Hid (∀ w', Tch [] wr.drew w' → w'.cell? ⟨lb, lo + k * 4, none⟩ = some (.bool z.leaf) ∧ w'.cell? ⟨lb, lo + k * 4 + 1, none⟩ = some (.slice z.ka z.kn z.kc) ∧ w'.cell? ⟨lb, lo + k * 4 + 2, none⟩ = some (.slice z.va z.vn z.vc) ∧ w'.cell? ⟨lb, lo + k * 4 + 3, none⟩ = some (.slice z.ia z.im z.ic) ∧ w'.cell? ⟨g, k * 2, none⟩ = some (.bool v.leaf) ∧ w'.cell? ⟨g, k * 2 + 1, none⟩ = some (.slice x2 z.es.length cx)) := fun w' t => by
        have t' := td.trans t
        exact ⟨(t'.cell hlb (by simp)).trans y0, (t'.cell hlb (by simp)).trans y1, (t'.cell hlb (by simp)).trans y2, (t'.cell hlb (by simp)).trans y3, (t'.cell hgl (by simp)).trans hz0, (t'.cell hgl (by simp)).trans hz1⟩
      have hI1 : (0 : Int) ≤ (k : Int) := by omega
      have hI2 : (k : Int) < (us.length : Int) := by omega
      clear hrow hgood hwant TW hget hgz hrz y0 y1 y2 y3 hz0 hz1 hlb hgl td
      go_wp2_with fail
      go_region_held3 (fun w' => w'.cell? ⟨lb, lo + k * 4, none⟩ = some (.bool z.leaf) ∧ w'.cell? ⟨lb, lo + k * 4 + 1, none⟩ = some (.slice z.ka z.kn z.kc) ∧ w'.cell? ⟨lb, lo + k * 4 + 2, none⟩ = some (.slice z.va z.vn z.vc) ∧ w'.cell? ⟨lb, lo + k * 4 + 3, none⟩ = some (.slice z.ia z.im z.ic) ∧ w'.cell? ⟨g, k * 2, none⟩ = some (.bool v.leaf) ∧ w'.cell? ⟨g, k * 2 + 1, none⟩ = some (.slice x2 z.es.length cx))
        (first | exact HSX.out _ t5 | exact HSX.out _ (Tch.refl _ _))
        (first | (go_at_call 18; refine HA.out.mono ?_; rintro e w5 ⟨rfl, t5⟩))
      have T5 := T.drew.trans t5
      go_wp2
      go_roundw
      case rel => exact ⟨k + 1, by omega, by go_num, T5⟩
      case measure => simp [intOf]; omega
    · rename_i wr
      have HW := Lib.hid TW
      obtain ⟨_, hbu, _, hnu, _⟩ := HK.out wr TW
      obtain ⟨d0, d1, d2, d3⟩ := hbu.c
      have HRU := Lib.hid (HR2.out wr hnu)
      clear hrow hgood hwant TW hbu hnu HROW HR2
      go_wp2_with fail
      refine HRU.out.mono ?_
      rintro e w6 ⟨y, cy, by_, rfl, hy, _, _, t6⟩
      have hX := blk_new w6 (.cells #[.bool u.leaf, .slice y u.es.length cy] 32)
      have tX : Tch [] w6 (w6.alloc (.cells #[.bool u.leaf, .slice y u.es.length cy] 32)) := (Tch.refl _ _).alloc _
      have TX := (HW.out.trans t6).trans tX
      have hy2 := hy.keep0 tX
      obtain ⟨hbv7, hbu7, _, hnu7, TW7⟩ := HK.out _ TX
      obtain ⟨f0, f1, f2, f3⟩ := hbv7.c
      obtain ⟨k0, k1, k2, k3⟩ := hbu7.c
      by_cases hl : u.leaf = v.leaf
      · have hne : (u.leaf == v.leaf) = true := by simp [hl]
        rw [← HSAME.out hl] at hX tX TX hy2 f0 f1 f2 f3 k0 k1 k2 k3 hnu7 TW7 ⊢
        clear hl hy t6 tX hnu7 TW7 hbv7 hbu7
        go_wp2_with fail
        generalize w6.alloc (.cells #[.bool u.leaf, .slice y es2.length cy] 32) = W7 at hX TX hy2 f0 f1 f2 f3 k0 k1 k2 k3 ⊢
        generalize w6.heap.size = X at hX ⊢
        have hXX : W7.heap[X]? = some (.cells #[.bool u.leaf, .slice y es2.length cy] 32 (0, 0)) := hX
        have HQ : Hid (∀ w', Tch [] W7.drew w' → w'.heap[X]? = some (.cells #[.bool u.leaf, .slice y es2.length cy] 32 (0, 0)) ∧ IsR fEn 3 w' y es2.length by_ 0 es2 ∧ IsNb w' p v ∧ IsNb w' (p + 1) u ∧ IsNv w' v ∧ IsNv w' u ∧ Tch [] w w') := fun w' t => by
          have t' := (Tch.refl [] W7).drew.trans t
          obtain ⟨a1, a2, a3, a4, a5⟩ := HK.out w' (TX.trans t')
          exact ⟨t'.keep hXX (by simp), hy2.keep0 t', a1, a2, a3, a4, a5⟩
        have HS : Hid (∀ w', Tch [] W7.drew w' → w'.cell? ⟨p, 0, none⟩ = some (.bool v.leaf) ∧ w'.cell? ⟨p, 1, none⟩ = some (.slice v.ka v.kn v.kc) ∧ w'.cell? ⟨p, 2, none⟩ = some (.slice v.va v.vn v.vc) ∧ w'.cell? ⟨p, 3, none⟩ = some (.slice v.ia v.im v.ic) ∧ w'.cell? ⟨p + 1, 0, none⟩ = some (.bool u.leaf) ∧ w'.cell? ⟨p + 1, 1, none⟩ = some (.slice u.ka u.kn u.kc) ∧ w'.cell? ⟨p + 1, 2, none⟩ = some (.slice u.va u.vn u.vc) ∧ w'.cell? ⟨p + 1, 3, none⟩ = some (.slice u.ia u.im u.ic) ∧ w'.cell? ⟨X, 0, none⟩ = some (.bool u.leaf) ∧ w'.cell? ⟨X, 1, none⟩ = some (.slice y es2.length cy)) := fun w' t => by
          obtain ⟨h0, _, h1, h2, _⟩ := HQ.out w' t
          obtain ⟨a0, a1, a2, a3⟩ := h1.c
          obtain ⟨b0, b1, b2, b3⟩ := h2.c
          exact ⟨a0, a1, a2, a3, b0, b1, b2, b3, by rw [blk_cell h0]; rfl, by rw [blk_cell h0]; rfl⟩
        have HJA := Lib.hid (HJ1.out W7.drew (HQ.out _ (Tch.refl _ _)).2.2.2.2.1 (HQ.out _ (Tch.refl _ _)).2.2.2.2.2.1)
        clear hXX TX hy2
        go_region_held3 (fun w' => w'.cell? ⟨p, 0, none⟩ = some (.bool v.leaf) ∧ w'.cell? ⟨p, 1, none⟩ = some (.slice v.ka v.kn v.kc) ∧ w'.cell? ⟨p, 2, none⟩ = some (.slice v.va v.vn v.vc) ∧ w'.cell? ⟨p, 3, none⟩ = some (.slice v.ia v.im v.ic) ∧ w'.cell? ⟨p + 1, 0, none⟩ = some (.bool u.leaf) ∧ w'.cell? ⟨p + 1, 1, none⟩ = some (.slice u.ka u.kn u.kc) ∧ w'.cell? ⟨p + 1, 2, none⟩ = some (.slice u.va u.vn u.vc) ∧ w'.cell? ⟨p + 1, 3, none⟩ = some (.slice u.ia u.im u.ic) ∧ w'.cell? ⟨X, 0, none⟩ = some (.bool u.leaf) ∧ w'.cell? ⟨X, 1, none⟩ = some (.slice y es2.length cy))
          (first | exact HS.out _ T14 | exact HS.out _ T13 | exact HS.out _ T12 | exact HS.out _ T11 | exact HS.out _ (Tch.refl _ _))
          (first
            | (go_at_call 20; refine HJA.out.mono ?_; rintro e w11 ⟨T11, z, rfl, hgz⟩; have HRV := Lib.hid (HR1.out w11 (HQ.out _ T11).2.2.2.2.1))
            | (go_at_call 12; refine HRV.out.mono ?_; rintro e w12 ⟨x3, c3', b3', rfl, hx3, _, _, t12⟩; have T12 := T11.trans t12; have HJB := Lib.hid (HRJ.out w12 x3 c3' b3' u.leaf y cy by_ hx3 (HQ.out _ T12).2.1))
            | (go_at_call 21; refine HJB.out.mono ?_; rintro e w13 ⟨x4, c4', b4', rfl, hx4, _, _, t13⟩; have T13 := T12.trans t13; have HAZ := Lib.hid (HAL.out z w13 x4 c4' b4' 0 v.leaf es3 ((hgz.keep0 t12).keep0 t13) hx4))
            | (go_at_call 18; refine HAZ.out.mono ?_; rintro e w14 ⟨rfl, t14⟩; have T14 := T13.trans t14))
        have TF := (HQ.out _ T14).2.2.2.2.2.2
        go_wp2_with fail
        go_ret
        exact ⟨rfl, TF⟩
      · have hne : (u.leaf == v.leaf) = false := by simpa using hl
        have HOF := Lib.hid (HO2.out _ hnu7)
        have HXW : Hid (W1.heap.size ≤ w6.heap.size) := by show _ ≤ _; have h1 := HW.out.size; have h2 := t6.size; omega
        clear hl hy hnu7 TW7 hbv7 hbu7 tX hy2
        go_wp2_with fail
        generalize w6.alloc (.cells #[.bool u.leaf, .slice y u.es.length cy] 32) = W6 at hX TX HOF f0 f1 f2 f3 k0 k1 k2 k3 ⊢
        generalize w6.heap.size = X at hX HXW ⊢
        refine HOF.out.mono ?_
        rintro e w8 ⟨y2, cy2, by2, rfl, hy2, hby2, _, t8⟩
        have hX8 := t8.keep hX (by simp)
        have hXs : X < W6.heap.size := lt_of_block hX
        have g0 := blk_cell hX8 0
        have g1 := blk_cell hX8 1
        have gf0 := blk_free hX8 0
        have gf1 := blk_free hX8 1
        simp only [List.getElem?_toArray, List.getElem?_cons_zero, List.getElem?_cons_succ] at g0 g1
        have hXX : ((w8.setCell ⟨X, 0, none⟩ (.bool v.leaf)).setCell ⟨X, 1, none⟩ (.slice y2 es2.length cy2)).heap[X]? = some (.cells #[.bool v.leaf, .slice y2 es2.length cy2] 32 (0, 0)) := blk_set (blk_set hX8 0 _) 1 _
        have tS : Tch [X] w8 ((w8.setCell ⟨X, 0, none⟩ (.bool v.leaf)).setCell ⟨X, 1, none⟩ (.slice y2 es2.length cy2)) := ((Tch.refl _ w8).setCell (by simp) _).setCell (by simp) _
        have hXW : W1.heap.size ≤ X := HXW.out
        have TX' := (TX.trans t8).transNew tS (by simp; omega)
        have hy3 := hy2.keep tS (fun h0 => by have := hby2 h0; simp; omega)
        clear f0 f1 f2 f3 k0 k1 k2 k3 TX hX hX8 t8 tS hy2 hby2 HOF hXs
        go_wp2_with fail
        generalize (w8.setCell ⟨X, 0, none⟩ (.bool v.leaf)).setCell ⟨X, 1, none⟩ (.slice y2 es2.length cy2) = W7 at hXX TX' hy3 ⊢
        have HQ : Hid (∀ w', Tch [] W7.drew w' → w'.heap[X]? = some (.cells #[.bool v.leaf, .slice y2 es2.length cy2] 32 (0, 0)) ∧ IsR fEn 3 w' y2 es2.length by2 0 es2 ∧ IsNb w' p v ∧ IsNb w' (p + 1) u ∧ IsNv w' v ∧ IsNv w' u ∧ Tch [] w w') := fun w' t => by
          have t' := (Tch.refl [] W7).drew.trans t
          obtain ⟨a1, a2, a3, a4, a5⟩ := HK.out w' (TX'.trans t')
          exact ⟨t'.keep hXX (by simp), hy3.keep0 t', a1, a2, a3, a4, a5⟩
        have HS : Hid (∀ w', Tch [] W7.drew w' → w'.cell? ⟨p, 0, none⟩ = some (.bool v.leaf) ∧ w'.cell? ⟨p, 1, none⟩ = some (.slice v.ka v.kn v.kc) ∧ w'.cell? ⟨p, 2, none⟩ = some (.slice v.va v.vn v.vc) ∧ w'.cell? ⟨p, 3, none⟩ = some (.slice v.ia v.im v.ic) ∧ w'.cell? ⟨p + 1, 0, none⟩ = some (.bool u.leaf) ∧ w'.cell? ⟨p + 1, 1, none⟩ = some (.slice u.ka u.kn u.kc) ∧ w'.cell? ⟨p + 1, 2, none⟩ = some (.slice u.va u.vn u.vc) ∧ w'.cell? ⟨p + 1, 3, none⟩ = some (.slice u.ia u.im u.ic) ∧ w'.cell? ⟨X, 0, none⟩ = some (.bool v.leaf) ∧ w'.cell? ⟨X, 1, none⟩ = some (.slice y2 es2.length cy2)) := fun w' t => by
          obtain ⟨h0, _, h1, h2, _⟩ := HQ.out w' t
          obtain ⟨a0, a1, a2, a3⟩ := h1.c
          obtain ⟨b0, b1, b2, b3⟩ := h2.c
          exact ⟨a0, a1, a2, a3, b0, b1, b2, b3, by rw [blk_cell h0]; rfl, by rw [blk_cell h0]; rfl⟩
        have HJA := Lib.hid (HJ1.out W7.drew (HQ.out _ (Tch.refl _ _)).2.2.2.2.1 (HQ.out _ (Tch.refl _ _)).2.2.2.2.2.1)
        clear hXX TX' hy3
        go_region_held3 (fun w' => w'.cell? ⟨p, 0, none⟩ = some (.bool v.leaf) ∧ w'.cell? ⟨p, 1, none⟩ = some (.slice v.ka v.kn v.kc) ∧ w'.cell? ⟨p, 2, none⟩ = some (.slice v.va v.vn v.vc) ∧ w'.cell? ⟨p, 3, none⟩ = some (.slice v.ia v.im v.ic) ∧ w'.cell? ⟨p + 1, 0, none⟩ = some (.bool u.leaf) ∧ w'.cell? ⟨p + 1, 1, none⟩ = some (.slice u.ka u.kn u.kc) ∧ w'.cell? ⟨p + 1, 2, none⟩ = some (.slice u.va u.vn u.vc) ∧ w'.cell? ⟨p + 1, 3, none⟩ = some (.slice u.ia u.im u.ic) ∧ w'.cell? ⟨X, 0, none⟩ = some (.bool v.leaf) ∧ w'.cell? ⟨X, 1, none⟩ = some (.slice y2 es2.length cy2))
          (first | exact HS.out _ T14 | exact HS.out _ T13 | exact HS.out _ T12 | exact HS.out _ T11 | exact HS.out _ (Tch.refl _ _))
          (first
            | (go_at_call 20; refine HJA.out.mono ?_; rintro e w11 ⟨T11, z, rfl, hgz⟩; have HRV := Lib.hid (HR1.out w11 (HQ.out _ T11).2.2.2.2.1))
            | (go_at_call 12; refine HRV.out.mono ?_; rintro e w12 ⟨x3, c3', b3', rfl, hx3, _, _, t12⟩; have T12 := T11.trans t12; have HJB := Lib.hid (HRJ.out w12 x3 c3' b3' v.leaf y2 cy2 by2 hx3 (HQ.out _ T12).2.1))
            | (go_at_call 21; refine HJB.out.mono ?_; rintro e w13 ⟨x4, c4', b4', rfl, hx4, _, _, t13⟩; have T13 := T12.trans t13; have HAZ := Lib.hid (HAL.out z w13 x4 c4' b4' 0 v.leaf es3 ((hgz.keep0 t12).keep0 t13) hx4))
            | (go_at_call 18; refine HAZ.out.mono ?_; rintro e w14 ⟨rfl, t14⟩; have T14 := T13.trans t14))
        have TF := (HQ.out _ T14).2.2.2.2.2.2
        go_wp2_with fail
        go_ret
        exact ⟨rfl, TF⟩
end Go.Proofs.Ytlgfdfpafmopdaa
