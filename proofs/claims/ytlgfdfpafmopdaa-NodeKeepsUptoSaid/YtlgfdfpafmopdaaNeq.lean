/-
  'equal' of the law: two nodes of the same lists are equal. Conditions: the lists are short (Nv.Ok).
-/
import Derived.Test.YtlgfdfpafmopdaaNsp
namespace Go.Proofs.Ytlgfdfpafmopdaa
open Go.RowKit
set_option linter.unusedVariables false

set_option maxRecDepth 100000 in
set_option maxHeartbeats 4000000 in
theorem nequal_yes (u v : Nv) (w : World) (hu : IsNv w u) (hv : IsNv w v) (ho : v.Ok) (e1 : u.leaf = v.leaf) (e2 : u.keys = v.keys) (e3 : u.vals = v.vals) (e4 : u.kids = v.kids) :
    Calls Try.prog 25 #[.agg #[.bool u.leaf, .slice u.ka u.kn u.kc, .slice u.va u.vn u.vc, .slice u.ia u.im u.ic], .agg #[.bool v.leaf, .slice v.ka v.kn v.kc, .slice v.va v.vn v.vc, .slice v.ia v.im v.ic]] w fun e w' => e = .returned (.bool true) ∧ Tch [] w w' := by
  have hkn : u.kn = v.kn := by rw [hu.rk.hlen, hv.rk.hlen, e2]
  have hvn : u.vn = v.vn := by rw [hu.rv.hlen, hv.rv.hlen, e3]
  have hin : u.im = v.im := by rw [hu.ri.hlen, hv.ri.hlen, e4]
  have ruk : IsR fStr 1 w u.ka v.kn u.kb u.ko v.keys := by have := hu.rk; rw [hkn, e2] at this; exact this
  have ruv : IsR fStr 1 w u.va v.vn u.vb u.vo v.vals := by have := hu.rv; rw [hvn, e3] at this; exact this
  have rui : IsR fInt 1 w u.ia v.im u.ib u.io v.kids := by have := hu.ri; rw [hin, e4] at this; exact this
  rw [hkn, hvn, hin, e1]
  have lk : v.kn ≤ 100000000 := by have := hv.rk.hlen; have := ho.lk; omega
  have lv : v.vn ≤ 100000000 := by have := hv.rv.hlen; have := ho.lv; omega
  have li : v.im ≤ 100000000 := by have := hv.ri.hlen; have := ho.li; omega
  have rvk := hv.rk
  have rvv := hv.rv
  have rvi := hv.ri
  have HLK : Hid (v.kn = v.keys.length ∧ v.vn = v.vals.length ∧ v.im = v.kids.length) := ⟨rvk.hlen, rvv.hlen, rvi.hlen⟩
  clear hkn hvn hin e1 e2 e3 e4 hu hv ho
  generalize v.leaf = leaf
  generalize v.ka = a1 at *
  generalize v.va = a2 at *
  generalize v.ia = a3 at *
  generalize u.ka = b1 at *
  generalize u.va = b2 at *
  generalize u.ia = b3 at *
  generalize v.kn = kn at *
  generalize v.vn = vn at *
  generalize v.im = im at *
  obtain ⟨W1, hW1⟩ : ∃ W1, W1 = (w.alloc (.cells #[.bool leaf, .slice b1 kn u.kc, .slice b2 vn u.vc, .slice b3 im u.ic] 25)).alloc (.cells #[.bool leaf, .slice a1 kn v.kc, .slice a2 vn v.vc, .slice a3 im v.ic] 25) := ⟨_, rfl⟩
  have T0 : Tch [] w W1 := by rw [hW1]; exact ((Tch.refl _ _).alloc _).alloc _
  have hb0 : W1.heap[w.heap.size]? = some (.cells #[.bool leaf, .slice b1 kn u.kc, .slice b2 vn u.vc, .slice b3 im u.ic] 25 (0, 0)) := by rw [hW1]; exact blk_alloc (blk_new _ _) _
  have hb1 : W1.heap[w.heap.size + 1]? = some (.cells #[.bool leaf, .slice a1 kn v.kc, .slice a2 vn v.vc, .slice a3 im v.ic] 25 (0, 0)) := by
    rw [hW1, show w.heap.size + 1 = (w.alloc (.cells #[.bool leaf, .slice b1 kn u.kc, .slice b2 vn u.vc, .slice b3 im u.ic] 25)).heap.size from by simp]; exact blk_new _ _
  have HC : Hid (∀ w', Tch [] W1 w' → w'.heap[w.heap.size]? = some (.cells #[.bool leaf, .slice b1 kn u.kc, .slice b2 vn u.vc, .slice b3 im u.ic] 25 (0, 0)) ∧ w'.heap[w.heap.size + 1]? = some (.cells #[.bool leaf, .slice a1 kn v.kc, .slice a2 vn v.vc, .slice a3 im v.ic] 25 (0, 0)) ∧ Tch [] w w') := fun w' t => ⟨t.keep hb0 (by simp), t.keep hb1 (by simp), T0.trans t⟩
  have HK : Hid (∀ w', Tch [] w w' → IsR fStr 1 w' b1 kn u.kb u.ko v.keys ∧ IsR fStr 1 w' a1 kn v.kb v.ko v.keys) := fun w' t => ⟨ruk.keep0 t, rvk.keep0 t⟩
  have HV : Hid (∀ w', Tch [] w w' → IsR fStr 1 w' b2 vn u.vb u.vo v.vals ∧ IsR fStr 1 w' a2 vn v.vb v.vo v.vals) := fun w' t => ⟨ruv.keep0 t, rvv.keep0 t⟩
  have HI : Hid (∀ w', Tch [] w w' → IsR fInt 1 w' b3 im u.ib u.io v.kids ∧ IsR fInt 1 w' a3 im v.ib v.io v.kids) := fun w' t => ⟨rui.keep0 t, rvi.keep0 t⟩
  have hlf : (leaf != leaf) = false := by cases leaf <;> rfl
  clear ruk ruv rui rvk rvv rvi hb0 hb1 T0
  go_enter Try.func25, Try.ntmps25
  go_wp2_with fail
  rw [← hW1]
  clear hW1
  go_loopw [43] (fun vS wr => ∃ k : Nat, k ≤ kn ∧ vS = .int .i64 k ∧ Tch [] W1 wr) (fun vS _ => kn - (intOf vS).toNat)
  case atStart => exact ⟨0, by omega, rfl, Tch.refl _ _⟩
  case round =>
    obtain ⟨k, hk, rfl, T⟩ := hrel
    obtain ⟨hb0, hb1, TW⟩ := HC.out wr T
    have c0 := blk_cell hb0 0
    have c1 := blk_cell hb0 1
    have c2 := blk_cell hb0 2
    have c3 := blk_cell hb0 3
    have d0 := blk_cell hb1 0
    have d1 := blk_cell hb1 1
    have d2 := blk_cell hb1 2
    have d3 := blk_cell hb1 3
    have l0 := lt_of_block hb0
    have l1 := lt_of_block hb1
    simp only [List.getElem?_toArray, List.getElem?_cons_zero, List.getElem?_cons_succ] at c0 c1 c2 c3 d0 d1 d2 d3
    by_cases hkl : k < kn
    · have hkk : k < v.keys.length := by have := HLK.out; omega
      have hget := List.getElem?_eq_getElem hkk
      obtain ⟨ru, rv⟩ := HK.out wr TW
      have x0 := ru.one hget (v := .string v.keys[k]) rfl
      have y0 := rv.one hget (v := .string v.keys[k]) rfl
      have hau := ru.some_ (by omega)
      have hav := rv.some_ (by omega)
      have hlu := ru.lt (by omega)
      have hlv := rv.lt (by omega)
      subst hau hav
      generalize v.keys[k] = x at x0 y0
      have hI : (k : Int) < (kn : Int) := by omega
      have hI0 : (0 : Int) ≤ (k : Int) := by omega
      have hne : (x.toList == x.toList) = true := by simp
      have hne2 : (x.toList != x.toList) = false := by simp
      clear ru rv hget hkk hb0 hb1
      go_wp2_with fail
      go_quiet (fail)
      go_wp2
      go_roundw
      case rel => exact ⟨k + 1, by omega, by go_num, tdrewN T _⟩
      case measure => simp [intOf]; omega
    · have HT := Lib.hid T
      clear hb0 hb1
      go_wp2_with fail
      clear c0 c1 c2 c3 d0 d1 d2 d3 l0 l1 hkl TW T hk
      go_loopw [61] (fun vS wr => ∃ k : Nat, k ≤ vn ∧ vS = .int .i64 k ∧ Tch [] W1 wr) (fun vS _ => vn - (intOf vS).toNat)
      case atStart => exact ⟨0, by omega, rfl, HT.out⟩
      case round =>
        obtain ⟨k, hk, rfl, T⟩ := hrel
        obtain ⟨hb0, hb1, TW⟩ := HC.out wr T
        have c0 := blk_cell hb0 0
        have c1 := blk_cell hb0 1
        have c2 := blk_cell hb0 2
        have c3 := blk_cell hb0 3
        have d0 := blk_cell hb1 0
        have d1 := blk_cell hb1 1
        have d2 := blk_cell hb1 2
        have d3 := blk_cell hb1 3
        have l0 := lt_of_block hb0
        have l1 := lt_of_block hb1
        simp only [List.getElem?_toArray, List.getElem?_cons_zero, List.getElem?_cons_succ] at c0 c1 c2 c3 d0 d1 d2 d3
        by_cases hkl : k < vn
        · have hkk : k < v.vals.length := by have := HLK.out; omega
          have hget := List.getElem?_eq_getElem hkk
          obtain ⟨ru, rv⟩ := HV.out wr TW
          have x0 := ru.one hget (v := .string v.vals[k]) rfl
          have y0 := rv.one hget (v := .string v.vals[k]) rfl
          have hau := ru.some_ (by omega)
          have hav := rv.some_ (by omega)
          have hlu := ru.lt (by omega)
          have hlv := rv.lt (by omega)
          subst hau hav
          generalize v.vals[k] = x at x0 y0
          have hI : (k : Int) < (vn : Int) := by omega
          have hI0 : (0 : Int) ≤ (k : Int) := by omega
          have hne : (x.toList == x.toList) = true := by simp
          have hne2 : (x.toList != x.toList) = false := by simp
          clear ru rv hget hkk hb0 hb1
          go_wp2_with fail
          go_quiet (fail)
          go_wp2
          go_roundw
          case rel => exact ⟨k + 1, by omega, by go_num, tdrewN T _⟩
          case measure => simp [intOf]; omega
        · have HT := Lib.hid T
          clear hb0 hb1
          go_wp2_with fail
          clear c0 c1 c2 c3 d0 d1 d2 d3 l0 l1 hkl TW T hk
          go_loopw [79] (fun vS wr => ∃ k : Nat, k ≤ im ∧ vS = .int .i64 k ∧ Tch [] W1 wr) (fun vS _ => im - (intOf vS).toNat)
          case atStart => exact ⟨0, by omega, rfl, HT.out⟩
          case round =>
            obtain ⟨k, hk, rfl, T⟩ := hrel
            obtain ⟨hb0, hb1, TW⟩ := HC.out wr T
            have c0 := blk_cell hb0 0
            have c1 := blk_cell hb0 1
            have c2 := blk_cell hb0 2
            have c3 := blk_cell hb0 3
            have d0 := blk_cell hb1 0
            have d1 := blk_cell hb1 1
            have d2 := blk_cell hb1 2
            have d3 := blk_cell hb1 3
            have l0 := lt_of_block hb0
            have l1 := lt_of_block hb1
            simp only [List.getElem?_toArray, List.getElem?_cons_zero, List.getElem?_cons_succ] at c0 c1 c2 c3 d0 d1 d2 d3
            by_cases hkl : k < im
            · have hkk : k < v.kids.length := by have := HLK.out; omega
              have hget := List.getElem?_eq_getElem hkk
              obtain ⟨ru, rv⟩ := HI.out wr TW
              have x0 := ru.one hget (v := .int .i64 v.kids[k]) rfl
              have y0 := rv.one hget (v := .int .i64 v.kids[k]) rfl
              have hau := ru.some_ (by omega)
              have hav := rv.some_ (by omega)
              have hlu := ru.lt (by omega)
              have hlv := rv.lt (by omega)
              subst hau hav
              generalize v.kids[k] = x at x0 y0
              have hI : (k : Int) < (im : Int) := by omega
              have hI0 : (0 : Int) ≤ (k : Int) := by omega
              have hne : (x != x) = false := by simp
              clear ru rv hget hkk hb0 hb1
              go_wp2_with fail
              go_quiet (fail)
              go_wp2
              go_roundw
              case rel => exact ⟨k + 1, by omega, by go_num, tdrewN T _⟩
              case measure => simp [intOf]; omega
            · have HT := Lib.hid T
              clear hb0 hb1
              go_wp2_with fail
              go_ret
              exact ⟨rfl, (HC.out _ HT.out).2.2⟩
end Go.Proofs.Ytlgfdfpafmopdaa
