/-
  'alike' of the law over nodes: it tells a node of the program from one of the document's that has the same entries not. Conditions: lists and texts of fewer than 10^8 parts.
-/
import Derived.Test.YtlgfdfpafmopdaaNm
namespace Go.Proofs.Ytlgfdfpafmopdaa
open Go.RowKit
set_option linter.unusedVariables false

theorem neq_en (k v : ByteArray) (z : Int) (w : World) : (binOp .neq 68 (.agg #[.string k, .string v, .int .i64 z]) (.agg #[.string k, .string v, .int .i64 z])).run Try.prog w = .ok (.bool false) w := by
  rw [run_neq_struct, run_equalIn_struct _ _ _ _ _ (by kernel_rfl) (by kernel_rfl)]
  unfold Program.fieldsOf
  rw [Try.underlying68]
  have p0 : ∀ w, (part 9 #[.string k, .string v, .int .i64 z] 0).run Try.prog w = .ok (.string k) w := fun w => by kernel_rfl
  have p1 : ∀ w, (part 9 #[.string k, .string v, .int .i64 z] 1).run Try.prog w = .ok (.string v) w := fun w => by kernel_rfl
  have p2 : ∀ w, (part 3 #[.string k, .string v, .int .i64 z] 2).run Try.prog w = .ok (.int .i64 z) w := fun w => by kernel_rfl
  have q0 : ∀ w, (Op.equalIn 9999 9 (.string k) (.string k)).run Try.prog w = .ok true w := fun w => by rw [run_equalIn_string w 9998 _ _ _ Try.underlying9]; simp
  have q1 : ∀ w, (Op.equalIn 9999 9 (.string v) (.string v)).run Try.prog w = .ok true w := fun w => by rw [run_equalIn_string w 9998 _ _ _ Try.underlying9]; simp
  have q2 : ∀ w, (Op.equalIn 9999 3 (.int .i64 z) (.int .i64 z)).run Try.prog w = .ok true w := fun w => by rw [run_equalIn_int w 9998 _ _ _ _ _ Try.underlying3]; simp
  simp [Op.eqFields, p0, p1, p2, q0, q1, q2, Result.andThen]

/-- What holds at the head of each round. -/
def NaRel (W : World) (m : Nat) (v65 : Value) (wr : World) : Prop := ∃ k : Nat, k ≤ m ∧ v65 = .int .i64 k ∧ Tch [] W wr

set_option maxRecDepth 100000 in
set_option maxHeartbeats 2000000 in
theorem nalike_yes (v : Nv) (a : Option Addr) (n c b o : Nat) (w : World) (h : IsNv w v) (ho : v.Ok) (hr : IsR fEn 3 w a n b o v.es) (hlens : v.lens = true) :
    Calls Try.prog 18 #[.agg #[.bool v.leaf, .slice v.ka v.kn v.kc, .slice v.va v.vn v.vc, .slice v.ia v.im v.ic], .agg #[.bool v.leaf, .slice a n c]] w fun e w' => e = .returned (.bool true) ∧ Tch [] w w' := by
  have T0 : Tch [] w ((w.alloc (.cells #[.bool v.leaf, .slice v.ka v.kn v.kc, .slice v.va v.vn v.vc, .slice v.ia v.im v.ic] 25)).alloc (.cells #[.bool v.leaf, .slice a n c] 32)) := ((Tch.refl _ _).alloc _).alloc _
  have hrb : ((w.alloc (.cells #[.bool v.leaf, .slice v.ka v.kn v.kc, .slice v.va v.vn v.vc, .slice v.ia v.im v.ic] 25)).alloc (.cells #[.bool v.leaf, .slice a n c] 32)).heap[w.heap.size + 1]? = some (.cells #[.bool v.leaf, .slice a n c] 32 (0, 0)) := by
    rw [show w.heap.size + 1 = (w.alloc (.cells #[.bool v.leaf, .slice v.ka v.kn v.kc, .slice v.va v.vn v.vc, .slice v.ia v.im v.ic] 25)).heap.size from by simp]; exact blk_new _ _
  have HC := Lib.hid (nref_any v _ (h.keep0 T0) ho)
  have hkl := h.rk.hlen
  have hvl := h.rv.hlen
  have hil := h.ri.hlen
  have hel := Nv.es_len v
  have hnl := hr.hlen
  have hbd := ho.lk
  have hn : v.kn = n := by omega
  have hln : (if v.leaf then v.vn == v.kn && v.im == 0 else v.im == v.kn && v.vn == 0) = true := by
    rw [hkl, hvl, hil]; exact hlens
  have HR2 : Hid (∀ w', Tch [] w w' → IsR fEn 3 w' a n b o v.es) := fun w' t => hr.keep0 t
  rw [hn] at hln HC T0 hrb ⊢
  have hnb : n ≤ 100000000 := by omega
  subst hnl
  generalize v.es = es at HC HR2 T0 hrb hln hnb ⊢
  generalize v.leaf = leaf at HC T0 hrb hln ⊢
  generalize v.ka = ka at HC T0 hrb ⊢
  generalize v.kc = kc at HC T0 hrb ⊢
  generalize v.va = va at HC T0 hrb ⊢
  generalize v.vn = vn at HC T0 hrb hln ⊢
  generalize v.vc = vc at HC T0 hrb ⊢
  generalize v.ia = ia at HC T0 hrb ⊢
  generalize v.im = im at HC T0 hrb hln ⊢
  generalize v.ic = ic at HC T0 hrb ⊢
  clear h ho hkl hvl hil hel hbd hn hr hlens
  cases leaf
  · simp only [if_false, Bool.false_eq_true, Bool.and_eq_true, beq_iff_eq] at hln
    obtain ⟨rfl, rfl⟩ := hln
    go_enter Try.func18, Try.ntmps18
    go_wp2_with fail
    refine HC.out.mono ?_
    rintro e w2 ⟨x, c2, b2, rfl, hx, hb2, hcap, t2⟩
    have hrb2 := t2.keep hrb (by simp)
    have hsz2 : w.heap.size + 1 < w2.heap.size := lt_of_block hrb2
    have q1 := blk_cell hrb2 1
    simp only [List.getElem?_toArray, List.getElem?_cons_zero, List.getElem?_cons_succ] at q1
    have T2 := T0.trans t2
    have hX := blk_new w2 (.cells #[.bool false, .slice x es.length c2] 32)
    have tX : Tch [] w2 (w2.alloc (.cells #[.bool false, .slice x es.length c2] 32)) := (Tch.refl _ _).alloc _
    have HXR : Hid (∀ w', Tch [] (w2.alloc (.cells #[.bool false, .slice x es.length c2] 32)) w' → IsR fEn 3 w' x es.length b2 0 es ∧ IsR fEn 3 w' a es.length b o es ∧ w'.heap[w.heap.size + 1]? = some (.cells #[.bool false, .slice a es.length c] 32 (0, 0)) ∧ w'.heap[w2.heap.size]? = some (.cells #[.bool false, .slice x es.length c2] 32 (0, 0)) ∧ Tch [] w w') := fun w' t =>
      ⟨(hx.keep0 tX).keep0 t, HR2.out _ ((T2.trans tX).trans t), (tX.trans t).keep hrb2 (by simp), t.keep hX (by simp), (T2.trans tX).trans t⟩
    clear hx hb2 hcap t2 hrb2 T2 hX tX T0 hrb HC HR2
    go_wp2_with fail
    go_loopw [65] (fun v65 wr => NaRel (w2.alloc (.cells #[.bool false, .slice x es.length c2] 32)) es.length v65 wr) (fun v65 _ => es.length - (intOf v65).toNat)
    case atStart => exact ⟨0, by omega, rfl, Tch.refl _ _⟩
    case round =>
      obtain ⟨k, hk, rfl, T⟩ := hrel
      obtain ⟨hx, hr, hb1, hb2, TW⟩ := HXR.out wr T
      by_cases hkl : k < es.length
      · have hget := List.getElem?_eq_getElem hkl
        have y0 : wr.cell? ⟨b2, k * 3, none⟩ = some (.string es[k].key) := by have := hx.c0 hget (v := .string es[k].key) rfl; rwa [Nat.zero_add] at this
        have y1 : wr.cell? ⟨b2, k * 3 + 1, none⟩ = some (.string es[k].val) := by have := hx.c hget 1 (v := .string es[k].val) rfl; rwa [Nat.zero_add] at this
        have y2 : wr.cell? ⟨b2, k * 3 + 2, none⟩ = some (.int .i64 es[k].kid) := by have := hx.c hget 2 (v := .int .i64 es[k].kid) rfl; rwa [Nat.zero_add] at this
        have z0 : wr.cell? ⟨b, o + k * 3, none⟩ = some (.string es[k].key) := hr.c0 hget rfl
        have z1 : wr.cell? ⟨b, o + k * 3 + 1, none⟩ = some (.string es[k].val) := hr.c hget 1 rfl
        have z2 : wr.cell? ⟨b, o + k * 3 + 2, none⟩ = some (.int .i64 es[k].kid) := hr.c hget 2 rfl
        have hxa := hx.some_ (by omega)
        have haa := hr.some_ (by omega)
        subst hxa haa
        have p1 := blk_cell hb1 1
        have p2 := blk_cell hb2 1
        simp only [List.getElem?_toArray, List.getElem?_cons_zero, List.getElem?_cons_succ] at p1 p2
        generalize es[k] = e at y0 y1 y2 z0 z1 z2
        obtain ⟨key, val, kid⟩ := e
        simp only at y0 y1 y2 z0 z1 z2
        have hne := neq_en key val kid
        have hI1 : (0 : Int) ≤ (k : Int) := by omega
        have hI2 : (k : Int) < (es.length : Int) := by omega
        clear hget hx hr hb1 hb2 TW
        go_wp2_with fail
        go_quiet (fail)
        go_wp2
        go_roundw
        case rel => exact ⟨k + 1, by omega, by go_num, tdrewN T _⟩
        case measure => simp [intOf]; omega
      · have HF := Lib.hid TW
        clear hx hr hb1 hb2 TW
        go_wp2_with fail
        go_ret
        exact ⟨rfl, HF.out⟩
  · simp only [if_true, Bool.and_eq_true, beq_iff_eq] at hln
    obtain ⟨rfl, rfl⟩ := hln
    go_enter Try.func18, Try.ntmps18
    go_wp2_with fail
    refine HC.out.mono ?_
    rintro e w2 ⟨x, c2, b2, rfl, hx, hb2, hcap, t2⟩
    have hrb2 := t2.keep hrb (by simp)
    have hsz2 : w.heap.size + 1 < w2.heap.size := lt_of_block hrb2
    have q1 := blk_cell hrb2 1
    simp only [List.getElem?_toArray, List.getElem?_cons_zero, List.getElem?_cons_succ] at q1
    have T2 := T0.trans t2
    have hX := blk_new w2 (.cells #[.bool true, .slice x es.length c2] 32)
    have tX : Tch [] w2 (w2.alloc (.cells #[.bool true, .slice x es.length c2] 32)) := (Tch.refl _ _).alloc _
    have HXR : Hid (∀ w', Tch [] (w2.alloc (.cells #[.bool true, .slice x es.length c2] 32)) w' → IsR fEn 3 w' x es.length b2 0 es ∧ IsR fEn 3 w' a es.length b o es ∧ w'.heap[w.heap.size + 1]? = some (.cells #[.bool true, .slice a es.length c] 32 (0, 0)) ∧ w'.heap[w2.heap.size]? = some (.cells #[.bool true, .slice x es.length c2] 32 (0, 0)) ∧ Tch [] w w') := fun w' t =>
      ⟨(hx.keep0 tX).keep0 t, HR2.out _ ((T2.trans tX).trans t), (tX.trans t).keep hrb2 (by simp), t.keep hX (by simp), (T2.trans tX).trans t⟩
    clear hx hb2 hcap t2 hrb2 T2 hX tX T0 hrb HC HR2
    go_wp2_with fail
    go_loopw [65] (fun v65 wr => NaRel (w2.alloc (.cells #[.bool true, .slice x es.length c2] 32)) es.length v65 wr) (fun v65 _ => es.length - (intOf v65).toNat)
    case atStart => exact ⟨0, by omega, rfl, Tch.refl _ _⟩
    case round =>
      obtain ⟨k, hk, rfl, T⟩ := hrel
      obtain ⟨hx, hr, hb1, hb2, TW⟩ := HXR.out wr T
      by_cases hkl : k < es.length
      · have hget := List.getElem?_eq_getElem hkl
        have y0 : wr.cell? ⟨b2, k * 3, none⟩ = some (.string es[k].key) := by have := hx.c0 hget (v := .string es[k].key) rfl; rwa [Nat.zero_add] at this
        have y1 : wr.cell? ⟨b2, k * 3 + 1, none⟩ = some (.string es[k].val) := by have := hx.c hget 1 (v := .string es[k].val) rfl; rwa [Nat.zero_add] at this
        have y2 : wr.cell? ⟨b2, k * 3 + 2, none⟩ = some (.int .i64 es[k].kid) := by have := hx.c hget 2 (v := .int .i64 es[k].kid) rfl; rwa [Nat.zero_add] at this
        have z0 : wr.cell? ⟨b, o + k * 3, none⟩ = some (.string es[k].key) := hr.c0 hget rfl
        have z1 : wr.cell? ⟨b, o + k * 3 + 1, none⟩ = some (.string es[k].val) := hr.c hget 1 rfl
        have z2 : wr.cell? ⟨b, o + k * 3 + 2, none⟩ = some (.int .i64 es[k].kid) := hr.c hget 2 rfl
        have hxa := hx.some_ (by omega)
        have haa := hr.some_ (by omega)
        subst hxa haa
        have p1 := blk_cell hb1 1
        have p2 := blk_cell hb2 1
        simp only [List.getElem?_toArray, List.getElem?_cons_zero, List.getElem?_cons_succ] at p1 p2
        generalize es[k] = e at y0 y1 y2 z0 z1 z2
        obtain ⟨key, val, kid⟩ := e
        simp only at y0 y1 y2 z0 z1 z2
        have hne := neq_en key val kid
        have hI1 : (0 : Int) ≤ (k : Int) := by omega
        have hI2 : (k : Int) < (es.length : Int) := by omega
        clear hget hx hr hb1 hb2 TW
        go_wp2_with fail
        go_quiet (fail)
        go_wp2
        go_roundw
        case rel => exact ⟨k + 1, by omega, by go_num, tdrewN T _⟩
        case measure => simp [intOf]; omega
      · have HF := Lib.hid TW
        clear hx hr hb1 hb2 TW
        go_wp2_with fail
        go_ret
        exact ⟨rfl, HF.out⟩
end Go.Proofs.Ytlgfdfpafmopdaa
