/-
  The law's own functions over nodes: 'ref', 'fit', 'alike'. Conditions: lists and texts of fewer than 10^8 parts.
-/
import Derived.Test.YtlgfdfpafmopdaaNs
import Derived.Test.YtlgfdfpafmopdaaNe
import Derived.Test.YtlgfdfpafmopdaaNp
import Derived.Laws.StructEq
namespace Go.Proofs.Ytlgfdfpafmopdaa
open Go.RowKit
set_option linter.unusedVariables false

/-- A node of the program: its three lists, and what they hold. -/
structure Nv where
  leaf : Bool
  ka : Option Addr
  kn : Nat
  kc : Nat
  va : Option Addr
  vn : Nat
  vc : Nat
  ia : Option Addr
  im : Nat
  ic : Nat
  kb : Nat
  ko : Nat
  vb : Nat
  vo : Nat
  ib : Nat
  io : Nat
  keys : List ByteArray
  vals : List ByteArray
  kids : List Int
def Nv.ks (v : Nv) : Value := .slice v.ka v.kn v.kc
def Nv.vs (v : Nv) : Value := .slice v.va v.vn v.vc
def Nv.is (v : Nv) : Value := .slice v.ia v.im v.ic
/-- It stands so in memory. -/
structure IsNv (w : World) (v : Nv) : Prop where
  rk : IsR fStr 1 w v.ka v.kn v.kb v.ko v.keys
  rv : IsR fStr 1 w v.va v.vn v.vb v.vo v.vals
  ri : IsR fInt 1 w v.ia v.im v.ib v.io v.kids
theorem IsNv.keep0 {w w' : World} {v : Nv} (h : IsNv w v) (t : Tch [] w w') : IsNv w' v := ⟨h.rk.keep0 t, h.rv.keep0 t, h.ri.keep0 t⟩
/-- Its entries, by the document. -/
def Nv.es (v : Nv) : List En := mkN v.leaf v.keys v.vals v.kids
/-- Its lists are short, and its texts. -/
structure Nv.Ok (v : Nv) : Prop where
  lk : v.keys.length ≤ 100000000
  lv : v.vals.length ≤ 100000000
  li : v.kids.length ≤ 100000000
  ks : ∀ x ∈ v.keys, x.size ≤ 100000000
  vs : ∀ x ∈ v.vals, x.size ≤ 100000000
  is : ∀ x ∈ v.kids, -9223372036854775808 ≤ x ∧ x ≤ 9223372036854775807
  tot : (v.keys.map ByteArray.size).sum + (v.vals.map ByteArray.size).sum ≤ 100000000
/-- Lists and texts together are of at most B parts. -/
def Nv.upto (v : Nv) (B : Nat) : Prop := v.keys.length ≤ B ∧ v.vals.length ≤ B ∧ v.kids.length ≤ B ∧ (v.keys.map ByteArray.size).sum + (v.vals.map ByteArray.size).sum ≤ B
theorem Nv.upto.mono {v : Nv} {A B : Nat} (h : v.upto A) (hb : A ≤ B) : v.upto B := ⟨by have := h.1; omega, by have := h.2.1; omega, by have := h.2.2.1; omega, by have := h.2.2.2; omega⟩
/-- The lists' lengths are those that the keys ask. -/
def Nv.lens (v : Nv) : Bool := if v.leaf then v.vals.length == v.keys.length && v.kids.length == 0 else v.kids.length == v.keys.length && v.vals.length == 0
theorem Nv.es_len (v : Nv) : v.es.length = v.keys.length := mkN_len _ _ _ _
theorem Nv.fine {v : Nv} (h : v.Ok) : Fine v.es := by
  intro e he
  unfold Nv.es mkN at he
  obtain ⟨p, hp, rfl⟩ := List.mem_map.1 he
  have hk : p.1 ∈ v.keys := by
    obtain ⟨k, i⟩ := p
    have := (List.mem_zipIdx' hp).2
    rw [this]; exact List.getElem_mem _
  have h1 := h.ks _ hk
  have hv : (v.vals.getD p.2 ⟨#[]⟩).size ≤ 100000000 := by
    rw [List.getD_eq_getElem?_getD]
    rcases hh : v.vals[p.2]? with _ | x
    · decide
    · exact h.vs x (List.mem_of_getElem? hh)
  have hi : -9223372036854775808 ≤ v.kids.getD p.2 0 ∧ v.kids.getD p.2 0 ≤ 9223372036854775807 := by
    rw [List.getD_eq_getElem?_getD]
    rcases hh : v.kids[p.2]? with _ | x
    · decide
    · exact h.is x (List.mem_of_getElem? hh)
  have h0 : (⟨#[]⟩ : ByteArray).size = 0 := rfl
  unfold mkE
  simp only
  cases v.leaf
  · simp only [if_false, Bool.false_eq_true]; omega
  · simp only [if_true]; omega

set_option maxRecDepth 100000 in
theorem nref_any (v : Nv) (w : World) (h : IsNv w v) (ho : v.Ok) :
    Calls Try.prog 12 #[.agg #[.bool v.leaf, .slice v.ka v.kn v.kc, .slice v.va v.vn v.vc, .slice v.ia v.im v.ic]] w (OfPost w v.leaf v.es) := by
  have T0 : Tch [] w ((w.alloc (.cells #[.bool v.leaf, .slice v.ka v.kn v.kc, .slice v.va v.vn v.vc, .slice v.ia v.im v.ic] 25)).alloc (.cells #[.bool false, .slice none 0 0] 32)) := ((Tch.refl _ _).alloc _).alloc _
  have hr : ((w.alloc (.cells #[.bool v.leaf, .slice v.ka v.kn v.kc, .slice v.va v.vn v.vc, .slice v.ia v.im v.ic] 25)).alloc (.cells #[.bool false, .slice none 0 0] 32)).heap[w.heap.size + 1]? = some (.cells #[.bool false, .slice none 0 0] 32 (0, 0)) := by
    rw [show w.heap.size + 1 = (w.alloc (.cells #[.bool v.leaf, .slice v.ka v.kn v.kc, .slice v.va v.vn v.vc, .slice v.ia v.im v.ic] 25)).heap.size from by simp]; exact blk_new _ _
  have h2 := h.keep0 T0
  have hkl := h.rk.hlen
  have hvl := h.rv.hlen
  have hil := h.ri.hlen
  have HO : Hid (∀ leaf ka kn kc va vn vc ia im ic, leaf = v.leaf → ka = v.ka → kn = v.kn → kc = v.kc → va = v.va → vn = v.vn → vc = v.vc → ia = v.ia → im = v.im → ic = v.ic → Calls Try.prog 19 #[.bool leaf, .slice ka kn kc, .slice va vn vc, .slice ia im ic] ((w.alloc (.cells #[.bool leaf, .slice ka kn kc, .slice va vn vc, .slice ia im ic] 25)).alloc (.cells #[.bool false, .slice none 0 0] 32)) (OfPost ((w.alloc (.cells #[.bool leaf, .slice ka kn kc, .slice va vn vc, .slice ia im ic] 25)).alloc (.cells #[.bool false, .slice none 0 0] 32)) leaf v.es)) := by
    intro leaf ka kn kc va vn vc ia im ic e1 e2 e3 e4 e5 e6 e7 e8 e9 e10
    subst e1 e2 e3 e4 e5 e6 e7 e8 e9 e10
    exact of_any v.leaf v.ka v.va v.ia v.kn v.kc v.kb v.ko v.vn v.vc v.vb v.vo v.im v.ic v.ib v.io v.keys v.vals v.kids _ h2.rk h2.rv h2.ri (by have := ho.lk; omega) (by have := ho.lv; omega) (by have := ho.li; omega)
  have HC := Lib.hid (HO.out v.leaf v.ka v.kn v.kc v.va v.vn v.vc v.ia v.im v.ic rfl rfl rfl rfl rfl rfl rfl rfl rfl rfl)
  generalize v.es = es at HC ⊢
  generalize v.leaf = leaf at HC T0 hr ⊢
  generalize v.ka = ka at HC T0 hr ⊢
  generalize v.kn = kn at HC T0 hr ⊢
  generalize v.kc = kc at HC T0 hr ⊢
  generalize v.va = va at HC T0 hr ⊢
  generalize v.vn = vn at HC T0 hr ⊢
  generalize v.vc = vc at HC T0 hr ⊢
  generalize v.ia = ia at HC T0 hr ⊢
  generalize v.im = im at HC T0 hr ⊢
  generalize v.ic = ic at HC T0 hr ⊢
  clear h2 h ho HO hkl hvl hil
  go_enter Try.func12, Try.ntmps12
  go_wp2_with fail
  refine HC.out.mono ?_
  rintro e w2 ⟨x, c, b, rfl, hx, hb, hcap, t2⟩
  have hr2 := t2.keep hr (by simp)
  have r0 := blk_cell hr2 0
  have r1 := blk_cell hr2 1
  have f0 := blk_free hr2 0
  have f1 := blk_free hr2 1
  have hlt := lt_of_block hr2
  simp only [List.getElem?_toArray, List.getElem?_cons_zero, List.getElem?_cons_succ] at r0 r1
  have HF : Hid (∀ u z, OfPost w leaf es (.returned (.agg #[.bool leaf, .slice x es.length c])) ((w2.setCell ⟨w.heap.size + 1, 0, none⟩ u).setCell ⟨w.heap.size + 1, 1, none⟩ z)) := fun u z => by
    have ht : Tch [w.heap.size + 1] w2 ((w2.setCell ⟨w.heap.size + 1, 0, none⟩ u).setCell ⟨w.heap.size + 1, 1, none⟩ z) := ((Tch.refl _ w2).setCell (by simp) u).setCell (by simp) z
    exact ⟨x, c, b, rfl, hx.keep ht (fun h0 => by have := hb h0; simp at this ⊢; omega), fun h0 => by have := hb h0; simp at this; omega, hcap, (T0.trans t2).transNew ht (by simp)⟩
  clear hx hb hcap t2 hr2 T0 hr HC
  go_wp2_with fail
  refine bodyPost_ret (v := .agg #[.bool leaf, .slice x es.length c]) (by simp [results, Try.results12, go_sem, r0, r1]) rfl (HF.out _ _)
end Go.Proofs.Ytlgfdfpafmopdaa
