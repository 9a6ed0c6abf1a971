/-
  'part' of package node: a node of some entries of another one, in new memory. Conditions: the node's lists and texts are short (Nv.Ok).
-/
import Derived.Test.YtlgfdfpafmopdaaNak
import Derived.Test.YtlgfdfpafmopdaaNal
namespace Go.Proofs.Ytlgfdfpafmopdaa
open Go.RowKit
set_option linter.unusedVariables false

/-! ### plain facts -/
def Nrm (leaf : Bool) (e : En) : Prop := if leaf then e.kid = 0 else e.val = ⟨#[]⟩
theorem mkN_nrm (leaf : Bool) (keys vals : List ByteArray) (kids : List Int) : ∀ e ∈ mkN leaf keys vals kids, Nrm leaf e := fun e he => by
  unfold mkN at he
  obtain ⟨p, _, rfl⟩ := List.mem_map.1 he
  unfold Nrm mkE
  cases leaf <;> simp
theorem mkN_back (leaf : Bool) (es : List En) (h : ∀ e ∈ es, Nrm leaf e) : mkN leaf (es.map En.key) (if leaf then es.map En.val else []) (if leaf then [] else es.map En.kid) = es := by
  apply List.ext_getElem?
  intro k
  rcases hk : es[k]? with _ | e
  · have h1 : es.length ≤ k := List.getElem?_eq_none_iff.1 hk
    rw [List.getElem?_eq_none (by rw [mkN_len, List.length_map]; exact h1)]
  · have hn := h e (List.mem_of_getElem? hk)
    rw [mkN_get _ _ _ _ k e.key (by rw [List.getElem?_map, hk]; rfl)]
    obtain ⟨key, val, kid⟩ := e
    unfold mkE
    cases leaf
    · have hv : val = ⟨#[]⟩ := hn
      subst hv
      simp [List.getD_eq_getElem?_getD, hk]
    · have hv : kid = 0 := hn
      subst hv
      simp [List.getD_eq_getElem?_getD, hk]
def ksum (es : List En) : Nat := (es.map fun e => e.key.size).sum
def vsum (es : List En) : Nat := (es.map fun e => e.val.size).sum
theorem ksum_app (a b : List En) : ksum (a ++ b) = ksum a + ksum b := by simp [ksum]
theorem vsum_app (a b : List En) : vsum (a ++ b) = vsum a + vsum b := by simp [vsum]
theorem part_sum (es : List En) (i n : Nat) : ksum ((es.drop i).take n) ≤ ksum es ∧ vsum ((es.drop i).take n) ≤ vsum es := by
  have h1 : es = es.take i ++ ((es.drop i).take n ++ (es.drop i).drop n) := by rw [List.take_append_drop, List.take_append_drop]
  have h2 : ksum es = ksum (es.take i) + (ksum ((es.drop i).take n) + ksum ((es.drop i).drop n)) := by
    conv => lhs; rw [h1]
    rw [ksum_app, ksum_app]
  have h3 : vsum es = vsum (es.take i) + (vsum ((es.drop i).take n) + vsum ((es.drop i).drop n)) := by
    conv => lhs; rw [h1]
    rw [vsum_app, vsum_app]
  omega
theorem zip_vsum (vals : List ByteArray) : ∀ (keys : List ByteArray) (i : Nat), ((keys.zipIdx i).map fun p => (vals.getD p.2 ⟨#[]⟩).size).sum ≤ ((vals.drop i).map ByteArray.size).sum
  | [], i => by simp
  | k :: keys, i => by
    have ih := zip_vsum vals keys (i + 1)
    rw [List.zipIdx_cons, List.map_cons, List.sum_cons]
    by_cases hi : i < vals.length
    · rw [List.drop_eq_getElem_cons hi, List.map_cons, List.sum_cons]
      have : vals.getD i ⟨#[]⟩ = vals[i] := by rw [List.getD_eq_getElem?_getD, List.getElem?_eq_getElem hi]; rfl
      simp only [this]
      omega
    · have h1 : vals.getD i ⟨#[]⟩ = ⟨#[]⟩ := by rw [List.getD_eq_getElem?_getD, List.getElem?_eq_none (by omega)]; rfl
      have h2 : (⟨#[]⟩ : ByteArray).size = 0 := rfl
      have h3 : vals.drop (i + 1) = [] := List.drop_eq_nil_of_le (by omega)
      rw [h3] at ih
      simp only [h1, h2, List.map_nil, List.sum_nil] at ih ⊢
      omega
theorem zip_keys : ∀ (keys : List ByteArray) (i : Nat), ((keys.zipIdx i).map fun p => p.1.size) = keys.map ByteArray.size
  | [], i => rfl
  | k :: keys, i => by rw [List.zipIdx_cons, List.map_cons, List.map_cons, zip_keys keys (i + 1)]
theorem mkN_sums (leaf : Bool) (keys vals : List ByteArray) (kids : List Int) : ksum (mkN leaf keys vals kids) = (keys.map ByteArray.size).sum ∧ vsum (mkN leaf keys vals kids) ≤ (vals.map ByteArray.size).sum := by
  constructor
  · unfold ksum mkN
    rw [List.map_map, ← zip_keys keys 0]
    rfl
  · have h := zip_vsum vals keys 0
    unfold vsum mkN
    rw [List.map_map]
    cases leaf
    · have h0 : (((keys.zipIdx).map ((fun e : En => e.val.size) ∘ fun p => mkE false keys vals kids p.2 p.1))).sum = 0 := by
        have : ((fun e : En => e.val.size) ∘ fun p : ByteArray × Nat => mkE false keys vals kids p.2 p.1) = fun _ => 0 := by
          funext p; rfl
        rw [this]
        clear h this
        induction keys.zipIdx with
        | nil => rfl
        | cons a l ih => rw [List.map_cons, List.sum_cons, ih]
      omega
    · rw [List.drop_zero] at h
      exact h
theorem mkN_kidb (leaf : Bool) (keys vals : List ByteArray) (kids : List Int) (hk : ∀ x ∈ kids, -9223372036854775808 ≤ x ∧ x ≤ 9223372036854775807) : ∀ e ∈ mkN leaf keys vals kids, -9223372036854775808 ≤ e.kid ∧ e.kid ≤ 9223372036854775807 := fun e he => by
  unfold mkN at he
  obtain ⟨p, _, rfl⟩ := List.mem_map.1 he
  unfold mkE
  cases leaf
  · simp only [if_false, Bool.false_eq_true]
    rw [List.getD_eq_getElem?_getD]
    rcases hh : kids[p.2]? with _ | x
    · decide
    · exact hk x (List.mem_of_getElem? hh)
  · simp
theorem map_sum_mem (l : List ByteArray) (x : ByteArray) (h : x ∈ l) : x.size ≤ (l.map ByteArray.size).sum := by
  induction l with
  | nil => cases h
  | cons a l ih =>
    rw [List.map_cons, List.sum_cons]
    rcases List.mem_cons.1 h with rfl | h
    · omega
    · have := ih h; omega
/-- Entries that are short. -/
structure Short (es : List En) : Prop where
  len : es.length ≤ 100000000
  sum : ksum es + vsum es ≤ 100000000
  kid : ∀ e ∈ es, -9223372036854775808 ≤ e.kid ∧ e.kid ≤ 9223372036854775807

/-! ### nodes that a call answers in new memory -/
/-- The node's rows are of a call's own, in blocks from B on, apart from one another. -/
structure NwN (B : Nat) (u : Nv) (w : World) : Prop where
  hk : w.ownsRow B 9 1 (.slice u.ka u.kn u.kc) u.keys.length (u.keys.map Value.string)
  hv : w.ownsRow B 9 1 (.slice u.va u.vn u.vc) u.vals.length (u.vals.map Value.string)
  hi : w.ownsRow B 3 1 (.slice u.ia u.im u.ic) u.kids.length (u.kids.map (Value.int .i64))
  akv : Apart (.slice u.ka u.kn u.kc) (.slice u.va u.vn u.vc)
  aki : Apart (.slice u.ka u.kn u.kc) (.slice u.ia u.im u.ic)
  avi : Apart (.slice u.va u.vn u.vc) (.slice u.ia u.im u.ic)
theorem NwN.keep {B : Nat} {u : Nv} {w w' : World} {L : List Nat} (h : NwN B u w) (t : Tch L w w') (hL : ∀ k ∈ L, k < B) : NwN B u w' :=
  have kp : ∀ {e : TypeId} {v : Value} {n : Nat} {xs : List Value}, w.ownsRow B e 1 v n xs → w'.ownsRow B e 1 v n xs := fun hr => own_keep hr t (fun k hk hm => by have := hL k hm; have := (hr.lt k hk).1; omega)
  ⟨kp h.hk, kp h.hv, kp h.hi, h.akv, h.aki, h.avi⟩
theorem NwN.base {B B' : Nat} {u : Nv} {w : World} (h : NwN B u w) (hb : B' ≤ B) : NwN B' u w := ⟨own_base h.hk hb, own_base h.hv hb, own_base h.hi hb, h.akv, h.aki, h.avi⟩
theorem own_caps {B n k c : Nat} {e : TypeId} {x : Option Addr} {xs : List Value} {w : World} (h : w.ownsRow B e 1 (.slice x k c) n xs) : k = n ∧ k ≤ c ∧ c ≤ maxLen ∧ (x = none → k = 0 ∧ c = 0) := by
  rcases h.2 with ⟨hv, h0⟩ | ⟨g, cap, cur, hv, _, _, h1, h2, _⟩
  · cases hv; exact ⟨h0.symm, Nat.le_refl _, by unfold maxLen; omega, fun _ => ⟨rfl, rfl⟩⟩
  · cases hv; exact ⟨rfl, h1, h2, fun h => by cases h⟩
theorem fl_one {α : Type} (g : α → Value) (xs : List α) : xs.flatMap (fun x => [g x]) = xs.map g := by
  induction xs with
  | nil => rfl
  | cons a l ih => rw [List.flatMap_cons, ih]; rfl
/-- The node that stands in an own block. -/
theorem OwE.node {B nb : Nat} {leaf : Bool} {es : List En} {w : World} (h : OwE B nb leaf es w) (hn : ∀ e ∈ es, Nrm leaf e) (hs : Short es) :
    ∃ u : Nv, w.heap[nb]? = some (.cells #[.bool u.leaf, .slice u.ka u.kn u.kc, .slice u.va u.vn u.vc, .slice u.ia u.im u.ic] 25 (0, 0)) ∧ u.Good w leaf es ∧ NwN B u w ∧ u.keys = es.map En.key ∧ u.vals = (if leaf then es.map En.val else []) ∧ u.kids = (if leaf then [] else es.map En.kid) := by
  obtain ⟨kv, vv, iv, h⟩ := h
  obtain ⟨xk, ck, rfl⟩ := own_slice h.hk
  obtain ⟨xv, cv, rfl⟩ := own_slice h.hv
  obtain ⟨xi, ci, rfl⟩ := own_slice h.hi
  have rk := h.hk
  have rv := h.hv
  have ri := h.hi
  have ek : w.ownsRow B 9 1 (.slice xk (es.map En.key).length ck) (es.map En.key).length ((es.map En.key).flatMap fStr) := by
    rw [show ((es.map En.key).flatMap fStr) = (es.map En.key).map Value.string from fl_one _ _]; exact rk
  have ev : w.ownsRow B 9 1 (.slice xv (if leaf then es.map En.val else []).length cv) (if leaf then es.map En.val else []).length ((if leaf then es.map En.val else []).flatMap fStr) := by
    rw [show ((if leaf then es.map En.val else []).flatMap fStr) = (if leaf then es.map En.val else []).map Value.string from fl_one _ _]; exact rv
  have ei : w.ownsRow B 3 1 (.slice xi (if leaf then [] else es.map En.kid).length ci) (if leaf then [] else es.map En.kid).length ((if leaf then [] else es.map En.kid).flatMap fInt) := by
    rw [show ((if leaf then [] else es.map En.kid).flatMap fInt) = (if leaf then [] else es.map En.kid).map (Value.int .i64) from fl_one _ _]; exact ri
  obtain ⟨bk, hk1, hk2, _⟩ := IsR.own (f := fStr) (sz := 1) (fun _ => rfl) ek rfl
  obtain ⟨bv, hv1, hv2, _⟩ := IsR.own (f := fStr) (sz := 1) (fun _ => rfl) ev rfl
  obtain ⟨bi, hi1, hi2, _⟩ := IsR.own (f := fInt) (sz := 1) (fun _ => rfl) ei rfl
  obtain ⟨k1, k2, k3, k4⟩ := own_caps rk
  obtain ⟨v1, v2, v3, v4⟩ := own_caps rv
  obtain ⟨i1, i2, i3, i4⟩ := own_caps ri
  have hks : ((es.map En.key).map ByteArray.size).sum = ksum es := by unfold ksum; rw [List.map_map]; rfl
  have hvs : ((if leaf then es.map En.val else []).map ByteArray.size).sum ≤ vsum es := by
    cases leaf
    · simp
    · simp only [if_true]; unfold vsum; rw [List.map_map]; exact Nat.le_refl _
  have hvl : (if leaf then es.map En.val else []).length ≤ es.length := by cases leaf <;> simp
  have hil : (if leaf then [] else es.map En.kid).length ≤ es.length := by cases leaf <;> simp
  have hsm := hs.sum
  have hln := hs.len
  refine ⟨⟨leaf, xk, (es.map En.key).length, ck, xv, (if leaf then es.map En.val else []).length, cv, xi, (if leaf then [] else es.map En.kid).length, ci, bk, 0, bv, 0, bi, 0, es.map En.key, if leaf then es.map En.val else [], if leaf then [] else es.map En.kid⟩, h.hb, ?_, ⟨rk, rv, ri, h.akv, h.aki, h.avi⟩, rfl, rfl, rfl⟩
  refine ⟨⟨hk1, hv1, hi1⟩, rfl, mkN_back leaf es hn, ?_, ⟨?_, ?_, ?_, ?_, ?_, ?_, ?_⟩, ⟨⟨k2, k3, k4⟩, ⟨v2, v3, v4⟩, ⟨i2, i3, i4⟩⟩⟩
  · unfold Nv.lens
    cases leaf <;> simp
  · show (es.map En.key).length ≤ _; rw [List.length_map]; omega
  · show (if leaf then es.map En.val else []).length ≤ _; omega
  · show (if leaf then [] else es.map En.kid).length ≤ _; omega
  · intro x hx; have := map_sum_mem (es.map En.key) x hx; omega
  · intro x hx; have := map_sum_mem (if leaf then es.map En.val else []) x hx; omega
  · intro x hx
    cases leaf
    · simp only [if_false, Bool.false_eq_true] at hx
      obtain ⟨e, he, rfl⟩ := List.mem_map.1 hx
      exact hs.kid e he
    · simp at hx
  · show ((es.map En.key).map ByteArray.size).sum + ((if leaf then es.map En.val else []).map ByteArray.size).sum ≤ _; omega
theorem nadd_any (B nb i0 i1 : Nat) (leaf : Bool) (es : List En) (v : Nv) (w : World) (h : OwE B nb leaf es w) (hB : B ≤ nb) (hv : ∀ w', Below B w w' → IsNv w' v) (ho : v.Ok) (h01 : i0 ≤ i1) (h1 : i1 ≤ v.keys.length) (hes : es.length ≤ 500000000) :
    Calls Try.prog 38 #[.pointer (some ⟨nb, 0, none⟩), .agg #[.bool v.leaf, .slice v.ka v.kn v.kc, .slice v.va v.vn v.vc, .slice v.ia v.im v.ic], .int .i64 i0, .int .i64 i1] w fun e w' =>
      e = .returned (.tuple #[]) ∧ OwE B nb leaf (es ++ ((mkN leaf v.keys v.vals v.kids).drop i0).take (i1 - i0)) w' ∧ Below B w w' := by
  cases leaf
  · exact nadd_kids B nb i0 i1 es v w h hB hv ho h01 h1 hes
  · exact nadd_leaf B nb i0 i1 es v w h hB hv ho h01 h1 hes
theorem below_tch {B : Nat} {w W w' : World} (t : Tch [] w W) (b : Below B W w') (hB : w.heap.size ≤ B) : Tch [] w w' :=
  ⟨b.os.trans t.os, b.tape.trans t.tape, b.output.trans t.output, Nat.le_trans t.size b.size, fun k hk _ => (b.block k (by omega)).trans (t.block k hk (by simp))⟩
theorem short_mkN {v : Nv} (leaf : Bool) (ho : v.Ok) : Short (mkN leaf v.keys v.vals v.kids) := by
  obtain ⟨h1, h2⟩ := mkN_sums leaf v.keys v.vals v.kids
  have h3 := ho.tot
  exact ⟨by rw [mkN_len]; exact ho.lk, by omega, mkN_kidb _ _ _ _ ho.is⟩
theorem Short.part {es : List En} (h : Short es) (i n : Nat) : Short ((es.drop i).take n) := by
  obtain ⟨h1, h2⟩ := part_sum es i n
  have h3 := h.sum
  have h4 := h.len
  exact ⟨by rw [List.length_take, List.length_drop]; omega, by omega, fun e he => h.kid e (List.mem_of_mem_drop (List.mem_of_mem_take he))⟩
end Go.Proofs.Ytlgfdfpafmopdaa
