/-
  'readEntry' of package node: the entry that stands at a place of a text, behind those of a node of the caller's own. Conditions: texts shorter than 10^8 bytes, fewer than 10^8 entries.
-/
import Derived.Test.YtlgfdfpafmopdaaDoorNo
import Derived.Test.YtlgfdfpafmopdaaDoorNrd
namespace Go.Proofs.YtlgfdfpafmopdaaDoor
open Go.RowKit
set_option linter.unusedVariables false

/-- A node's cells stand in block nb. -/
def CellsN (nb : Nat) (w : World) : Prop := ∃ (lf : Bool) (ka : Option Addr) (kn kc : Nat) (va : Option Addr) (vn vc : Nat) (ia : Option Addr) (im ic : Nat), w.heap[nb]? = some (.cells #[.bool lf, .slice ka kn kc, .slice va vn vc, .slice ia im ic] 25 (0, 0))
theorem OwV.cells {B nb : Nat} {leaf : Bool} {kv vv iv : Value} {ks vs : List ByteArray} {is : List Int} {w : World} (h : OwV B nb leaf kv vv iv ks vs is w) : CellsN nb w := by
  obtain ⟨xk, ck, rfl⟩ := own_slice h.hk
  obtain ⟨xv, cv, rfl⟩ := own_slice h.hv
  obtain ⟨xi, ci, rfl⟩ := own_slice h.hi
  exact ⟨_, _, _, _, _, _, _, _, _, _, h.hb⟩
/-- What readEntry answers. -/
def RePost (B nb : Nat) (leaf : Bool) (es : List En) (L : List UInt8) (p : Nat) (w : World) (e : Ending) (w' : World) : Prop :=
  Below B w w' ∧ ((∃ en n, pde leaf L = some (en, n) ∧ e = .returned (.tuple #[.int .i64 ((p + n : Nat) : Int), .int .i64 0]) ∧ OwE B nb leaf (es ++ [en]) w') ∨
    (∃ a c : Int, pde leaf L = none ∧ c ≠ 0 ∧ e = .returned (.tuple #[.int .i64 a, .int .i64 c]) ∧ CellsN nb w'))

theorem pde_key {leaf : Bool} {L : List UInt8} {p : Nat} {c : Int} {t : ByteArray} {n : Nat} (h : rtx (L.drop p) = (c, t, n)) (hc : c ≠ 0) : pde leaf (L.drop p) = none := by unfold pde; rw [h]; simp [hc]
theorem pde_val {L : List UInt8} {p : Nat} {t : ByteArray} {n : Nat} {c2 : Int} {t2 : ByteArray} {n2 : Nat} (h : rtx (L.drop p) = (0, t, n)) (h2 : rtx (L.drop (p + n)) = (c2, t2, n2)) : pde true (L.drop p) = if c2 ≠ 0 then none else some (⟨t, t2, 0⟩, n + n2) := by
  unfold pde; rw [h]; simp only [List.drop_drop]; rw [h2]; simp
theorem pde_kid {L : List UInt8} {p : Nat} {t : ByteArray} {n : Nat} {c2 : Int} {v n2 : Nat} (h : rtx (L.drop p) = (0, t, n)) (h2 : rdu (L.drop (p + n)) 0 0 = (c2, v, n2)) : pde false (L.drop p) = if c2 ≠ 0 then none else some (⟨t, ⟨#[]⟩, ((min v 16384 : Nat) : Int)⟩, n + n2) := by
  unfold pde; rw [h]; simp only [List.drop_drop]; rw [h2]; simp
theorem below_tr {B : Nat} {a b c : World} (h1 : Below B a b) (h2 : Below B b c) : Below B a c := ⟨h2.os.trans h1.os, h2.tape.trans h1.tape, h2.output.trans h1.output, Nat.le_trans h1.size h2.size, fun k hk => (h2.block k hk).trans (h1.block k hk)⟩

set_option maxRecDepth 100000 in
set_option maxHeartbeats 2000000 in
theorem nre_bad (B nb p : Nat) (leaf : Bool) (s : ByteArray) (es : List En) (w : World) (h : OwE B nb leaf es w) (hB : B ≤ nb) (hs : s.size ≤ 100000000) {c : Int} {t : ByteArray} {n : Nat} (hr : rtx (s.data.toList.drop p) = (c, t, n)) (hc : c ≠ 0) :
    Calls Tryd.prog 25 #[.pointer (some ⟨nb, 0, none⟩), .string s, .int .i64 p] w (RePost B nb leaf es (s.data.toList.drop p) p w) := by
  have HR := Lib.hid (rdtext_at s p w (by omega))
  unfold rtxE at HR
  rw [hr] at HR
  simp only [if_neg hc] at HR
  have hne : (c != 0) = true := by simpa using hc
  have HF : Hid (∀ w', Tch [] w w' → RePost B nb leaf es (s.data.toList.drop p) p w (.returned (.tuple #[.int .i64 0, .int .i64 c])) w') := fun w' t => by
    obtain ⟨kv, vv, iv, hO⟩ := h.keep t
    exact ⟨t.below (by obtain ⟨_, _, _, hO⟩ := h; have := lt_of_block hO.hb; omega) (by simp), Or.inr ⟨0, c, pde_key hr hc, hc, rfl, hO.cells⟩⟩
  clear h hr hc
  go_enter Tryd.func25, Tryd.ntmps25
  go_wp2_with fail
  refine HR.out.mono ?_
  rintro e w1 ⟨rfl, t1⟩
  have HFF := Lib.hid (HF.out _ t1)
  clear HF HR
  go_wp2_with fail
  go_ret2
  exact HFF.out

set_option maxRecDepth 100000 in
set_option maxHeartbeats 4000000 in
theorem nre_kids (B nb p : Nat) (s : ByteArray) (es : List En) (w : World) (h : OwE B nb false es w) (hB : B ≤ nb) (hs : s.size ≤ 100000000) (hp : p ≤ 100000000) (hes : es.length ≤ 100000000) {t : ByteArray} {n : Nat} (hr : rtx (s.data.toList.drop p) = (0, t, n)) :
    Calls Tryd.prog 25 #[.pointer (some ⟨nb, 0, none⟩), .string s, .int .i64 p] w (RePost B nb false es (s.data.toList.drop p) p w) := by
  obtain ⟨i0s, his, hzs0, hzs1, hzs2⟩ := info_parts Tryd.info_nstr
  obtain ⟨i0i, hii, hzi0, hzi1, hzi2⟩ := info_parts Tryd.info_nint
  have HR := Lib.hid (rdtext_at s p w (by omega))
  unfold rtxE at HR
  rw [hr] at HR
  simp only [↓reduceIte] at HR
  have hnl := rtx_len _ _ _ hr
  have hn9 : n ≤ 100000000 := by have := hnl.1; rw [List.length_drop, ← Lib.size_eq] at this; omega
  obtain ⟨c2v, v2, n2, hr2⟩ : ∃ c2 v2 n2, rdu (s.data.toList.drop (p + n)) 0 0 = (c2, v2, n2) := ⟨_, _, _, rfl⟩
  obtain ⟨av, hav⟩ : ∃ av : Int, av = if c2v = 0 then ((p + n + n2 : Nat) : Int) else 0 := ⟨_, rfl⟩
  have HAV := Lib.hid hav
  clear hav
  have HR2 : Hid (∀ w', Calls Tryd.prog 24 #[.string s, .int .i64 ((p : Int) + (n : Int))] w' fun e w2 => e = .returned (.tuple #[.int .u64 (v2 : Nat), .int .i64 av, .int .i64 c2v]) ∧ w' = w2) := fun w' => by
    have h2 := rdu_at s (p + n) w' (by omega)
    unfold rduE at h2
    rw [hr2, show (((p + n : Nat)) : Int) = (p : Int) + (n : Int) from by omega] at h2
    rw [HAV.out]
    exact h2
  have HPD0 := pde_kid hr hr2
  obtain ⟨kd, hkd⟩ : ∃ kd, kd = min v2 16384 := ⟨_, rfl⟩
  rw [← hkd] at HPD0
  have HPD := Lib.hid HPD0
  have hmin : min (v2 : Int) 16384 = (kd : Int) := by omega
  have hkw : IntKind.i64.wrap (kd : Int) = (kd : Int) := IntWalk.i64_in _ (by omega)
  clear HPD0 hkd
  obtain ⟨kv, vv, iv, hO⟩ := h
  have hBw : B ≤ w.heap.size := by have := lt_of_block hO.hb; omega
  have hap1 : (es.map En.key).length + 1 ≤ maxLen := by unfold maxLen; simp; omega
  have hap2 : ((es.map En.key).length + 1) * 16 ≤ 140737488355328 := by simp; omega
  have HO := Lib.hid hO
  clear hO hr hnl
  go_enter Tryd.func25, Tryd.ntmps25
  go_wp2_with fail
  refine HR.out.mono ?_
  rintro e w1 ⟨rfl, t1⟩
  have hO1 := HO.out.keep t1
  have p0 := blk_cell hO1.hb 0
  have p1 := blk_cell hO1.hb 1
  have plt := lt_of_block hO1.hb
  simp only [List.getElem?_toArray, List.getElem?_cons_zero, List.getElem?_cons_succ] at p0 p1
  have ta : Tch [] w (w1.alloc (.cells #[.string t] 9)) := t1.alloc _
  have HKA := Lib.hid (HO.out.keep ta).hk
  have hsz1 : B ≤ w1.heap.size := by have := t1.size; omega
  clear hO1 HR
  go_wp2_with (at_builtin; refine wpList_append_apart _ rfl _ _ 22 rfl B 9 i0s (.string ⟨#[]⟩) 1 16 Tryd.underlying22 his hzs0 hzs1 hzs2 rfl (by decide) kv (es.map En.key).length ((es.map En.key).map Value.string) rfl HKA.out ⟨w1.heap.size, 0, none⟩ 1 1 [.string t] rfl rfl ?c1 ?c2 (by omega) hap1 hap2 ?c5 ?_)
  case c1 => exact cells_one _ _ _
  case c2 => intro x hx; simp only [List.mem_singleton] at hx; subst hx; rfl
  case c5 => simp; omega
  intro v' w4 hown4 hg4 hp4
  obtain ⟨x2, c2, rfl⟩ := own_slice hown4
  obtain ⟨hb4, hO5, hb5w, _⟩ := HO.out.addK (v' := .slice x2 (es.length + 1) c2) hB ta t (by simpa using hown4) hg4 (by simpa using hp4)
  have f1 := blk_free hb4 1
  have k1 := blk_cell hb4 1
  have l1 := lt_of_block hb4
  simp only [List.getElem?_toArray, List.getElem?_cons_zero, List.getElem?_cons_succ] at k1
  simp only [if_false, Bool.false_eq_true] at hO5
  have HO5 := Lib.hid hO5
  have HBE := Lib.hid hb5w
  have q0 := blk_cell hO5.hb 0
  have pX := blk_cell hO5.hb 3
  have qlt := lt_of_block hO5.hb
  simp only [List.getElem?_toArray, List.getElem?_cons_zero, List.getElem?_cons_succ] at q0 pX
  have hq4 : Tch [nb] w4 (w4.setCell ⟨nb, 1, none⟩ (.slice x2 (es.length + 1) c2)) := (Tch.refl _ _).setCell (by simp) _
  have hB5 : B ≤ (w4.setCell ⟨nb, 1, none⟩ (.slice x2 (es.length + 1) c2)).heap.size := by have := hb5w.size; omega
  clear hown4 hg4 hp4 hO5 hb5w hb4 HKA ta t1 p0 p1 plt hsz1
  have f5 : ∀ o, (w4.setCell ⟨nb, 1, none⟩ (.slice x2 (es.length + 1) c2)).frozen? ⟨nb, o, none⟩ = false := fun o => blk_free HO5.out.hb o
  go_wp2_with fail
  generalize w4.setCell ⟨nb, 1, none⟩ (.slice x2 (es.length + 1) c2) = w5 at HO5 HBE q0 pX qlt f5 hB5 ⊢
  refine (HR2.out w5).mono ?_
  rintro e w5 ⟨rfl, rfl⟩
  have hO6 := HO5.out.keep (Tch.refl [] w5)
  have pX6 := blk_cell hO6.hb 3
  have qlt6 := lt_of_block hO6.hb
  simp only [List.getElem?_toArray, List.getElem?_cons_zero, List.getElem?_cons_succ] at pX6
  have tb : Tch [] w5 (w5.alloc (.cells #[.int .i64 (kd : Nat)] 3)) := (Tch.refl [] w5).alloc _
  have HKB : Hid ((w5.alloc (.cells #[.int .i64 (kd : Nat)] 3)).ownsRow B 3 1 iv es.length ((es.map En.kid).map (Value.int .i64))) := by
    have := (HO5.out.keep tb).hi
    rw [List.length_map] at this
    exact this
  have hsz6 : B ≤ w5.heap.size := by have := (Tch.refl [] w5).size; omega
  have hap3 : es.length + 1 ≤ maxLen := by unfold maxLen; omega
  have hap4 : (es.length + 1) * 8 ≤ 140737488355328 := by omega
  clear hO6 HR2 pX q0 qlt f5 f1 k1 l1 hq4
  go_wp2_with (at_builtin; refine wpList_append_apart _ rfl _ _ 23 rfl B 3 i0i (.int .i64 0) 1 8 Tryd.underlying23 hii hzi0 hzi1 hzi2 rfl (by decide) iv es.length ((es.map En.kid).map (Value.int .i64)) rfl HKB.out ⟨w5.heap.size, 0, none⟩ 1 1 [.int .i64 (kd : Nat)] rfl rfl ?d1 ?d2 (by omega) hap3 hap4 ?d5 ?_)
  case d1 => exact cells_one _ _ _
  case d2 => intro x hx; simp only [List.mem_singleton] at hx; subst hx; rfl
  case d5 => simp; omega
  intro v'' w8 hown8 hg8 hp8
  obtain ⟨x4, c4, rfl⟩ := own_slice hown8
  obtain ⟨hb8, hO9, hb9w, _⟩ := HO5.out.addI (v' := .slice x4 (es.length + 1) c4) hB tb (kd : Int) (by simpa using hown8) hg8 (by simpa using hp8)
  have f8 := blk_free hb8 3
  have k8 := blk_cell hb8 3
  have l8 := lt_of_block hb8
  simp only [List.getElem?_toArray, List.getElem?_cons_zero, List.getElem?_cons_succ] at k8
  have HF : Hid (RePost B nb false es (s.data.toList.drop p) p w (.returned (.tuple #[.int .i64 av, .int .i64 c2v])) (w8.setCell ⟨nb, 3, none⟩ (.slice x4 (es.length + 1) c4))) := by
    refine ⟨below_tr HBE.out hb9w, ?_⟩
    by_cases hc : c2v = 0
    · subst hc
      refine Or.inl ⟨_, _, by rw [HPD.out, if_neg (by simp)], by rw [HAV.out, if_pos rfl, Nat.add_assoc], .slice x2 (es.length + 1) c2, vv, .slice x4 (es.length + 1) c4, ?_⟩
      simp only [if_false, Bool.false_eq_true, List.map_append, List.map_cons, List.map_nil]
      exact hO9
    · exact Or.inr ⟨0, c2v, by rw [HPD.out, if_pos hc], hc, by rw [HAV.out, if_neg hc], hO9.cells⟩
  clear hown8 hg8 hp8 hO9 hb9w hb8 HKB tb HO5 HBE HPD hsz6
  go_wp2_with fail
  go_ret2
  exact HF.out

set_option maxRecDepth 100000 in
set_option maxHeartbeats 4000000 in
theorem nre_leaf (B nb p : Nat) (s : ByteArray) (es : List En) (w : World) (h : OwE B nb true es w) (hB : B ≤ nb) (hs : s.size ≤ 100000000) (hp : p ≤ 100000000) (hes : es.length ≤ 100000000) {t : ByteArray} {n : Nat} (hr : rtx (s.data.toList.drop p) = (0, t, n)) :
    Calls Tryd.prog 25 #[.pointer (some ⟨nb, 0, none⟩), .string s, .int .i64 p] w (RePost B nb true es (s.data.toList.drop p) p w) := by
  obtain ⟨i0s, his, hzs0, hzs1, hzs2⟩ := info_parts Tryd.info_nstr
  obtain ⟨i0i, hii, hzi0, hzi1, hzi2⟩ := info_parts Tryd.info_nint
  have HR := Lib.hid (rdtext_at s p w (by omega))
  unfold rtxE at HR
  rw [hr] at HR
  simp only [↓reduceIte] at HR
  have hnl := rtx_len _ _ _ hr
  have hn9 : n ≤ 100000000 := by have := hnl.1; rw [List.length_drop, ← Lib.size_eq] at this; omega
  obtain ⟨c2v, t2, n2, hr2⟩ : ∃ c2 t2 n2, rtx (s.data.toList.drop (p + n)) = (c2, t2, n2) := ⟨_, _, _, rfl⟩
  obtain ⟨av, hav⟩ : ∃ av : Int, av = if c2v = 0 then ((p + n + n2 : Nat) : Int) else 0 := ⟨_, rfl⟩
  have HAV := Lib.hid hav
  clear hav
  have HR2 : Hid (∀ w', Calls Tryd.prog 42 #[.string s, .int .i64 ((p : Int) + (n : Int))] w' fun e w2 => e = .returned (.tuple #[.string t2, .int .i64 av, .int .i64 c2v]) ∧ Tch [] w' w2) := fun w' => by
    have h2 := rdtext_at s (p + n) w' (by omega)
    unfold rtxE at h2
    rw [hr2, show (((p + n : Nat)) : Int) = (p : Int) + (n : Int) from by omega] at h2
    rw [HAV.out]
    exact h2
  have HPD := Lib.hid (pde_val hr hr2)
  obtain ⟨kv, vv, iv, hO⟩ := h
  have hBw : B ≤ w.heap.size := by have := lt_of_block hO.hb; omega
  have hap1 : (es.map En.key).length + 1 ≤ maxLen := by unfold maxLen; simp; omega
  have hap2 : ((es.map En.key).length + 1) * 16 ≤ 140737488355328 := by simp; omega
  have HO := Lib.hid hO
  clear hO hr hnl
  go_enter Tryd.func25, Tryd.ntmps25
  go_wp2_with fail
  refine HR.out.mono ?_
  rintro e w1 ⟨rfl, t1⟩
  have hO1 := HO.out.keep t1
  have p0 := blk_cell hO1.hb 0
  have p1 := blk_cell hO1.hb 1
  have plt := lt_of_block hO1.hb
  simp only [List.getElem?_toArray, List.getElem?_cons_zero, List.getElem?_cons_succ] at p0 p1
  have ta : Tch [] w (w1.alloc (.cells #[.string t] 9)) := t1.alloc _
  have HKA := Lib.hid (HO.out.keep ta).hk
  have hsz1 : B ≤ w1.heap.size := by have := t1.size; omega
  clear hO1 HR
  go_wp2_with (at_builtin; refine wpList_append_apart _ rfl _ _ 22 rfl B 9 i0s (.string ⟨#[]⟩) 1 16 Tryd.underlying22 his hzs0 hzs1 hzs2 rfl (by decide) kv (es.map En.key).length ((es.map En.key).map Value.string) rfl HKA.out ⟨w1.heap.size, 0, none⟩ 1 1 [.string t] rfl rfl ?c1 ?c2 (by omega) hap1 hap2 ?c5 ?_)
  case c1 => exact cells_one _ _ _
  case c2 => intro x hx; simp only [List.mem_singleton] at hx; subst hx; rfl
  case c5 => simp; omega
  intro v' w4 hown4 hg4 hp4
  obtain ⟨x2, c2, rfl⟩ := own_slice hown4
  obtain ⟨hb4, hO5, hb5w, _⟩ := HO.out.addK (v' := .slice x2 (es.length + 1) c2) hB ta t (by simpa using hown4) hg4 (by simpa using hp4)
  have f1 := blk_free hb4 1
  have k1 := blk_cell hb4 1
  have l1 := lt_of_block hb4
  simp only [List.getElem?_toArray, List.getElem?_cons_zero, List.getElem?_cons_succ] at k1
  simp only [if_true] at hO5
  have HO5 := Lib.hid hO5
  have HBE := Lib.hid hb5w
  have q0 := blk_cell hO5.hb 0
  have pX := blk_cell hO5.hb 2
  have qlt := lt_of_block hO5.hb
  simp only [List.getElem?_toArray, List.getElem?_cons_zero, List.getElem?_cons_succ] at q0 pX
  have hq4 : Tch [nb] w4 (w4.setCell ⟨nb, 1, none⟩ (.slice x2 (es.length + 1) c2)) := (Tch.refl _ _).setCell (by simp) _
  have hB5 : B ≤ (w4.setCell ⟨nb, 1, none⟩ (.slice x2 (es.length + 1) c2)).heap.size := by have := hb5w.size; omega
  clear hown4 hg4 hp4 hO5 hb5w hb4 HKA ta t1 p0 p1 plt hsz1
  have f5 : ∀ o, (w4.setCell ⟨nb, 1, none⟩ (.slice x2 (es.length + 1) c2)).frozen? ⟨nb, o, none⟩ = false := fun o => blk_free HO5.out.hb o
  go_wp2_with fail
  generalize w4.setCell ⟨nb, 1, none⟩ (.slice x2 (es.length + 1) c2) = w5 at HO5 HBE q0 pX qlt f5 hB5 ⊢
  refine (HR2.out w5).mono ?_
  rintro e w6 ⟨rfl, t6⟩
  have hO6 := HO5.out.keep t6
  have pX6 := blk_cell hO6.hb 2
  have qlt6 := lt_of_block hO6.hb
  simp only [List.getElem?_toArray, List.getElem?_cons_zero, List.getElem?_cons_succ] at pX6
  have tb : Tch [] w5 (w6.alloc (.cells #[.string t2] 9)) := t6.alloc _
  have HKB : Hid ((w6.alloc (.cells #[.string t2] 9)).ownsRow B 9 1 vv es.length ((es.map En.val).map Value.string)) := by
    have := (HO5.out.keep tb).hv
    rw [List.length_map] at this
    exact this
  have hsz6 : B ≤ w6.heap.size := by have := t6.size; omega
  have hap3 : es.length + 1 ≤ maxLen := by unfold maxLen; omega
  have hap4 : (es.length + 1) * 16 ≤ 140737488355328 := by omega
  clear hO6 HR2 pX q0 qlt f5 f1 k1 l1 hq4
  go_wp2_with (at_builtin; refine wpList_append_apart _ rfl _ _ 22 rfl B 9 i0s (.string ⟨#[]⟩) 1 16 Tryd.underlying22 his hzs0 hzs1 hzs2 rfl (by decide) vv es.length ((es.map En.val).map Value.string) rfl HKB.out ⟨w6.heap.size, 0, none⟩ 1 1 [.string t2] rfl rfl ?d1 ?d2 (by omega) hap3 hap4 ?d5 ?_)
  case d1 => exact cells_one _ _ _
  case d2 => intro x hx; simp only [List.mem_singleton] at hx; subst hx; rfl
  case d5 => simp; omega
  intro v'' w8 hown8 hg8 hp8
  obtain ⟨x4, c4, rfl⟩ := own_slice hown8
  obtain ⟨hb8, hO9, hb9w, _⟩ := HO5.out.addV (v' := .slice x4 (es.length + 1) c4) hB tb t2 (by simpa using hown8) hg8 (by simpa using hp8)
  have f8 := blk_free hb8 2
  have k8 := blk_cell hb8 2
  have l8 := lt_of_block hb8
  simp only [List.getElem?_toArray, List.getElem?_cons_zero, List.getElem?_cons_succ] at k8
  have HF : Hid (RePost B nb true es (s.data.toList.drop p) p w (.returned (.tuple #[.int .i64 av, .int .i64 c2v])) (w8.setCell ⟨nb, 2, none⟩ (.slice x4 (es.length + 1) c4))) := by
    refine ⟨below_tr HBE.out hb9w, ?_⟩
    by_cases hc : c2v = 0
    · subst hc
      refine Or.inl ⟨_, _, by rw [HPD.out, if_neg (by simp)], by rw [HAV.out, if_pos rfl, Nat.add_assoc], .slice x2 (es.length + 1) c2, .slice x4 (es.length + 1) c4, iv, ?_⟩
      simp only [if_true, List.map_append, List.map_cons, List.map_nil]
      exact hO9
    · exact Or.inr ⟨0, c2v, by rw [HPD.out, if_pos hc], hc, by rw [HAV.out, if_neg hc], hO9.cells⟩
  clear hown8 hg8 hp8 hO9 hb9w hb8 HKB tb HO5 HBE HPD hsz6
  go_wp2_with fail
  go_ret2
  exact HF.out
end Go.Proofs.YtlgfdfpafmopdaaDoor
