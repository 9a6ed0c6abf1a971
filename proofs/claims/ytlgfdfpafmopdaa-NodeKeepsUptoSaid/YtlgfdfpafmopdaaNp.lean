/-
  'Place' of the document's nodes: where a key belongs. Condition: there are fewer than 10^9 entries.
-/
import Derived.Test.YtlgfdfpafmopdaaNf
namespace Go.Proofs.Ytlgfdfpafmopdaa
open Go.RowKit
set_option linter.unusedVariables false

/-- Is the key that entry's? -/
def hitN (es : List En) (key : ByteArray) : Bool := match es[plcN es key]? with
  | some e => e.key.toList == key.toList
  | none => false
theorem plc_step (es : List En) (key : ByteArray) (at_ k : Nat) (e : En) (h : es[k]? = some e) : plcE key at_ k (es.drop k) = plcE key (if sle e.key key then k else at_) (k + 1) (es.drop (k + 1)) := by
  obtain ⟨hk, he⟩ := List.getElem?_eq_some_iff.1 h
  rw [List.drop_eq_getElem_cons hk, he, plcE]

set_option maxRecDepth 100000 in
set_option maxHeartbeats 1000000 in
theorem rplace_any (leaf : Bool) (a : Option Addr) (n c b o : Nat) (es : List En) (key : ByteArray) (w : World) (h : IsR fEn 3 w a n b o es) (hn : es.length ≤ 1000000000) :
    Calls Try.prog 23 #[.agg #[.bool leaf, .slice a n c], .string key] w fun x w' => x = .returned (.tuple #[.int .i64 (plcN es key : Nat), .bool (hitN es key)]) ∧ Tch [] w w' := by
  obtain rfl := h.hlen
  have T0 : Tch [] w (w.alloc (.cells #[.bool leaf, .slice a es.length c] 32)) := (Tch.refl _ _).alloc _
  have kb0 := blk_new w (.cells #[.bool leaf, .slice a es.length c] 32)
  have hr1 := h.keep0 T0
  clear h
  go_enter Try.func23, Try.ntmps23
  go_wp2_with fail
  generalize w.heap.size = p at kb0 ⊢
  generalize w.alloc (.cells #[.bool leaf, .slice a es.length c] 32) = W1 at T0 kb0 hr1 ⊢
  have q0 := blk_cell kb0 0
  have q1 := blk_cell kb0 1
  simp only [List.getElem?_toArray, List.getElem?_cons_zero, List.getElem?_cons_succ] at q0 q1
  go_loop [6, 7] (fun v6 v7 => ∃ k at_ : Nat, k ≤ es.length ∧ v7 = .int .i64 k ∧ v6 = .int .i64 at_ ∧ (at_ = 0 ∨ at_ < k) ∧ plcN es key = plcE key at_ k (es.drop k)) (fun _ v7 => es.length - (intOf v7).toNat)
  case atStart => exact ⟨0, 0, by omega, rfl, rfl, Or.inl rfl, rfl⟩
  case round =>
    obtain ⟨k, at_, hk, rfl, rfl, hat, hpl⟩ := hrel
    by_cases hkl : k < es.length
    · have hget := List.getElem?_eq_getElem hkl
      have hst := plc_step es key at_ k _ hget
      have x0 : W1.cell? ⟨b, o + k * 3, none⟩ = some (.string es[k].key) := hr1.c0 hget rfl
      have ha := hr1.some_ (by omega)
      subst ha
      generalize es[k] = e at x0 hst
      obtain ⟨ek, ev, ekid⟩ := e
      simp only at x0 hst
      have HPL := Lib.hid (hpl.trans hst)
      clear hget hst hpl
      by_cases hb1 : Go.Op.bytesLess ek.toList key.toList = true
      · have HG : Hid (plcN es key = plcE key k (k + 1) (es.drop (k + 1))) := by show _ = _; rw [HPL.out]; simp [sle, slt, hb1]
        go_wp2_with fail
        go_round
        case rel => exact ⟨k + 1, k, by omega, by go_num, rfl, Or.inr (by omega), HG.out⟩
        case measure => simp [intOf]; omega
      have hb1 : Go.Op.bytesLess ek.toList key.toList = false := by simpa using hb1
      by_cases hb2 : (ek.toList == key.toList) = true
      · have HG : Hid (plcN es key = plcE key k (k + 1) (es.drop (k + 1))) := by show _ = _; rw [HPL.out]; simp [sle, slt, hb1, hb2]
        go_wp2_with fail
        go_round
        case rel => exact ⟨k + 1, k, by omega, by go_num, rfl, Or.inr (by omega), HG.out⟩
        case measure => simp [intOf]; omega
      · have hb2 : (ek.toList == key.toList) = false := by simpa using hb2
        have HG : Hid (plcN es key = plcE key at_ (k + 1) (es.drop (k + 1))) := by show _ = _; rw [HPL.out]; simp [sle, slt, hb1, hb2]
        go_wp2_with fail
        go_round
        case rel => exact ⟨k + 1, at_, by omega, by go_num, rfl, by omega, HG.out⟩
        case measure => simp [intOf]; omega
    · obtain rfl : k = es.length := by omega
      have hpe : plcN es key = at_ := by rw [hpl, List.drop_length, plcE]
      by_cases hl : 0 < es.length
      · have hal : at_ < es.length := by omega
        have hget := List.getElem?_eq_getElem hal
        have x0 : W1.cell? ⟨b, o + at_ * 3, none⟩ = some (.string es[at_].key) := hr1.c0 hget rfl
        have ha := hr1.some_ hl
        subst ha
        have HF : Hid (hitN es key = (es[at_].key.toList == key.toList)) := by show _ = _; unfold hitN; rw [hpe, hget]
        have HPE := Lib.hid hpe
        generalize es[at_] = e at x0 HF
        have hd : decide ((0 : Int) < (es.length : Int)) = true := decide_eq_true (by omega)
        have hd2 : decide (0 < es.length) = true := decide_eq_true hl
        have hI : (at_ : Int) < (es.length : Int) := by omega
        have hI0 : (0 : Int) ≤ (at_ : Int) := by omega
        clear hget hpl hpe hat hkl
        go_wp2_with fail
        go_quiet (fail)
        go_wp2
        go_ret2
        refine ⟨?_, tdrewN T0 _⟩
        rw [HF.out, HPE.out]
        rfl
      · have hnil : es = [] := List.length_eq_zero_iff.1 (by omega)
        have HF : Hid (plcN es key = at_ ∧ hitN es key = false) := by
          refine ⟨hpe, ?_⟩
          unfold hitN
          rw [List.getElem?_eq_none (by omega)]
        have hd : decide ((0 : Int) < (es.length : Int)) = false := decide_eq_false (by omega)
        have hd2 : decide (0 < es.length) = false := decide_eq_false hl
        clear hpl hpe hnil hat hkl hl
        go_wp2_with fail
        go_quiet (fail)
        go_wp2
        go_ret2
        refine ⟨?_, tdrewN T0 _⟩
        rw [HF.out.1, HF.out.2]
        rfl
end Go.Proofs.Ytlgfdfpafmopdaa
