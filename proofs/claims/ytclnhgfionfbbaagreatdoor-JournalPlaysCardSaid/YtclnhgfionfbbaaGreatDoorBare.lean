/-
  'bare' of chandlerref01: the text without the zero bytes at its end; with zero bytes behind it up to 1024 it is the same.
-/
import Derived.Test.YtclnhgfionfbbaaGreatDoorRef
namespace Go.Proofs.YtclnhgfionfbbaaGreatDoor
open Go.RowKit
set_option linter.unusedVariables false

theorem pad_bare (x : ByteArray) (hx : x.size ≤ 1024) (j : Nat) (hj : j ≤ x.size) (hz : ∀ i (h : i < x.size), j ≤ i → x[i]'h = 0) : pad (x.extract 0 j) = pad x ∧ (x.extract 0 j).size ≤ 1024 := by
  have hl : x.data.toList.length = x.size := by rw [Lib.size_eq]
  have hd : (x.extract 0 j).data.toList = x.data.toList.take j := by rw [Lib.extract_data]; simp
  have hs : (x.extract 0 j).size = j := by rw [Lib.size_eq, hd, List.length_take, hl]; omega
  refine ⟨?_, by omega⟩
  apply ba_ext
  show ((x.extract 0 j).data.toList ++ List.replicate (1024 - (x.extract 0 j).size) 0).toArray.toList = (x.data.toList ++ List.replicate (1024 - x.size) 0).toArray.toList
  rw [List.toList_toArray, List.toList_toArray, hd, hs]
  have h2 : x.data.toList.drop j = List.replicate (x.size - j) 0 := by
    apply List.ext_getElem
    · rw [List.length_drop, hl, List.length_replicate]
    · intro i h3 h4
      rw [List.getElem_drop, List.getElem_replicate]
      rw [List.length_drop, hl] at h3
      exact hz (j + i) (by omega) (by omega)
  conv => rhs; rw [← List.take_append_drop j x.data.toList, h2]
  rw [List.append_assoc, List.replicate_append_replicate]
  congr 2
  omega

theorem ext0 (x : ByteArray) : x.extract 0 0 = ByteArray.empty := by
  apply ba_ext
  rw [Lib.extract_data]; simp

/-- What bare answers. -/
def IsBare (x : ByteArray) (e : Ending) : Prop := ∃ j, e = .returned (.string (x.extract 0 j)) ∧ j ≤ x.size ∧ ∀ i (h : i < x.size), j ≤ i → x[i]'h = 0

set_option maxHeartbeats 400000 in
theorem bare_any (x : ByteArray) (w : World) (hx : x.size ≤ 1024) :
    Calls Tryz.prog 44 #[.string x] w fun e w' => IsBare x e ∧ w = w' := by
  go_enter Tryz.func44, Tryz.ntmps44
  go_wp2
  go_loop [3] (fun v3 => ∃ j : Nat, j ≤ x.size ∧ v3 = .int .i64 j ∧ Hid (∀ i (h : i < x.size), j ≤ i → x[i]'h = 0)) (fun v3 => (intOf v3).toNat)
  case atStart => exact ⟨x.size, Nat.le_refl _, rfl, fun i h h2 => by omega⟩
  case round =>
    obtain ⟨j, hj, rfl, HZ⟩ := hrel
    rcases j with _ | q
    · go_wp2
      go_ret
      exact ⟨⟨0, congrArg (fun y => Ending.returned (Value.string y)) (ext0 x).symm, Nat.zero_le _, HZ.out⟩, rfl⟩
    · have hq : q < x.size := by omega
      by_cases hz : x[q] = 0
      · have e1 : (((x[q]'hq).toNat : Int) == 0) = true := by rw [hz]; rfl
        have HZ2 : Hid (∀ i (h : i < x.size), q ≤ i → x[i]'h = 0) := fun i h h2 => by
          by_cases h3 : i = q
          · subst h3; exact hz
          · exact HZ.out i h (by omega)
        clear hz
        rw [show ((q + 1 : Nat) : Int) = (q : Int) + 1 from by omega]
        go_wp2
        go_round
        case rel => exact ⟨q, by omega, rfl, HZ2⟩
        case measure => simp [intOf]
      · have e1 : (((x[q]'hq).toNat : Int) == 0) = false := by
          simp only [beq_eq_false_iff_ne, ne_eq]
          intro h
          apply hz
          apply UInt8.toNat_inj.1
          simpa using h
        clear hz
        rw [show ((q + 1 : Nat) : Int) = (q : Int) + 1 from by omega]
        go_wp2
        go_ret
        exact ⟨⟨q + 1, rfl, hj, HZ.out⟩, rfl⟩
end Go.Proofs.YtclnhgfionfbbaaGreatDoor
