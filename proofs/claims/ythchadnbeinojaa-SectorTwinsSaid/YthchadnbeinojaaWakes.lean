/-
  'wakes', the small trial that each law of layer 1 begins with, answers true and turns nothing that was there.
-/
import Derived.Test.YthchadnbeinojaaWrite
import Derived.Test.YthchadnbeinojaaRead
namespace Go.Proofs.Ythchadnbeinojaa
open Go.RowKit
set_option linter.unusedVariables false

/-- The text 'ab'. -/
def tab : ByteArray := ⟨#[97, 98]⟩
theorem tab_pad : (pad tab).size = 1024 := pad_size tab (by decide)
theorem tab_cut : (pad tab).extract 0 3 = ⟨#[97, 98, 0]⟩ := by decide +kernel
theorem tab_ne : (pad tab).toList.isEmpty = false := by decide +kernel

set_option maxRecDepth 100000 in
set_option maxHeartbeats 1000000 in
theorem wakes_any (w : World) :
    Calls Try.prog 12 #[] w fun e w' => e = .returned (.bool true) ∧ Tch [] w w' := by
  have HN := Lib.hid (new_any 2 w (by omega) (by omega))
  rw [show many 2 = 2 from rfl] at HN
  have H1 : Hid (∀ w1, IsDk w1 (w.heap.size + 1) w.heap.size (fresh 2) → _) := fun w1 h => write_at (w.heap.size + 1) w.heap.size (fresh 2) 2 ⟨#[97]⟩ w1 h rfl (by simp [fresh])
  have H2 : Hid (∀ w1, IsDk w1 (w.heap.size + 1) w.heap.size (fresh 2) → _) := fun w1 h => write_ok (w.heap.size + 1) w.heap.size (fresh 2) 1 tab w1 h rfl (by simp [fresh]) (by decide) (by decide) (by decide) (by decide) (by decide) (by decide)
  have H3 : Hid (∀ w1, IsDk w1 (w.heap.size + 1) w.heap.size ((fresh 2).put 1 tab) → _) := fun w1 h => read_full (w.heap.size + 1) w.heap.size ((fresh 2).put 1 tab) 1 (pad tab) w1 h rfl (by simp [fresh, Dk.put]) tab_ne
  have H4 : Hid (∀ w1, IsDk w1 (w.heap.size + 1) w.heap.size ((fresh 2).put 1 tab) → _) := fun w1 h => writes_any (w.heap.size + 1) w.heap.size ((fresh 2).put 1 tab) w1 h (by decide) (by decide)
  have H5 : Hid (∀ w1, IsDk w1 (w.heap.size + 1) w.heap.size ((fresh 2).put 1 tab) → _) := fun w1 h => highest_any (w.heap.size + 1) w.heap.size ((fresh 2).put 1 tab) w1 h (by decide) (by decide)
  rw [show ((fresh 2).put 1 tab).done = 1 from rfl] at H4
  rw [show ((fresh 2).put 1 tab).reach - 1 = 1 from by decide] at H5
  have HP := Lib.hid tab_pad
  have HC := Lib.hid tab_cut
  go_enter Try.func12, Try.ntmps12
  go_wp2_with fail
  refine HN.out.mono ?_
  rintro e w1 ⟨rfl, hd1, t1⟩
  go_wp2_with fail
  refine (H1.out w1 hd1).mono ?_
  rintro e w1' ⟨rfl, rfl⟩
  go_wp2_with fail
  refine (H2.out w1 hd1).mono ?_
  rintro e w2 ⟨rfl, hd2, t2⟩
  go_wp2_with fail
  refine (H3.out w2 hd2).mono ?_
  rintro e w2' ⟨rfl, rfl⟩
  have hp := HP.out
  have hc := HC.out
  go_wp2_with (first | (go_at_call 18; refine (H4.out _ hd2).mono ?_; rintro e w2' ⟨rfl, rfl⟩) | (go_at_call 22; refine (H5.out _ hd2).mono ?_; rintro e w2' ⟨rfl, rfl⟩))
  go_ret
  exact ⟨rfl, t1.transNew t2 (by simp)⟩
end Go.Proofs.Ythchadnbeinojaa
