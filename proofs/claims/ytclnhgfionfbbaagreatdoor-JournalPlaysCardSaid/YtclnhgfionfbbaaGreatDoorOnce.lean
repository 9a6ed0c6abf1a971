/-
  The sector of zeros, made once: '(*Disk).zeroSector' answers 1024 zero bytes, whether it is asked for the first time or again. Conditions: the disk's block is one that New makes, its sync.Once is done or free.
-/
import Derived.Test.YtclnhgfionfbbaaGreatDoorAtom
import Derived.Test.YtclnhgfionfbbaaGreatDoorBase
import Derived.Test.YtclnhgfionfbbaaGreatDoorShelf
import Derived.Deep.RegionWith
import Derived.Deep.DeepMust
namespace Go.Proofs.YtclnhgfionfbbaaGreatDoor
open Go.RowKit
set_option linter.unusedVariables false

set_option maxHeartbeats 400000 in
/-- The closure that zeroSector hands to its sync.Once. -/
theorem zclo (p b bs : Nat) (S : Dk) (w : World) (hd : IsDk w b bs S) (hp : w.heap[p]? = some (.cells #[.pointer (some ⟨b, 0, none⟩)] 24 (0, 0))) :
    Calls Tryz.prog 58 #[.pointer (some ⟨p, 0, none⟩)] w fun e w' => e = .returned (.tuple #[]) ∧ (IsDk w' b bs { S with zeros := zer } ∧ Tch [b] w w') := by
  have c8 := hd.c8
  have z8 := hd.z 8
  have hp0 := cell_of_one hp
  have hpl := lt_of_block hp
  have hbl := lt_of_block hd.blk
  have key : ∀ w1, Below w.heap.size w w1 → IsDk (w1.setCell ⟨b, 8, none⟩ (.string zer)) b bs { S with zeros := zer } ∧ Tch [b] w (w1.setCell ⟨b, 8, none⟩ (.string zer)) := fun w1 hb =>
    ⟨((hd.keep (Tch.ofBelow hb) (by simp) (by simp)).set 8 _ rfl rfl), ((Tch.ofBelow hb).mono (by simp)).setCell (by simp) _⟩
  go_enter Tryz.func58, Tryz.ntmps58
  go_wp2
  go_region_with (go_at_call 59; refine (Tryz.strings_Repeat _ 1024 _ (by omega) (by decide)).mono ?_; rintro e w1 ⟨rfl, hb1⟩; have q0 := (cell_later hb1 hp0); have q1 := (cell_later hb1 c8); have q2 := (hb1.frozen (p := ⟨b, 8, none⟩) hbl).trans z8)
  all_goals
    go_wp2
    go_end0
    exact ⟨rfl, key w1 ⟨hb1.os, hb1.tape, hb1.output, hb1.size, hb1.block⟩⟩

set_option maxRecDepth 100000 in
set_option maxHeartbeats 800000 in
/-- '(*sync.Once).doSlow' with that closure, not yet done, the lock free. -/
theorem zslow (p b bs : Nat) (S : Dk) (w : World) (hd : IsDk w b bs S) (ho : S.once = 0) (hm : S.mu = 0) (hp : w.heap[p]? = some (.cells #[.pointer (some ⟨b, 0, none⟩)] 24 (0, 0))) (hpb : p ≠ b) :
    Calls Tryz.prog 70 #[.pointer (some ⟨b, 5, none⟩), .func (.func 58) #[] #[.pointer (some ⟨p, 0, none⟩)]] w fun e w' => e = .returned (.tuple #[]) ∧ (IsDk w' b bs { S with zeros := zer, once := 1, mu := 0 } ∧ Tch [b] w w') := by
  have hnot : ∀ (x : Bool) (w : World), (Op.unary .not (.bool x)).run Tryz.prog w = .ok (.bool (!x)) w := fun _ _ => rfl
  have c6 := hd.c6
  have z6 := hd.z 6
  rw [hm] at c6
  have H1 := Lib.hid (hd.set6 1)
  have c5 := H1.out.c5
  rw [show Dk.once { S with mu := 1 } = 0 from ho] at c5
  have c6' := H1.out.c6
  have hp1 := blk_other hp hpb 6 (.int .i32 1)
  clear ho hm
  go_enter_defers Tryz.func70, Tryz.ntmps70
  go_wp2_with (first | (go_at_call 81; refine (lock_free ⟨b, 6, none⟩ _ c6 z6).mono ?_; rintro e w' ⟨rfl, rfl⟩) | (go_at_call 69; refine (bld ⟨b, 5, none⟩ 0 _ c5 false rfl).mono ?_; rintro e w' ⟨rfl, rfl⟩) | (go_at_call 58; refine (zclo p b bs _ _ H1.out hp1).mono ?_; rintro e w1 ⟨rfl, hd1, t1⟩))
  refine leaves_cons (f := 83) (args := #[.pointer (some ⟨b, 5, none⟩), .bool true]) (by simp) (by simp [go_sem]) ?_
  refine (bst_deferred ⟨b, 5, none⟩ _ .returning _ hd1.c5 (hd1.z 5)).mono ?_
  rintro e u' w'' ⟨rfl, rfl, rfl⟩
  have hd2 := hd1.drew.set5 1
  have t2 := t1.drew.setCell (p := ⟨b, 5, none⟩) (by simp) (.int .u32 1)
  refine leaves_cons (f := 82) (args := #[.pointer (some ⟨b, 6, none⟩)]) (by simp [settle]) (by simp [go_sem]) ?_
  refine (unlock_deferred ⟨b, 6, none⟩ _ _ hd2.c6 (hd2.z 6)).mono ?_
  rintro e u' w'' ⟨rfl, rfl, rfl⟩
  have hd3 := hd2.set6 0
  have t3 := t2.setCell (p := ⟨b, 6, none⟩) (by simp) (.int .i32 0)
  have t4 : Tch [b] w (w.setCell ⟨b, 6, none⟩ (.int .i32 1)) := (Tch.refl _ _).setCell (by simp) _
  have hfin := And.intro hd3 (t4.trans t3)
  clear hd3 t3 t4 hd2 t2 t1 hd1
  exact ⟨_, results_none rfl _ _ _, rfl, hfin⟩

set_option maxRecDepth 100000 in
set_option maxHeartbeats 800000 in
/-- '(*sync.Once).Do' with that closure: behind it the zeros are there. -/
theorem zdo (p b bs : Nat) (S : Dk) (w : World) (hd : IsDk w b bs S) (ho : S.once = 0 ∨ S.once = 1 ∧ S.zeros = zer) (hm : S.mu = 0) (hp : w.heap[p]? = some (.cells #[.pointer (some ⟨b, 0, none⟩)] 24 (0, 0))) (hpb : p ≠ b) :
    Calls Tryz.prog 57 #[.pointer (some ⟨b, 5, none⟩), .func (.func 58) #[] #[.pointer (some ⟨p, 0, none⟩)]] w fun e w' => e = .returned (.tuple #[]) ∧ (IsDk w' b bs { S with zeros := zer, once := 1 } ∧ Tch [b] w w') := by
  have hnot : ∀ (x : Bool) (w : World), (Op.unary .not (.bool x)).run Tryz.prog w = .ok (.bool (!x)) w := fun _ _ => rfl
  have c5 := hd.c5
  rcases ho with ho | ⟨ho, hz⟩
  · have HS := Lib.hid (fun w0 h0 => (zslow p b bs S w0 h0 ho hm))
    rw [ho] at c5
    have HM := Lib.hid hm
    clear ho hm
    go_enter Tryz.func57, Tryz.ntmps57
    go_wp2_with (first | (go_at_call 69; refine (bld ⟨b, 5, none⟩ 0 _ c5 false rfl).mono ?_; rintro e w' ⟨rfl, rfl⟩) | (go_at_call 70; refine (HS.out w hd hp hpb).mono ?_; rintro e w1 ⟨rfl, hd1, t1⟩))
    go_end0
    refine ⟨rfl, ?_, t1⟩
    have hm := HM.out
    cases S
    simp only at hm
    subst hm
    exact hd1
  · rw [ho] at c5
    have HF := Lib.hid (show IsDk w b bs { S with zeros := zer, once := 1 } from by rw [← ho, ← hz]; exact hd)
    clear ho hm hz
    go_enter Tryz.func57, Tryz.ntmps57
    go_wp2_with (first | (go_at_call 69; refine (bld ⟨b, 5, none⟩ 1 _ c5 true rfl).mono ?_; rintro e w' ⟨rfl, rfl⟩))
    go_end0
    exact ⟨rfl, HF.out, Tch.refl _ _⟩

set_option maxRecDepth 100000 in
set_option maxHeartbeats 800000 in
/-- '(*Disk).zeroSector'. -/
theorem zsec (b bs : Nat) (S : Dk) (w : World) (hd : IsDk w b bs S) (ho : S.once = 0 ∨ S.once = 1 ∧ S.zeros = zer) (hm : S.mu = 0) :
    Calls Tryz.prog 45 #[.pointer (some ⟨b, 0, none⟩)] w fun e w' => e = .returned (.string zer) ∧ (IsDk w' b bs { S with zeros := zer, once := 1 } ∧ Tch [b] w w') := by
  have hmf : ∀ (fn : Fn) (first cap : Array Value) (w : World), (Instr.makeFunc fn first cap).run Tryz.prog w = .ok (.func fn first cap) w := fun _ _ _ _ => rfl
  have t0 : Tch [b] w (w.alloc (.cells #[.pointer (some ⟨b, 0, none⟩)] 24)) := (Tch.refl _ _).alloc _
  have hp := blk_new w (.cells #[.pointer (some ⟨b, 0, none⟩)] 24)
  have hpb : w.heap.size ≠ b := by have := lt_of_block hd.blk; omega
  have hd0 := hd.keep ((Tch.refl [] w).alloc (.cells #[.pointer (some ⟨b, 0, none⟩)] 24)) (by simp) (by simp)
  have hp0 := cell_of_one hp
  have HD := Lib.hid (zdo w.heap.size b bs S _ hd0 ho hm hp hpb)
  have c8 : ∀ w1, Tch [b] (w.alloc (.cells #[.pointer (some ⟨b, 0, none⟩)] 24)) w1 → w1.cell? ⟨w.heap.size, 0, none⟩ = some (.pointer (some ⟨b, 0, none⟩)) := fun w1 t => cell_of_one (t.keep hp (by simpa using hpb))
  clear ho hm hd hd0
  go_enter Tryz.func45, Tryz.ntmps45
  go_wp2_with (first | (go_at_call 57; refine HD.out.mono ?_; rintro e w1 ⟨rfl, hd1, t1⟩; have q1 := c8 w1 t1; have q2 := hd1.c8; clear c8 hp0))
  go_ret
  exact ⟨rfl, hd1, t0.trans t1⟩
end Go.Proofs.YtclnhgfionfbbaaGreatDoor
