/-
  'Open' of package journal: what it answers and what the disk holds behind it. Conditions: the disk is one that New makes, or nil; the count of writes stays below the greatest int64.
-/
import Derived.Test.YtclnhgfionfbbaaGreatDoorCom
namespace Go.Proofs.YtclnhgfionfbbaaGreatDoor
open Go.RowKit
set_option linter.unusedVariables false

/-- What Open answers and leaves. -/
def OpPost (w : World) (b bs : Nat) (room : Int) (D : Ds) (e : Ending) (w' : World) : Prop :=
  Tch [b, bs] w w' ∧ IsDs w' b bs (jopen room D).2 ∧
    (((jopen room D).1 = 0 ∧ ∃ jb, e = .returned (.tuple #[.pointer (some ⟨jb, 0, none⟩), .int .i64 0]) ∧ w.heap.size ≤ jb ∧ IsJn w' jb b room.toNat) ∨
      ((jopen room D).1 ≠ 0 ∧ e = .returned (.tuple #[.pointer none, .int .i64 (jopen room D).1])))
theorem OpPost.no {w w' : World} {b bs : Nat} {room : Int} {D D' : Ds} {c : Int} (h : jopen room D = (c, D')) (hc : c ≠ 0) (t : Tch [b, bs] w w') (hd : IsDs w' b bs D') : OpPost w b bs room D (.returned (.tuple #[.pointer none, .int .i64 c])) w' :=
  ⟨t, by rw [h]; exact hd, Or.inr ⟨by rw [h]; exact hc, by rw [h]⟩⟩
theorem OpPost.yes {w w' : World} {b bs jb : Nat} {room : Int} {D D' : Ds} (h : jopen room D = (0, D')) (t : Tch [b, bs] w w') (hd : IsDs w' b bs D') (hj : w.heap.size ≤ jb) (hn : IsJn w' jb b room.toNat) : OpPost w b bs room D (.returned (.tuple #[.pointer (some ⟨jb, 0, none⟩), .int .i64 0])) w' :=
  ⟨t, by rw [h]; exact hd, Or.inl ⟨by rw [h], jb, rfl, hj, hn⟩⟩

theorem open_nil (room : Int) (w : World) :
    Calls Tryz.prog 11 #[.pointer none, .int .i64 room] w fun e w' => e = .returned (.tuple #[.pointer none, .int .i64 1]) ∧ w = w' := by
  go_enter Tryz.func11, Tryz.ntmps11
  go_wp2_with fail
  go_ret2
  exact ⟨rfl, rfl⟩
theorem open_arg (b bs : Nat) (room : Int) (D : Ds) (w : World) (hd : IsDs w b bs D) (h : room < 1 ∨ 500 < room) :
    Calls Tryz.prog 11 #[.pointer (some ⟨b, 0, none⟩), .int .i64 room] w (OpPost w b bs room D) := by
  have HF := Lib.hid (OpPost.no (w := w) (w' := w) (b := b) (bs := bs) (room := room) (D := D) (D' := D) (c := 2) (by unfold jopen; rw [if_pos h]) (by omega) (Tch.refl _ _) hd)
  clear hd
  by_cases h1 : room < 1
  · clear h
    go_enter Tryz.func11, Tryz.ntmps11
    go_wp2_with fail
    go_ret2
    exact HF.out
  · have h2 : 500 < room := by omega
    have h3 : decide (room < 1) = false := by simpa using h1
    clear h h1
    go_enter Tryz.func11, Tryz.ntmps11
    go_wp2_with fail
    go_ret2
    exact HF.out
theorem open_off (b bs : Nat) (room : Int) (D : Ds) (w : World) (hd : IsDs w b bs D) (h : ¬ (room < 1 ∨ 500 < room)) (hc : D.rcode 0 ≠ 0) :
    Calls Tryz.prog 11 #[.pointer (some ⟨b, 0, none⟩), .int .i64 room] w (OpPost w b bs room D) := by
  have HF : Hid (∀ w1, Tch [b, bs] w w1 → IsDs w1 b bs D → OpPost w b bs room D (.returned (.tuple #[.pointer none, .int .i64 (D.rcode 0)])) w1) := fun w1 t1 h1 => OpPost.no (by unfold jopen; rw [if_neg h, if_pos hc]) hc t1 h1
  have HR := Lib.hid (dread b bs D 0 w hd)
  have hne : (D.rcode 0 != 0) = true := by simpa using hc
  have e1 : decide (room < 1) = false := by simp; omega
  have e2 : decide (500 < room) = false := by simp; omega
  clear hd hc
  generalize D.rcode 0 = c at HR HF hne
  generalize D.rtext 0 = t at HR
  go_enter Tryz.func11, Tryz.ntmps11
  go_wp2_with (first | (go_at_call 27; refine HR.out.mono ?_; rintro e w1 ⟨rfl, hd1, t1⟩))
  go_ret2
  exact HF.out _ (t1.mono (by simp)) hd1

set_option maxRecDepth 100000 in
set_option maxHeartbeats 1000000 in
theorem open_go (b bs room : Nat) (D : Ds) (w : World) (hd : IsDs w b bs D) (h1 : 1 ≤ room) (h5 : room ≤ 500) (hc : D.rcode 0 = 0) (hn : D.done + 502 < 9223372036854775807) :
    Calls Tryz.prog 11 #[.pointer (some ⟨b, 0, none⟩), .int .i64 room] w (OpPost w b bs room D) := by
  have hlen := hd.len
  have hlt := hd.lt
  have hjo : jopen room D = match rhead (D.rtext 0).data.toList room (jlen D room) with
      | none => (32, D)
      | some [] => (0, D)
      | some (a :: l) => fins room (a :: l) D := by
    unfold jopen
    rw [if_neg (by omega), if_neg (by simpa using hc)]
    rfl
  have HJO := Lib.hid hjo
  have HR := Lib.hid (dread b bs D 0 w hd)
  rw [hc] at HR
  have hsz : (D.rtext 0).size ≤ 9223372036854775807 := by
    rw [show D.rtext 0 = D.rtext ((0 : Nat) : Int) from rfl, rcode_of (i := 0) hc, pad_size _ (isds_size hd 0)]
    omega
  clear hjo hc
  generalize hT : D.rtext 0 = t at HR HJO hsz
  clear hT
  have e1 : decide ((room : Int) < 1) = false := by simp; omega
  have e2 : decide ((500 : Int) < (room : Int)) = false := by simp; omega
  go_enter Tryz.func11, Tryz.ntmps11
  go_wp2_with (first | (go_at_call 27; refine HR.out.mono ?_; rintro e w1 ⟨rfl, hd1, t1⟩))
  have T1 : Tch [b, bs] w w1 := t1.mono (by simp)
  have hJ : IsJn (w1.alloc (.cells #[.pointer (some ⟨b, 0, none⟩), .int .i64 room] 84)) w1.heap.size b room := blk_new w1 _
  have hdA := hd1.keep ((Tch.refl [] w1).alloc (.cells #[.pointer (some ⟨b, 0, none⟩), .int .i64 room] 84)) (by simp) (by simp)
  have TA := T1.alloc (.cells #[.pointer (some ⟨b, 0, none⟩), .int .i64 room] 84)
  have hjb := T1.size
  have hsA : w1.heap.size < (w1.alloc (.cells #[.pointer (some ⟨b, 0, none⟩), .int .i64 room] 84)).heap.size := by simp
  generalize w1.alloc (.cells #[.pointer (some ⟨b, 0, none⟩), .int .i64 room] 84) = WA at hJ hdA TA hsA ⊢
  generalize w1.heap.size = jb at hJ hjb hsA ⊢
  have HH := Lib.hid (rhd_any jb b bs room D t WA hJ hdA h5 hsz)
  refine HH.out.mono ?_
  rintro e w2 ⟨t2, hx⟩
  clear HH
  have T2 : Tch [b, bs] w w2 := TA.trans (t2.mono (by simp))
  have hJ2 := hJ.keep t2 (by simp)
  have hd2 := hdA.keep t2 (by simp) (by simp)
  rcases hx with ⟨hr, rfl⟩ | ⟨l, v, hr, rfl, ho⟩
  · have HF := Lib.hid (OpPost.no (w := w) (w' := w2) (b := b) (bs := bs) (room := (room : Int)) (D := D) (D' := D) (c := 32) (by rw [HJO.out, hr]) (by omega) T2 hd2)
    clear hr hd2 T2 hJ2 t2 TA hdA hJ hd1 T1 t1 HJO
    go_wp2_with fail
    go_ret2
    exact HF.out
  · have hlr := rhead_len hr
    have hin := (rhead_in hr).1
    cases l with
    | nil =>
      have HF := Lib.hid (OpPost.yes (w := w) (w' := w2) (b := b) (bs := bs) (room := (room : Int)) (D := D) (D' := D) (jb := jb) (by rw [HJO.out, hr]) T2 hd2 hjb (by simpa using hJ2))
      obtain ⟨x, c, rfl⟩ : ∃ x c, v = .slice x 0 c := by
        rcases ho.2 with ⟨h1, _⟩ | ⟨g, c, cur, h1, _⟩
        · exact ⟨_, _, h1⟩
        · exact ⟨_, _, h1⟩
      clear hr hd2 T2 hJ2 t2 TA hdA hJ hd1 T1 t1 HJO ho hin hlr
      go_wp2_with fail
      go_ret2
      exact HF.out
    | cons a l =>
      have hjo2 : jopen room D = fins room (a :: l) D := by rw [HJO.out, hr]
      have HN : Hid (IsNums w2 v (a :: l)) := own_base ho (Nat.zero_le _)
      have hvb : Hid (∀ k, v.ownBlock = some k → k ∉ [b, bs]) := fun k hk hm => by
        have h1 := (ho.lt k hk).1
        have h2 := TA.size
        simp at hm
        omega
      have hal : ∀ y ∈ a :: l, y < 16384 := fun y hy => by
        have h1 := hin y hy
        unfold jlen at h1
        omega
      have HFN := Lib.hid (fin_any jb b bs room D v (a :: l) w2 hJ2 hd2 (by omega) h5 HN.out hvb.out hlr hal (by omega))
      obtain ⟨x, c, rfl⟩ : ∃ x c, v = .slice x (l.length + 1) c := by
        rcases ho.2 with ⟨h1, h2⟩ | ⟨g, c, cur, h1, _⟩
        · simp at h2
        · exact ⟨_, _, h1⟩
      have hll : l.length + 1 ≤ 500 := by simp at hlr; omega
      have HJ2 := Lib.hid hJ2
      by_cases hc : (fins room (a :: l) D).1 = 0
      · have HF : Hid (∀ w3, Tch [b, bs] w2 w3 → IsDs w3 b bs (fins room (a :: l) D).2 → OpPost w b bs room D (.returned (.tuple #[.pointer (some ⟨jb, 0, none⟩), .int .i64 0])) w3) := fun w3 t3 h3 =>
          OpPost.yes (by rw [hjo2, ← hc]) (T2.trans t3) h3 hjb (by simpa using HJ2.out.keep t3 (by simp; omega))
        have HFN : Hid (Calls Tryz.prog 31 #[.pointer (some ⟨jb, 0, none⟩), .slice x (l.length + 1) c] w2 fun e w' => e = .returned (.int .i64 0) ∧ (IsDs w' b bs (fins room (a :: l) D).2 ∧ Tch [b, bs] w2 w')) := HFN.out.mono fun e w' h => by
          unfold FnPost at h; rw [hc] at h; exact h
        clear hr hd2 T2 hJ2 t2 TA hdA hJ hd1 T1 t1 HJO ho hin hlr hc hjo2 hal HN hvb
        generalize (fins room (a :: l) D).2 = E at HF HFN
        go_wp2_with (first | (go_at_call 31; refine HFN.out.mono ?_; rintro e w3 ⟨rfl, hd3, t3⟩))
        go_ret2
        exact HF.out _ t3 hd3
      · have hne : ((fins room (a :: l) D).1 != 0) = true := by simpa using hc
        have HF : Hid (∀ w3, Tch [b, bs] w2 w3 → IsDs w3 b bs (fins room (a :: l) D).2 → OpPost w b bs room D (.returned (.tuple #[.pointer none, .int .i64 (fins room (a :: l) D).1])) w3) := fun w3 t3 h3 =>
          OpPost.no (by rw [hjo2]) hc (T2.trans t3) h3
        have HFN : Hid (Calls Tryz.prog 31 #[.pointer (some ⟨jb, 0, none⟩), .slice x (l.length + 1) c] w2 fun e w' => e = .returned (.int .i64 (fins room (a :: l) D).1) ∧ (IsDs w' b bs (fins room (a :: l) D).2 ∧ Tch [b, bs] w2 w')) := HFN.out.mono fun e w' h => h
        clear hr hd2 T2 hJ2 t2 TA hdA hJ hd1 T1 t1 HJO ho hin hlr hc hjo2 hal HN hvb
        generalize (fins room (a :: l) D).2 = E at HF HFN
        generalize (fins room (a :: l) D).1 = d at HF HFN hne
        go_wp2_with (first | (go_at_call 31; refine HFN.out.mono ?_; rintro e w3 ⟨rfl, hd3, t3⟩))
        go_ret2
        exact HF.out _ t3 hd3

/-- Open, of whatever room. -/
theorem open_any (b bs : Nat) (room : Int) (D : Ds) (w : World) (hd : IsDs w b bs D) (hn : D.done + 502 < 9223372036854775807) :
    Calls Tryz.prog 11 #[.pointer (some ⟨b, 0, none⟩), .int .i64 room] w (OpPost w b bs room D) := by
  by_cases h : room < 1 ∨ 500 < room
  · exact open_arg b bs room D w hd h
  by_cases hc : D.rcode 0 = 0
  · obtain ⟨r, rfl⟩ := Int.eq_ofNat_of_zero_le (by omega : 0 ≤ room)
    exact open_go b bs r D w hd (by omega) (by omega) hc hn
  · exact open_off b bs room D w hd h hc
end Go.Proofs.YtclnhgfionfbbaaGreatDoor
