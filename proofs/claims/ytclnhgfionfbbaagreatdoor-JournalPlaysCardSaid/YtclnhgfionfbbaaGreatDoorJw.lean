/-
  A journal on a disk whose power stays on: Open, Commit and Read of it; and 'wakes' of chandlerlaw03.
-/
import Derived.Test.YtclnhgfionfbbaaGreatDoorOpn
import Derived.Test.YtclnhgfionfbbaaGreatDoorJq
namespace Go.Proofs.YtclnhgfionfbbaaGreatDoor
open Go.RowKit
set_option linter.unusedVariables false

theorem seen_size {w : World} {b bs : Nat} {D : Ds} (h : IsDs w b bs D) : ∀ j, (D.texts.getD j ⟨#[]⟩).size ≤ 1024 := fun j => isds_size h j

theorem jopen_clean {D : Ds} {room : Nat} (hon : D.on = true) (hlen : 0 < D.texts.length) (h6 : D.texts.length ≤ 16384) (hc : Clean D) (h1 : 1 ≤ room) (hr : room ≤ 500) : jopen room D = (0, D) := by
  have hrt : D.rtext 0 = pad (D.texts.getD 0 ⟨#[]⟩) := (rd_in (D := D) (i := 0) hon (by omega) (by omega)).2
  have hrc : D.rcode 0 = 0 := (rd_in (D := D) (i := 0) hon (by omega) (by omega)).1
  unfold jopen
  rw [if_neg (by omega), if_neg (by rw [hrc]; simp), hrt, Int.toNat_natCast, hc, rhead_clean room _ hr (by unfold jlen; omega)]
theorem rep_getD (n j : Nat) : (List.replicate n (⟨#[]⟩ : ByteArray)).getD j ⟨#[]⟩ = ⟨#[]⟩ := by
  rw [List.getD_eq_getElem?_getD, List.getElem?_replicate]
  split <;> rfl
theorem fresh_clean (n : Nat) : Clean (freshD n) := by
  unfold Clean freshD
  simp only
  rw [rep_getD]
theorem fresh_seen (n room : Nat) (h : room + 1 ≤ n) (hr : room ≤ 500) (h6 : n ≤ 16384) : Seen (freshD n) room [] (List.replicate (n - (room + 1)) ⟨#[]⟩) := by
  refine ⟨by simp [freshD]; omega, ?_, fun i hi => ?_⟩
  · have := fresh_clean n
    unfold Clean at this
    rw [this]
    exact rhead_clean room _ hr (by simp; omega)
  · unfold cont freshD
    simp only
    rw [if_neg (by simp), rep_getD, rep_getD]
theorem Seen.clean {D : Ds} {room : Nat} {now : List ByteArray} (h : Seen D room [] now) : jlen D room = now.length := by unfold jlen; rw [h.len]; omega

/-- What a commit that is taken leaves of a disk whose power stays on. -/
def CalmPost (w : World) (b bs room : Nat) (cs : List (Int × ByteArray)) (D : Ds) (now : List ByteArray) (e : Ending) (w' : World) : Prop :=
  e = .returned (.int .i64 0) ∧ ∃ E : Ds, IsDs w' b bs E ∧ E.on = true ∧ E.left = -1 ∧ Seen E room [] (upd now cs) ∧ E.done = D.done + (if cs = [] then 0 else 2 * cs.length + 2) ∧ Tch [b, bs] w w'

theorem commit_calm (jb b bs room : Nat) (D : Ds) (a : Option Addr) (len cap cb o : Nat) (cs : List (Int × ByteArray)) (now : List ByteArray) (w : World) (h : IsJn w jb b room) (hd0 : IsDs w b bs D) (hj : jb ≠ b ∧ jb ≠ bs) (hr : room ≤ 500) (hw : IsChs w a len cb o cs) (hcb : 0 < len → cb ≠ b ∧ cb ≠ bs) (hlm : len ≤ 9223372036854775807)
    (hn : D.done + 1002 < 9223372036854775807) (hon : D.on = true) (hl : D.left = -1) (hs : Seen D room [] now) (h1 : 1 ≤ room) (hlr : cs.length ≤ room) (hck : ckc now.length cs [] = 0) :
    Calls Tryz.prog 13 #[.pointer (some ⟨jb, 0, none⟩), .slice a len cap] w (CalmPost w b bs room cs D now) := by
  have hlen := hd0.len
  have hx := jcommit_seen hon hs h1 hr (by have := hs.len; omega) (seen_size hd0) hlr hck
  obtain ⟨c1, c2, c3⟩ := hx.2 hl
  refine (commit_any jb b bs room D a len cap cb o cs w h hd0 hj hr hw hcb hlm hn).mono ?_
  rintro e w' ⟨rfl, hd, t⟩
  refine ⟨by rw [c1], _, hd, ?_, c2, ?_, c3, t⟩
  · rcases hx.1 with ⟨_, g, _⟩ | ⟨g, _⟩
    · exact g
    · omega
  · rcases hx.1 with ⟨_, _, g⟩ | ⟨g, _⟩
    · exact g
    · omega

/-- What Read answers of a sector. -/
theorem read_seen (jb b bs room : Nat) (D : Ds) (now : List ByteArray) (i : Nat) (w : World) (h : IsJn w jb b room) (hd : IsDs w b bs D) (hr : room ≤ 500) (hon : D.on = true) (hs : Seen D room [] now) (hi : i < now.length) :
    Calls Tryz.prog 14 #[.pointer (some ⟨jb, 0, none⟩), .int .i64 i] w fun e w' => e = .returned (.tuple #[.string (pad (now.getD i ⟨#[]⟩)), .int .i64 0]) ∧ (IsDs w' b bs D ∧ Tch [b] w w') := by
  have hjl := hs.clean
  have hlen := hs.len
  refine (jread_any jb b bs room D i w h hd hr).mono ?_
  rintro e w' ⟨rfl, hd', t'⟩
  refine ⟨?_, hd', t'⟩
  have e1 : jrtext room D i = pad (now.getD i ⟨#[]⟩) := by
    unfold jrtext
    rw [if_neg (by omega), (rd_in (D := D) (i := (room : Int) + 1 + (i : Int)) hon (by omega) (by omega)).2, ← hs.held i hi]
    unfold cont
    rw [if_neg (by simp), show ((room : Int) + 1 + (i : Int)).toNat = room + 1 + i from by omega]
  have e2 : jrcode room D i = 0 := by
    unfold jrcode
    rw [if_neg (by omega), (rd_in (D := D) (i := (room : Int) + 1 + (i : Int)) hon (by omega) (by omega)).1]
  rw [e1, e2]
theorem read_at' (jb b bs room : Nat) (D : Ds) (i : Int) (w : World) (h : IsJn w jb b room) (hd : IsDs w b bs D) (hr : room ≤ 500) (hi : i < 0 ∨ (jlen D room : Nat) ≤ i) :
    Calls Tryz.prog 14 #[.pointer (some ⟨jb, 0, none⟩), .int .i64 i] w fun e w' => e = .returned (.tuple #[.string ⟨#[]⟩, .int .i64 10]) ∧ (IsDs w' b bs D ∧ Tch [b] w w') := by
  refine (jread_any jb b bs room D i w h hd hr).mono ?_
  rintro e w' ⟨rfl, hd', t'⟩
  exact ⟨by unfold jrtext jrcode; rw [if_pos hi, if_pos hi], hd', t'⟩
theorem jopen_seen0 {D : Ds} {room : Nat} {now : List ByteArray} (hon : D.on = true) (hs : Seen D room [] now) (h1 : 1 ≤ room) (hr : room ≤ 500) : jopen room D = (0, D) := by
  have hlen : 0 < D.texts.length := by rw [hs.len]; omega
  have hjl := hs.clean
  have hrt : D.rtext 0 = pad (D.texts.getD 0 ⟨#[]⟩) := (rd_in (D := D) (i := 0) hon (by omega) (by omega)).2
  have hrc : D.rcode 0 = 0 := (rd_in (D := D) (i := 0) hon (by omega) (by omega)).1
  unfold jopen
  rw [if_neg (by omega), if_neg (by rw [hrc]; simp), hrt, Int.toNat_natCast, hjl, hs.head]
/-- Open of a disk on which nothing is under way. -/
theorem open_same (b bs room : Nat) (D : Ds) (w : World) (hd : IsDs w b bs D) (hn : D.done + 502 < 9223372036854775807) (hjo : jopen room D = (0, D)) :
    Calls Tryz.prog 11 #[.pointer (some ⟨b, 0, none⟩), .int .i64 room] w fun e w' => ∃ jb, e = .returned (.tuple #[.pointer (some ⟨jb, 0, none⟩), .int .i64 0]) ∧ (w.heap.size ≤ jb ∧ IsJn w' jb b room ∧ IsDs w' b bs D ∧ Tch [b, bs] w w') := by
  refine (open_any b bs room D w hd hn).mono ?_
  rintro e w' ⟨t, hd', hx⟩
  rw [hjo] at hd' hx
  rcases hx with ⟨_, jb, he, hj, hjn⟩ | ⟨hne, _⟩
  · exact ⟨jb, he, hj, by simpa using hjn, hd', t⟩
  · exact absurd rfl hne
end Go.Proofs.YtclnhgfionfbbaaGreatDoor
