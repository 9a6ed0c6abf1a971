/-
  A disk as the document has it ('Ds': its texts, counts, cut and power), and what each call answers and leaves, as plain functions on it. Condition: the disk is one that New makes; its count of writes is below the greatest int64 at a write.
-/
import Derived.Test.YtclnhgfionfbbaaGreatDoorWrite
import Derived.Test.YtclnhgfionfbbaaGreatDoorRead
namespace Go.Proofs.YtclnhgfionfbbaaGreatDoor
open Go.RowKit
set_option linter.unusedVariables false

/-- A disk as the document has it: the text last written to each sector, empty where none was; 'left' is -1 where no cut is set. -/
structure Ds where
  texts : List ByteArray
  done : Int
  reach : Int
  left : Int
  on : Bool

def Ds.wcode (D : Ds) (i : Int) (x : ByteArray) : Int :=
  if D.on = false then 12 else if i < 0 ∨ D.texts.length ≤ i then 10 else if 1024 < x.size then 11 else if D.left = 0 then 12 else 0
def Ds.wstate (D : Ds) (i : Int) (x : ByteArray) : Ds :=
  if D.on = false then D else if i < 0 ∨ D.texts.length ≤ i then D else if 1024 < x.size then D else if D.left = 0 then { D with on := false }
  else { D with texts := D.texts.set i.toNat x, done := D.done + 1, reach := max D.reach (i + 1), left := tk D.left }
def Ds.rcode (D : Ds) (i : Int) : Int := if D.on = false then 12 else if i < 0 ∨ D.texts.length ≤ i then 10 else 0
def Ds.rtext (D : Ds) (i : Int) : ByteArray := if D.on = false then ⟨#[]⟩ else if i < 0 ∨ D.texts.length ≤ i then ⟨#[]⟩ else pad (D.texts.getD i.toNat ⟨#[]⟩)

theorem repeat_zero : ∀ n, Lib.repeatL [0] n = List.replicate n (0 : UInt8)
  | 0 => rfl
  | n + 1 => by rw [Lib.repeatL, repeat_zero n, List.replicate_succ]; rfl
theorem zer_pad : zer = pad ⟨#[]⟩ := by
  unfold zer pad
  rw [repeat_zero]
  rfl
theorem pad_ne (x : ByteArray) (hx : x.size ≤ 1024) : (pad x).toList.isEmpty = false := by
  have h1 := pad_len x hx
  rw [ByteArray.toList_eq]
  rcases h : (pad x).data.toList with _ | ⟨a, l⟩
  · rw [h] at h1
    simp at h1
  · rfl

/-- The sector's text in memory for the document's. -/
def secOk (s x : ByteArray) : Prop := (s = ⟨#[]⟩ ∧ x = ⟨#[]⟩ ∨ s = pad x) ∧ x.size ≤ 1024

/-- Block b is the disk D, its texts in block bs. -/
def IsDs (w : World) (b bs : Nat) (D : Ds) : Prop :=
  ∃ S : Dk, IsDk w b bs S ∧ S.mu = 0 ∧ (S.once = 0 ∨ S.once = 1 ∧ S.zeros = zer) ∧ S.secs.length = D.texts.length ∧ (∀ (i : Nat) (s x : ByteArray), S.secs[i]? = some s → D.texts[i]? = some x → secOk s x) ∧
    S.done = D.done ∧ S.reach = D.reach ∧ S.left = D.left ∧ S.power = (if D.on then 1 else 0) ∧ 0 ≤ D.done ∧ 0 ≤ D.reach ∧ D.reach ≤ D.texts.length ∧ -1 ≤ D.left ∧ D.left ≤ 9223372036854775807

theorem IsDs.keep {L : List Nat} {w w' : World} {b bs : Nat} {D : Ds} (h : IsDs w b bs D) (t : Tch L w w') (h1 : b ∉ L) (h2 : bs ∉ L) : IsDs w' b bs D := by
  obtain ⟨S, hd, r⟩ := h
  exact ⟨S, hd.keep t h1 h2, r⟩
theorem IsDs.len {w : World} {b bs : Nat} {D : Ds} (h : IsDs w b bs D) : D.texts.length ≤ 16384 := by
  obtain ⟨S, hd, _, _, h, _⟩ := h
  rw [← h]; exact hd.len
theorem IsDs.lt {w : World} {b bs : Nat} {D : Ds} (h : IsDs w b bs D) : b < w.heap.size ∧ bs < w.heap.size ∧ b ≠ bs := by
  obtain ⟨S, hd, _⟩ := h
  exact ⟨lt_of_block hd.blk, lt_of_block hd.arr, hd.ne⟩

def freshD (n : Nat) : Ds := { texts := List.replicate n ⟨#[]⟩, done := 0, reach := 0, left := -1, on := true }

theorem dnew (n : Int) (w : World) (h0 : -9223372036854775808 ≤ n) (h1 : n ≤ 9223372036854775807) :
    Calls Tryz.prog 4 #[.int .i64 n] w fun e w' => e = .returned (.pointer (some ⟨w.heap.size + 1, 0, none⟩)) ∧ (IsDs w' (w.heap.size + 1) w.heap.size (freshD (many n)) ∧ Tch [] w w') := by
  refine (new_any n w h0 h1).mono ?_
  rintro e w' ⟨rfl, hd, t⟩
  refine ⟨rfl, ⟨_, hd, rfl, Or.inl rfl, by simp [fresh, freshD], ?_, rfl, rfl, rfl, rfl, by simp [freshD], by simp [freshD], by simp [freshD], by simp [freshD], by simp [freshD]⟩, t⟩
  intro i s x hs hx
  simp only [fresh, freshD] at hs hx
  rw [List.getElem?_replicate] at hs hx
  by_cases h : i < many n
  · rw [if_pos h] at hs hx
    cases hs; cases hx
    exact ⟨Or.inl ⟨rfl, rfl⟩, by decide⟩
  · rw [if_neg h] at hs
    cases hs

theorem dwrite (b bs : Nat) (D : Ds) (i : Int) (x : ByteArray) (w : World) (hd : IsDs w b bs D) (hn : D.done < 9223372036854775807) :
    Calls Tryz.prog 24 #[.pointer (some ⟨b, 0, none⟩), .int .i64 i, .string x] w fun e w' => e = .returned (.int .i64 (D.wcode i x)) ∧ (IsDs w' b bs (D.wstate i x) ∧ Tch [b, bs] w w') := by
  have hd0 := hd
  obtain ⟨S, hk, hm, ho, hl, hs, h1, h2, h3, h4, h5, h6, h7, h8, h9⟩ := hd
  by_cases hon : D.on = false
  · refine (write_off b bs S i x w hk (by simp [h4, hon])).mono ?_
    rintro e w' ⟨rfl, rfl⟩
    exact ⟨by simp [Ds.wcode, hon], by simpa [Ds.wstate, hon] using hd0, Tch.refl _ _⟩
  · have hp : (S.power == 1) = true := by simp [h4, hon]
    by_cases hi : i < 0 ∨ D.texts.length ≤ i
    · refine (write_at b bs S i x w hk hp (by rw [hl]; exact hi)).mono ?_
      rintro e w' ⟨rfl, rfl⟩
      refine ⟨by simp only [Ds.wcode]; rw [if_neg hon, if_pos hi], by simp only [Ds.wstate]; rw [if_neg hon, if_pos hi]; exact hd0, Tch.refl _ _⟩
    · obtain ⟨j, rfl⟩ := Int.eq_ofNat_of_zero_le (by omega : 0 ≤ i)
      have hj : j < S.secs.length := by omega
      by_cases hx : 1024 < x.size
      · refine (write_long b bs S j x w hk hp hj hx).mono ?_
        rintro e w' ⟨rfl, rfl⟩
        refine ⟨by simp only [Ds.wcode]; rw [if_neg hon, if_neg hi, if_pos hx], by simp only [Ds.wstate]; rw [if_neg hon, if_neg hi, if_pos hx]; exact hd0, Tch.refl _ _⟩
      · by_cases hc : D.left = 0
        · refine (write_cut b bs S j x w hk hp hj (by omega) (by rw [h3]; exact hc)).mono ?_
          rintro e w' ⟨rfl, hk', t'⟩
          refine ⟨by simp only [Ds.wcode]; rw [if_neg hon, if_neg hi, if_neg hx, if_pos hc], ?_, t'.mono (by simp)⟩
          simp only [Ds.wstate]; rw [if_neg hon, if_neg hi, if_neg hx, if_pos hc]
          exact ⟨_, hk', hm, ho, hl, hs, h1, h2, h3, rfl, h5, h6, h7, h8, h9⟩
        · refine (write_ok b bs S j x w hk hp hj (by omega) (by rw [h3]; exact hc) (by omega) (by omega) (by omega) (by omega)).mono ?_
          rintro e w' ⟨rfl, hk', t'⟩
          refine ⟨by simp only [Ds.wcode]; rw [if_neg hon, if_neg hi, if_neg hx, if_neg hc], ?_, t'⟩
          simp only [Ds.wstate]; rw [if_neg hon, if_neg hi, if_neg hx, if_neg hc]
          refine ⟨_, hk', hm, ho, by simp [Dk.put, hl], ?_, by simp [Dk.put, h1], by simp [Dk.put, h2], by simp [Dk.put, h3], h4, by simp; omega, by simp; omega, by simp; omega, by simp only [tk]; split <;> omega, by simp only [tk]; split <;> omega⟩
          intro q s y hq hy
          simp only [Dk.put, Int.toNat_natCast] at hq hy
          rw [List.getElem?_set] at hq hy
          by_cases hqj : j = q
          · rw [if_pos hqj, if_pos hj] at hq
            rw [if_pos hqj, if_pos (by omega)] at hy
            cases hq; cases hy
            exact ⟨Or.inr rfl, by omega⟩
          · rw [if_neg hqj] at hq hy
            exact hs q s y hq hy

theorem dread (b bs : Nat) (D : Ds) (i : Int) (w : World) (hd : IsDs w b bs D) :
    Calls Tryz.prog 27 #[.pointer (some ⟨b, 0, none⟩), .int .i64 i] w fun e w' => e = .returned (.tuple #[.string (D.rtext i), .int .i64 (D.rcode i)]) ∧ (IsDs w' b bs D ∧ Tch [b] w w') := by
  have hd0 := hd
  obtain ⟨S, hk, hm, ho, hl, hs, h1, h2, h3, h4, h5, h6, h7, h8, h9⟩ := hd
  by_cases hon : D.on = false
  · refine (read_off b bs S i w hk (by simp [h4, hon])).mono ?_
    rintro e w' ⟨rfl, rfl⟩
    exact ⟨by simp [Ds.rcode, Ds.rtext, hon], hd0, Tch.refl _ _⟩
  · have hp : (S.power == 1) = true := by simp [h4, hon]
    by_cases hi : i < 0 ∨ D.texts.length ≤ i
    · refine (read_at b bs S i w hk hp (by rw [hl]; exact hi)).mono ?_
      rintro e w' ⟨rfl, rfl⟩
      exact ⟨by simp only [Ds.rcode, Ds.rtext]; rw [if_neg hon, if_pos hi, if_neg hon, if_pos hi], hd0, Tch.refl _ _⟩
    · obtain ⟨j, rfl⟩ := Int.eq_ofNat_of_zero_le (by omega : 0 ≤ i)
      have hj : j < S.secs.length := by omega
      have hj2 : j < D.texts.length := by omega
      have hsj : S.secs[j]? = some S.secs[j] := List.getElem?_eq_getElem hj
      have hxj : D.texts[j]? = some D.texts[j] := List.getElem?_eq_getElem hj2
      obtain ⟨hso, hxs⟩ := hs j _ _ hsj hxj
      have hr : D.rtext (j : Int) = pad D.texts[j] := by
        simp only [Ds.rtext]; rw [if_neg hon, if_neg hi]; simp [List.getD_eq_getElem?_getD, hxj]
      have hc : D.rcode (j : Int) = 0 := by simp only [Ds.rcode]; rw [if_neg hon, if_neg hi]
      rw [hr, hc]
      rcases hso with ⟨e1, e2⟩ | e1
      · refine (read_zero b bs S j S.secs[j] w hk hp hsj (by rw [e1, ByteArray.toList_eq]; rfl) ho hm).mono ?_
        rintro e w' ⟨rfl, hk', t'⟩
        refine ⟨by rw [e2, zer_pad], ⟨_, hk', hm, Or.inr ⟨rfl, rfl⟩, hl, hs, h1, h2, h3, h4, h5, h6, h7, h8, h9⟩, t'⟩
      · refine (read_full b bs S j S.secs[j] w hk hp hsj (by rw [e1]; exact pad_ne _ hxs)).mono ?_
        rintro e w' ⟨rfl, rfl⟩
        exact ⟨by rw [e1], hd0, Tch.refl _ _⟩

theorem dcut (b bs : Nat) (D : Ds) (n : Int) (w : World) (hd : IsDs w b bs D) (h0 : -9223372036854775808 ≤ n) (h1 : n ≤ 9223372036854775807) :
    Calls Tryz.prog 21 #[.pointer (some ⟨b, 0, none⟩), .int .i64 n] w fun e w' => e = .returned (.tuple #[]) ∧ (IsDs w' b bs { D with left := max n 0 } ∧ Tch [b] w w') := by
  obtain ⟨S, hk, hm, ho, hl, hs, k1, h2, h3, h4, h5, h6, h7, h8, h9⟩ := hd
  refine (cut_any b bs S n w hk h0 h1).mono ?_
  rintro e w' ⟨rfl, hk', t'⟩
  exact ⟨rfl, ⟨_, hk', hm, ho, hl, hs, k1, h2, rfl, h4, h5, h6, h7, by simp; omega, by simp; omega⟩, t'⟩
theorem dstart (b bs : Nat) (D : Ds) (w : World) (hd : IsDs w b bs D) :
    Calls Tryz.prog 10 #[.pointer (some ⟨b, 0, none⟩)] w fun e w' => e = .returned (.tuple #[]) ∧ (IsDs w' b bs { D with left := -1, on := true } ∧ Tch [b] w w') := by
  obtain ⟨S, hk, hm, ho, hl, hs, k1, h2, h3, h4, h5, h6, h7, h8, h9⟩ := hd
  refine (start_any b bs S w hk).mono ?_
  rintro e w' ⟨rfl, hk', t'⟩
  exact ⟨rfl, ⟨_, hk', hm, ho, hl, hs, k1, h2, rfl, rfl, h5, h6, h7, by simp, by simp⟩, t'⟩
theorem don (b bs : Nat) (D : Ds) (w : World) (hd : IsDs w b bs D) :
    Calls Tryz.prog 26 #[.pointer (some ⟨b, 0, none⟩)] w fun e w' => e = .returned (.bool D.on) ∧ w = w' := by
  obtain ⟨S, hk, hm, ho, hl, hs, k1, h2, h3, h4, h5, h6, h7, h8, h9⟩ := hd
  refine (on_any b bs S w hk).mono ?_
  rintro e w' ⟨rfl, rfl⟩
  exact ⟨by rw [h4]; cases D.on <;> rfl, rfl⟩
theorem dlen (b bs : Nat) (D : Ds) (w : World) (hd : IsDs w b bs D) :
    Calls Tryz.prog 32 #[.pointer (some ⟨b, 0, none⟩)] w fun e w' => e = .returned (.int .i64 D.texts.length) ∧ w = w' := by
  obtain ⟨S, hk, hm, ho, hl, hs, k1, h2, h3, h4, h5, h6, h7, h8, h9⟩ := hd
  refine (len_any b bs S w hk).mono ?_
  rintro e w' ⟨rfl, rfl⟩
  exact ⟨by rw [hl], rfl⟩
theorem dwrites (b bs : Nat) (D : Ds) (w : World) (hd : IsDs w b bs D) (hn : D.done ≤ 9223372036854775807) :
    Calls Tryz.prog 15 #[.pointer (some ⟨b, 0, none⟩)] w fun e w' => e = .returned (.int .i64 D.done) ∧ w = w' := by
  obtain ⟨S, hk, hm, ho, hl, hs, k1, h2, h3, h4, h5, h6, h7, h8, h9⟩ := hd
  refine (writes_any b bs S w hk (by omega) (by omega)).mono ?_
  rintro e w' ⟨rfl, rfl⟩
  exact ⟨by rw [k1], rfl⟩
theorem ba_ext {a b : ByteArray} (h : a.data.toList = b.data.toList) : a = b := by
  cases a; cases b; simp at h; subst h; rfl
theorem pad_cut (x : ByteArray) (hx : x.size ≤ 1024) : (pad x).extract 0 x.size = x := by
  apply ba_ext
  rw [Lib.extract_data, List.drop_zero, Nat.sub_zero]
  show List.take x.size ((x.data.toList ++ List.replicate (1024 - x.size) 0).toArray).toList = _
  rw [List.toList_toArray, List.take_append_of_le_length (by rw [Lib.size_eq]; exact Nat.le_refl _), List.take_of_length_le (by rw [Lib.size_eq]; exact Nat.le_refl _)]
theorem wcode_in {D : Ds} {i : Int} {x : ByteArray} (hon : D.on = true) (h0 : 0 ≤ i) (h1 : i < D.texts.length) (hx : x.size ≤ 1024) (hl : D.left ≠ 0) : D.wcode i x = 0 := by
  simp only [Ds.wcode]; rw [if_neg (by simp [hon]), if_neg (by omega), if_neg (by omega), if_neg hl]
theorem wstate_in {D : Ds} {i : Int} {x : ByteArray} (hon : D.on = true) (h0 : 0 ≤ i) (h1 : i < D.texts.length) (hx : x.size ≤ 1024) (hl : D.left ≠ 0) : D.wstate i x = { D with texts := D.texts.set i.toNat x, done := D.done + 1, reach := max D.reach (i + 1), left := tk D.left } := by
  simp only [Ds.wstate]; rw [if_neg (by simp [hon]), if_neg (by omega), if_neg (by omega), if_neg hl]
theorem wcode_long {D : Ds} {i : Int} {x : ByteArray} (hon : D.on = true) (h0 : 0 ≤ i) (h1 : i < D.texts.length) (hx : 1024 < x.size) : D.wcode i x = 11 ∧ D.wstate i x = D := by
  simp only [Ds.wcode, Ds.wstate]; rw [if_neg (by simp [hon]), if_neg (by omega), if_pos (by omega), if_neg (by simp [hon]), if_neg (by omega), if_pos (by omega)]; exact ⟨rfl, rfl⟩
theorem wcode_off {D : Ds} {i : Int} {x : ByteArray} (hon : D.on = false) : D.wcode i x = 12 ∧ D.wstate i x = D := by
  simp only [Ds.wcode, Ds.wstate]; rw [if_pos hon, if_pos hon]; exact ⟨rfl, rfl⟩
theorem wcode_cut {D : Ds} {i : Int} {x : ByteArray} (hon : D.on = true) (h0 : 0 ≤ i) (h1 : i < D.texts.length) (hx : x.size ≤ 1024) (hl : D.left = 0) : D.wcode i x = 12 ∧ D.wstate i x = { D with on := false } := by
  simp only [Ds.wcode, Ds.wstate]; rw [if_neg (by simp [hon]), if_neg (by omega), if_neg (by omega), if_pos hl, if_neg (by simp [hon]), if_neg (by omega), if_neg (by omega), if_pos hl]; exact ⟨rfl, rfl⟩
theorem rd_in {D : Ds} {i : Int} (hon : D.on = true) (h0 : 0 ≤ i) (h1 : i < D.texts.length) : D.rcode i = 0 ∧ D.rtext i = pad (D.texts.getD i.toNat ⟨#[]⟩) := by
  simp only [Ds.rcode, Ds.rtext]; rw [if_neg (by simp [hon]), if_neg (by omega), if_neg (by simp [hon]), if_neg (by omega)]; exact ⟨rfl, rfl⟩
theorem rd_off {D : Ds} {i : Int} (hon : D.on = false) : D.rcode i = 12 ∧ D.rtext i = ⟨#[]⟩ := by
  simp only [Ds.rcode, Ds.rtext]; rw [if_pos hon, if_pos hon]; exact ⟨rfl, rfl⟩
end Go.Proofs.YtclnhgfionfbbaaGreatDoor
