/-
  Read of the document's own disk. Condition: the disk is one that its New makes.
-/
import Derived.Test.YtclnhgfionfbbaaGreatDoorRefW
import Derived.Lib.SmallJoins
namespace Go.Proofs.YtclnhgfionfbbaaGreatDoor
open Go.RowKit
set_option linter.unusedVariables false

theorem rread_off (b bs : Nat) (R : Rk) (i : Int) (w : World) (hd : IsRk w b bs R) (ho : R.off = true) :
    Calls Tryz.prog 28 #[.pointer (some ⟨b, 0, none⟩), .int .i64 i] w fun e w' => e = .returned (.tuple #[.string ⟨#[]⟩, .int .i64 12]) ∧ w = w' := by
  have c5 := hd.c5
  rw [ho] at c5
  go_enter Tryz.func28, Tryz.ntmps28
  go_wp2_with fail
  go_ret2
  exact ⟨rfl, rfl⟩
theorem rread_at (b bs : Nat) (R : Rk) (i : Int) (w : World) (hd : IsRk w b bs R) (ho : R.off = false) (hi : i < 0 ∨ R.secs.length ≤ i) :
    Calls Tryz.prog 28 #[.pointer (some ⟨b, 0, none⟩), .int .i64 i] w fun e w' => e = .returned (.tuple #[.string ⟨#[]⟩, .int .i64 10]) ∧ w = w' := by
  have c5 := hd.c5
  have c0 := hd.c0
  rw [ho] at c5
  by_cases h : i < 0
  · go_enter Tryz.func28, Tryz.ntmps28
    go_wp2_with fail
    go_ret2
    exact ⟨rfl, rfl⟩
  · have h1 : decide (i < 0) = false := by simpa using h
    have h2 : (R.secs.length : Int) ≤ i := by omega
    go_enter Tryz.func28, Tryz.ntmps28
    go_wp2_with fail
    go_ret2
    exact ⟨rfl, rfl⟩

theorem tchDrewN {L : List Nat} {a w : World} (h : Tch L a w) (n : Nat) : Tch L a (w.drewN n) := ⟨h.os, h.tape, h.output, h.size, h.block⟩
/-- n zero bytes. -/
def zers (n : Nat) : ByteArray := ⟨(List.replicate n 0).toArray⟩
theorem pad_zers (s : ByteArray) : s ++ zers (1024 - s.size) = pad s := by
  apply ba_ext
  show (s ++ zers (1024 - s.size)).data.toList = (s.data.toList ++ List.replicate (1024 - s.size) 0).toArray.toList
  rw [List.toList_toArray, Joins.data_append]
  rfl
theorem Tryz.info_u8z : (Tryz.prog.info? 5).map (fun i => (i.zero, i.size, i.bytes)) = some (some (.int .u8 0), 1, 1) := by kernel_rfl
theorem made_bytes (n : Nat) : madeCells #[Value.int .u8 0] n = ((List.replicate n (0 : Int)).map (Value.int .u8)).toArray := by
  apply Array.ext
  · simp [madeCells]
  · intro i h1 h2
    simp [madeCells, Nat.mod_one]
theorem conv_zers (n g c : Nat) (w : World) (h : w.heap[g]? = some (.cells (madeCells #[.int .u8 0] n) 5 (0, 0))) :
    (convert 104 9 (.slice (some ⟨g, 0, none⟩) n c)).run Tryz.prog w = .ok (.string (zers n)) w := by
  rw [run_convert_bytes_string _ _ _ 5 _ _ _ Tryz.underlying104 Tryz.underlying5 Tryz.underlying9]
  rw [made_bytes] at h
  have hl := run_loadCells_list (P := Tryz.prog) (w := w) ⟨g, 0, none⟩ ((List.replicate n (0 : Int)).map (Value.int .u8)) (by
    intro j v hj
    rw [add_mk, blk_cell h, Nat.zero_add, List.getElem?_toArray]
    exact hj)
  rw [List.length_map, List.length_replicate] at hl
  rw [run_bytesToString _ _ n c _ hl]
  have e : (List.replicate n (0 : Int)) = (List.replicate n (0 : UInt8)).map fun b => (b.toNat : Int) := by rw [List.map_replicate]; rfl
  rw [e, foldl_push]
  rfl

set_option maxRecDepth 100000 in
set_option maxHeartbeats 1000000 in
theorem rread_ok (b bs : Nat) (R : Rk) (i : Nat) (s : ByteArray) (w : World) (hd : IsRk w b bs R) (ho : R.off = false) (hs : R.secs[i]? = some s) (hx : s.size ≤ 1024) :
    Calls Tryz.prog 28 #[.pointer (some ⟨b, 0, none⟩), .int .i64 i] w fun e w' => e = .returned (.tuple #[.string (pad s), .int .i64 0]) ∧ Tch [] w w' := by
  have hi : i < R.secs.length := (List.getElem?_eq_some_iff.1 hs).1
  have c5 := hd.c5
  have c0 := hd.c0
  have ci := hd.sc i s hs
  rw [ho] at c5
  have h1 : decide ((i : Int) < 0) = false := by simp
  have h2 : decide ((R.secs.length : Int) ≤ (i : Int)) = false := by simp; omega
  have h3 : decide (R.secs.length ≤ i) = false := by simp [hi]
  have hi2 : (i : Int) < (R.secs.length : Int) := by omega
  obtain ⟨i0, hi0, hz0, hz1, hz2⟩ := info_parts Tryz.info_u8z
  have hmk := run_make (P := Tryz.prog) w 104 5 i0 (.int .u8 0) Tryz.underlying104 hi0 hz0 .i64 .i64 (1024 - (s.size : Int)) (1024 - (s.size : Int)) (by omega) (by omega) (by rw [hz2]; omega) (by omega)
  rw [hz1, Nat.mul_one, show (1024 - (s.size : Int)).toNat = 1024 - s.size from by omega, show Value.cells (.int .u8 0) = #[.int .u8 0] from rfl] at hmk
  have hcv : ∀ w2 : World, w2.heap[w.heap.size]? = some (.cells (madeCells #[.int .u8 0] (1024 - s.size)) 5 (0, 0)) → (convert 104 9 (.slice (some ⟨w.heap.size, 0, none⟩) (1024 - s.size) (1024 - s.size))).run Tryz.prog w2 = .ok (.string (zers (1024 - s.size))) w2 := fun w2 h => conv_zers _ _ _ w2 h
  have hcv1 : ∀ n, (convert 104 9 (.slice (some ⟨w.heap.size, 0, none⟩) (1024 - s.size) (1024 - s.size))).run Tryz.prog ((w.alloc (.cells (madeCells #[.int .u8 0] (1024 - s.size)) 5)).drewN n) = .ok (.string (zers (1024 - s.size))) ((w.alloc (.cells (madeCells #[.int .u8 0] (1024 - s.size)) 5)).drewN n) := fun n => hcv _ (blk_new w (.cells (madeCells #[.int .u8 0] (1024 - s.size)) 5))
  have HP := Lib.hid (pad_zers s)
  have hs2 := Lib.hid hs
  clear hi0 hz0 hz1 hz2 hcv hs ho
  go_enter Tryz.func28, Tryz.ntmps28
  go_wp2_with fail
  have hdw := hd.keep ((Tch.refl [] w).alloc (.cells (madeCells #[.int .u8 0] (1024 - s.size)) 5)) (by simp) (by simp)
  have t0 := (Tch.refl [] w).alloc (.cells (madeCells #[.int .u8 0] (1024 - s.size)) 5)
  have d0 := hdw.c0
  have di := hdw.sc i s hs2.out
  clear hmk c0 ci c5 hdw
  generalize w.alloc (.cells (madeCells #[.int .u8 0] (1024 - s.size)) 5) = W1 at hcv1 d0 di t0 ⊢
  generalize w.heap.size = g at hcv1 ⊢
  have hsum : ¬ 9223372036854775807 < s.size + (zers (1024 - s.size)).size := by
    have : (zers (1024 - s.size)).size = 1024 - s.size := by rw [Lib.size_eq]; simp [zers]
    omega
  go_quiet (fail)
  go_wp2
  go_ret2
  exact ⟨by rw [HP.out]; rfl, tchDrewN t0 _⟩

/-! ### The document's disk as 'Ds' -/

/-- Block b is the document's disk D, its texts in block bs. -/
def IsRf (w : World) (b bs : Nat) (D : Ds) : Prop :=
  ∃ R : Rk, IsRk w b bs R ∧ R.secs.length = D.texts.length ∧ (∀ (i : Nat) (s x : ByteArray), R.secs[i]? = some s → D.texts[i]? = some x → s.size ≤ 1024 ∧ pad s = pad x) ∧
    R.done = D.done ∧ R.high = D.reach - 1 ∧ R.off = !D.on ∧ (R.set = true → D.left = R.left ∧ 0 ≤ R.left) ∧ (R.set = false → D.left = -1) ∧ 0 ≤ D.done ∧ D.left ≤ 9223372036854775807 ∧ 0 ≤ D.reach

theorem IsRf.keep {L : List Nat} {w w' : World} {b bs : Nat} {D : Ds} (h : IsRf w b bs D) (t : Tch L w w') (h1 : b ∉ L) (h2 : bs ∉ L) : IsRf w' b bs D := by
  obtain ⟨R, hd, r⟩ := h
  exact ⟨R, hd.keep t h1 h2, r⟩
theorem IsRf.lt {w : World} {b bs : Nat} {D : Ds} (h : IsRf w b bs D) : b < w.heap.size ∧ bs < w.heap.size ∧ b ≠ bs := by
  obtain ⟨R, hd, _⟩ := h
  exact ⟨lt_of_block hd.blk, lt_of_block hd.arr, hd.ne⟩

theorem fnew (n : Int) (w : World) (h0 : -9223372036854775808 ≤ n) (h1 : n ≤ 9223372036854775807) :
    Calls Tryz.prog 5 #[.int .i64 n] w fun e w' => e = .returned (.pointer (some ⟨w.heap.size + 1, 0, none⟩)) ∧ (IsRf w' (w.heap.size + 1) w.heap.size (freshD (many n)) ∧ Tch [] w w') := by
  refine (rnew_any n w h0 h1).mono ?_
  rintro e w' ⟨rfl, hd, t⟩
  refine ⟨rfl, ⟨_, hd, by simp [freshD], ?_, rfl, rfl, rfl, by simp, by simp [freshD], by simp [freshD], by simp [freshD], by simp [freshD]⟩, t⟩
  intro i s x hs hx
  simp only [freshD] at hs hx
  rw [List.getElem?_replicate] at hs hx
  by_cases h : i < many n
  · rw [if_pos h] at hs hx
    cases hs; cases hx
    exact ⟨by decide, rfl⟩
  · rw [if_neg h] at hs
    cases hs

theorem fwrite (b bs : Nat) (D : Ds) (i : Int) (x : ByteArray) (w : World) (hd : IsRf w b bs D) (hn : D.done < 9223372036854775807) :
    Calls Tryz.prog 25 #[.pointer (some ⟨b, 0, none⟩), .int .i64 i, .string x] w fun e w' => e = .returned (.int .i64 (D.wcode i x)) ∧ (IsRf w' b bs (D.wstate i x) ∧ Tch [b, bs] w w') := by
  have hd0 := hd
  obtain ⟨R, hk, hl, hs, h1, h2, h3, h4, h5, h6, h7, h8⟩ := hd
  by_cases hon : D.on = false
  · refine (rwrite_off b bs R i x w hk (by simp [h3, hon])).mono ?_
    rintro e w' ⟨rfl, rfl⟩
    exact ⟨by simp [Ds.wcode, hon], by simpa [Ds.wstate, hon] using hd0, Tch.refl _ _⟩
  · have hp : R.off = false := by simp [h3, hon]
    by_cases hi : i < 0 ∨ D.texts.length ≤ i
    · refine (rwrite_at b bs R i x w hk hp (by rw [hl]; exact hi)).mono ?_
      rintro e w' ⟨rfl, rfl⟩
      refine ⟨by simp only [Ds.wcode]; rw [if_neg hon, if_pos hi], by simp only [Ds.wstate]; rw [if_neg hon, if_pos hi]; exact hd0, Tch.refl _ _⟩
    · obtain ⟨j, rfl⟩ := Int.eq_ofNat_of_zero_le (by omega : 0 ≤ i)
      have hj : j < R.secs.length := by omega
      by_cases hx : 1024 < x.size
      · refine (rwrite_long b bs R j x w hk hp hj hx).mono ?_
        rintro e w' ⟨rfl, rfl⟩
        refine ⟨by simp only [Ds.wcode]; rw [if_neg hon, if_neg hi, if_pos hx], by simp only [Ds.wstate]; rw [if_neg hon, if_neg hi, if_pos hx]; exact hd0, Tch.refl _ _⟩
      · by_cases hc : D.left = 0
        · have hset : R.set = true := by
            rcases hb : R.set with _ | _
            · have := h5 hb; omega
            · rfl
          refine (rwrite_cut b bs R j x w hk hp hj (by omega) hset (by have := (h4 hset).1; omega)).mono ?_
          rintro e w' ⟨rfl, hk', t'⟩
          refine ⟨by simp only [Ds.wcode]; rw [if_neg hon, if_neg hi, if_neg hx, if_pos hc], ?_, t'.mono (by simp)⟩
          simp only [Ds.wstate]; rw [if_neg hon, if_neg hi, if_neg hx, if_pos hc]
          exact ⟨_, hk', hl, hs, h1, h2, rfl, h4, h5, h6, h7, h8⟩
        · refine (rwrite_ok b bs R j x w hk hp hj (by omega) (fun h => by have := h4 h; omega) (by omega) (by omega)).mono ?_
          rintro e w' ⟨q, ⟨hq1, hq2⟩, rfl, hk', t'⟩
          refine ⟨by simp only [Ds.wcode]; rw [if_neg hon, if_neg hi, if_neg hx, if_neg hc], ?_, t'⟩
          simp only [Ds.wstate]; rw [if_neg hon, if_neg hi, if_neg hx, if_neg hc]
          refine ⟨_, hk', by simp [Rk.put2, hl], ?_, by simp [Rk.put2, h1], by simp [Rk.put2, h2]; omega, h3, ?_, ?_, by simp; omega, by simp only [tk]; split <;> omega, by simp; omega⟩
          · intro p s y hs' hy
            simp only [Rk.put2, Int.toNat_natCast] at hs' hy
            rw [List.getElem?_set] at hs' hy
            by_cases hjp : j = p
            · rw [if_pos hjp, if_pos hj] at hs'
              rw [if_pos hjp, if_pos (by omega)] at hy
              cases hs'; cases hy
              have := pad_bare x (by omega) q hq1 hq2
              exact ⟨this.2, this.1⟩
            · rw [if_neg hjp] at hs' hy
              exact hs p s y hs' hy
          · intro hset
            have := h4 hset
            simp only [Rk.put2, tk]
            rw [if_pos (show R.set = true from hset), if_neg (by omega)]
            omega
          · intro hset
            have h9 : D.left = -1 := h5 hset
            simp only [tk]
            rw [if_pos h9]

theorem fread (b bs : Nat) (D : Ds) (i : Int) (w : World) (hd : IsRf w b bs D) :
    Calls Tryz.prog 28 #[.pointer (some ⟨b, 0, none⟩), .int .i64 i] w fun e w' => e = .returned (.tuple #[.string (D.rtext i), .int .i64 (D.rcode i)]) ∧ (IsRf w' b bs D ∧ Tch [] w w') := by
  have hd0 := hd
  obtain ⟨R, hk, hl, hs, h1, h2, h3, h4, h5, h6, h7, h8⟩ := hd
  by_cases hon : D.on = false
  · refine (rread_off b bs R i w hk (by simp [h3, hon])).mono ?_
    rintro e w' ⟨rfl, rfl⟩
    exact ⟨by simp [Ds.rcode, Ds.rtext, hon], hd0, Tch.refl _ _⟩
  · have hp : R.off = false := by simp [h3, hon]
    by_cases hi : i < 0 ∨ D.texts.length ≤ i
    · refine (rread_at b bs R i w hk hp (by rw [hl]; exact hi)).mono ?_
      rintro e w' ⟨rfl, rfl⟩
      exact ⟨by simp only [Ds.rcode, Ds.rtext]; rw [if_neg hon, if_pos hi, if_neg hon, if_pos hi], hd0, Tch.refl _ _⟩
    · obtain ⟨j, rfl⟩ := Int.eq_ofNat_of_zero_le (by omega : 0 ≤ i)
      have hj : j < R.secs.length := by omega
      have hj2 : j < D.texts.length := by omega
      have hsj : R.secs[j]? = some R.secs[j] := List.getElem?_eq_getElem hj
      have hxj : D.texts[j]? = some D.texts[j] := List.getElem?_eq_getElem hj2
      obtain ⟨hso, hxs⟩ := hs j _ _ hsj hxj
      have hr : D.rtext (j : Int) = pad D.texts[j] := by
        simp only [Ds.rtext]; rw [if_neg hon, if_neg hi]; simp [List.getD_eq_getElem?_getD, hxj]
      have hc : D.rcode (j : Int) = 0 := by simp only [Ds.rcode]; rw [if_neg hon, if_neg hi]
      rw [hr, hc, ← hxs]
      refine (rread_ok b bs R j R.secs[j] w hk hp hsj hso).mono ?_
      rintro e w' ⟨rfl, t'⟩
      exact ⟨rfl, hd0.keep t' (by simp) (by simp), t'⟩

theorem fcut (b bs : Nat) (D : Ds) (n : Int) (w : World) (hd : IsRf w b bs D) (h1 : n ≤ 9223372036854775807) :
    Calls Tryz.prog 22 #[.pointer (some ⟨b, 0, none⟩), .int .i64 n] w fun e w' => e = .returned (.tuple #[]) ∧ (IsRf w' b bs { D with left := max n 0 } ∧ Tch [b] w w') := by
  obtain ⟨R, hk, hl, hs, k1, h2, h3, h4, h5, h6, h7, h8⟩ := hd
  refine (rcut_any b bs R n w hk).mono ?_
  rintro e w' ⟨rfl, hk', t'⟩
  exact ⟨rfl, ⟨_, hk', hl, hs, k1, h2, h3, fun _ => ⟨rfl, by simp; omega⟩, by simp, h6, by simp; omega, h8⟩, t'⟩
theorem fstart (b bs : Nat) (D : Ds) (w : World) (hd : IsRf w b bs D) :
    Calls Tryz.prog 23 #[.pointer (some ⟨b, 0, none⟩)] w fun e w' => e = .returned (.tuple #[]) ∧ (IsRf w' b bs { D with left := -1, on := true } ∧ Tch [b] w w') := by
  obtain ⟨R, hk, hl, hs, k1, h2, h3, h4, h5, h6, h7, h8⟩ := hd
  refine (rstart_any b bs R w hk).mono ?_
  rintro e w' ⟨rfl, hk', t'⟩
  exact ⟨rfl, ⟨_, hk', hl, hs, k1, h2, rfl, by simp, fun _ => rfl, h6, by simp, h8⟩, t'⟩
end Go.Proofs.YtclnhgfionfbbaaGreatDoor
