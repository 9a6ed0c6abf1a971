/-
  'sectorsOf' of package journal: the numbers of the sectors that are to change, or why they can't. Conditions: the journal is one that Open makes, over a disk; at most 500 changes.
-/
import Derived.Test.YtclnhgfionfbbaaGreatDoorFin
namespace Go.Proofs.YtclnhgfionfbbaaGreatDoor
open Go.RowKit
set_option linter.unusedVariables false

/-- A slice of changes: a row in block cb from o on, or of none. -/
structure IsChs (w : World) (a : Option Addr) (len cb o : Nat) (cs : List (Int × ByteArray)) : Prop where
  hlen : len = cs.length
  at_ : len = 0 ∨ a = some ⟨cb, o, none⟩ ∧ cb < w.heap.size
  row : ∀ (k : Nat) c, cs[k]? = some c → w.cell? ⟨cb, o + k * 2, none⟩ = some (.int .i64 c.1) ∧ w.cell? ⟨cb, o + k * 2 + 1, none⟩ = some (.string c.2)
  fit : ∀ c ∈ cs, -9223372036854775808 ≤ c.1 ∧ c.1 ≤ 9223372036854775807 ∧ c.2.size ≤ 9223372036854775807
theorem IsChs.keep {w w' : World} {a : Option Addr} {len cb o : Nat} {cs : List (Int × ByteArray)} {L : List Nat} (h : IsChs w a len cb o cs) (t : Tch L w w') (hn : cb ∉ L) : IsChs w' a len cb o cs := by
  refine ⟨h.hlen, ?_, fun k c hk => ?_, h.fit⟩
  · rcases h.at_ with h1 | ⟨h1, h2⟩
    · exact Or.inl h1
    · exact Or.inr ⟨h1, Nat.lt_of_lt_of_le h2 t.size⟩
  · have hlt : cb < w.heap.size := by
      rcases h.at_ with h1 | ⟨h1, h2⟩
      · have := (List.getElem?_eq_some_iff.1 hk).1
        have := h.hlen
        omega
      · exact h2
    obtain ⟨h1, h2⟩ := h.row k c hk
    exact ⟨(t.cell hlt hn).trans h1, (t.cell hlt hn).trans h2⟩

/-- What sectorsOf answers and leaves. -/
def ScPost (w : World) (n : Nat) (cs : List (Int × ByteArray)) (e : Ending) (w' : World) : Prop :=
  Tch [] w w' ∧ ((ckc n cs [] ≠ 0 ∧ e = .returned (.tuple #[.slice none 0 0, .int .i64 (ckc n cs [])])) ∨
    (ckc n cs [] = 0 ∧ ∃ v, e = .returned (.tuple #[v, .int .i64 0]) ∧ w'.ownsRow w.heap.size 3 1 v (ats cs).length ((ats cs).map fun a : Nat => Value.int .i64 (a : Int))))

/-- What holds at the head of each round. -/
def ScRel (w : World) (n : Nat) (cs : List (Int × ByteArray)) (v7 v13 : Value) (wr : World) : Prop :=
  ∃ k : Nat, k ≤ cs.length ∧ v13 = .int .i64 k ∧ (∀ x ∈ (cs.take k).map Prod.fst, 0 ≤ x) ∧ MapOf wr w.heap.size k ((cs.take k).map Prod.fst) ∧
    wr.ownsRow w.heap.size 3 1 v7 (ats (cs.take k)).length ((ats (cs.take k)).map fun a : Nat => Value.int .i64 (a : Int)) ∧ Tch [] w wr ∧ ckc n cs [] = ckc n (cs.drop k) ((cs.take k).map Prod.fst)

set_option maxRecDepth 100000 in
set_option maxHeartbeats 2000000 in
theorem sec_any (jb b bs room : Nat) (D : Ds) (a : Option Addr) (len cap cb o : Nat) (cs : List (Int × ByteArray)) (w : World) (h : IsJn w jb b room) (hd : IsDs w b bs D) (hr : room ≤ 500) (hw : IsChs w a len cb o cs) (hl : len ≤ 500) :
    Calls Tryz.prog 34 #[.pointer (some ⟨jb, 0, none⟩), .slice a len cap] w (ScPost w (jlen D room) cs) := by
  have hlen := hd.len
  have hjl : jlen D room ≤ 16384 := by unfold jlen; omega
  obtain ⟨i0, hi, hz0, hz1, hz2⟩ := info_parts Tryz.info_int
  have hmm := @run_makeMap Tryz.prog
  have hmap := MapOf.made w
  have T0 := (Tch.refl [] w).alloc (.map #[] 0)
  have HWL := hw.hlen
  have HFT := Lib.hid hw.fit
  have HROW : Hid (∀ wr, Tch [] w wr → ∀ (k : Nat) c, cs[k]? = some c → wr.cell? ⟨cb, o + k * 2, none⟩ = some (.int .i64 c.1) ∧ wr.cell? ⟨cb, o + k * 2 + 1, none⟩ = some (.string c.2)) := fun wr t => (hw.keep t (by simp)).row
  have HAT : Hid (0 < len → a = some ⟨cb, o, none⟩) := fun h0 => by
    rcases hw.at_ with h1 | ⟨h1, _⟩
    · omega
    · exact h1
  have HY : Hid (∀ i : Int, 0 ≤ i → i < (jlen D room : Nat) → ∀ wr, Tch [] w wr → Calls Tryz.prog 36 #[.pointer (some ⟨jb, 0, none⟩), .int .i64 i] wr fun e w' => e = .returned (.bool true) ∧ wr = w') := fun i h0 h1 wr t =>
    has_yes jb b bs room D i wr (h.keep t (by simp)) (hd.keep t (by simp) (by simp)) hr h0 h1
  have HN : Hid (∀ i : Int, i < 0 ∨ (jlen D room : Nat) ≤ i → ∀ wr, Tch [] w wr → Calls Tryz.prog 36 #[.pointer (some ⟨jb, 0, none⟩), .int .i64 i] wr fun e w' => e = .returned (.bool false) ∧ wr = w') := fun i h0 wr t =>
    has_no jb b bs room D i wr (h.keep t (by simp)) (hd.keep t (by simp) (by simp)) hr h0
  generalize jlen D room = n at HY HN hjl ⊢
  clear h hd hw hr hlen
  go_enter Tryz.func34, Tryz.ntmps34
  go_wp2_with fail
  clear hmm
  subst HWL
  go_loopw [7, 13] (fun v7 v13 wr => ScRel w n cs v7 v13 wr) (fun _ v13 _ => cs.length - (intOf v13).toNat)
  case atStart => exact ⟨0, by omega, rfl, by simp, hmap, World.ownsRow_nil _ _ _ _, T0, rfl⟩
  case round =>
    obtain ⟨k, hk, rfl, hpos, hm, hown, T, hck⟩ := hrel
    by_cases hkl : k < cs.length
    · obtain rfl := HAT.out (by omega)
      obtain ⟨x0, x1⟩ := HROW.out wr T k cs[k] (List.getElem?_eq_getElem hkl)
      have hfit := HFT.out cs[k] (List.getElem_mem hkl)
      have hdr : cs.drop k = cs[k] :: cs.drop (k + 1) := List.drop_eq_getElem_cons hkl
      have htk : cs.take (k + 1) = cs.take k ++ [cs[k]] := List.take_succ_eq_append_getElem hkl
      rw [hdr, ckc] at hck
      have HTK : Hid (ats (cs.take (k + 1)) = ats (cs.take k) ++ [(cs[k]).1.toNat] ∧ (cs.take (k + 1)).map Prod.fst = (cs.take k).map Prod.fst ++ [(cs[k]).1]) := by
        show _ ∧ _
        rw [htk]
        exact ⟨by unfold ats; rw [List.map_append]; rfl, by rw [List.map_append]; rfl⟩
      have hal : (ats (cs.take k)).length = k := by unfold ats; rw [List.length_map, List.length_take]; omega
      generalize cs[k] = c at x0 x1 hfit hck HTK
      obtain ⟨i, x⟩ := c
      simp only at x0 x1 hfit hck HTK
      clear hdr htk
      obtain ⟨hf0, hf1, hf2⟩ := hfit
      have TA := T.alloc (.cells #[.int .i64 i, .string x] 65)
      by_cases hin : i < 0 ∨ n ≤ i
      · rw [if_pos hin] at hck
        have HF : Hid (∀ w1, Tch [] w w1 → ScPost w n cs (.returned (.tuple #[.slice none 0 0, .int .i64 10])) w1) := fun w1 t1 => ⟨t1, Or.inl ⟨by rw [hck]; omega, by rw [hck]⟩⟩
        have HH := Lib.hid (HN.out i hin _ TA)
        clear hck hpos hin hal
        go_wp2_with (first | (go_at_call 36; refine HH.out.mono ?_; rintro e w1 ⟨rfl, rfl⟩))
        go_ret2
        exact HF.out _ TA
      rw [if_neg hin] at hck
      have HH := Lib.hid (HY.out i (by omega) (by omega) _ TA)
      by_cases hxl : 1024 < x.size
      · rw [if_pos hxl] at hck
        have HF : Hid (∀ w1, Tch [] w w1 → ScPost w n cs (.returned (.tuple #[.slice none 0 0, .int .i64 11])) w1) := fun w1 t1 => ⟨t1, Or.inl ⟨by rw [hck]; omega, by rw [hck]⟩⟩
        clear hck hpos hin hal
        go_wp2_with (first | (go_at_call 36; refine HH.out.mono ?_; rintro e w1 ⟨rfl, rfl⟩))
        go_ret2
        exact HF.out _ TA
      rw [if_neg hxl] at hck
      have hmA := hm.kept ((Tch.refl [] wr).alloc (.cells #[.int .i64 i, .string x] 65)) (by simp)
      have hownA := hown.alloc (.cells #[.int .i64 i, .string x] 65)
      have hsz := T.size
      have hb := blk_new wr (.cells #[.int .i64 i, .string x] 65)
      have y0 : (wr.alloc (.cells #[.int .i64 i, .string x] 65)).cell? ⟨wr.heap.size, 0, none⟩ = some (.int .i64 i) := blk_cell hb 0
      have y1 : (wr.alloc (.cells #[.int .i64 i, .string x] 65)).cell? ⟨wr.heap.size, 1, none⟩ = some (.string x) := blk_cell hb 1
      have hxs : x.size ≤ 1024 := by omega
      have hwne : w.heap.size ≠ wr.heap.size := by have := hm.lt; omega
      have hWS := T0.size
      by_cases him : i ∈ (cs.take k).map Prod.fst
      · rw [if_pos him] at hck
        have HF : Hid (∀ w1, Tch [] w w1 → ScPost w n cs (.returned (.tuple #[.slice none 0 0, .int .i64 30])) w1) := fun w1 t1 => ⟨t1, Or.inl ⟨by rw [hck]; omega, by rw [hck]⟩⟩
        have HM := Lib.hid (met_yes w.heap.size k _ i _ hmA (WalkArith.wf_i64 (by omega)) (by omega) him)
        clear hck hpos hin hal hxl him hm hown y0 y1 hb
        go_wp2_with (first | (go_at_call 36; refine HH.out.mono ?_; rintro e w1 ⟨rfl, rfl⟩) | (go_at_call 48; refine HM.out.mono ?_; rintro e w1 ⟨rfl, t1⟩))
        go_ret2
        exact HF.out _ (TA.transNew t1 (by simp))
      rw [if_neg him] at hck
      have HM := Lib.hid (met_no w.heap.size k _ i _ hmA (WalkArith.wf_i64 (by omega)) (by omega) him)
      have HC := Lib.hid hck
      have HP := Lib.hid hpos
      have HI := Lib.hid hin
      have HAL := Lib.hid hal
      have HNE := Lib.hid (own_map_ne hownA hmA)
      clear hck hpos hin hal hxl him hm hown
      go_wp2_with fail
      refine HH.out.mono ?_
      rintro e w1 ⟨rfl, rfl⟩
      generalize wr.alloc (.cells #[.int .i64 i, .string x] 65) = WA at HM hmA hownA hb y0 y1 TA HNE ⊢
      have hplt : wr.heap.size < WA.heap.size := lt_of_block hb
      generalize wr.heap.size = p at y0 y1 hwne hb hplt ⊢
      have hown1 := hownA
      go_wp2_with (first | (go_at_call 48; refine HM.out.mono ?_; rintro e w1 ⟨rfl, hm1, t1⟩; have hown1 := own_keep hownA t1 (by intro g hg hm2; simp only [List.mem_singleton] at hm2; exact HNE.out (by rw [hg, hm2])); have T1 := TA.transNew t1 (by simp); have z0 := (t1.cell (o := 0) hplt (by simp; omega)).trans y0) | (at_builtin; refine wpList_append_own _ rfl _ _ 85 rfl w.heap.size 3 i0 (.int .i64 0) 1 8 Tryz.underlying85 hi hz0 hz1 hz2 rfl (by decide) _ _ _ rfl (hown1.alloc _) ⟨w1.heap.size, 0, none⟩ 1 1 [.int .i64 i] rfl rfl ?c1 ?c2 ?c3 ?c4 ?c5 ?_))
      case c1 => exact cells_one _ _ _
      case c2 => intro x hx; simp only [List.mem_singleton] at hx; subst hx; rfl
      case c3 => have := HAL.out; unfold maxLen; omega
      case c4 => have := HAL.out; omega
      case c5 => have := T1.size; simp; omega
      intro v' w2 hown2 hgrow _
      have T2 := (T1.alloc (.cells #[.int .i64 i] 3)).own (hown1.alloc _) (Nat.le_refl _) hgrow
      have hm2 : MapOf w2 w.heap.size (k + 1) ((cs.take (k + 1)).map Prod.fst) := by
        have hm3 := hm1.kept ((Tch.refl [] w1).alloc (.cells #[.int .i64 i] 3)) (by simp)
        have hlt := hm3.lt
        have hne := own_map_ne (hown1.alloc (.cells #[.int .i64 i] 3)) hm3
        obtain ⟨DD, ⟨es, clock, hb, F, hsz2, hD⟩, hat⟩ := hm3
        exact ⟨DD, ⟨es, clock, (hgrow.block _ hlt (fun e => hne e.symm)).trans hb, F, hsz2, hD⟩, by rw [HTK.out.2]; exact hat⟩
      have hi0 : 0 ≤ i := by
        have := HI.out
        omega
      have HO : Hid (w2.ownsRow w.heap.size 3 1 v' (ats (cs.take (k + 1))).length ((ats (cs.take (k + 1))).map fun x : Nat => Value.int .i64 (x : Int))) := by
        show World.ownsRow _ _ _ _ _ _ _
        rw [HTK.out.1, List.length_append, List.map_append, List.map_cons, List.map_nil, show ((i.toNat : Nat) : Int) = i from by omega]
        exact hown2
      clear hown2 hown1 hownA hgrow T1 hm1 t1
      go_wp2
      go_roundw
      case rel =>
        refine ⟨k + 1, by omega, by go_num, ?_, hm2, HO.out, T2, ?_⟩
        · rw [HTK.out.2]
          intro y hy
          rcases List.mem_append.1 hy with h1 | h1
          · exact HP.out y h1
          · simp only [List.mem_singleton] at h1; omega
        · rw [HC.out, HTK.out.2]
      case measure => simp [intOf]; omega
    · obtain rfl : k = cs.length := by omega
      rw [List.drop_length, ckc] at hck
      rw [List.take_length] at hown
      have HF : Hid (ScPost w n cs (.returned (.tuple #[u7, .int .i64 0])) wr) := ⟨T, Or.inr ⟨hck, u7, rfl, hown⟩⟩
      clear hck hown hpos hm
      go_wp2
      go_ret2
      exact HF.out
end Go.Proofs.YtclnhgfionfbbaaGreatDoor
