/-
  The law JournalCuts, walked: whichever write the power goes off at, and however often it does so in the opens behind it, it answers true and turns nothing that was there. Condition: the lists are within the reach of memory.
-/
import Derived.Test.YtclnhgfionfbbaaDoorJLast
import Derived.Laws.CopyOwn
namespace Go.Proofs.YtclnhgfionfbbaaDoor
open Go.RowKit
set_option linter.unusedVariables false

/-- What an Open of this disk will find: the sectors ahead of the change under way, or those behind it. -/
def Either (D : Ds) (now next : List ByteArray) : Prop := ∃ l, Seen D 6 l now ∨ Seen D 6 l next

theorem either_keep {D E : Ds} {now next : List ByteArray} (h : Either D now next) (he : E.texts = D.texts) : Either E now next := by
  obtain ⟨l, h | h⟩ := h
  · exact ⟨l, Or.inl (h.keep he)⟩
  · exact ⟨l, Or.inr (h.keep he)⟩

/-- An Open under a cut. -/
theorem either_open {D : Ds} {now next : List ByteArray} (hon : D.on = true) (h : Either D now next) (hn : now.length = 13) (hx : next.length = 13) (hsz : ∀ j, (D.texts.getD j ⟨#[]⟩).size ≤ 1024) :
    ((jopen 6 D).1 = 0 ∧ (jopen 6 D).2.on = true ∧ (Seen (jopen 6 D).2 6 [] now ∨ Seen (jopen 6 D).2 6 [] next) ∨ (jopen 6 D).1 = 12 ∧ (jopen 6 D).2.on = false ∧ Either (jopen 6 D).2 now next) ∧ (D.left = -1 → (jopen 6 D).1 = 0) := by
  obtain ⟨l, h | h⟩ := h
  · have := jopen_seen (room := 6) hon h (by omega) (by omega) (by omega) hsz
    refine ⟨?_, fun hl => (this.2 hl).1⟩
    rcases this.1 with ⟨a, b, c⟩ | ⟨a, b, c⟩
    · exact Or.inl ⟨a, b, Or.inl c⟩
    · exact Or.inr ⟨a, b, l, Or.inl c⟩
  · have := jopen_seen (room := 6) hon h (by omega) (by omega) (by omega) hsz
    refine ⟨?_, fun hl => (this.2 hl).1⟩
    rcases this.1 with ⟨a, b, c⟩ | ⟨a, b, c⟩
    · exact Or.inl ⟨a, b, Or.inr c⟩
    · exact Or.inr ⟨a, b, l, Or.inr c⟩

/-- A commit under a cut. -/
theorem either_commit {D : Ds} {now : List ByteArray} (cs : List (Int × ByteArray)) (hon : D.on = true) (hs : Seen D 6 [] now) (hn : now.length = 13) (hsz : ∀ j, (D.texts.getD j ⟨#[]⟩).size ≤ 1024) :
    (∃ c, c ≠ 0 ∧ jcommit 6 cs D = (c, D)) ∨
    (cs.length ≤ 6 ∧ ckc 13 cs [] = 0 ∧ ((jcommit 6 cs D).1 = 0 ∧ (jcommit 6 cs D).2.on = true ∧ Seen (jcommit 6 cs D).2 6 [] (upd now cs) ∨ (jcommit 6 cs D).1 = 12 ∧ (jcommit 6 cs D).2.on = false ∧ Either (jcommit 6 cs D).2 now (upd now cs))) := by
  by_cases htk : cs.length ≤ 6 ∧ ckc now.length cs [] = 0
  · right
    have := (jcommit_seen hon hs (by omega) (by omega) (by omega) hsz htk.1 htk.2).1
    rw [hn] at htk
    exact ⟨htk.1, htk.2, this⟩
  · left
    exact jcommit_no hs htk
theorem jcommit_done (room : Nat) (cs : List (Int × ByteArray)) (D : Ds) (hl : cs.length ≤ room) : (jcommit room cs D).2.done ≤ D.done + 2 * cs.length + 2 := by
  unfold jcommit
  rw [if_neg (by omega)]
  split
  · simp; omega
  · have := wrs_done (cws room cs) D
    have hl2 : (cws room cs).length = 2 * cs.length + 2 := by
      unfold cws scs
      simp [cps_len]
      omega
    omega
theorem jopen_done (room : Nat) (D : Ds) (hr : room ≤ 500) : (jopen room D).2.done ≤ D.done + room + 1 := by
  unfold jopen
  split
  · simp; omega
  · split
    · simp; omega
    · rw [Int.toNat_natCast]
      cases hh : rhead (D.rtext 0).data.toList room (jlen D room) with
      | none => simp; omega
      | some l =>
        cases l with
        | nil => simp; omega
        | cons a l =>
          have hll := rhead_len hh
          have h1 := fin_done room (a :: l) 0 D
          simp only
          unfold fins
          split
          · rw [wrs_one]
            have h2 := (wst_done (fin room 0 (a :: l) D).2 0 (hdb [])).2
            simp only
            omega
          · omega

/-- The argument, boxed. -/
def IsBox (w : World) (X : Nat) (ca : Option Addr) (cl cc : Nat) (n : Int) (aa : Option Addr) (al ac : Nat) : Prop :=
  w.heap[X]? = some (.cells #[.slice ca cl cc, .int .i64 n, .slice aa al ac] 25 (0, 0))
theorem IsBox.keep {w w' : World} {X : Nat} {ca : Option Addr} {cl cc : Nat} {n : Int} {aa : Option Addr} {al ac : Nat} {L : List Nat} (h : IsBox w X ca cl cc n aa al ac) (t : Tch L w w') (hn : X ∉ L) : IsBox w' X ca cl cc n aa al ac := t.keep h hn
theorem IsBox.at_ {w : World} {X : Nat} {ca : Option Addr} {cl cc : Nat} {n : Int} {aa : Option Addr} {al ac : Nat} (h : IsBox w X ca cl cc n aa al ac) :
    w.cell? ⟨X, 0, none⟩ = some (.slice ca cl cc) ∧ w.cell? ⟨X, 1, none⟩ = some (.int .i64 n) ∧ w.cell? ⟨X, 2, none⟩ = some (.slice aa al ac) := by
  refine ⟨?_, ?_, ?_⟩ <;> rw [blk_cell h] <;> rfl

/-- A row of 13 texts copied onto another. -/
theorem copy_tx {w : World} {ops : Array Oper} {rest : List Oper} {o : Oper} {a : Act} {Q : Exit → Act → World → Prop} (hgd : o.guard = none) (d s : Operand) (ho : o.op = .call { callee := .builtin .copy, args := #[d, s], argTypes := #[33, 33] }) (h g : Nat) (now nx : List ByteArray) (hd : a.eval d = .slice (some ⟨h, 0, none⟩) 13 13) (hs : a.eval s = .slice (some ⟨g, 0, none⟩) 13 13)
    (hh : IsTx w h nx) (hg : IsTx w g now) (hn : now.length = 13) (hx : nx.length = 13) (k : ∀ w', IsTx w' h now → Tch [h] w w' → wpList Tryd.prog ops Q rest (a.put o.dst (goInt 13)) w') : wpList Tryd.prog ops Q (o :: rest) a w := by
  refine wpList_copy_own hgd d s _ _ ho 9 Tryd.underlying33 (by kernel_rfl) h 0 13 13 ⟨g, 0, none⟩ 13 13 hd hs (nx.map Value.string).toArray 9 hh (now.map Value.string) (by simp [hn]) (fun j v hj => ?_) (by simp [hn, hx]) (fun v hv => ?_) ?_
  · rw [add_mk, blk_cell hg, Nat.zero_add]
    simpa using hj
  · obtain ⟨x, _, rfl⟩ := List.mem_map.1 hv
    rfl
  · rw [show (now.map Value.string).length = 13 from by simp [hn]]
    have hr : ((nx.map Value.string).toArray.toList.take 0 ++ (now.map Value.string ++ (nx.map Value.string).toArray.toList.drop (0 + 13))).toArray = (now.map Value.string).toArray := by
      rw [List.toList_toArray, List.take_zero, List.drop_of_length_le (by simp [hx])]
      simp
    rw [hr]
    exact k _ (setRow_heap w h _ _ _ _ hh) ⟨rfl, rfl, rfl, by simp, fun j _ hj => setRow_other w h j _ (by simpa using hj)⟩

/-- What holds at the head of each round over the commits. -/
def JkRel (w : World) (B X jb g h len : Nat) (ca : Option Addr) (cl cc : Nat) (n : Int) (aa : Option Addr) (al ac : Nat) (v47 : Value) (wr : World) : Prop :=
  ∃ (k : Nat) (D : Ds) (now : List ByteArray), k ≤ len ∧ v47 = .int .i64 k ∧ IsDs wr (B + 1) B D ∧ D.on = true ∧ Seen D 6 [] now ∧ now.length = 13 ∧ (∀ i, (now.getD i ⟨#[]⟩).size ≤ 1024) ∧ IsTx wr g now ∧ IsTx wr h now ∧ IsJn wr jb (B + 1) 6 ∧ IsBox wr X ca cl cc n aa al ac ∧ D.done ≤ 14 * k ∧ Tch [] w wr
/-- .. over the cuts behind them. -/
def JaRel (w : World) (B X g h len : Nat) (ca : Option Addr) (cl cc : Nat) (n : Int) (aa : Option Addr) (al ac : Nat) (now next : List ByteArray) (v15 : Value) (wr : World) : Prop :=
  ∃ (k : Nat) (D : Ds), k ≤ al ∧ k ≤ 20 ∧ v15 = .int .i64 k ∧ IsDs wr (B + 1) B D ∧ Either D now next ∧ IsTx wr g now ∧ IsTx wr h next ∧ IsBox wr X ca cl cc n aa al ac ∧ D.done ≤ 14 * len + 14 * k ∧ Tch [] w wr

-- GEN (mkjc)
set_option maxRecDepth 100000 in
set_option maxHeartbeats 4000000 in
theorem jcuts_walk (ca : Option Addr) (cl cc : Nat) (n : Int) (aa : Option Addr) (al ac : Nat) (zs : List Sl) (ns : List Int) (w : World) (hw : IsChss w ca cl zs) (hsz : cl * 24 ≤ 140737488351232) (hi : IsRow .i64 w aa al ac ns) (hwn : (Lit.int .i64 n).wf = true) :
    Calls Tryd.prog 3 #[.agg #[.slice ca cl cc, .int .i64 n, .slice aa al ac]] w fun e w' => e = .returned (.bool true) ∧ Tch [] w w' := by
  obtain ⟨hzl, hza, hzs⟩ := hw
  have hn2 := i64_of_wf hwn
  clear hwn
  have HW := Lib.hid (fun w1 => jwakes_any w1)
  have HN := Lib.hid (fun w1 => dnew 20 w1 (by omega) (by omega))
  rw [show many 20 = 20 from rfl] at HN
  have hmk : ∀ w5 : World, (Instr.makeSlice 33 (.int .i64 13) (.int .i64 13)).run Tryd.prog w5 = .ok (.slice (some ⟨w5.heap.size, 0, none⟩) 13 13) (w5.alloc (.cells (eCells 13) 9)) := fun w5 => make_strs 13 w5 (by omega)
  have HZL := Lib.hid hzl
  have HI := Lib.hid hi
  have hal : al ≤ 9223372036854775807 := by
    rcases hi with ⟨_, rfl, _, _⟩ | ⟨_, _, h1, h2, _⟩
    · omega
    · unfold maxLen at h2; omega
  clear hzl hi
  go_enter Tryd.func3, Tryd.ntmps3
  go_wp2_with fail
  have hbx0 : IsBox (w.alloc (.cells #[.slice ca cl cc, .int .i64 n, .slice aa al ac] 25)) w.heap.size ca cl cc n aa al ac := blk_new w _
  have T0 := (Tch.refl [] w).alloc (.cells #[.slice ca cl cc, .int .i64 n, .slice aa al ac] 25)
  generalize w.alloc (.cells #[.slice ca cl cc, .int .i64 n, .slice aa al ac] 25) = w0 at hbx0 T0 ⊢
  generalize hX : w.heap.size = X at hbx0 ⊢
  refine (HW.out w0).mono ?_
  rintro e w1 ⟨rfl, t1⟩
  go_wp2_with fail
  refine (HN.out w1).mono ?_
  rintro e w2 ⟨rfl, hd2, t2⟩
  have hb1 : w0.heap.size ≤ w1.heap.size := t1.size
  have hX1 : X < w0.heap.size := lt_of_block hbx0
  have hbx2 := (hbx0.keep t1 (by simp)).keep t2 (by simp)
  have hlt := hd2.lt
  have T2 := T0.trans (t1.trans t2)
  clear HW HN t1 t2 hbx0 T0
  generalize w1.heap.size = B at hd2 hb1 hlt ⊢
  go_wp2_with fail
  refine (open_same (B + 1) B 6 (freshD 20) w2 hd2 (by simp [freshD]) (jopen_clean rfl (by simp [freshD]) (by simp [freshD]) (fresh_clean 20) (by omega) (by omega))).mono ?_
  rintro e w3 ⟨jb, rfl, hjb, hJ3, hd3, t3⟩
  have T3 := T2.transNew t3 (by simp; omega)
  have hbx3 := hbx2.keep t3 (by simp; omega)
  have HL : Hid (∀ w5, Tch [] w3 w5 → Calls Tryd.prog 12 #[.pointer (some ⟨jb, 0, none⟩)] w5 fun e w' => e = .returned (.int .i64 13) ∧ w5 = w') := fun w5 t5 => jlen_any jb (B + 1) B 6 (freshD 20) w5 (hJ3.keep t5 (by simp)) (hd3.keep t5 (by simp) (by simp)) (by omega)
  have hlt3 := hd3.lt
  have hjlt := hJ3.lt
  have hs0 : Seen (freshD 20) 6 [] (List.replicate 13 ⟨#[]⟩) := fresh_seen 20 6 (by omega) (by omega) (by omega)
  have HS0 := Lib.hid hs0
  clear hd2 T2 t3 hs0 hbx2
  go_wp2_with fail
  refine (HL.out w3 (Tch.refl _ _)).mono ?_
  rintro e w4 ⟨rfl, rfl⟩
  go_wp2_with fail
  refine (HL.out _ ((Tch.refl [] w3).alloc _)).mono ?_
  rintro e w4 ⟨rfl, rfl⟩
  have tA := (Tch.refl [] w3).alloc (.cells (eCells 13) 9)
  have hTG : IsTx (w3.alloc (.cells (eCells 13) 9)) w3.heap.size (List.replicate 13 ⟨#[]⟩) := blk_new w3 _
  have hJA := hJ3.keep tA (by simp)
  have hdA := hd3.keep tA (by simp) (by simp)
  have hbxA := hbx3.keep tA (by simp)
  have TA := T3.trans tA
  have hgB : B + 1 < w3.heap.size := hlt3.1
  have hsA : (w3.alloc (.cells (eCells 13) 9)).heap.size = w3.heap.size + 1 := by simp
  clear hJ3 hd3 T3 hbx3 tA HL
  generalize w3.alloc (.cells (eCells 13) 9) = wA at hTG hJA hdA hbxA TA hsA ⊢
  generalize w3.heap.size = g at hTG hlt3 hjlt hgB hsA ⊢
  have tB := (Tch.refl [] wA).alloc (.cells (eCells 13) 9)
  have hTH : IsTx (wA.alloc (.cells (eCells 13) 9)) wA.heap.size (List.replicate 13 ⟨#[]⟩) := blk_new wA _
  have hTG2 := hTG.keep tB (by simp)
  have hJB := hJA.keep tB (by simp)
  have hdB := hdA.keep tB (by simp) (by simp)
  have hbxB := hbxA.keep tB (by simp)
  have TB := TA.trans tB
  obtain ⟨xc0, xc1, xc2⟩ := hbxB.at_
  clear hTG hJA hdA hbxA TA tB
  go_wp2_with fail
  clear xc0 xc1 xc2
  clear hmk
  generalize wA.alloc (.cells (eCells 13) 9) = wB at hTH hTG2 hJB hdB hbxB TB ⊢
  rw [hsA] at hTH
  obtain ⟨h, hgh⟩ : ∃ h, h = g + 1 := ⟨_, rfl⟩
  rw [← hgh] at hTH ⊢
  have hhg : g < h := by omega
  clear hsA hgh
  refine (dcut (B + 1) B _ (max 0 n) wB hdB (by omega) (by omega)).mono ?_
  rintro e w5 ⟨rfl, hd5, t5⟩
  have T5 := TB.transNew t5 (by simp; omega)
  have htg5 := hTG2.keep t5 (by simp; omega)
  have hth5 := hTH.keep t5 (by simp; omega)
  have hJ5 := hJB.keep t5 (by simp; omega)
  have hbx5 := hbxB.keep t5 (by simp; omega)
  have hs5 : Seen { freshD 20 with left := max (max 0 n) 0 } 6 [] (List.replicate 13 ⟨#[]⟩) := HS0.out.keep rfl
  have HS5 := Lib.hid hs5
  obtain ⟨xc0, xc1, xc2⟩ := hbx5.at_
  have hal0 := hal
  clear hdB TB t5 hTG2 hTH hJB hbxB hs5 HS0
  go_wp2_with fail
  go_loopw [47] (fun v47 wr => JkRel w B X jb g h cl ca cl cc n aa al ac v47 wr) (fun v47 _ => cl - (intOf v47).toNat)
  case atStart => exact ⟨0, _, List.replicate 13 ⟨#[]⟩, by omega, rfl, hd5, rfl, HS5.out, by simp, fun i => by rw [rep_getD]; decide, htg5, hth5, hJ5, hbx5, by simp [freshD], T5⟩
  case round =>
    obtain ⟨k, D, now, hk, rfl, hd, hon, hs, hnl, hns, htg, hth, hJ, hbx, hdn, T⟩ := hrel
    clear xc0 xc1 xc2
    have hi := HI.out
    have hjB : jb ≠ B + 1 ∧ jb ≠ B := by omega
    have hgne : g ≠ B + 1 ∧ g ≠ B ∧ g ≠ jb ∧ g ≠ X := by omega
    have hhne : h ≠ B + 1 ∧ h ≠ B ∧ h ≠ jb ∧ h ≠ X ∧ h ≠ g := by omega
    by_cases hkl : k < cl
    · have hzk : zs[k]? = some (zs[k]'(by have := HZL.out; omega)) := List.getElem?_eq_getElem _
      obtain ⟨ab, ao, rfl, hab, hrow⟩ : ∃ b o, ca = some ⟨b, o, none⟩ ∧ b < w.heap.size ∧ ∀ (k : Nat) s, zs[k]? = some s → w.cell? ⟨b, o + k, none⟩ = some (.slice s.a s.len s.cap) := by
        rcases hza with h | h
        · omega
        · exact h
      have hck := hrow k _ hzk
      rw [← T.cell hab (by simp)] at hck
      have hzz := hzs _ (List.getElem_mem (by have := HZL.out; omega : k < zs.length))
      generalize zs[k]'(by have := HZL.out; omega) = s at hck hzz hzk
      obtain ⟨sa, sl, sc, cb, o, l⟩ := s
      simp only at hck hzz
      obtain ⟨hch, hsl⟩ := hzz
      unfold maxLen at hsl
      obtain rfl : sl = l.length := hch.hlen
      have hch2 := hch.keep T (by simp)
      have hcb : 0 < l.length → cb < w.heap.size := fun h0 => by
        rcases hch.at_ with h1 | ⟨_, h1⟩
        · omega
        · exact h1
      have hkl3 : (k : Int) < (cl : Int) := by omega
      clear hza hzs hrow hzk hch
      go_wp2_with (with_reducible refine copy_tx rfl _ _ rfl h g now now rfl rfl hth htg hnl hnl ?_)
      intro w4 hth4 t4
      have T4 := T.transNew t4 (by simp; omega)
      have hd4 := hd.keep t4 (by simp; omega) (by simp; omega)
      have htg4 := htg.keep t4 (by simp; omega)
      have hJ4 := hJ.keep t4 (by simp; omega)
      have hbx4 := hbx.keep t4 (by simp; omega)
      have hch4 := hch2.keep' t4 (fun h0 => by have := hcb h0; simp; omega)
      have hsz4 := seen_size hd4
      have hcm := commit_any jb (B + 1) B 6 D sa l.length sc cb o l w4 hJ4 hd4 hjB (by omega) hch4 (fun h0 => by have := hcb h0; omega) hsl (by omega)
      clear hd htg hth hJ hbx hch2 T t4 hck
      rcases either_commit l hon hs hnl hsz4 with ⟨c, hc0, hjc⟩ | ⟨hl6, hcz, ⟨e1, e2, e3⟩ | ⟨e1, e2, e3⟩⟩
      · have HCM : Hid (Calls Tryd.prog 14 #[.pointer (some ⟨jb, 0, none⟩), .slice sa l.length sc] w4 fun e w' => e = .returned (.int .i64 c) ∧ (IsDs w' (B + 1) B D ∧ Tch [B + 1, B] w4 w')) := hcm.mono fun e w' h => by
          unfold CmPost at h; rw [hjc] at h; exact h
        have hce : (c == 0) = false := by simpa using hc0
        have HK := Lib.hid (And.intro hon (And.intro hs (And.intro hnl hns)))
        clear hcm hjc hc0 hs hns hsz4 hd4 hch4
        go_wp2_with fail
        refine HCM.out.mono ?_
        rintro e w5 ⟨rfl, hd5, t5⟩
        have T5 := T4.transNew t5 (by simp; omega)
        have htg5 := htg4.keep t5 (by simp; omega)
        have hth5 := hth4.keep t5 (by simp; omega)
        have hJ5 := hJ4.keep t5 (by simp; omega)
        have hbx5 := hbx4.keep t5 (by simp; omega)
        have HO := Lib.hid (don (B + 1) B D w5 hd5)
        rw [hon] at HO
        clear hon T4 htg4 hth4 hJ4 hbx4 t5 HCM
        go_wp2_with (first | (go_at_call 15; refine HO.out.mono ?_; rintro e w6 ⟨rfl, rfl⟩) | (with_reducible refine copy_tx rfl _ _ rfl h g now now rfl rfl hth5 htg5 hnl hnl ?_))
        intro w6 hth6 t6
        have T6 := T5.transNew t6 (by simp; omega)
        have hd6 := hd5.keep t6 (by simp; omega) (by simp; omega)
        have htg6 := htg5.keep t6 (by simp; omega)
        have hJ6 := hJ5.keep t6 (by simp; omega)
        have hbx6 := hbx5.keep t6 (by simp; omega)
        go_wp2_with fail
        go_roundw
        case rel => exact ⟨k + 1, D, now, by omega, by go_num, hd6, HK.out.1, HK.out.2.1, HK.out.2.2.1, HK.out.2.2.2, htg6, hth6, hJ6, hbx6, by omega, T6⟩
        case measure => simp [intOf]; omega
      · have hjd := jcommit_done 6 l D hl6
        have HIN := Lib.hid (ckc_in _ l [] hcz)
        have hul : (upd now l).length = 13 := by rw [upd_len]; exact hnl
        have hus := upd_size l now hns (fun p hp => (HIN.out p hp).2.2)
        have HCM : Hid (Calls Tryd.prog 14 #[.pointer (some ⟨jb, 0, none⟩), .slice sa l.length sc] w4 fun e w' => e = .returned (.int .i64 0) ∧ (IsDs w' (B + 1) B (jcommit 6 l D).2 ∧ Tch [B + 1, B] w4 w')) := hcm.mono fun e w' h => by
          unfold CmPost at h; rw [e1] at h; exact h
        generalize (jcommit 6 l D).2 = E at HCM e2 e3 hjd
        have HK := Lib.hid (And.intro e2 (And.intro e3 (And.intro hul hus)))
        have HNW := Lib.hid hnl
        clear hcm hs hns hsz4 hd4 hcz hon e1 e3 hus hnl
        go_wp2_with fail
        refine HCM.out.mono ?_
        rintro e w5 ⟨rfl, hd5, t5⟩
        have T5 := T4.transNew t5 (by simp; omega)
        have htg5 := htg4.keep t5 (by simp; omega)
        have hth5 := hth4.keep t5 (by simp; omega)
        have hJ5 := hJ4.keep t5 (by simp; omega)
        have hbx5 := hbx4.keep t5 (by simp; omega)
        have hch5 := hch4.keep' t5 (fun h0 => by have := hcb h0; simp; omega)
        have HCH : Hid (∀ w6, Tch [g] w5 w6 → IsChs w6 sa l.length cb o l) := fun w6 t6 => hch5.keep' t6 (fun h0 => by have := hcb h0; simp; omega)
        have HO := Lib.hid (don (B + 1) B E w5 hd5)
        rw [e2] at HO
        have hg5 := htg5.lt
        clear e2 T4 htg4 hth4 hJ4 hbx4 t5 HCM hch4 hch5
        go_wp2_with (first | (go_at_call 15; refine HO.out.mono ?_; rintro e w6 ⟨rfl, rfl⟩))
        obtain ⟨wo, rfl⟩ : ∃ wo : World, wo = wr := ⟨_, rfl⟩
        go_loopw [77] (fun v77 wq => LiRel w w5 B jb g E now l v77 wq) (fun v77 _ => l.length - (intOf v77).toNat)
        case atStart => exact ⟨0, by omega, rfl, htg5, Tch.refl _ _⟩
        case round =>
          obtain ⟨j, hj, rfl, htj, Tj⟩ := hrel
          by_cases hjl : j < l.length
          · have hcw := HCH.out _ Tj
            obtain ⟨x0, x1⟩ := hcw.row j l[j] (List.getElem?_eq_getElem hjl)
            have hsa : sa = some ⟨cb, o, none⟩ := by
              rcases hcw.at_ with h1 | ⟨h1, _⟩
              · omega
              · exact h1
            subst hsa
            have hin := HIN.out l[j] (List.getElem_mem hjl)
            have hut := upd_take now l j hjl
            generalize l[j] = c at x0 x1 hin hut
            obtain ⟨i, x⟩ := c
            obtain ⟨m, rfl⟩ := Int.eq_ofNat_of_zero_le hin.1
            simp only at x0 x1 hin hut
            rw [Int.toNat_natCast] at hut
            have hn13 : m < 13 := by omega
            have htA := htj.keep ((Tch.refl [] wr).alloc (.cells #[.int .i64 m, .string x] 39)) (by simp)
            have q0 := htA.at_ m (by rw [upd_len, HNW.out]; omega)
            have z0 := htA.free m
            have HTX := Lib.hid (htA.set m x)
            have TA := (Tj.alloc (.cells #[.int .i64 m, .string x] 39)).setCell (p := ⟨g, m, none⟩) (by simp) (.string x)
            rw [← hut] at HTX
            have hng : (m : Int) < 13 := by omega
            have hn0 : 0 ≤ (m : Int) := by omega
            clear hut hin htA hcw
            go_wp2_with fail
            go_roundw
            case rel => exact ⟨j + 1, by omega, by go_num, HTX.out, TA⟩
            case measure => simp [intOf]; omega
          · obtain rfl : j = l.length := by omega
            rw [List.take_length] at htj
            have hdj := hd5.keep Tj (by simp; omega) (by simp; omega)
            have hJj := hJ5.keep Tj (by simp; omega)
            have hbxj := hbx5.keep Tj (by simp; omega)
            have hthj := hth5.keep Tj (by simp; omega)
            have TJ := T5.transNew Tj (by simp; omega)
            go_wp2_with (with_reducible refine copy_tx rfl _ _ rfl h g (upd now l) now rfl rfl hthj htj hul HNW.out ?_)
            intro w6 hth6 t6
            have T6 := TJ.transNew t6 (by simp; omega)
            have hd6 := hdj.keep t6 (by simp; omega) (by simp; omega)
            have htg6 := htj.keep t6 (by simp; omega)
            have hJ6 := hJj.keep t6 (by simp; omega)
            have hbx6 := hbxj.keep t6 (by simp; omega)
            go_wp2_with fail
            go_roundw
            case rel => exact ⟨k + 1, E, upd now l, by omega, by go_num, hd6, HK.out.1, HK.out.2.1, HK.out.2.2.1, HK.out.2.2.2, htg6, hth6, hJ6, hbx6, by omega, T6⟩
            case measure => simp [intOf]; omega
      · have hjd := jcommit_done 6 l D hl6
        have HIN := Lib.hid (ckc_in _ l [] hcz)
        have hul : (upd now l).length = 13 := by rw [upd_len]; exact hnl
        have hus := upd_size l now hns (fun p hp => (HIN.out p hp).2.2)
        have HNL := Lib.hid (And.intro hnl (And.intro hul (And.intro hns hus)))
        have HCM : Hid (Calls Tryd.prog 14 #[.pointer (some ⟨jb, 0, none⟩), .slice sa l.length sc] w4 fun e w' => e = .returned (.int .i64 12) ∧ (IsDs w' (B + 1) B (jcommit 6 l D).2 ∧ Tch [B + 1, B] w4 w')) := hcm.mono fun e w' h => by
          unfold CmPost at h; rw [e1] at h; exact h
        generalize (jcommit 6 l D).2 = E at HCM e2 e3 hjd
        have HEI := Lib.hid e3
        clear hcm hs hns hsz4 hd4 hcz hon e1 e3 hus hnl hul
        go_wp2_with fail
        refine HCM.out.mono ?_
        rintro e w5 ⟨rfl, hd5, t5⟩
        have T5 := T4.transNew t5 (by simp; omega)
        have htg5 := htg4.keep t5 (by simp; omega)
        have hth5 := hth4.keep t5 (by simp; omega)
        have hbx5 := hbx4.keep t5 (by simp; omega)
        have hch5 := hch4.keep' t5 (fun h0 => by have := hcb h0; simp; omega)
        have HCH : Hid (∀ w6, Tch [h] w5 w6 → IsChs w6 sa l.length cb o l) := fun w6 t6 => hch5.keep' t6 (fun h0 => by have := hcb h0; simp; omega)
        have HO := Lib.hid (don (B + 1) B E w5 hd5)
        rw [e2] at HO
        have hg5 := hth5.lt
        clear e2 T4 htg4 hth4 hJ4 hbx4 t5 HCM hch4 hch5
        go_wp2_with (first | (go_at_call 15; refine HO.out.mono ?_; rintro e w6 ⟨rfl, rfl⟩))
        obtain ⟨wo, rfl⟩ : ∃ wo : World, wo = wr := ⟨_, rfl⟩
        go_loopw [62] (fun v62 wq => LiRel w w5 B jb h E now l v62 wq) (fun v62 _ => l.length - (intOf v62).toNat)
        case atStart => exact ⟨0, by omega, rfl, hth5, Tch.refl _ _⟩
        case round =>
          obtain ⟨j, hj, rfl, htj, Tj⟩ := hrel
          by_cases hjl : j < l.length
          · have hcw := HCH.out _ Tj
            obtain ⟨x0, x1⟩ := hcw.row j l[j] (List.getElem?_eq_getElem hjl)
            have hsa : sa = some ⟨cb, o, none⟩ := by
              rcases hcw.at_ with h1 | ⟨h1, _⟩
              · omega
              · exact h1
            subst hsa
            have hin := HIN.out l[j] (List.getElem_mem hjl)
            have hut := upd_take now l j hjl
            generalize l[j] = c at x0 x1 hin hut
            obtain ⟨i, x⟩ := c
            obtain ⟨m, rfl⟩ := Int.eq_ofNat_of_zero_le hin.1
            simp only at x0 x1 hin hut
            rw [Int.toNat_natCast] at hut
            have hn13 : m < 13 := by omega
            have htA := htj.keep ((Tch.refl [] wr).alloc (.cells #[.int .i64 m, .string x] 39)) (by simp)
            have q0 := htA.at_ m (by rw [upd_len, HNL.out.1]; omega)
            have z0 := htA.free m
            have HTX := Lib.hid (htA.set m x)
            have TA := (Tj.alloc (.cells #[.int .i64 m, .string x] 39)).setCell (p := ⟨h, m, none⟩) (by simp) (.string x)
            rw [← hut] at HTX
            have hng : (m : Int) < 13 := by omega
            have hn0 : 0 ≤ (m : Int) := by omega
            clear hut hin htA hcw
            go_wp2_with fail
            go_roundw
            case rel => exact ⟨j + 1, by omega, by go_num, HTX.out, TA⟩
            case measure => simp [intOf]; omega
          · obtain rfl : j = l.length := by omega
            rw [List.take_length] at htj
            have hdT := hd5.keep Tj (by simp; omega) (by simp; omega)
            have hbxT := hbx5.keep Tj (by simp; omega)
            have htgT := htg5.keep Tj (by simp; omega)
            have hthT := htj
            have TT := T5.transNew Tj (by simp; omega)
            have heiT := HEI.out
            have hdnT : E.done ≤ 14 * (cl : Int) := by omega
            clear hdn hjd Tj htj hd5 HCH HIN HEI HZL hbx5 htg5 hth5 T5 HO
            obtain ⟨DT, hDT⟩ : ∃ DT : Ds, DT = E := ⟨_, rfl⟩
            rw [← hDT] at hdT heiT hdnT
            clear hDT
            go_wp2_with fail
            go_loopw [15] (fun v15 wq => JaRel w B X g h cl (some ⟨ab, ao, none⟩) cl cc n aa al ac now (upd now l) v15 wq) (fun v15 _ => al - (intOf v15).toNat)
            case atStart => exact ⟨0, DT, by omega, by omega, rfl, hdT, heiT, htgT, hthT, hbxT, by omega, TT⟩
            case round =>
              obtain ⟨q, E, hq, hq20, rfl, hdq, heq, htgq, hthq, hbxq, hdnq, Tq⟩ := hrel
              obtain ⟨xd0, xd1, xd2⟩ := hbxq.at_
              have HS := Lib.hid (dstart (B + 1) B E wr hdq)
              by_cases hq1 : (q : Int) < (al : Int)
              · by_cases hq2 : (q : Int) < 20
                · obtain ⟨ab, ao, rfl, hab, hz1, hz2, hcz, hwf⟩ := hi.at_ (by omega)
                  have hcn := hcz q (by omega)
                  rw [← Tq.cell hab (by simp)] at hcn
                  have hm := i64_of_wf (hwf (ns.getD q 0) (by rw [List.getD_eq_getElem?_getD, List.getElem?_eq_getElem (by omega)]; exact List.getElem_mem _))
                  generalize ns.getD q 0 = m at hcn hm
                  clear hcz hwf
                  go_wp2_with fail
                  refine HS.out.mono ?_
                  rintro e w4 ⟨rfl, hd4, t4⟩
                  have T4 := Tq.transNew t4 (by simp; omega)
                  have hcn4 := (t4.cell (by have := Tq.size; omega) (by simp; omega)).trans hcn
                  have hbx4 := hbxq.keep t4 (by simp; omega)
                  have htg4 := htgq.keep t4 (by simp; omega)
                  have hth4 := hthq.keep t4 (by simp; omega)
                  obtain ⟨xe0, xe1, xe2⟩ := hbx4.at_
                  clear hcn xd0 xd1 xd2 hbxq htgq hthq t4 HS
                  go_wp2_with fail
                  refine (dcut (B + 1) B _ (max 0 m) w4 hd4 (by omega) (by omega)).mono ?_
                  rintro e w5 ⟨rfl, hd5, t5⟩
                  have T5 := T4.transNew t5 (by simp; omega)
                  have hbx5 := hbx4.keep t5 (by simp; omega)
                  have htg5 := htg4.keep t5 (by simp; omega)
                  have hth5 := hth4.keep t5 (by simp; omega)
                  obtain ⟨E2, hE2⟩ : ∃ E2 : Ds, E2 = { E with left := max (max 0 m) 0, on := true } := ⟨_, rfl⟩
                  have hd5' : IsDs w5 (B + 1) B E2 := by rw [hE2]; exact hd5
                  have hon2 : E2.on = true := by rw [hE2]
                  have htx2 : E2.texts = E.texts := by rw [hE2]
                  have hdn2 : E2.done = E.done := by rw [hE2]
                  have hei := (either_open hon2 (either_keep heq htx2) HNL.out.1 HNL.out.2.1 (seen_size hd5')).1
                  have hjd : (jopen 6 E2).2.done ≤ E2.done + 6 + 1 := jopen_done 6 E2 (by omega)
                  have HOP := Lib.hid (open_any (B + 1) B 6 E2 w5 hd5' (by omega))
                  clear hE2 hon2 htx2 hd5 heq hdq hd4 xe0 xe1 xe2 hcn4 hbx4 htg4 hth4 t5 hd5'
                  go_wp2_with fail
                  refine HOP.out.mono ?_
                  rintro e w6 ⟨t6, hd6, hx6⟩
                  have T6 := T5.transNew t6 (by simp; omega)
                  have hbx6 := hbx5.keep t6 (by simp; omega)
                  have htg6 := htg5.keep t6 (by simp; omega)
                  have hth6 := hth5.keep t6 (by simp; omega)
                  have HO := Lib.hid (don (B + 1) B _ w6 hd6)
                  rcases hei with ⟨c1, c2, c3⟩ | ⟨c1, c2, c3⟩
                  · rcases hx6 with ⟨_, j2, rfl, _, _⟩ | ⟨h', _⟩
                    rotate_left
                    · exact absurd c1 h'
                    rw [c2] at HO
                    have hei2 : Either (jopen 6 E2).2 now (upd now l) := by
                      rcases c3 with c3 | c3
                      · exact ⟨[], Or.inl c3⟩
                      · exact ⟨[], Or.inr c3⟩
                    clear c1 c2 c3 HOP
                    go_wp2_with (first | (go_at_call 15; refine HO.out.mono ?_; rintro e w7 ⟨rfl, rfl⟩))
                    go_roundw
                    case rel => exact ⟨q + 1, _, by omega, by omega, by go_num, hd6, hei2, htg6, hth6, hbx6, by omega, T6⟩
                    case measure => simp [intOf]; omega
                  · rcases hx6 with ⟨h', _⟩ | ⟨_, he⟩
                    · omega
                    rw [c1] at he
                    subst he
                    rw [c2] at HO
                    clear c1 c2 HOP
                    go_wp2_with (first | (go_at_call 15; refine HO.out.mono ?_; rintro e w7 ⟨rfl, rfl⟩))
                    go_roundw
                    case rel => exact ⟨q + 1, _, by omega, by omega, by go_num, hd6, c3, htg6, hth6, hbx6, by omega, T6⟩
                    case measure => simp [intOf]; omega
                · skip
                  go_wp2_with fail
                  refine HS.out.mono ?_
                  rintro e w4 ⟨rfl, hd4, t4⟩
                  have T4 := Tq.transNew t4 (by simp; omega)
                  have htg4 := htgq.keep t4 (by simp; omega)
                  have hth4 := hthq.keep t4 (by simp; omega)
                  obtain ⟨E1, hE1⟩ : ∃ E1 : Ds, E1 = { E with left := -1, on := true } := ⟨_, rfl⟩
                  rw [← hE1] at hd4
                  have hon1 : E1.on = true := by rw [hE1]
                  have hle1 : E1.left = -1 := by rw [hE1]
                  have htx1 : E1.texts = E.texts := by rw [hE1]
                  have hdn1 : E1.done = E.done := by rw [hE1]
                  have hop := open_any (B + 1) B 6 E1 w4 hd4 (by omega)
                  obtain ⟨hei, hcalm⟩ := either_open hon1 (either_keep heq htx1) HNL.out.1 HNL.out.2.1 (seen_size hd4)
                  have c0 := hcalm hle1
                  have hsl4 := hd4.len
                  have HOP := Lib.hid hop
                  have hlt4 := hd4.lt
                  clear hop hE1 htx1 hle1 hcalm heq hdq hdnq t4 htgq hthq hbxq HS hd4
                  go_wp2_with fail
                  refine HOP.out.mono ?_
                  rintro e w6 ⟨t6, hd6, hx6⟩
                  have T6 := T4.transNew t6 (by simp; omega)
                  have htg6 := htg4.keep t6 (by simp; omega)
                  have hth6 := hth4.keep t6 (by simp; omega)
                  rcases hei with ⟨_, c2, c3⟩ | ⟨c1, _, _⟩
                  rotate_left
                  · omega
                  rcases hx6 with ⟨_, j2, rfl, hj2, hJ6⟩ | ⟨h', _⟩
                  rotate_left
                  · exact absurd c0 h'
                  generalize (jopen 6 E1).2 = E3 at hd6 c2 c3
                  have hJ6' : IsJn w6 j2 (B + 1) 6 := by simpa using hJ6
                  have hj2B : j2 ≠ B + 1 ∧ j2 ≠ B := by omega
                  have hlen3 : 6 + 1 + 13 ≤ E3.texts.length := by
                    rcases c3 with c3 | c3
                    · have := c3.len; have := HNL.out.1; omega
                    · have := c3.len; have := HNL.out.2.1; omega
                  have HH1 : Hid (Calls Tryd.prog 17 #[.pointer (some ⟨j2, 0, none⟩), .slice (some ⟨g, 0, none⟩) 13 13] w6 fun e w' => e = .returned (.bool (holdsB E3 6 now)) ∧ (IsDs w' (B + 1) B E3 ∧ Tch [B + 1] w6 w')) := by
                    have h6 := holds_any j2 (B + 1) B 6 g 13 E3 now w6 hJ6' hd6 hj2B (by omega) c2 htg6 (by omega) (by rw [HNL.out.1]; exact hlen3) HNL.out.2.2.1
                    rw [HNL.out.1] at h6
                    exact h6
                  have hor : HasS E3 6 now ∨ (¬ HasS E3 6 now ∧ HasS E3 6 (upd now l)) := by
                    rcases Classical.em (HasS E3 6 now) with h1 | h1
                    · exact Or.inl h1
                    · rcases c3 with c3 | c3
                      · exact absurd (seen_has c3) h1
                      · exact Or.inr ⟨h1, seen_has c3⟩
                  have HK := Lib.hid (And.intro c2 hlen3)
                  clear c2 c3 hlen3 c0 hon1 HOP hJ6
                  rcases hor with h1 | ⟨h1, h2⟩
                  · rw [holdsB_yes h1] at HH1
                    clear h1
                    go_wp2_with (first | (go_at_call 17; with_reducible refine HH1.out.mono ?_; rintro e w7 ⟨rfl, hd7, t7⟩))
                    go_ret
                    refine ⟨?_, T6.transNew t7 (by simp; omega)⟩
                    rfl
                  · rw [holdsB_no h1] at HH1
                    have HH2 : Hid (∀ w7, IsDs w7 (B + 1) B E3 → Tch [B + 1] w6 w7 → Calls Tryd.prog 17 #[.pointer (some ⟨j2, 0, none⟩), .slice (some ⟨h, 0, none⟩) 13 13] w7 fun e w' => e = .returned (.bool true) ∧ (IsDs w' (B + 1) B E3 ∧ Tch [B + 1] w7 w')) := fun w7 hd7 t7 => by
                      have h6 := holds_any j2 (B + 1) B 6 h 13 E3 (upd now l) w7 (hJ6'.keep t7 (by simp; omega)) hd7 hj2B (by omega) HK.out.1 (hth6.keep t7 (by simp; omega)) (by omega) (by rw [HNL.out.2.1]; exact HK.out.2) HNL.out.2.2.2
                      rw [HNL.out.2.1, holdsB_yes h2] at h6
                      exact h6
                    clear h1 h2
                    go_wp2_with (first | (go_at_call 17; first | (with_reducible refine HH1.out.mono ?_; rintro e w7 ⟨rfl, hd7, t7⟩) | (with_reducible refine (HH2.out _ hd7 t7).mono ?_; rintro e w8 ⟨rfl, hd8, t8⟩)))
                    go_ret
                    refine ⟨?_, (T6.transNew t7 (by simp; omega)).transNew t8 (by simp; omega)⟩
                    rfl
              · skip
                go_wp2_with fail
                refine HS.out.mono ?_
                rintro e w4 ⟨rfl, hd4, t4⟩
                have T4 := Tq.transNew t4 (by simp; omega)
                have htg4 := htgq.keep t4 (by simp; omega)
                have hth4 := hthq.keep t4 (by simp; omega)
                obtain ⟨E1, hE1⟩ : ∃ E1 : Ds, E1 = { E with left := -1, on := true } := ⟨_, rfl⟩
                rw [← hE1] at hd4
                have hon1 : E1.on = true := by rw [hE1]
                have hle1 : E1.left = -1 := by rw [hE1]
                have htx1 : E1.texts = E.texts := by rw [hE1]
                have hdn1 : E1.done = E.done := by rw [hE1]
                have hop := open_any (B + 1) B 6 E1 w4 hd4 (by omega)
                obtain ⟨hei, hcalm⟩ := either_open hon1 (either_keep heq htx1) HNL.out.1 HNL.out.2.1 (seen_size hd4)
                have c0 := hcalm hle1
                have hsl4 := hd4.len
                have HOP := Lib.hid hop
                have hlt4 := hd4.lt
                clear hop hE1 htx1 hle1 hcalm heq hdq hdnq t4 htgq hthq hbxq HS hd4
                go_wp2_with fail
                refine HOP.out.mono ?_
                rintro e w6 ⟨t6, hd6, hx6⟩
                have T6 := T4.transNew t6 (by simp; omega)
                have htg6 := htg4.keep t6 (by simp; omega)
                have hth6 := hth4.keep t6 (by simp; omega)
                rcases hei with ⟨_, c2, c3⟩ | ⟨c1, _, _⟩
                rotate_left
                · omega
                rcases hx6 with ⟨_, j2, rfl, hj2, hJ6⟩ | ⟨h', _⟩
                rotate_left
                · exact absurd c0 h'
                generalize (jopen 6 E1).2 = E3 at hd6 c2 c3
                have hJ6' : IsJn w6 j2 (B + 1) 6 := by simpa using hJ6
                have hj2B : j2 ≠ B + 1 ∧ j2 ≠ B := by omega
                have hlen3 : 6 + 1 + 13 ≤ E3.texts.length := by
                  rcases c3 with c3 | c3
                  · have := c3.len; have := HNL.out.1; omega
                  · have := c3.len; have := HNL.out.2.1; omega
                have HH1 : Hid (Calls Tryd.prog 17 #[.pointer (some ⟨j2, 0, none⟩), .slice (some ⟨g, 0, none⟩) 13 13] w6 fun e w' => e = .returned (.bool (holdsB E3 6 now)) ∧ (IsDs w' (B + 1) B E3 ∧ Tch [B + 1] w6 w')) := by
                  have h6 := holds_any j2 (B + 1) B 6 g 13 E3 now w6 hJ6' hd6 hj2B (by omega) c2 htg6 (by omega) (by rw [HNL.out.1]; exact hlen3) HNL.out.2.2.1
                  rw [HNL.out.1] at h6
                  exact h6
                have hor : HasS E3 6 now ∨ (¬ HasS E3 6 now ∧ HasS E3 6 (upd now l)) := by
                  rcases Classical.em (HasS E3 6 now) with h1 | h1
                  · exact Or.inl h1
                  · rcases c3 with c3 | c3
                    · exact absurd (seen_has c3) h1
                    · exact Or.inr ⟨h1, seen_has c3⟩
                have HK := Lib.hid (And.intro c2 hlen3)
                clear c2 c3 hlen3 c0 hon1 HOP hJ6
                rcases hor with h1 | ⟨h1, h2⟩
                · rw [holdsB_yes h1] at HH1
                  clear h1
                  go_wp2_with (first | (go_at_call 17; with_reducible refine HH1.out.mono ?_; rintro e w7 ⟨rfl, hd7, t7⟩))
                  go_ret
                  refine ⟨?_, T6.transNew t7 (by simp; omega)⟩
                  rfl
                · rw [holdsB_no h1] at HH1
                  have HH2 : Hid (∀ w7, IsDs w7 (B + 1) B E3 → Tch [B + 1] w6 w7 → Calls Tryd.prog 17 #[.pointer (some ⟨j2, 0, none⟩), .slice (some ⟨h, 0, none⟩) 13 13] w7 fun e w' => e = .returned (.bool true) ∧ (IsDs w' (B + 1) B E3 ∧ Tch [B + 1] w7 w')) := fun w7 hd7 t7 => by
                    have h6 := holds_any j2 (B + 1) B 6 h 13 E3 (upd now l) w7 (hJ6'.keep t7 (by simp; omega)) hd7 hj2B (by omega) HK.out.1 (hth6.keep t7 (by simp; omega)) (by omega) (by rw [HNL.out.2.1]; exact HK.out.2) HNL.out.2.2.2
                    rw [HNL.out.2.1, holdsB_yes h2] at h6
                    exact h6
                  clear h1 h2
                  go_wp2_with (first | (go_at_call 17; first | (with_reducible refine HH1.out.mono ?_; rintro e w7 ⟨rfl, hd7, t7⟩) | (with_reducible refine (HH2.out _ hd7 t7).mono ?_; rintro e w8 ⟨rfl, hd8, t8⟩)))
                  go_ret
                  refine ⟨?_, (T6.transNew t7 (by simp; omega)).transNew t8 (by simp; omega)⟩
                  rfl
    · have HNL := Lib.hid (And.intro hnl (And.intro hnl (And.intro hns hns)))
      have hdT := hd
      have hbxT := hbx
      have htgT := htg
      have hthT := hth
      have TT := T
      have heiT : Either D now now := ⟨[], Or.inl hs⟩
      have hdnT : D.done ≤ 14 * (cl : Int) := by omega
      clear hd hs hnl hns htg hth hJ hbx hdn T hza hzs HZL hon
      obtain ⟨wo, rfl⟩ : ∃ wo : World, wo = wr := ⟨_, rfl⟩
      go_wp2_with fail
      go_loopw [15] (fun v15 wq => JaRel w B X g h cl ca cl cc n aa al ac now now v15 wq) (fun v15 _ => al - (intOf v15).toNat)
      case atStart => exact ⟨0, D, by omega, by omega, rfl, hdT, heiT, htgT, hthT, hbxT, by omega, TT⟩
      case round =>
        obtain ⟨q, E, hq, hq20, rfl, hdq, heq, htgq, hthq, hbxq, hdnq, Tq⟩ := hrel
        obtain ⟨xd0, xd1, xd2⟩ := hbxq.at_
        have HS := Lib.hid (dstart (B + 1) B E wr hdq)
        by_cases hq1 : (q : Int) < (al : Int)
        · by_cases hq2 : (q : Int) < 20
          · obtain ⟨ab, ao, rfl, hab, hz1, hz2, hcz, hwf⟩ := hi.at_ (by omega)
            have hcn := hcz q (by omega)
            rw [← Tq.cell hab (by simp)] at hcn
            have hm := i64_of_wf (hwf (ns.getD q 0) (by rw [List.getD_eq_getElem?_getD, List.getElem?_eq_getElem (by omega)]; exact List.getElem_mem _))
            generalize ns.getD q 0 = m at hcn hm
            clear hcz hwf
            go_wp2_with fail
            refine HS.out.mono ?_
            rintro e w4 ⟨rfl, hd4, t4⟩
            have T4 := Tq.transNew t4 (by simp; omega)
            have hcn4 := (t4.cell (by have := Tq.size; omega) (by simp; omega)).trans hcn
            have hbx4 := hbxq.keep t4 (by simp; omega)
            have htg4 := htgq.keep t4 (by simp; omega)
            have hth4 := hthq.keep t4 (by simp; omega)
            obtain ⟨xe0, xe1, xe2⟩ := hbx4.at_
            clear hcn xd0 xd1 xd2 hbxq htgq hthq t4 HS
            go_wp2_with fail
            refine (dcut (B + 1) B _ (max 0 m) w4 hd4 (by omega) (by omega)).mono ?_
            rintro e w5 ⟨rfl, hd5, t5⟩
            have T5 := T4.transNew t5 (by simp; omega)
            have hbx5 := hbx4.keep t5 (by simp; omega)
            have htg5 := htg4.keep t5 (by simp; omega)
            have hth5 := hth4.keep t5 (by simp; omega)
            obtain ⟨E2, hE2⟩ : ∃ E2 : Ds, E2 = { E with left := max (max 0 m) 0, on := true } := ⟨_, rfl⟩
            have hd5' : IsDs w5 (B + 1) B E2 := by rw [hE2]; exact hd5
            have hon2 : E2.on = true := by rw [hE2]
            have htx2 : E2.texts = E.texts := by rw [hE2]
            have hdn2 : E2.done = E.done := by rw [hE2]
            have hei := (either_open hon2 (either_keep heq htx2) HNL.out.1 HNL.out.2.1 (seen_size hd5')).1
            have hjd : (jopen 6 E2).2.done ≤ E2.done + 6 + 1 := jopen_done 6 E2 (by omega)
            have HOP := Lib.hid (open_any (B + 1) B 6 E2 w5 hd5' (by omega))
            clear hE2 hon2 htx2 hd5 heq hdq hd4 xe0 xe1 xe2 hcn4 hbx4 htg4 hth4 t5 hd5'
            go_wp2_with fail
            refine HOP.out.mono ?_
            rintro e w6 ⟨t6, hd6, hx6⟩
            have T6 := T5.transNew t6 (by simp; omega)
            have hbx6 := hbx5.keep t6 (by simp; omega)
            have htg6 := htg5.keep t6 (by simp; omega)
            have hth6 := hth5.keep t6 (by simp; omega)
            have HO := Lib.hid (don (B + 1) B _ w6 hd6)
            rcases hei with ⟨c1, c2, c3⟩ | ⟨c1, c2, c3⟩
            · rcases hx6 with ⟨_, j2, rfl, _, _⟩ | ⟨h', _⟩
              rotate_left
              · exact absurd c1 h'
              rw [c2] at HO
              have hei2 : Either (jopen 6 E2).2 now now := by
                rcases c3 with c3 | c3
                · exact ⟨[], Or.inl c3⟩
                · exact ⟨[], Or.inr c3⟩
              clear c1 c2 c3 HOP
              go_wp2_with (first | (go_at_call 15; refine HO.out.mono ?_; rintro e w7 ⟨rfl, rfl⟩))
              go_roundw
              case rel => exact ⟨q + 1, _, by omega, by omega, by go_num, hd6, hei2, htg6, hth6, hbx6, by omega, T6⟩
              case measure => simp [intOf]; omega
            · rcases hx6 with ⟨h', _⟩ | ⟨_, he⟩
              · omega
              rw [c1] at he
              subst he
              rw [c2] at HO
              clear c1 c2 HOP
              go_wp2_with (first | (go_at_call 15; refine HO.out.mono ?_; rintro e w7 ⟨rfl, rfl⟩))
              go_roundw
              case rel => exact ⟨q + 1, _, by omega, by omega, by go_num, hd6, c3, htg6, hth6, hbx6, by omega, T6⟩
              case measure => simp [intOf]; omega
          · skip
            go_wp2_with fail
            refine HS.out.mono ?_
            rintro e w4 ⟨rfl, hd4, t4⟩
            have T4 := Tq.transNew t4 (by simp; omega)
            have htg4 := htgq.keep t4 (by simp; omega)
            have hth4 := hthq.keep t4 (by simp; omega)
            obtain ⟨E1, hE1⟩ : ∃ E1 : Ds, E1 = { E with left := -1, on := true } := ⟨_, rfl⟩
            rw [← hE1] at hd4
            have hon1 : E1.on = true := by rw [hE1]
            have hle1 : E1.left = -1 := by rw [hE1]
            have htx1 : E1.texts = E.texts := by rw [hE1]
            have hdn1 : E1.done = E.done := by rw [hE1]
            have hop := open_any (B + 1) B 6 E1 w4 hd4 (by omega)
            obtain ⟨hei, hcalm⟩ := either_open hon1 (either_keep heq htx1) HNL.out.1 HNL.out.2.1 (seen_size hd4)
            have c0 := hcalm hle1
            have hsl4 := hd4.len
            have HOP := Lib.hid hop
            have hlt4 := hd4.lt
            clear hop hE1 htx1 hle1 hcalm heq hdq hdnq t4 htgq hthq hbxq HS hd4
            go_wp2_with fail
            refine HOP.out.mono ?_
            rintro e w6 ⟨t6, hd6, hx6⟩
            have T6 := T4.transNew t6 (by simp; omega)
            have htg6 := htg4.keep t6 (by simp; omega)
            have hth6 := hth4.keep t6 (by simp; omega)
            rcases hei with ⟨_, c2, c3⟩ | ⟨c1, _, _⟩
            rotate_left
            · omega
            rcases hx6 with ⟨_, j2, rfl, hj2, hJ6⟩ | ⟨h', _⟩
            rotate_left
            · exact absurd c0 h'
            generalize (jopen 6 E1).2 = E3 at hd6 c2 c3
            have hJ6' : IsJn w6 j2 (B + 1) 6 := by simpa using hJ6
            have hj2B : j2 ≠ B + 1 ∧ j2 ≠ B := by omega
            have hlen3 : 6 + 1 + 13 ≤ E3.texts.length := by
              rcases c3 with c3 | c3
              · have := c3.len; have := HNL.out.1; omega
              · have := c3.len; have := HNL.out.2.1; omega
            have HH1 : Hid (Calls Tryd.prog 17 #[.pointer (some ⟨j2, 0, none⟩), .slice (some ⟨g, 0, none⟩) 13 13] w6 fun e w' => e = .returned (.bool (holdsB E3 6 now)) ∧ (IsDs w' (B + 1) B E3 ∧ Tch [B + 1] w6 w')) := by
              have h6 := holds_any j2 (B + 1) B 6 g 13 E3 now w6 hJ6' hd6 hj2B (by omega) c2 htg6 (by omega) (by rw [HNL.out.1]; exact hlen3) HNL.out.2.2.1
              rw [HNL.out.1] at h6
              exact h6
            have hor : HasS E3 6 now ∨ (¬ HasS E3 6 now ∧ HasS E3 6 now) := by
              rcases Classical.em (HasS E3 6 now) with h1 | h1
              · exact Or.inl h1
              · rcases c3 with c3 | c3
                · exact absurd (seen_has c3) h1
                · exact Or.inr ⟨h1, seen_has c3⟩
            have HK := Lib.hid (And.intro c2 hlen3)
            clear c2 c3 hlen3 c0 hon1 HOP hJ6
            rcases hor with h1 | ⟨h1, h2⟩
            · rw [holdsB_yes h1] at HH1
              clear h1
              go_wp2_with (first | (go_at_call 17; with_reducible refine HH1.out.mono ?_; rintro e w7 ⟨rfl, hd7, t7⟩))
              go_ret
              refine ⟨?_, T6.transNew t7 (by simp; omega)⟩
              rfl
            · rw [holdsB_no h1] at HH1
              have HH2 : Hid (∀ w7, IsDs w7 (B + 1) B E3 → Tch [B + 1] w6 w7 → Calls Tryd.prog 17 #[.pointer (some ⟨j2, 0, none⟩), .slice (some ⟨h, 0, none⟩) 13 13] w7 fun e w' => e = .returned (.bool true) ∧ (IsDs w' (B + 1) B E3 ∧ Tch [B + 1] w7 w')) := fun w7 hd7 t7 => by
                have h6 := holds_any j2 (B + 1) B 6 h 13 E3 now w7 (hJ6'.keep t7 (by simp; omega)) hd7 hj2B (by omega) HK.out.1 (hth6.keep t7 (by simp; omega)) (by omega) (by rw [HNL.out.2.1]; exact HK.out.2) HNL.out.2.2.2
                rw [HNL.out.2.1, holdsB_yes h2] at h6
                exact h6
              clear h1 h2
              go_wp2_with (first | (go_at_call 17; first | (with_reducible refine HH1.out.mono ?_; rintro e w7 ⟨rfl, hd7, t7⟩) | (with_reducible refine (HH2.out _ hd7 t7).mono ?_; rintro e w8 ⟨rfl, hd8, t8⟩)))
              go_ret
              refine ⟨?_, (T6.transNew t7 (by simp; omega)).transNew t8 (by simp; omega)⟩
              rfl
        · skip
          go_wp2_with fail
          refine HS.out.mono ?_
          rintro e w4 ⟨rfl, hd4, t4⟩
          have T4 := Tq.transNew t4 (by simp; omega)
          have htg4 := htgq.keep t4 (by simp; omega)
          have hth4 := hthq.keep t4 (by simp; omega)
          obtain ⟨E1, hE1⟩ : ∃ E1 : Ds, E1 = { E with left := -1, on := true } := ⟨_, rfl⟩
          rw [← hE1] at hd4
          have hon1 : E1.on = true := by rw [hE1]
          have hle1 : E1.left = -1 := by rw [hE1]
          have htx1 : E1.texts = E.texts := by rw [hE1]
          have hdn1 : E1.done = E.done := by rw [hE1]
          have hop := open_any (B + 1) B 6 E1 w4 hd4 (by omega)
          obtain ⟨hei, hcalm⟩ := either_open hon1 (either_keep heq htx1) HNL.out.1 HNL.out.2.1 (seen_size hd4)
          have c0 := hcalm hle1
          have hsl4 := hd4.len
          have HOP := Lib.hid hop
          have hlt4 := hd4.lt
          clear hop hE1 htx1 hle1 hcalm heq hdq hdnq t4 htgq hthq hbxq HS hd4
          go_wp2_with fail
          refine HOP.out.mono ?_
          rintro e w6 ⟨t6, hd6, hx6⟩
          have T6 := T4.transNew t6 (by simp; omega)
          have htg6 := htg4.keep t6 (by simp; omega)
          have hth6 := hth4.keep t6 (by simp; omega)
          rcases hei with ⟨_, c2, c3⟩ | ⟨c1, _, _⟩
          rotate_left
          · omega
          rcases hx6 with ⟨_, j2, rfl, hj2, hJ6⟩ | ⟨h', _⟩
          rotate_left
          · exact absurd c0 h'
          generalize (jopen 6 E1).2 = E3 at hd6 c2 c3
          have hJ6' : IsJn w6 j2 (B + 1) 6 := by simpa using hJ6
          have hj2B : j2 ≠ B + 1 ∧ j2 ≠ B := by omega
          have hlen3 : 6 + 1 + 13 ≤ E3.texts.length := by
            rcases c3 with c3 | c3
            · have := c3.len; have := HNL.out.1; omega
            · have := c3.len; have := HNL.out.2.1; omega
          have HH1 : Hid (Calls Tryd.prog 17 #[.pointer (some ⟨j2, 0, none⟩), .slice (some ⟨g, 0, none⟩) 13 13] w6 fun e w' => e = .returned (.bool (holdsB E3 6 now)) ∧ (IsDs w' (B + 1) B E3 ∧ Tch [B + 1] w6 w')) := by
            have h6 := holds_any j2 (B + 1) B 6 g 13 E3 now w6 hJ6' hd6 hj2B (by omega) c2 htg6 (by omega) (by rw [HNL.out.1]; exact hlen3) HNL.out.2.2.1
            rw [HNL.out.1] at h6
            exact h6
          have hor : HasS E3 6 now ∨ (¬ HasS E3 6 now ∧ HasS E3 6 now) := by
            rcases Classical.em (HasS E3 6 now) with h1 | h1
            · exact Or.inl h1
            · rcases c3 with c3 | c3
              · exact absurd (seen_has c3) h1
              · exact Or.inr ⟨h1, seen_has c3⟩
          have HK := Lib.hid (And.intro c2 hlen3)
          clear c2 c3 hlen3 c0 hon1 HOP hJ6
          rcases hor with h1 | ⟨h1, h2⟩
          · rw [holdsB_yes h1] at HH1
            clear h1
            go_wp2_with (first | (go_at_call 17; with_reducible refine HH1.out.mono ?_; rintro e w7 ⟨rfl, hd7, t7⟩))
            go_ret
            refine ⟨?_, T6.transNew t7 (by simp; omega)⟩
            rfl
          · rw [holdsB_no h1] at HH1
            have HH2 : Hid (∀ w7, IsDs w7 (B + 1) B E3 → Tch [B + 1] w6 w7 → Calls Tryd.prog 17 #[.pointer (some ⟨j2, 0, none⟩), .slice (some ⟨h, 0, none⟩) 13 13] w7 fun e w' => e = .returned (.bool true) ∧ (IsDs w' (B + 1) B E3 ∧ Tch [B + 1] w7 w')) := fun w7 hd7 t7 => by
              have h6 := holds_any j2 (B + 1) B 6 h 13 E3 now w7 (hJ6'.keep t7 (by simp; omega)) hd7 hj2B (by omega) HK.out.1 (hth6.keep t7 (by simp; omega)) (by omega) (by rw [HNL.out.2.1]; exact HK.out.2) HNL.out.2.2.2
              rw [HNL.out.2.1, holdsB_yes h2] at h6
              exact h6
            clear h1 h2
            go_wp2_with (first | (go_at_call 17; first | (with_reducible refine HH1.out.mono ?_; rintro e w7 ⟨rfl, hd7, t7⟩) | (with_reducible refine (HH2.out _ hd7 t7).mono ?_; rintro e w8 ⟨rfl, hd8, t8⟩)))
            go_ret
            refine ⟨?_, (T6.transNew t7 (by simp; omega)).transNew t8 (by simp; omega)⟩
            rfl
end Go.Proofs.YtclnhgfionfbbaaDoor
