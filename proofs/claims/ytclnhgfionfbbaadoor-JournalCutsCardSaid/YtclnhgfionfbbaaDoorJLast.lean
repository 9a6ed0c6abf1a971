/-
  The law JournalLast, walked: for every list of commits it answers true and turns nothing that was there. Condition: the list is within the reach of memory.
-/
import Derived.Test.YtclnhgfionfbbaaDoorRefu
import Derived.Test.YtclnhgfionfbbaaDoorChsIn
import Derived.Deep.LoopGhost
namespace Go.Proofs.YtclnhgfionfbbaaDoor
open Go.RowKit
set_option linter.unusedVariables false

/-- The cells of n empty texts. -/
def eCells (n : Nat) : Array Value := ((List.replicate n (⟨#[]⟩ : ByteArray)).map Value.string).toArray
theorem jcommit_no {D : Ds} {room : Nat} {now : List ByteArray} {cs : List (Int × ByteArray)} (hs : Seen D room [] now) (h : ¬ (cs.length ≤ room ∧ ckc now.length cs [] = 0)) : ∃ c, c ≠ 0 ∧ jcommit room cs D = (c, D) := by
  by_cases hl : room < cs.length
  · exact ⟨31, by omega, by unfold jcommit; rw [if_pos hl]⟩
  · have hck : ckc now.length cs [] ≠ 0 := fun h0 => h ⟨by omega, h0⟩
    exact ⟨_, hck, by unfold jcommit; rw [if_neg hl, if_pos (Or.inl (by rw [hs.clean]; exact hck)), hs.clean]⟩
theorem IsChs.keep' {w w' : World} {a : Option Addr} {len cb o : Nat} {cs : List (Int × ByteArray)} {L : List Nat} (h : IsChs w a len cb o cs) (t : Tch L w w') (hn : 0 < len → cb ∉ L) : IsChs w' a len cb o cs := by
  by_cases h0 : 0 < len
  · exact h.keep t (hn h0)
  · have hl := h.hlen
    refine ⟨h.hlen, Or.inl (by omega), fun k c hk => ?_, h.fit⟩
    have := (List.getElem?_eq_some_iff.1 hk).1
    omega
theorem seen_has {D : Ds} {room : Nat} {now : List ByteArray} (hs : Seen D room [] now) : HasS D room now := fun i hi => by
  have := hs.held i hi
  unfold cont at this
  rw [if_neg (by simp)] at this
  exact this
theorem IsTx.set {w : World} {g : Nat} {ws : List ByteArray} (h : IsTx w g ws) (n : Nat) (x : ByteArray) : IsTx (w.setCell ⟨g, n, none⟩ (.string x)) g (ws.set n x) := by
  have := blk_set h n (.string x)
  unfold IsTx
  rw [this]
  congr 2
  simp [List.map_set]
theorem IsTx.free {w : World} {g : Nat} {ws : List ByteArray} (h : IsTx w g ws) (n : Nat) : w.frozen? ⟨g, n, none⟩ = false := blk_free h n
theorem upd_take (now : List ByteArray) (l : List (Int × ByteArray)) (j : Nat) (hj : j < l.length) : upd now (l.take (j + 1)) = (upd now (l.take j)).set (l[j].1.toNat) l[j].2 := by
  unfold upd
  rw [List.take_succ_eq_append_getElem hj, List.foldl_append]
  rfl
theorem upd_size (l : List (Int × ByteArray)) : ∀ (now : List ByteArray), (∀ i, (now.getD i ⟨#[]⟩).size ≤ 1024) → (∀ p ∈ l, p.2.size ≤ 1024) → ∀ i, ((upd now l).getD i ⟨#[]⟩).size ≤ 1024 := by
  induction l with
  | nil => intro now h _ i; exact h i
  | cons p l ih =>
    intro now h hp i
    refine ih (now.set p.1.toNat p.2) (fun k => ?_) (fun q hq => hp q (by simp [hq])) i
    rw [List.getD_eq_getElem?_getD, List.getElem?_set]
    split
    · split
      · exact hp p (by simp)
      · decide
    · rw [← List.getD_eq_getElem?_getD]; exact h k

/-- What holds at the head of each round. -/
def LjRel (w : World) (B jb g len : Nat) (v27 : Value) (wr : World) : Prop :=
  ∃ (k : Nat) (D : Ds) (now : List ByteArray), k ≤ len ∧ v27 = .int .i64 k ∧ IsDs wr (B + 1) B D ∧ D.on = true ∧ D.left = -1 ∧ Seen D 6 [] now ∧ now.length = 23 ∧ (∀ i, (now.getD i ⟨#[]⟩).size ≤ 1024) ∧ IsTx wr g now ∧ IsJn wr jb (B + 1) 6 ∧ D.done ≤ 14 * k ∧ Tch [] w wr
/-- .. of the inner loop. -/
def LiRel (w W0 : World) (B jb g : Nat) (E : Ds) (now : List ByteArray) (l : List (Int × ByteArray)) (v37 : Value) (wr : World) : Prop :=
  ∃ j : Nat, j ≤ l.length ∧ v37 = .int .i64 j ∧ IsTx wr g (upd now (l.take j)) ∧ Tch [g] W0 wr

set_option maxRecDepth 100000 in
set_option maxHeartbeats 1000000 in
theorem jlast_walk (a : Option Addr) (len cap : Nat) (zs : List Sl) (w : World) (hw : IsChss w a len zs) (hsz : len * 24 ≤ 140737488351232) :
    Calls Tryd.prog 5 #[.slice a len cap] w fun e w' => e = .returned (.bool true) ∧ Tch [] w w' := by
  obtain ⟨hzl, hza, hzs⟩ := hw
  have HW := Lib.hid (jwakes_any w)
  have HN := Lib.hid (fun w1 => dnew 30 w1 (by omega) (by omega))
  rw [show many 30 = 30 from rfl] at HN
  have hmk : ∀ w5 : World, (Instr.makeSlice 33 (.int .i64 23) (.int .i64 23)).run Tryd.prog w5 = .ok (.slice (some ⟨w5.heap.size, 0, none⟩) 23 23) (w5.alloc (.cells (eCells 23) 9)) := fun w5 => make_strs 23 w5 (by omega)
  have HZL := Lib.hid hzl
  clear hzl
  go_enter Tryd.func5, Tryd.ntmps5
  go_wp2_with fail
  refine HW.out.mono ?_
  rintro e w1 ⟨rfl, t1⟩
  go_wp2_with fail
  refine (HN.out w1).mono ?_
  rintro e w2 ⟨rfl, hd2, t2⟩
  have hb1 : w.heap.size ≤ w1.heap.size := t1.size
  have hlt := hd2.lt
  have T2 := t1.trans t2
  clear HW HN t1 t2
  generalize w1.heap.size = B at hd2 hb1 hlt ⊢
  go_wp2_with fail
  refine (open_same (B + 1) B 6 (freshD 30) w2 hd2 (by simp [freshD]) (jopen_clean rfl (by simp [freshD]) (by simp [freshD]) (fresh_clean 30) (by omega) (by omega))).mono ?_
  rintro e w3 ⟨jb, rfl, hjb, hJ3, hd3, t3⟩
  have T3 := T2.transNew t3 (by simp; omega)
  have HL := Lib.hid (jlen_any jb (B + 1) B 6 (freshD 30) w3 hJ3 hd3 (by omega))
  rw [show ((jlen (freshD 30) 6 : Nat) : Int) = 23 from rfl] at HL
  have hlt3 := hd3.lt
  have hjlt := hJ3.lt
  have hs0 : Seen (freshD 30) 6 [] (List.replicate 23 ⟨#[]⟩) := fresh_seen 30 6 (by omega) (by omega) (by omega)
  have HS0 := Lib.hid hs0
  clear hd2 T2 t3 hs0
  go_wp2_with (first | (go_at_call 12; refine HL.out.mono ?_; rintro e w4 ⟨rfl, rfl⟩))
  have hTX : IsTx (w3.alloc (.cells (eCells 23) 9)) w3.heap.size (List.replicate 23 ⟨#[]⟩) := blk_new w3 _
  have hJA := hJ3.keep ((Tch.refl [] w3).alloc (.cells (eCells 23) 9)) (by simp)
  have hdA := hd3.keep ((Tch.refl [] w3).alloc (.cells (eCells 23) 9)) (by simp) (by simp)
  have TA := T3.alloc (.cells (eCells 23) 9)
  have hgB : w.heap.size ≤ w3.heap.size := T3.size
  clear hJ3 hd3 T3 HL hmk
  generalize w3.alloc (.cells (eCells 23) 9) = WA at hTX hJA hdA TA ⊢
  generalize w3.heap.size = g at hTX hlt3 hjlt hgB ⊢
  go_loopw [27] (fun v27 wr => LjRel w B jb g len v27 wr) (fun v27 _ => len - (intOf v27).toNat)
  case atStart => exact ⟨0, freshD 30, List.replicate 23 ⟨#[]⟩, by omega, rfl, hdA, rfl, rfl, HS0.out, by simp, fun i => by rw [rep_getD]; decide, hTX, hJA, by simp [freshD], TA⟩
  case round =>
    obtain ⟨k, D, now, hk, rfl, hd, hon, hle, hs, hnl, hns, htx, hJ, hdn, T⟩ := hrel
    have hjB : jb ≠ B + 1 ∧ jb ≠ B := by omega
    have hgne : g ≠ B + 1 ∧ g ≠ B ∧ g ≠ jb := by omega
    by_cases hkl : k < len
    · have hzk : zs[k]? = some (zs[k]'(by have := HZL.out; omega)) := List.getElem?_eq_getElem _
      obtain ⟨ab, ao, rfl, hab, hrow⟩ : ∃ b o, a = some ⟨b, o, none⟩ ∧ b < w.heap.size ∧ ∀ (k : Nat) s, zs[k]? = some s → w.cell? ⟨b, o + k, none⟩ = some (.slice s.a s.len s.cap) := by
        rcases hza with h | h
        · omega
        · exact h
      have hck := hrow k _ hzk
      rw [← T.cell hab (by simp)] at hck
      have hzz := hzs _ (List.getElem_mem (by have := HZL.out; omega : k < zs.length))
      generalize zs[k]'(by have := HZL.out; omega) = s at hck hzz hzk
      obtain ⟨sa, sl, sc, cb, o, l⟩ := s
      simp only at hck hzz
      obtain ⟨hch, hsl⟩ := hzz
      unfold maxLen at hsl
      obtain rfl : sl = l.length := hch.hlen
      have hch2 := hch.keep T (by simp)
      have hcb : 0 < l.length → cb < w.heap.size := fun h0 => by
        rcases hch.at_ with h1 | ⟨_, h1⟩
        · omega
        · exact h1
      have hkl3 : (k : Int) < (len : Int) := by omega
      clear hza hzs hrow hzk hch
      by_cases htk : l.length ≤ 6 ∧ ckc now.length l [] = 0
      · have HCM := Lib.hid (commit_calm jb (B + 1) B 6 D sa l.length sc cb o l now wr hJ hd hjB (by omega) hch2 (fun h0 => by have := hcb h0; omega) hsl (by omega) hon hle hs (by omega) htk.1 htk.2)
        have HIN := Lib.hid (ckc_in _ l [] htk.2)
        have HHO : Hid (∀ (E : Ds) (w5 : World), IsJn w5 jb (B + 1) 6 → IsDs w5 (B + 1) B E → E.on = true → Seen E 6 [] (upd now l) → IsTx w5 g (upd now l) → Calls Tryd.prog 17 #[.pointer (some ⟨jb, 0, none⟩), .slice (some ⟨g, 0, none⟩) 23 23] w5 fun e w' => e = .returned (.bool true) ∧ (IsDs w' (B + 1) B E ∧ Tch [B + 1] w5 w')) := fun E w5 h1 h2 h3 h4 h5 => by
          have h6 := holds_any jb (B + 1) B 6 g 23 E (upd now l) w5 h1 h2 hjB (by omega) h3 h5 hgne.1 (by have := h4.len; omega) (upd_size l now hns (fun p hp => (HIN.out p hp).2.2))
          rw [holdsB_yes (seen_has h4), upd_len, hnl] at h6
          exact h6
        have HNL := Lib.hid hnl
        have HL6 := Lib.hid htk.1
        have HNS := Lib.hid hns
        clear hd hon hle hs hnl hns htk
        go_wp2_with fail
        refine HCM.out.mono ?_
        rintro e w5 ⟨rfl, E, hd5, hon5, hle5, hs5, hdn5, t5⟩
        have T5 := T.transNew t5 (by simp; omega)
        have hJ5 := hJ.keep t5 (by simp; omega)
        have htx5 := htx.keep t5 (by simp; omega)
        have hch5 := (hch2.keep' t5 (fun h0 => by have := hcb h0; simp; omega))
        have HCH : Hid (∀ w6, Tch [g] w5 w6 → IsChs w6 sa l.length cb o l) := fun w6 t6 => hch5.keep' t6 (fun h0 => by have := hcb h0; simp; omega)
        have hg5 := htx5.lt
        clear hch2 hch5 htx hJ
        go_wp2_with fail
        obtain ⟨wo, rfl⟩ : ∃ wo : World, wo = wr := ⟨_, rfl⟩
        go_loopw [37] (fun v37 wq => LiRel w w5 B jb g E now l v37 wq) (fun v37 _ => l.length - (intOf v37).toNat)
        case atStart => exact ⟨0, by omega, rfl, htx5, Tch.refl _ _⟩
        case round =>
          obtain ⟨j, hj, rfl, htj, Tj⟩ := hrel
          by_cases hjl : j < l.length
          · have hcw := HCH.out _ Tj
            obtain ⟨x0, x1⟩ := hcw.row j l[j] (List.getElem?_eq_getElem hjl)
            have hsa : sa = some ⟨cb, o, none⟩ := by
              rcases hcw.at_ with h1 | ⟨h1, _⟩
              · omega
              · exact h1
            subst hsa
            have hin := HIN.out l[j] (List.getElem_mem hjl)
            have hut := upd_take now l j hjl
            rw [HNL.out] at hin
            generalize l[j] = c at x0 x1 hin hut
            obtain ⟨i, x⟩ := c
            obtain ⟨n, rfl⟩ := Int.eq_ofNat_of_zero_le hin.1
            simp only at x0 x1 hin hut
            rw [Int.toNat_natCast] at hut
            have hn23 : n < 23 := by omega
            have htA := htj.keep ((Tch.refl [] wr).alloc (.cells #[.int .i64 n, .string x] 39)) (by simp)
            have q0 := htA.at_ n (by rw [upd_len, HNL.out]; omega)
            have z0 := htA.free n
            have HTX := Lib.hid (htA.set n x)
            have TA := (Tj.alloc (.cells #[.int .i64 n, .string x] 39)).setCell (p := ⟨g, n, none⟩) (by simp) (.string x)
            have hb := blk_new wr (.cells #[.int .i64 n, .string x] 39)
            rw [← hut] at HTX
            have hng : (n : Int) < 23 := by omega
            have hn0 : 0 ≤ (n : Int) := by omega
            clear hut hin htA hcw hb
            go_wp2_with fail
            go_roundw
            case rel => exact ⟨j + 1, by omega, by go_num, HTX.out, TA⟩
            case measure => simp [intOf]; omega
          · obtain rfl : j = l.length := by omega
            rw [List.take_length] at htj
            have hdj := hd5.keep Tj (by simp; omega) (by simp; omega)
            have hJj := hJ5.keep Tj (by simp; omega)
            have HH := Lib.hid (HHO.out E wr hJj hdj hon5 hs5 htj)
            have TJ := T5.transNew Tj (by simp; omega)
            have hE : Hid (E.done ≤ 14 * ((k + 1 : Nat) : Int)) := by
              show _ ≤ _
              rw [hdn5]
              split
              · omega
              · have h6 : l.length ≤ 6 := HL6.out
                omega
            clear hdj hdn5
            go_wp2_with fail
            refine HH.out.mono ?_
            rintro e w7 ⟨rfl, hd7, t7⟩
            have hJ7 := hJj.keep t7 (by simp; omega)
            have htx7 := htj.keep t7 (by simp; omega)
            go_wp2_with fail
            go_roundw
            case rel => exact ⟨k + 1, E, upd now l, by omega, by go_num, hd7, hon5, hle5, hs5, by rw [upd_len]; exact HNL.out, upd_size l now HNS.out (fun p hp => (HIN.out p hp).2.2), htx7, hJ7, hE.out, TJ.transNew t7 (by simp; omega)⟩
            case measure => simp [intOf]; omega
      · obtain ⟨c, hc0, hjc⟩ := jcommit_no hs htk
        have HCM : Hid (Calls Tryd.prog 14 #[.pointer (some ⟨jb, 0, none⟩), .slice sa l.length sc] wr fun e w' => e = .returned (.int .i64 c) ∧ (IsDs w' (B + 1) B D ∧ Tch [B + 1, B] wr w')) := (commit_any jb (B + 1) B 6 D sa l.length sc cb o l wr hJ hd hjB (by omega) hch2 (fun h0 => by have := hcb h0; omega) hsl (by omega)).mono fun e w' h => by
          unfold CmPost at h; rw [hjc] at h; exact h
        have hce : (c == 0) = false := by simpa using hc0
        have HHO : Hid (∀ (w5 : World), IsJn w5 jb (B + 1) 6 → IsDs w5 (B + 1) B D → IsTx w5 g now → Calls Tryd.prog 17 #[.pointer (some ⟨jb, 0, none⟩), .slice (some ⟨g, 0, none⟩) 23 23] w5 fun e w' => e = .returned (.bool true) ∧ (IsDs w' (B + 1) B D ∧ Tch [B + 1] w5 w')) := fun w5 h1 h2 h5 => by
          have h6 := holds_any jb (B + 1) B 6 g 23 D now w5 h1 h2 hjB (by omega) hon h5 hgne.1 (by have := hs.len; omega) hns
          rw [holdsB_yes (seen_has hs), hnl] at h6
          exact h6
        have HK := Lib.hid (And.intro hon (And.intro hle (And.intro hs (And.intro hnl hns))))
        clear hd hon hle hs hnl hns htk hch2 hjc hc0
        go_wp2_with fail
        refine HCM.out.mono ?_
        rintro e w5 ⟨rfl, hd5, t5⟩
        have T5 := T.transNew t5 (by simp; omega)
        have hJ5 := hJ.keep t5 (by simp; omega)
        have htx5 := htx.keep t5 (by simp; omega)
        have HH := Lib.hid (HHO.out w5 hJ5 hd5 htx5)
        go_wp2_with fail
        refine HH.out.mono ?_
        rintro e w7 ⟨rfl, hd7, t7⟩
        have hJ7 := hJ5.keep t7 (by simp; omega)
        have htx7 := htx5.keep t7 (by simp; omega)
        go_wp2_with fail
        go_roundw
        case rel => exact ⟨k + 1, D, now, by omega, by go_num, hd7, HK.out.1, HK.out.2.1, HK.out.2.2.1, HK.out.2.2.2.1, HK.out.2.2.2.2, htx7, hJ7, by omega, T5.transNew t7 (by simp; omega)⟩
        case measure => simp [intOf]; omega
    · skip
      have HO := Lib.hid (open_same (B + 1) B 6 D wr hd (by omega) (jopen_seen0 hon hs (by omega) (by omega)))
      have HHO : Hid (∀ (j2 : Nat) (w5 : World), j2 ≠ B + 1 ∧ j2 ≠ B → IsJn w5 j2 (B + 1) 6 → IsDs w5 (B + 1) B D → IsTx w5 g now → Calls Tryd.prog 17 #[.pointer (some ⟨j2, 0, none⟩), .slice (some ⟨g, 0, none⟩) 23 23] w5 fun e w' => e = .returned (.bool true) ∧ (IsDs w' (B + 1) B D ∧ Tch [B + 1] w5 w')) := fun j2 w5 h0 h1 h2 h5 => by
        have h6 := holds_any j2 (B + 1) B 6 g 23 D now w5 h1 h2 h0 (by omega) hon h5 hgne.1 (by have := hs.len; omega) hns
        rw [holdsB_yes (seen_has hs), hnl] at h6
        exact h6
      have hltw := hd.lt
      clear hd hon hle hs hnl hns
      go_wp2_with fail
      refine HO.out.mono ?_
      rintro e w5 ⟨j2, rfl, hj2, hJ5, hd5, t5⟩
      have T5 := T.transNew t5 (by simp; omega)
      have htx5 := htx.keep t5 (by simp; omega)
      have HH := Lib.hid (HHO.out j2 w5 (by omega) hJ5 hd5 htx5)
      go_wp2_with (first | (go_at_call 17; refine HH.out.mono ?_; rintro e w7 ⟨rfl, hd7, t7⟩))
      go_ret
      refine ⟨?_, T5.transNew t7 (by simp; omega)⟩
      rfl
end Go.Proofs.YtclnhgfionfbbaaDoor
