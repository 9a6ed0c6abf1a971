/-
  The law JournalCosts, walked: for every list of changes it answers true and turns nothing that was there. Condition: the list is within the reach of memory.
-/
import Derived.Test.YtclnhgfionfbbaaDoorJLast
import Derived.Laws.StructEq
import Derived.Laws.AppendOwnNone
namespace Go.Proofs.YtclnhgfionfbbaaDoor
open Go.RowKit
set_option linter.unusedVariables false

theorem neq_same (i : Int) (x : ByteArray) (w : World) : (binOp .neq 39 (.agg #[.int .i64 i, .string x]) (.agg #[.int .i64 i, .string x])).run Tryd.prog w = .ok (.bool false) w := by
  rw [run_neq_struct, run_equalIn_struct _ _ _ _ _ (by kernel_rfl) (by kernel_rfl)]
  unfold Program.fieldsOf
  rw [Tryd.underlying39]
  have p0 : ∀ w, (part 3 #[.int .i64 i, .string x] 0).run Tryd.prog w = .ok (.int .i64 i) w := fun w => by kernel_rfl
  have p1 : ∀ w, (part 9 #[.int .i64 i, .string x] 1).run Tryd.prog w = .ok (.string x) w := fun w => by kernel_rfl
  have q0 : ∀ w, (Op.equalIn 9999 3 (.int .i64 i) (.int .i64 i)).run Tryd.prog w = .ok true w := fun w => by rw [run_equalIn_int w 9998 _ _ _ _ _ Tryd.underlying3]; simp
  have q1 : ∀ w, (Op.equalIn 9999 9 (.string x) (.string x)).run Tryd.prog w = .ok true w := fun w => by rw [run_equalIn_string w 9998 _ _ _ Tryd.underlying9]; simp
  simp [Op.eqFields, p0, p1, q0, q1, Result.andThen]

theorem Tryd.info_chg : (Tryd.prog.info? 39).map (fun i => (i.zero, i.size, i.bytes)) = some (some (.agg #[.int .i64 0, .string ⟨#[]⟩]), 2, 24) := by kernel_rfl

/-- The cells of a list of changes. -/
def chCells (cs : List (Int × ByteArray)) : List Value := cs.flatMap fun c => [.int .i64 c.1, .string c.2]
theorem chCells_len (cs : List (Int × ByteArray)) : (chCells cs).length = cs.length * 2 := by
  unfold chCells
  induction cs with
  | nil => rfl
  | cons c cs ih => rw [List.flatMap_cons, List.length_append, ih]; simp; omega
theorem chCells_at (cs : List (Int × ByteArray)) : ∀ (k : Nat) c, cs[k]? = some c → (chCells cs)[k * 2]? = some (.int .i64 c.1) ∧ (chCells cs)[k * 2 + 1]? = some (.string c.2) := by
  unfold chCells
  induction cs with
  | nil => intro k c hk; simp at hk
  | cons d cs ih =>
    intro k c hk
    rw [List.flatMap_cons]
    cases k with
    | zero => simp at hk; subst hk; exact ⟨rfl, rfl⟩
    | succ k =>
      obtain ⟨h1, h2⟩ := ih k c (by simpa using hk)
      rw [show (k + 1) * 2 = k * 2 + 1 + 1 from by omega]
      exact ⟨h1, h2⟩
theorem chCells_inv (cs : List (Int × ByteArray)) : ∀ (j : Nat) u, (chCells cs)[j]? = some u → ∃ k c, cs[k]? = some c ∧ (j = k * 2 ∧ u = .int .i64 c.1 ∨ j = k * 2 + 1 ∧ u = .string c.2) := by
  unfold chCells
  induction cs with
  | nil => intro j u h; simp at h
  | cons d cs ih =>
    intro j u h
    rw [List.flatMap_cons] at h
    match j, h with
    | 0, h => simp at h; exact ⟨0, d, rfl, Or.inl ⟨rfl, h.symm⟩⟩
    | 1, h => simp at h; exact ⟨0, d, rfl, Or.inr ⟨rfl, h.symm⟩⟩
    | j + 2, h =>
      obtain ⟨k, c, hk, hc⟩ := ih j u (by simpa using h)
      exact ⟨k + 1, c, by simpa using hk, by rcases hc with ⟨a, b⟩ | ⟨a, b⟩; exact Or.inl ⟨by omega, b⟩; exact Or.inr ⟨by omega, b⟩⟩
theorem chCells_one (cs : List (Int × ByteArray)) : ∀ u ∈ chCells cs, u.oneCell' = true := by
  intro u hu
  obtain ⟨j, hj⟩ := List.mem_iff_getElem?.1 hu
  obtain ⟨k, c, _, hc⟩ := chCells_inv cs j u hj
  rcases hc with ⟨_, rfl⟩ | ⟨_, rfl⟩ <;> rfl
/-- The changes behind 'append(nil, changes...)'. -/
theorem chs_own {w : World} {base len n : Nat} {x : Option Addr} {c : Nat} {cs : List (Int × ByteArray)} (h : w.ownsRow base 39 2 (.slice x n c) len (chCells cs)) (hl : len = cs.length) (hf : ∀ c ∈ cs, -9223372036854775808 ≤ c.1 ∧ c.1 ≤ 9223372036854775807 ∧ c.2.size ≤ 9223372036854775807) :
    ∃ cb, IsChs w x len cb 0 cs ∧ n = len ∧ (0 < len → base ≤ cb) := by
  rcases h.2 with ⟨hv, h0⟩ | ⟨g, cap, cur, hv, hg, hb, hcap, _, hcs, htk⟩
  · cases hv
    exact ⟨0, ⟨hl, Or.inl h0, fun k c hk => by have := (List.getElem?_eq_some_iff.1 hk).1; omega, hf⟩, h0.symm, fun h => by omega⟩
  · cases hv
    refine ⟨g, ⟨hl, Or.inr ⟨rfl, lt_of_block hb⟩, fun k c hk => ?_, hf⟩, rfl, fun _ => hg⟩
    have hklt := (List.getElem?_eq_some_iff.1 hk).1
    obtain ⟨h1, h2⟩ := chCells_at cs k c hk
    rw [← htk, List.getElem?_take, if_pos (by omega), Array.getElem?_toList] at h1 h2
    exact ⟨by rw [blk_cell hb, Nat.zero_add]; exact h1, by rw [blk_cell hb, Nat.zero_add]; exact h2⟩

theorem chs_nil {H : Type} {enc : TypeId × Value → H} {W : World} {a : Option Addr} {len cap : Nat} {d : DataW H} {p : List MemPlace}
    (h : DataW.Trod enc Tryd.prog W 0 (fun _ => true) true 36 (.slice a len cap) d p) : a = none → len = 0 ∧ cap = 0 := by
  obtain ⟨fuel, hf⟩ := h
  rcases Go.Deep.open_slice Tryd.underlying36 hf with ⟨hcs, _⟩ | ⟨y, l, c, m, n, D, Pl, hcs, _⟩
  · simp [Value.cells] at hcs
    intro _; exact ⟨hcs.2.1, hcs.2.2⟩
  · simp [Value.cells] at hcs
    intro h0; rw [h0] at hcs; simp at hcs

theorem costs_plain (cs : List (Int × ByteArray)) : ∃ c E, jcommit 8 cs (freshD 40) = (c, E) ∧ (((c ≠ 0 ∨ cs = []) ∧ E.done = 0) ∨ (c = 0 ∧ cs ≠ [] ∧ jopen 8 E = (0, E) ∧ E.done = 2 * cs.length + 2 ∧ cs.length ≤ 8)) := by
  have hs : Seen (freshD 40) 8 [] (List.replicate 31 ⟨#[]⟩) := fresh_seen 40 8 (by omega) (by omega) (by omega)
  by_cases htk : cs.length ≤ 8 ∧ ckc (List.replicate 31 (⟨#[]⟩ : ByteArray)).length cs [] = 0
  · have hx := jcommit_seen (D := freshD 40) rfl hs (by omega) (by omega) (by simp) (fun j => by simp only [freshD]; rw [rep_getD]; decide) htk.1 htk.2
    obtain ⟨b1, b2, b3⟩ := hx.2 rfl
    refine ⟨(jcommit 8 cs (freshD 40)).1, (jcommit 8 cs (freshD 40)).2, rfl, ?_⟩
    rw [show (freshD 40).done = 0 from rfl] at b3
    by_cases hcs : cs = []
    · rw [if_pos hcs] at b3
      exact Or.inl ⟨Or.inr hcs, by omega⟩
    · rw [if_neg hcs] at b3
      rcases hx.1 with ⟨_, o, s⟩ | ⟨g, _⟩
      · exact Or.inr ⟨b1, hcs, jopen_seen0 (room := 8) o s (by omega) (by omega), by omega, htk.1⟩
      · omega
  · obtain ⟨c, hc, he⟩ := jcommit_no hs htk
    exact ⟨c, _, he, Or.inl ⟨Or.inl hc, rfl⟩⟩

set_option maxRecDepth 100000 in
set_option maxHeartbeats 400000 in
theorem costs_nil (w : World) :
    Calls Tryd.prog 4 #[.slice none 0 0] w fun e w' => e = .returned (.bool true) ∧ Tch [] w w' := by
  obtain ⟨i0, hi, hz0, hz1, hz2⟩ := info_parts Tryd.info_chg
  have HW := Lib.hid (fun w1 => jwakes_any w1)
  have HN := Lib.hid (dnew 40 w (by omega) (by omega))
  rw [show many 40 = 40 from rfl] at HN
  have HD0 : Hid (∀ B w1, IsDs w1 (B + 1) B (freshD 40) → Calls Tryd.prog 19 #[.pointer (some ⟨B + 1, 0, none⟩)] w1 fun e w' => e = .returned (.int .i64 0) ∧ w1 = w') := fun B w1 h1 => dwrites (B + 1) B (freshD 40) w1 h1 (by simp [freshD])
  go_enter Tryd.func4, Tryd.ntmps4
  go_wp2_with fail
  refine HN.out.mono ?_
  rintro e w1 ⟨rfl, hd1, t1⟩
  have hlt := hd1.lt
  clear HN
  generalize hB : w.heap.size = B at hd1 hlt ⊢
  have HB := Lib.hid hB
  clear hB
  go_wp2_with fail
  refine (open_same (B + 1) B 8 (freshD 40) w1 hd1 (by simp [freshD]) (jopen_clean rfl (by simp [freshD]) (by simp [freshD]) (fresh_clean 40) (by omega) (by omega))).mono ?_
  rintro e w2 ⟨jb, rfl, hjb, hJ2, hd2, t2⟩
  have T2 := t1.transNew t2 (by rw [HB.out]; simp)
  go_wp2_with (first | (go_at_call 18; refine (jread_nil 0 _).mono ?_; rintro e w5 ⟨rfl, rfl⟩))
  refine (open_nil 8 w2).mono ?_
  rintro e w5 ⟨rfl, rfl⟩
  go_wp2_with fail
  refine (HW.out w2).mono ?_
  rintro e w3 ⟨rfl, t3⟩
  have hd3 := hd2.keep t3 (by simp) (by simp)
  have hJ3 := hJ2.keep t3 (by simp)
  have T3 := T2.trans t3
  have hlt3 := hd3.lt
  have HD3 := Lib.hid (HD0.out B w3 hd3)
  have HCM := Lib.hid (commit_any jb (B + 1) B 8 (freshD 40) none 0 0 0 0 [] w3 hJ3 hd3 (by omega) (by omega) ⟨rfl, Or.inl rfl, fun k c hk => by simp at hk, fun c hc => by simp at hc⟩ (fun h => by omega) (by omega) (by simp [freshD]))
  clear hd1 t1 t2 t3 hd2 hJ2 HW
  go_wp2_with (first | (go_at_call 14; ((with_reducible refine (commit_nil _ _ _ _).mono ?_); rintro e w5 ⟨rfl, rfl⟩)) | (go_at_call 12; refine (jlen_nil _).mono ?_; rintro e w5 ⟨rfl, rfl⟩) | (go_at_call 19; refine HD3.out.mono ?_; rintro e w5 ⟨rfl, rfl⟩) | (at_builtin; refine wpList_append_own_none rfl _ _ 36 rfl 0 39 i0 2 Tryd.underlying36 hi (.slice none 0 0) 0 [] rfl (World.ownsRow_nil _ _ _ _) rfl ?_))
  refine HCM.out.mono ?_
  rintro e w5 h5
  unfold CmPost at h5
  rw [show jcommit 8 [] (freshD 40) = (0, freshD 40) from rfl] at h5
  obtain ⟨rfl, hd5, t5⟩ := h5
  have T5 := T3.transNew t5 (by have := HB.out; simp; omega)
  have HD5 := Lib.hid (HD0.out B w5 hd5)
  clear HD3 HCM
  go_wp2_with (first | (go_at_call 19; refine HD5.out.mono ?_; rintro e w6 ⟨rfl, rfl⟩))
  refine wp_loop_rounds 1 ?_
  rw [rounds_succ]
  go_wp2_with fail
  go_ret
  refine ⟨?_, T5⟩
  rfl

/-- What holds at the head of each round. -/
def CsRel (w : World) (B jb cb : Nat) (x : Option Addr) (cs : List (Int × ByteArray)) (E : Ds) (v69 : Value) (wr : World) : Prop :=
  ∃ k : Nat, k ≤ cs.length ∧ v69 = .int .i64 k ∧ IsDs wr (B + 1) B E ∧ IsChs wr x cs.length cb 0 cs ∧ Tch [] w wr

set_option maxRecDepth 100000 in
set_option maxHeartbeats 1000000 in
theorem costs_some (y : Addr) (cap cb o : Nat) (cs : List (Int × ByteArray)) (w : World) (hw : IsChs w (some y) cs.length cb o cs) (hsz : cs.length * 24 ≤ 140737488351232) :
    Calls Tryd.prog 4 #[.slice (some y) cs.length cap] w fun e w' => e = .returned (.bool true) ∧ Tch [] w w' := by
  obtain ⟨i0, hi, hz0, hz1, hz2⟩ := info_parts Tryd.info_chg
  have HW := Lib.hid (fun w1 => jwakes_any w1)
  have HN := Lib.hid (dnew 40 w (by omega) (by omega))
  rw [show many 40 = 40 from rfl] at HN
  have HD0 : Hid (∀ B w1, IsDs w1 (B + 1) B (freshD 40) → Calls Tryd.prog 19 #[.pointer (some ⟨B + 1, 0, none⟩)] w1 fun e w' => e = .returned (.int .i64 0) ∧ w1 = w') := fun B w1 h1 => dwrites (B + 1) B (freshD 40) w1 h1 (by simp [freshD])
  have HNEW : Hid (∀ wr, Tch [] w wr → ∀ j u, (chCells cs)[j]? = some u → wr.cell? (y.add j) = some u) := fun wr t j u hu => by
    obtain ⟨k, c, hk, hc⟩ := chCells_inv cs j u hu
    have hlt := (List.getElem?_eq_some_iff.1 hk).1
    obtain ⟨h1, h2⟩ := (hw.keep t (by simp)).row k c hk
    rcases hw.at_ with h0 | ⟨h0, _⟩
    · omega
    · cases h0
      rw [add_mk]
      rcases hc with ⟨rfl, rfl⟩ | ⟨rfl, rfl⟩
      · exact h1
      · rw [← Nat.add_assoc]; exact h2
  have HIN : Hid (∀ wr, Tch [] w wr → IsChs wr (some y) cs.length cb o cs) := fun wr t => hw.keep t (by simp)
  have HFIT := Lib.hid hw.fit
  clear hw
  go_enter Tryd.func4, Tryd.ntmps4
  go_wp2_with fail
  refine HN.out.mono ?_
  rintro e w1 ⟨rfl, hd1, t1⟩
  have hlt := hd1.lt
  clear HN
  generalize hB : w.heap.size = B at hd1 hlt ⊢
  have HB := Lib.hid hB
  clear hB
  go_wp2_with fail
  refine (open_same (B + 1) B 8 (freshD 40) w1 hd1 (by simp [freshD]) (jopen_clean rfl (by simp [freshD]) (by simp [freshD]) (fresh_clean 40) (by omega) (by omega))).mono ?_
  rintro e w2 ⟨jb, rfl, hjb, hJ2, hd2, t2⟩
  have T2 := t1.transNew t2 (by rw [HB.out]; simp)
  go_wp2_with (first | (go_at_call 18; refine (jread_nil 0 _).mono ?_; rintro e w5 ⟨rfl, rfl⟩))
  refine (open_nil 8 w2).mono ?_
  rintro e w5 ⟨rfl, rfl⟩
  go_wp2_with fail
  refine (HW.out w2).mono ?_
  rintro e w3 ⟨rfl, t3⟩
  have hd3 := hd2.keep t3 (by simp) (by simp)
  have hJ3 := hJ2.keep t3 (by simp)
  have T3 := T2.trans t3
  have hlt3 := hd3.lt
  have hjlt := hJ3.lt
  have HD3 := Lib.hid (HD0.out B w3 hd3)
  clear hd1 t1 t2 t3 hd2 hJ2 HW T2
  go_wp2_with (first | (go_at_call 14; ((with_reducible refine (commit_nil _ _ _ _).mono ?_); rintro e w5 ⟨rfl, rfl⟩)) | (go_at_call 12; refine (jlen_nil _).mono ?_; rintro e w5 ⟨rfl, rfl⟩) | (go_at_call 19; refine HD3.out.mono ?_; rintro e w5 ⟨rfl, rfl⟩) | (at_builtin; refine wpList_append_own _ rfl _ _ 36 rfl w3.heap.size 39 i0 (.agg #[.int .i64 0, .string ⟨#[]⟩]) 2 24 Tryd.underlying36 hi hz0 hz1 hz2 rfl (by decide) (.slice none 0 0) 0 [] rfl (World.ownsRow_nil _ _ _ _) y cs.length cap (chCells cs) rfl (chCells_len cs) (HNEW.out w3 T3) (chCells_one cs) ?c3 ?c4 (Nat.le_refl _) ?_))
  case c3 => unfold maxLen; omega
  case c4 => omega
  intro v' w4 hown hgrow _
  have t4 : Tch [] w3 w4 := (Tch.refl [] w3).grown hgrow (by simp [Value.ownBlock])
  have T4 := T3.trans t4
  have hd4 := hd3.keep t4 (by simp) (by simp)
  have hJ4 := hJ3.keep t4 (by simp)
  obtain ⟨x, n, c0, rfl⟩ : ∃ x n c, v' = .slice x n c := by
    rcases hown.2 with ⟨h1, _⟩ | ⟨g, c, cur, h1, _⟩
    · exact ⟨_, _, _, h1⟩
    · exact ⟨_, _, _, h1⟩
  obtain ⟨cb2, hch, rfl, hcb2⟩ := chs_own hown rfl HFIT.out
  obtain ⟨c, E, hjc, hres⟩ := costs_plain cs
  have HCM : Hid (Calls Tryd.prog 14 #[.pointer (some ⟨jb, 0, none⟩), .slice x cs.length c0] w4 fun e w' => e = .returned (.int .i64 c) ∧ (IsDs w' (B + 1) B E ∧ Tch [B + 1, B] w4 w')) := (commit_any jb (B + 1) B 8 (freshD 40) x cs.length c0 cb2 0 cs w4 hJ4 hd4 (by omega) (by omega) hch (fun h => by have := hcb2 h; omega) (by omega) (by simp [freshD])).mono fun e w' h => by
    unfold CmPost at h; rw [hjc] at h; exact h
  have HRES := Lib.hid hres
  clear HD3 HD0 hd3 hJ3 hown hgrow hres hjc
  go_wp2_with fail
  refine HCM.out.mono ?_
  rintro e w5 ⟨rfl, hd5, t5⟩
  have T5 := T4.transNew t5 (by have := HB.out; simp; omega)
  have hch5 := hch.keep' t5 (fun h => by have := hcb2 h; simp; omega)
  have hEd : Hid (0 ≤ E.done ∧ E.done ≤ 18) := by
    show _ ∧ _
    rcases HRES.out with ⟨_, h⟩ | ⟨_, _, _, h, h2⟩ <;> omega
  have HWR : Hid (∀ w6, IsDs w6 (B + 1) B E → _) := fun w6 h6 => dwrites (B + 1) B E w6 h6 (by have := hEd.out; omega)
  have HW5 := Lib.hid (HWR.out w5 hd5)
  clear t4 t5 hd4 hJ4 hch T4 HCM
  go_wp2_with (first | (go_at_call 19; refine HW5.out.mono ?_; rintro e w6 ⟨rfl, rfl⟩))
  go_loopw [69] (fun v69 wr => CsRel w B jb cb2 x cs E v69 wr) (fun v69 _ => cs.length - (intOf v69).toNat)
  case atStart => exact ⟨0, by omega, rfl, hd5, hch5, T5⟩
  case round =>
    obtain ⟨k, hk, rfl, hd, hchr, T⟩ := hrel
    by_cases hkl : k < cs.length
    · have hget := List.getElem?_eq_getElem hkl
      obtain ⟨x0, x1⟩ := hchr.row k _ hget
      obtain ⟨z0, z1⟩ := (HIN.out wr T).row k _ hget
      have hx : x = some ⟨cb2, 0, none⟩ := by
        rcases hchr.at_ with h1 | ⟨h1, _⟩
        · omega
        · exact h1
      have hy : some y = some ⟨cb, o, none⟩ := by
        rcases (HIN.out wr T).at_ with h1 | ⟨h1, _⟩
        · omega
        · exact h1
      subst hx
      cases hy
      rw [Nat.zero_add] at x0 x1
      generalize cs[k] = cc at x0 x1 z0 z1
      obtain ⟨i, t⟩ := cc
      simp only at x0 x1 z0 z1
      have hne := neq_same i t
      have hkI : (k : Int) < (cs.length : Int) := by omega
      have hk0 : 0 ≤ (k : Int) := by omega
      clear hget
      go_wp2_with fail
      go_quiet (fail)
      go_wp2
      go_roundw
      case rel => exact ⟨k + 1, by omega, by go_num, hd.keep (tdrewN (Tch.refl [] wr) _) (by simp) (by simp), hchr.keep (tdrewN (Tch.refl [] wr) _) (by simp), tdrewN T _⟩
      case measure => simp [intOf]; omega
    · obtain rfl : k = cs.length := by omega
      have hEd2 := hEd.out
      obtain ⟨hE0, hE18⟩ := hEd2
      have HW6 := Lib.hid (HWR.out wr hd)
      rcases HRES.out with ⟨hc, hE⟩ | ⟨hc, hcs, hjo, hE, hl8⟩
      · have fE : (E.done == 0) = true := by simp [hE]
        by_cases hc0 : c = 0
        · have hcs : cs = [] := by
            rcases hc with h | h
            · exact absurd hc0 h
            · exact h
          have fc : (c != 0) = false := by simp [hc0]
          have fl : ((cs.length : Int) == 0) = true := by simp [hcs]
          clear hc hE hc0 hcs
          go_wp2_with fail
          go_ret
          refine ⟨?_, T⟩
          rfl
        · have fc : (c != 0) = true := by simpa using hc0
          clear hc hE hc0
          go_wp2_with fail
          go_ret
          refine ⟨?_, T⟩
          rfl
      · have HO := Lib.hid (open_same (B + 1) B 8 E wr hd (by omega) hjo)
        have fc : (c != 0) = false := by simp [hc]
        have fl : ((cs.length : Int) == 0) = false := by simp [hcs]
        have fE : (E.done == 2 * (cs.length : Int) + 2) = true := by simp [hE]
        have hcl : (cs.length : Int) ≤ 8 := by omega
        clear hc hcs hjo hE hl8
        go_wp2_with fail
        refine HO.out.mono ?_
        rintro e w7 ⟨j2, rfl, hj2, hJ7, hd7, t7⟩
        have HW7 := Lib.hid (HWR.out w7 hd7)
        go_wp2_with (first | (go_at_call 19; refine HW7.out.mono ?_; rintro e w8 ⟨rfl, rfl⟩))
        go_ret
        refine ⟨?_, T.transNew t7 (by have := HB.out; simp; omega)⟩
        rfl

theorem costs_walk (a : Option Addr) (len cap cb o : Nat) (cs : List (Int × ByteArray)) (w : World) (hw : IsChs w a len cb o cs) (hsz : len * 24 ≤ 140737488351232) (hnil : a = none → len = 0 ∧ cap = 0) :
    Calls Tryd.prog 4 #[.slice a len cap] w fun e w' => e = .returned (.bool true) ∧ Tch [] w w' := by
  cases a with
  | none =>
    obtain ⟨rfl, rfl⟩ := hnil rfl
    exact costs_nil w
  | some y =>
    obtain rfl := hw.hlen
    exact costs_some y cap cb o cs w hw hsz
end Go.Proofs.YtclnhgfionfbbaaDoor
