/-
  Changes in memory of a call's own: rows of changes behind an append; 'ref' of the law: the changes as the document's. No condition but that the list is within an int's reach.
-/
import Derived.Test.YtclnhgfionfbbaaGreatDoorRCom
namespace Go.Proofs.YtclnhgfionfbbaaGreatDoor
open Go.RowKit
set_option linter.unusedVariables false

theorem Tryz.info_rchg : (Tryz.prog.info? 99).map (fun i => (i.zero, i.size, i.bytes)) = some (some (.agg #[.int .i64 0, .string ⟨#[]⟩]), 2, 24) := by kernel_rfl
def chCells (cs : List (Int × ByteArray)) : List Value := cs.flatMap fun c => [.int .i64 c.1, .string c.2]
theorem chCells_len (cs : List (Int × ByteArray)) : (chCells cs).length = cs.length * 2 := by
  unfold chCells
  induction cs with
  | nil => rfl
  | cons c cs ih => rw [List.flatMap_cons, List.length_append, ih]; simp; omega
theorem chCells_at (cs : List (Int × ByteArray)) : ∀ (k : Nat) c, cs[k]? = some c → (chCells cs)[k * 2]? = some (.int .i64 c.1) ∧ (chCells cs)[k * 2 + 1]? = some (.string c.2) := by
  unfold chCells
  induction cs with
  | nil => intro k c hk; simp at hk
  | cons d cs ih =>
    intro k c hk
    rw [List.flatMap_cons]
    cases k with
    | zero => simp at hk; subst hk; exact ⟨rfl, rfl⟩
    | succ k =>
      obtain ⟨h1, h2⟩ := ih k c (by simpa using hk)
      rw [show (k + 1) * 2 = k * 2 + 1 + 1 from by omega]
      exact ⟨h1, h2⟩
theorem chCells_inv (cs : List (Int × ByteArray)) : ∀ (j : Nat) u, (chCells cs)[j]? = some u → ∃ k c, cs[k]? = some c ∧ (j = k * 2 ∧ u = .int .i64 c.1 ∨ j = k * 2 + 1 ∧ u = .string c.2) := by
  unfold chCells
  induction cs with
  | nil => intro j u h; simp at h
  | cons d cs ih =>
    intro j u h
    rw [List.flatMap_cons] at h
    match j, h with
    | 0, h => simp at h; exact ⟨0, d, rfl, Or.inl ⟨rfl, h.symm⟩⟩
    | 1, h => simp at h; exact ⟨0, d, rfl, Or.inr ⟨rfl, h.symm⟩⟩
    | j + 2, h =>
      obtain ⟨k, c, hk, hc⟩ := ih j u (by simpa using h)
      exact ⟨k + 1, c, by simpa using hk, by rcases hc with ⟨a, b⟩ | ⟨a, b⟩; exact Or.inl ⟨by omega, b⟩; exact Or.inr ⟨by omega, b⟩⟩
theorem chCells_one (cs : List (Int × ByteArray)) : ∀ u ∈ chCells cs, u.oneCell' = true := by
  intro u hu
  obtain ⟨j, hj⟩ := List.mem_iff_getElem?.1 hu
  obtain ⟨k, c, _, hc⟩ := chCells_inv cs j u hj
  rcases hc with ⟨_, rfl⟩ | ⟨_, rfl⟩ <;> rfl
/-- The changes behind 'append(nil, changes...)'. -/
theorem chs_own {T : TypeId} {w : World} {base len n : Nat} {x : Option Addr} {c : Nat} {cs : List (Int × ByteArray)} (h : w.ownsRow base T 2 (.slice x n c) len (chCells cs)) (hl : len = cs.length) (hf : ∀ c ∈ cs, -9223372036854775808 ≤ c.1 ∧ c.1 ≤ 9223372036854775807 ∧ c.2.size ≤ 9223372036854775807) :
    ∃ cb, IsChs w x len cb 0 cs ∧ n = len ∧ (0 < len → base ≤ cb) := by
  rcases h.2 with ⟨hv, h0⟩ | ⟨g, cap, cur, hv, hg, hb, hcap, _, hcs, htk⟩
  · cases hv
    exact ⟨0, ⟨hl, Or.inl h0, fun k c hk => by have := (List.getElem?_eq_some_iff.1 hk).1; omega, hf⟩, h0.symm, fun h => by omega⟩
  · cases hv
    refine ⟨g, ⟨hl, Or.inr ⟨rfl, lt_of_block hb⟩, fun k c hk => ?_, hf⟩, rfl, fun _ => hg⟩
    have hklt := (List.getElem?_eq_some_iff.1 hk).1
    obtain ⟨h1, h2⟩ := chCells_at cs k c hk
    rw [← htk, List.getElem?_take, if_pos (by omega), Array.getElem?_toList] at h1 h2
    exact ⟨by rw [blk_cell hb, Nat.zero_add]; exact h1, by rw [blk_cell hb, Nat.zero_add]; exact h2⟩

theorem chCells_snoc (cs : List (Int × ByteArray)) (k : Nat) (c : Int × ByteArray) (h : cs[k]? = some c) : chCells (cs.take (k + 1)) = chCells (cs.take k) ++ [.int .i64 c.1, .string c.2] := by
  unfold chCells
  rw [List.take_add_one, h, List.flatMap_append]
  simp
theorem cells_two (w : World) (u v : Value) (t : TypeId) (j : Nat) (x : Value) (h : [u, v][j]? = some x) : (w.alloc (.cells #[u, v] t)).cell? ((⟨w.heap.size, 0, none⟩ : Addr).add j) = some x := by
  match j, h with
  | 0, h => simp at h; subst h; rw [add_mk, blk_cell (blk_new w _)]; rfl
  | 1, h => simp at h; subst h; rw [add_mk, blk_cell (blk_new w _)]; rfl
/-- What holds at the head of each round. -/
def RefRel (w : World) (cs : List (Int × ByteArray)) (v3 v8 : Value) (wr : World) : Prop :=
  ∃ (k : Nat) (x : Option Addr) (c : Nat), k ≤ cs.length ∧ v8 = .int .i64 k ∧ v3 = .slice x k c ∧ wr.ownsRow w.heap.size 99 2 (.slice x k c) k (chCells (cs.take k)) ∧ Tch [] w wr

set_option maxRecDepth 100000 in
set_option maxHeartbeats 1000000 in
theorem jref_any (a : Option Addr) (len cap cb o : Nat) (cs : List (Int × ByteArray)) (w : World) (h : IsChs w a len cb o cs) (hl : len * 24 ≤ 140737488351232) :
    Calls Tryz.prog 18 #[.slice a len cap] w fun e w' => ∃ x c gb, e = .returned (.slice x cs.length c) ∧ (IsChs w' x cs.length gb 0 cs ∧ (0 < cs.length → w.heap.size ≤ gb) ∧ Tch [] w w') := by
  obtain rfl := h.hlen
  have HC : Hid (∀ wr, Tch [] w wr → IsChs wr a cs.length cb o cs) := fun wr t => h.keep t (by simp)
  have HFIT := Lib.hid h.fit
  have HO0 := Lib.hid (World.ownsRow_nil w w.heap.size 99 2)
  obtain ⟨i0, hi, hz0, hz1, hz2⟩ := info_parts Tryz.info_rchg
  clear h
  go_enter Tryz.func18, Tryz.ntmps18
  go_wp2_with fail
  go_loopw [3, 8] (fun v3 v8 wr => RefRel w cs v3 v8 wr) (fun _ v8 _ => cs.length - (intOf v8).toNat)
  case atStart => exact ⟨0, none, 0, by omega, rfl, rfl, HO0.out, Tch.refl _ _⟩
  case round =>
    obtain ⟨k, x, c, hk, rfl, rfl, hown, T⟩ := hrel
    by_cases hkl : k < cs.length
    · have hcw := HC.out wr T
      have hget := List.getElem?_eq_getElem hkl
      obtain ⟨x0, x1⟩ := hcw.row k _ hget
      have hla : a = some ⟨cb, o, none⟩ := by
        rcases hcw.at_ with h1 | ⟨h1, _⟩
        · omega
        · exact h1
      subst hla
      have HS := Lib.hid (chCells_snoc cs k _ hget)
      generalize cs[k] = cc at x0 x1 HS
      obtain ⟨q, y⟩ := cc
      simp only at x0 x1 HS
      have HOW := Lib.hid hown
      clear hcw hget
      go_wp2_with (at_builtin; refine wpList_append_own _ rfl _ _ 71 rfl w.heap.size 99 i0 (.agg #[.int .i64 0, .string ⟨#[]⟩]) 2 24 Tryz.underlying71 hi hz0 hz1 hz2 rfl (by decide) _ _ _ rfl ((HOW.out.alloc (.cells #[.int .i64 q, .string y] 65)).alloc (.cells #[.int .i64 q, .string y] 99)) ⟨wr.heap.size + 1, 0, none⟩ 1 1 [.int .i64 q, .string y] rfl rfl (fun j u hu => by have := cells_two (wr.alloc (.cells #[.int .i64 q, .string y] 65)) _ _ 99 j u hu; simpa using this) (by intro u hu; simp only [List.mem_cons, List.not_mem_nil, or_false] at hu; rcases hu with rfl | rfl <;> rfl) ?c3 ?c4 ?c5 ?_)
      case c3 => unfold maxLen; omega
      case c4 => omega
      case c5 => have := T.size; simp; omega
      intro v' w2 hown2 hgrow _
      have T2 := ((T.alloc (.cells #[.int .i64 q, .string y] 65)).alloc (.cells #[.int .i64 q, .string y] 99)).own ((HOW.out.alloc _).alloc _) (Nat.le_refl _) hgrow
      obtain ⟨x2, c2, rfl⟩ := own_slice hown2
      rw [← HS.out] at hown2
      have HO := Lib.hid hown2
      clear hown2 hgrow HOW hown
      go_wp2
      go_roundw
      case rel => exact ⟨k + 1, x2, c2, by omega, by go_num, rfl, HO.out, T2⟩
      case measure => simp [intOf]; omega
    · obtain rfl : k = cs.length := by omega
      rw [List.take_length] at hown
      obtain ⟨gb, hch, _, hgb⟩ := chs_own hown rfl HFIT.out
      have HF := Lib.hid (And.intro hch (And.intro hgb T))
      clear hown hch hgb
      go_wp2_with fail
      go_ret
      exact ⟨x, ⟨c, rfl⟩, gb, HF.out⟩
end Go.Proofs.YtclnhgfionfbbaaGreatDoor
