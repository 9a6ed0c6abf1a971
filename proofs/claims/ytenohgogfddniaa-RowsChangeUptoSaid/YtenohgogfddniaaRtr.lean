/-
  The laws' own 'tableRef', 'rowRef' and 'same' of layer 6.
-/
import Derived.Test.YtenohgogfddniaaDcd
import Derived.Deep.LoopGhost
import Derived.BigQuiet
namespace Go.Proofs.Ytenohgogfddniaa
open Go.RowKit
set_option linter.unusedVariables false

theorem Try.info_rvl : (Try.prog.info? 65).map (fun i => (i.zero, i.size, i.bytes)) = some (some (.agg #[.int .i64 0, .string ⟨#[]⟩]), 2, 24) := by kernel_rfl
theorem Try.info_int6 : (Try.prog.info? 3).map (fun i => (i.zero, i.size, i.bytes)) = some (some (.int .i64 0), 1, 8) := by kernel_rfl

def RrPost (w : World) (r : List Vl) (e : Ending) (w' : World) : Prop := ∃ x c, e = .returned (.slice x r.length c) ∧ w'.ownsRow w.heap.size 65 2 (.slice x r.length c) r.length (r.flatMap fVl) ∧ Tch [] w w'
def RrRel (w : World) (r : List Vl) (n : Nat) (v8 v3 : Value) (wr : World) : Prop :=
  ∃ (i : Nat) (x : Option Addr) (c : Nat), n + i = r.length ∧ v8 = .int .i64 i ∧ v3 = .slice x i c ∧ wr.ownsRow w.heap.size 65 2 (.slice x i c) i ((r.take i).flatMap fVl) ∧ Tch [] w wr

set_option maxRecDepth 100000 in
set_option maxHeartbeats 1000000 in
theorem rowRef_any (r : List Vl) (ra : Option Addr) (rc rb ro : Nat) (w : World) (hr : IsVs w ra r.length rb ro r) (hl : r.length ≤ 1000000000) :
    Calls Try.prog 10 #[.slice ra r.length rc] w (RrPost w r) := by
  have HC := Lib.hid (show ∀ (W : World), Tch [] w W → ∀ (i : Nat) x, r[i]? = some x → ra = some ⟨rb, ro, none⟩ ∧ W.cell? ⟨rb, ro + i * 2, none⟩ = some (.int .i64 x.n) ∧ W.cell? ⟨rb, ro + i * 2 + 1, none⟩ = some (.string x.s) from fun W T i x hx => by
    have hi := (List.getElem?_eq_some_iff.1 hx).1
    exact ⟨hr.some_ (by omega), (hr.keep0 T).c0 hx rfl, by have := (hr.keep0 T).c hx 1 (v := .string x.s) rfl; rwa [Nat.add_assoc] at this ⊢⟩)
  have HST : Hid (RrRel w r r.length (.int .i64 0) (.slice none 0 0) w) := ⟨0, none, 0, by omega, rfl, rfl, World.ownsRow_nil w w.heap.size 65 2, Tch.refl _ _⟩
  have HYES : Hid (∀ W x c, W.ownsRow w.heap.size 65 2 (.slice x r.length c) r.length (r.flatMap fVl) → Tch [] w W → RrPost w r (.returned (.slice x r.length c)) W) := fun W x c h t => ⟨x, c, rfl, h, t⟩
  obtain ⟨i0, hi, hz0, hz1, hz2⟩ := info_parts Try.info_rvl
  generalize RrPost w r = Q at *
  clear hr
  go_enter Try.func10, Try.ntmps10
  go_wp2_with fail
  go_loopg [8, 3] r.length (fun n v8 v3 wr => RrRel w r n v8 v3 wr)
  case atStart => exact HST.out
  case round =>
    obtain ⟨i, x, c, hni, rfl, rfl, hown, T⟩ := hrel
    match gk, hni with
    | 0, hni =>
      obtain rfl : i = r.length := by omega
      rw [List.take_length] at hown
      have HE := Lib.hid (HYES.out wr x c hown T)
      have hlt : decide (r.length < r.length) = false := decide_eq_false (by omega)
      clear hown HST HYES HC
      go_wp2_with fail
      first | exact HE.out | (go_ret; exact HE.out)
    | m + 1, hni =>
      have hi' : i < r.length := by omega
      have hlt : decide (i < r.length) = true := decide_eq_true hi'
      have hi1 : (i : Int) < (r.length : Int) := by omega
      have hge : r[i]? = some r[i] := List.getElem?_eq_getElem hi'
      obtain ⟨ha, c0, c1⟩ := HC.out wr T i _ hge
      subst ha
      have HTK := Lib.hid (show (r.take (i + 1)).flatMap fVl = (r.take i).flatMap fVl ++ [Value.int .i64 r[i].n, .string r[i].s] from fm_snoc r i _ hge)
      have HO1 := Lib.hid hown
      have hws := T.size
      clear hge hown
      generalize r[i] = y at *
      obtain ⟨yn, ys⟩ := y
      simp only at c0 c1 HTK
      go_wp2_with (at_builtin; go_loud (refine wpList_append_own _ rfl _ _ 39 rfl w.heap.size 65 i0 (.agg #[.int .i64 0, .string ⟨#[]⟩]) 2 24 Try.underlying39 hi hz0 hz1 hz2 rfl (by decide) _ _ _ rfl ((HO1.out.alloc (.cells #[.int .i64 yn, .string ys] 58)).alloc (.cells #[.int .i64 yn, .string ys] 65)) ⟨wr.heap.size + 1, 0, none⟩ 1 1 [.int .i64 yn, .string ys] rfl rfl (fun j u hu => by have := cells_two2 (wr.alloc (.cells #[.int .i64 yn, .string ys] 58)) _ _ 65 j u hu; simpa using this) (by intro u hu; simp only [List.mem_cons, List.not_mem_nil, or_false] at hu; rcases hu with rfl | rfl <;> rfl) ?c3 ?c4 ?c5 ?_))
      case c3 => unfold maxLen; omega
      case c4 => omega
      case c5 => first | (simp; omega) | omega
      intro v' w2 hown2 hgrow _
      have T2 := ((T.alloc (.cells #[.int .i64 yn, .string ys] 58)).alloc (.cells #[.int .i64 yn, .string ys] 65)).own ((HO1.out.alloc _).alloc _) (Nat.le_refl _) hgrow
      obtain ⟨x2, c2, rfl⟩ := own_slice hown2
      rw [← HTK.out] at hown2
      have HO := Lib.hid hown2
      clear hown2 hgrow HO1 HTK c0 c1
      go_wp2_with fail
      go_roundg m
      case measure => omega
      case rel => exact ⟨i + 1, x2, c2, by omega, by go_num, rfl, HO.out, T2⟩

/-- Rows of values that are the same are told to be. -/
theorem neq_vl (n : Int) (s : ByteArray) (w : World) : (binOp .neq 58 (.agg #[.int .i64 n, .string s]) (.agg #[.int .i64 n, .string s])).run Try.prog w = .ok (.bool false) w := by
  rw [run_neq_struct, run_equalIn_struct _ _ _ _ _ (by kernel_rfl) (by kernel_rfl)]
  unfold Program.fieldsOf
  rw [Try.underlying58]
  have p0 : ∀ w, (part 2 #[.int .i64 n, .string s] 0).run Try.prog w = .ok (.int .i64 n) w := fun w => by kernel_rfl
  have p1 : ∀ w, (part 9 #[.int .i64 n, .string s] 1).run Try.prog w = .ok (.string s) w := fun w => by kernel_rfl
  have q0 : ∀ s w, (Op.equalIn 9999 9 (.string s) (.string s)).run Try.prog w = .ok true w := fun s w => by rw [run_equalIn_string w 9998 _ _ _ Try.underlying9]; simp
  have q1 : ∀ (i : Int) w, (Op.equalIn 9999 2 (.int .i64 i) (.int .i64 i)).run Try.prog w = .ok true w := fun i w => by rw [run_equalIn_int w 9998 _ _ _ _ _ Try.underlying2]; simp
  simp [Op.eqFields, p0, p1, q0, q1, Result.andThen]
def SmRel (w : World) (len n : Nat) (v13 : Value) (wr : World) : Prop := ∃ i : Nat, n + i = len ∧ v13 = .int .i64 i ∧ Tch [] w wr
set_option maxRecDepth 100000 in
set_option maxHeartbeats 1000000 in
theorem same6_yes (r : List Vl) (xa ya : Option Addr) (xc xb xo yc yb yo : Nat) (w : World) (hx : IsVs w xa r.length xb xo r) (hy : IsVs w ya r.length yb yo r) (hl : r.length ≤ 1000000000) :
    Calls Try.prog 13 #[.slice xa r.length xc, .slice ya r.length yc] w fun e w' => e = .returned (.bool true) ∧ Tch [] w w' := by
  have HC := Lib.hid (show ∀ (W : World), Tch [] w W → ∀ (i : Nat) x, r[i]? = some x → (xa = some ⟨xb, xo, none⟩ ∧ ya = some ⟨yb, yo, none⟩) ∧ ∀ q, (W.drewN q).cell? ⟨xb, xo + i * 2, none⟩ = some (.int .i64 x.n) ∧ (W.drewN q).cell? ⟨xb, xo + i * 2 + 1, none⟩ = some (.string x.s) ∧ (W.drewN q).cell? ⟨yb, yo + i * 2, none⟩ = some (.int .i64 x.n) ∧ (W.drewN q).cell? ⟨yb, yo + i * 2 + 1, none⟩ = some (.string x.s) from fun W T i x h => by
    have hi := (List.getElem?_eq_some_iff.1 h).1
    refine ⟨⟨hx.some_ (by omega), hy.some_ (by omega)⟩, fun q => ?_⟩
    have a1 := hx.keep0 (tdrewN T q)
    have a2 := hy.keep0 (tdrewN T q)
    exact ⟨a1.c0 h rfl, by have := a1.c h 1 (v := .string x.s) rfl; rwa [Nat.add_assoc] at this ⊢, a2.c0 h rfl, by have := a2.c h 1 (v := .string x.s) rfl; rwa [Nat.add_assoc] at this ⊢⟩)
  have HST : Hid (SmRel w r.length r.length (.int .i64 0) w) := ⟨0, by omega, rfl, Tch.refl _ _⟩
  clear hx hy
  go_enter Try.func13, Try.ntmps13
  go_wp2_with fail
  go_loopg [13] r.length (fun n v13 wr => SmRel w r.length n v13 wr)
  case atStart => exact HST.out
  case round =>
    obtain ⟨i, hni, rfl, T⟩ := hrel
    match gk, hni with
    | 0, hni =>
      obtain rfl : i = r.length := by omega
      have hlt : decide (r.length < r.length) = false := decide_eq_false (by omega)
      clear HST HC
      go_wp2_with fail
      first | exact ⟨rfl, T⟩ | (go_ret; exact ⟨rfl, T⟩)
    | m + 1, hni =>
      have hi' : i < r.length := by omega
      have hlt : decide (i < r.length) = true := decide_eq_true hi'
      have hi1 : (i : Int) < (r.length : Int) := by omega
      have hge : r[i]? = some r[i] := List.getElem?_eq_getElem hi'
      obtain ⟨⟨ha, hb⟩, hq⟩ := HC.out wr T i _ hge
      subst ha hb
      clear hge
      generalize r[i] = y at *
      obtain ⟨yn, ys⟩ := y
      have c0 := fun q => (hq q).1
      have c1 := fun q => (hq q).2.1
      have c2 := fun q => (hq q).2.2.1
      have c3 := fun q => (hq q).2.2.2
      simp only at c0 c1 c2 c3
      have hne := neq_vl yn ys
      have HT := Lib.hid (fun q => tdrewN T q)
      clear hq T HC HST
      go_wp2_with fail
      go_quiet (fail)
      go_wp2_with fail
      go_roundg m
      case measure => omega
      case rel => exact ⟨i + 1, by omega, by go_num, HT.out _⟩
end Go.Proofs.Ytenohgogfddniaa
