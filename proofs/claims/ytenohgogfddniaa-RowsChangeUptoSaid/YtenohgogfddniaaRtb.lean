/-
  The laws' own 'tableRef' of layer 6.
-/
import Derived.Test.YtenohgogfddniaaRtr
import Derived.Test.YtenohgogfddniaaFit
namespace Go.Proofs.Ytenohgogfddniaa
open Go.RowKit
set_option linter.unusedVariables false

theorem grown_keep6 {a b : World} {B n sz G : Nat} {e T : TypeId} {v : Value} {xs : List Value} {cs : Array Value} {f : Nat × Nat} (ho : a.ownsRow B e sz v n xs) (hg : a.grownBy b v.ownBlock) (hb : a.heap[G]? = some (.cells cs T f)) (hne : e ≠ T) : b.heap[G]? = some (.cells cs T f) := by
  have hn : v.ownBlock ≠ some G := fun hs => by
    rcases ho.2 with ⟨rfl, _⟩ | ⟨g, cap, cur, rfl, _, hb2, _⟩
    · simp [Value.ownBlock] at hs
    · simp only [Value.ownBlock, Option.some.injEq] at hs
      subst hs
      rw [hb] at hb2
      simp only [Option.some.injEq, Obj.cells.injEq] at hb2
      exact hne hb2.2.1.symm
  have t : Tch v.ownBlock.toList a b := ⟨hg.os, hg.tape, hg.output, hg.size, fun k hk hkl => hg.block k hk (fun e => hkl (by rw [← e]; simp))⟩
  exact t.keep hb (by intro h; exact hn (by simpa using h))

def TbPost (w : World) (t : Tb) (e : Ending) (w' : World) : Prop := (∃ x c b, e = .returned (t.agg x c) ∧ IsKs w' x t.cols.length b 0 t.cols ∧ t.cols.length ≤ c) ∧ Tch [] w w'
def TbRel (w : World) (t : Tb) (n : Nat) (v16 : Value) (wr : World) : Prop :=
  ∃ (i : Nat) (x : Option Addr) (c : Nat), n + i = t.cols.length ∧ v16 = .int .i64 i ∧ wr.heap[w.heap.size + 1]? = some (.cells #[.int .u8 0, .slice none 0 0, .int .i64 0, .int .i64 0] 37 (0, 0)) ∧ wr.heap[w.heap.size + 1 + 1]? = some (.cells #[.int .u8 t.name, .slice x i c, .int .i64 t.keys, .int .i64 t.idx] 37 (0, 0)) ∧
    wr.ownsRow w.heap.size 3 1 (.slice x i c) i ((t.cols.take i).flatMap fInt) ∧ Tch [] w wr

set_option maxRecDepth 100000 in
set_option maxHeartbeats 1000000 in
theorem tableRef_any (t : Tb) (a : Option Addr) (c b o : Nat) (w : World) (hk : IsKs w a t.cols.length b o t.cols) (hl : t.cols.length ≤ 1000000000) :
    Calls Try.prog 9 #[t.agg a c] w (TbPost w t) := by
  have HC := Lib.hid (show ∀ (W : World), Tch [] w W → ∀ (i : Nat) x, t.cols[i]? = some x → a = some ⟨b, o, none⟩ ∧ W.cell? ⟨b, o + i, none⟩ = some (.int .i64 x) from fun W T i x hx => by
    have hi := (List.getElem?_eq_some_iff.1 hx).1
    exact ⟨hk.some_ (by omega), (hk.keep0 T).one hx rfl⟩)
  have HYES : Hid (∀ W x c', W.ownsRow w.heap.size 3 1 (.slice x t.cols.length c') t.cols.length (t.cols.flatMap fInt) → Tch [] w W → TbPost w t (.returned (t.agg x c')) W) := fun W x c' h t' => by
    obtain ⟨b, h1, _, _⟩ := IsR.own (f := fInt) (sz := 1) (fun _ => rfl) h rfl
    exact ⟨⟨x, c', b, rfl, h1, own_cap h⟩, t'⟩
  obtain ⟨i0, hi, hz0, hz1, hz2⟩ := info_parts Try.info_int6
  generalize TbPost w t = Q at *
  clear hk
  unfold Tb.agg at *
  go_enter Try.func9, Try.ntmps9
  go_upto_region 2 with fail
  obtain ⟨W0, hW0⟩ : ∃ W0, W0 = (((w.alloc (.cells #[.int .u8 t.name, .slice a t.cols.length c, .int .i64 t.keys, .int .i64 t.idx] 24)).alloc (.cells #[.int .u8 0, .slice none 0 0, .int .i64 0, .int .i64 0] 37)).alloc (.cells #[.int .u8 t.name, .slice none 0 0, .int .i64 t.keys, .int .i64 t.idx] 37)) := ⟨_, rfl⟩
  have s1 : (w.alloc (.cells #[.int .u8 t.name, .slice a t.cols.length c, .int .i64 t.keys, .int .i64 t.idx] 24)).heap.size = w.heap.size + 1 := Array.size_push _
  have s2 : ((w.alloc (.cells #[.int .u8 t.name, .slice a t.cols.length c, .int .i64 t.keys, .int .i64 t.idx] 24)).alloc (.cells #[.int .u8 0, .slice none 0 0, .int .i64 0, .int .i64 0] 37)).heap.size = w.heap.size + 1 + 1 := by rw [← s1]; exact Array.size_push _
  have hb0 : W0.heap[w.heap.size]? = some (.cells #[.int .u8 t.name, .slice a t.cols.length c, .int .i64 t.keys, .int .i64 t.idx] 24 (0, 0)) := by rw [hW0]; exact blk_alloc (blk_alloc (blk_new w _) _) _
  have hb1 : W0.heap[w.heap.size + 1]? = some (.cells #[.int .u8 0, .slice none 0 0, .int .i64 0, .int .i64 0] 37 (0, 0)) := by
    have h := blk_new (w.alloc (.cells #[.int .u8 t.name, .slice a t.cols.length c, .int .i64 t.keys, .int .i64 t.idx] 24)) (.cells #[.int .u8 0, .slice none 0 0, .int .i64 0, .int .i64 0] 37)
    rw [s1] at h
    rw [hW0]; exact blk_alloc h _
  have hb2 : W0.heap[w.heap.size + 1 + 1]? = some (.cells #[.int .u8 t.name, .slice none 0 0, .int .i64 t.keys, .int .i64 t.idx] 37 (0, 0)) := by
    have h := blk_new ((w.alloc (.cells #[.int .u8 t.name, .slice a t.cols.length c, .int .i64 t.keys, .int .i64 t.idx] 24)).alloc (.cells #[.int .u8 0, .slice none 0 0, .int .i64 0, .int .i64 0] 37)) (.cells #[.int .u8 t.name, .slice none 0 0, .int .i64 t.keys, .int .i64 t.idx] 37)
    rw [s2] at h
    rw [hW0]; exact h
  have T0 : Tch [] w W0 := by rw [hW0]; exact (((Tch.refl [] w).alloc _).alloc _).alloc _
  have HST : Hid (TbRel w t t.cols.length (.int .i64 0) W0) := ⟨0, none, 0, by omega, rfl, hb1, hb2, World.ownsRow_nil W0 w.heap.size 3 1, T0⟩
  have x1 : W0.cell? ⟨w.heap.size, 1, none⟩ = some (.slice a t.cols.length c) := by rw [blk_cell hb0]; rfl
  rw [← hW0]
  clear hW0 s1 s2 hb0 hb1 hb2 T0
  go_wp2_with fail
  go_loopg [16] t.cols.length (fun n v16 wr => TbRel w t n v16 wr)
  case atStart => exact HST.out
  case round =>
    obtain ⟨i, x, c', hni, rfl, hB1, hB2, hown, T⟩ := hrel
    match gk, hni with
    | 0, hni =>
      obtain rfl : i = t.cols.length := by omega
      rw [List.take_length] at hown
      have hlt : decide (t.cols.length < t.cols.length) = false := decide_eq_false (by omega)
      have z0 : wr.cell? ⟨w.heap.size + 1 + 1, 0, none⟩ = some (.int .u8 t.name) := by rw [blk_cell hB2]; rfl
      have z1 : wr.cell? ⟨w.heap.size + 1 + 1, 1, none⟩ = some (.slice x t.cols.length c') := by rw [blk_cell hB2]; rfl
      have z2 : wr.cell? ⟨w.heap.size + 1 + 1, 2, none⟩ = some (.int .i64 t.keys) := by rw [blk_cell hB2]; rfl
      have z3 : wr.cell? ⟨w.heap.size + 1 + 1, 3, none⟩ = some (.int .i64 t.idx) := by rw [blk_cell hB2]; rfl
      have y0 : wr.cell? ⟨w.heap.size + 1, 0, none⟩ = some (.int .u8 0) := by rw [blk_cell hB1]; rfl
      have y1 : wr.cell? ⟨w.heap.size + 1, 1, none⟩ = some (.slice none 0 0) := by rw [blk_cell hB1]; rfl
      have y2 : wr.cell? ⟨w.heap.size + 1, 2, none⟩ = some (.int .i64 0) := by rw [blk_cell hB1]; rfl
      have y3 : wr.cell? ⟨w.heap.size + 1, 3, none⟩ = some (.int .i64 0) := by rw [blk_cell hB1]; rfl
      have f0 := blk_free hB1 0
      have f1 := blk_free hB1 1
      have f2 := blk_free hB1 2
      have f3 := blk_free hB1 3
      have hg1 : w.heap.size + 1 < wr.heap.size := lt_of_block hB1
      obtain ⟨W5, hW5⟩ : ∃ W5, W5 = (((wr.setCell ⟨w.heap.size + 1, 0, none⟩ (.int .u8 t.name)).setCell ⟨w.heap.size + 1, 1, none⟩ (.slice x t.cols.length c')).setCell ⟨w.heap.size + 1, 2, none⟩ (.int .i64 t.keys)).setCell ⟨w.heap.size + 1, 3, none⟩ (.int .i64 t.idx) := ⟨_, rfl⟩
      have hB5 : W5.heap[w.heap.size + 1]? = some (.cells #[.int .u8 t.name, .slice x t.cols.length c', .int .i64 t.keys, .int .i64 t.idx] 37 (0, 0)) := by
        rw [hW5]; exact blk_set (blk_set (blk_set (blk_set hB1 0 _) 1 _) 2 _) 3 _
      have hown5 : W5.ownsRow w.heap.size 3 1 (.slice x t.cols.length c') t.cols.length (t.cols.flatMap fInt) := by
        have ht : Tch [w.heap.size + 1] wr W5 := by rw [hW5]; exact ((((Tch.refl _ wr).setCell (by simp) _).setCell (by simp) _).setCell (by simp) _).setCell (by simp) _
        refine own_keep hown ht (fun k hkk => ?_)
        intro hm
        rw [List.mem_singleton.1 hm] at hkk
        rcases hown.2 with ⟨hv, _⟩ | ⟨g, cap, cur, hv, _, hb2, _⟩
        · rw [hv] at hkk; simp [Value.ownBlock] at hkk
        · rw [hv] at hkk
          simp only [Value.ownBlock, Option.some.injEq] at hkk
          subst hkk
          rw [hB1] at hb2
          simp only [Option.some.injEq, Obj.cells.injEq] at hb2
          exact absurd hb2.2.1 (by decide)
      have T5 : Tch [] w W5 := by rw [hW5]; exact (((T.setNew (by simp) _).setNew (by simp) _).setNew (by simp) _).setNew (by simp) _
      have HE := Lib.hid (HYES.out W5 x c' hown5 T5)
      have p0 : W5.cell? ⟨w.heap.size + 1, 0, none⟩ = some (.int .u8 t.name) := by rw [blk_cell hB5]; rfl
      have p1 : W5.cell? ⟨w.heap.size + 1, 1, none⟩ = some (.slice x t.cols.length c') := by rw [blk_cell hB5]; rfl
      have p2 : W5.cell? ⟨w.heap.size + 1, 2, none⟩ = some (.int .i64 t.keys) := by rw [blk_cell hB5]; rfl
      have p3 : W5.cell? ⟨w.heap.size + 1, 3, none⟩ = some (.int .i64 t.idx) := by rw [blk_cell hB5]; rfl
      have HW5 := Lib.hid hW5
      clear hown HST HYES HC hW5 hB1 hB2 hB5 hown5 T5
      go_wp2_with fail
      rw [← HW5.out]
      exact bodyPost_ret (v := .agg #[.int .u8 t.name, .slice x t.cols.length c', .int .i64 t.keys, .int .i64 t.idx]) (by simp [results, Try.results9, go_sem, p0, p1, p2, p3]) rfl HE.out
    | m + 1, hni =>
      have hi' : i < t.cols.length := by omega
      have hlt : decide (i < t.cols.length) = true := decide_eq_true hi'
      have hi1 : (i : Int) < (t.cols.length : Int) := by omega
      have hge : t.cols[i]? = some t.cols[i] := List.getElem?_eq_getElem hi'
      obtain ⟨ha, c0⟩ := HC.out wr T i _ hge
      subst ha
      have HTK := Lib.hid (show (t.cols.take (i + 1)).flatMap fInt = (t.cols.take i).flatMap fInt ++ [Value.int .i64 t.cols[i]] from fm_snoc t.cols i _ hge)
      have HO1 := Lib.hid hown
      have hws := T.size
      have HB1 := Lib.hid hB1
      have HB2 := Lib.hid hB2
      have z1 : wr.cell? ⟨w.heap.size + 1 + 1, 1, none⟩ = some (.slice x i c') := by rw [blk_cell hB2]; rfl
      have hg2 : w.heap.size + 1 + 1 < wr.heap.size := lt_of_block hB2
      clear hge hown hB1 hB2 HYES HST
      generalize t.cols[i] = y at *
      go_wp2_with (at_builtin; go_loud (refine wpList_append_own _ rfl _ _ 35 rfl w.heap.size 3 i0 (.int .i64 0) 1 8 Try.underlying35 hi hz0 hz1 hz2 rfl (by decide) _ _ _ rfl (HO1.out.alloc (.cells #[.int .i64 y] 3)) ⟨wr.heap.size, 0, none⟩ 1 1 [.int .i64 y] rfl rfl (fun j u hu => cells_one wr _ 3 j u hu) (by intro u hu; simp only [List.mem_cons, List.not_mem_nil, or_false] at hu; subst hu; rfl) ?c3 ?c4 ?c5 ?_))
      case c3 => unfold maxLen; omega
      case c4 => omega
      case c5 => first | (simp; omega) | omega
      intro v' w2 hown2 hgrow _
      have hb1 := grown_keep6 (HO1.out.alloc (.cells #[.int .i64 y] 3)) hgrow (blk_alloc HB1.out _) (by decide)
      have hb2 := grown_keep6 (HO1.out.alloc (.cells #[.int .i64 y] 3)) hgrow (blk_alloc HB2.out _) (by decide)
      have T2 := (T.alloc (.cells #[.int .i64 y] 3)).own (HO1.out.alloc _) (Nat.le_refl _) hgrow
      obtain ⟨x2, c2, rfl⟩ := own_slice hown2
      rw [← HTK.out] at hown2
      have u1 : w2.cell? ⟨w.heap.size + 1 + 1, 1, none⟩ = some (.slice x i c') := by rw [blk_cell hb2]; rfl
      have f1 := blk_free hb2 1
      have hg3 : w.heap.size + 1 + 1 < w2.heap.size := lt_of_block hb2
      have HR : Hid (TbRel w t m (.int .i64 ((i + 1 : Nat) : Int)) (w2.setCell ⟨w.heap.size + 1 + 1, 1, none⟩ (.slice x2 (i + 1) c2))) := by
        refine ⟨i + 1, x2, c2, by omega, rfl, ((Tch.refl [w.heap.size + 1 + 1] w2).setCell (by simp) _).keep hb1 (by simp), blk_set hb2 1 _, ?_, T2.setNew (show w.heap.size ≤ w.heap.size + 1 + 1 by omega) _⟩
        refine own_keep hown2 ((Tch.refl [w.heap.size + 1 + 1] w2).setCell (by simp) _) (fun k hkk hm => ?_)
        rw [List.mem_singleton.1 hm] at hkk
        rcases hown2.2 with ⟨hv, _⟩ | ⟨g, cap, cur, hv, _, hb3, _⟩
        · rw [hv] at hkk; simp [Value.ownBlock] at hkk
        · rw [hv] at hkk
          simp only [Value.ownBlock, Option.some.injEq] at hkk
          subst hkk
          rw [hb2] at hb3
          simp only [Option.some.injEq, Obj.cells.injEq] at hb3
          exact absurd hb3.2.1 (by decide)
      clear hown2 hgrow HO1 HTK c0 z1 hb1 hb2 T2 HB1 HB2 hg2 HC
      go_wp2_with fail
      go_roundg m
      case measure => omega
      case rel => exact HR.out
end Go.Proofs.Ytenohgogfddniaa
