/-
  Layer 6: 'pairsOf'.
-/
import Derived.Test.YtenohgogfddniaaPsl
import Derived.BigQuiet
import Derived.Deep.RegionHeld3
import Derived.Deep.CutRange
namespace Go.Proofs.Ytenohgogfddniaa
open Go.RowKit
set_option linter.unusedVariables false

def PofPost (w : World) (t : Tb) (r : List Vl) (e : Ending) (w' : World) : Prop := e = pofE (pairsF t r) ∧ Tch [] w w'
def prz : Array Value := #[.string ⟨#[]⟩, .string ⟨#[]⟩, .string ⟨#[]⟩, .string ⟨#[]⟩]
/-- The table's box, in a later world. -/
abbrev TbC (t : Tb) (a : Option Addr) (c g : Nat) (W : World) : Prop := W.cell? ⟨g, 0, none⟩ = some (.int .u8 t.name) ∧ W.cell? ⟨g, 1, none⟩ = some (.slice a t.cols.length c) ∧ W.cell? ⟨g, 2, none⟩ = some (.int .i64 t.keys) ∧ W.cell? ⟨g, 3, none⟩ = some (.int .i64 t.idx)
abbrev PrC (g : Nat) (x0 x1 x2 x3 : Value) (W : World) : Prop := W.cell? ⟨g, 0, none⟩ = some x0 ∧ W.cell? ⟨g, 1, none⟩ = some x1 ∧ W.cell? ⟨g, 2, none⟩ = some x2 ∧ W.cell? ⟨g, 3, none⟩ = some x3 ∧ W.frozen? ⟨g, 0, none⟩ = false ∧ W.frozen? ⟨g, 1, none⟩ = false ∧ W.frozen? ⟨g, 2, none⟩ = false ∧ W.frozen? ⟨g, 3, none⟩ = false

theorem prs_put {W : World} {g : Nat} {y0 y1 y2 y3 : Value} {T : TypeId} (h : W.heap[g]? = some (.cells #[y0, y1, y2, y3] T (0, 0))) (x0 x1 x2 x3 : Value) :
    PrC g x0 x1 x2 x3 ((((W.setCell ⟨g, 0, none⟩ x0).setCell ⟨g, 1, none⟩ x1).setCell ⟨g, 2, none⟩ x2).setCell ⟨g, 3, none⟩ x3) := by
  have h1 := blk_set (blk_set (blk_set (blk_set h 0 x0) 1 x1) 2 x2) 3 x3
  exact ⟨by rw [blk_cell h1]; rfl, by rw [blk_cell h1]; rfl, by rw [blk_cell h1]; rfl, by rw [blk_cell h1]; rfl, blk_free h1 0, blk_free h1 1, blk_free h1 2, blk_free h1 3⟩
theorem prs_put2 {W : World} {g : Nat} {y0 y1 y2 y3 : Value} {T : TypeId} (h : W.heap[g]? = some (.cells #[y0, y1, y2, y3] T (0, 0))) (x0 x1 x2 x3 : Value) (ob : Obj) :
    PrC g x0 x1 x2 x3 (((((W.setCell ⟨g, 0, none⟩ x0).setCell ⟨g, 1, none⟩ x1).setCell ⟨g, 2, none⟩ x2).setCell ⟨g, 3, none⟩ x3).alloc ob) := by
  have h1 := blk_alloc (blk_set (blk_set (blk_set (blk_set h 0 x0) 1 x1) 2 x2) 3 x3) ob
  exact ⟨by rw [blk_cell h1]; rfl, by rw [blk_cell h1]; rfl, by rw [blk_cell h1]; rfl, by rw [blk_cell h1]; rfl, blk_free h1 0, blk_free h1 1, blk_free h1 2, blk_free h1 3⟩
set_option maxRecDepth 100000 in
set_option maxHeartbeats 4000000 in
theorem pairsOf_any (t : Tb) (a : Option Addr) (c b o : Nat) (r : List Vl) (ra : Option Addr) (rc rb ro : Nat) (w : World) (hk : IsKs w a t.cols.length b o t.cols) (hr : IsVs w ra r.length rb ro r) (hc : t.cols.length ≤ c) (hrc : r.length ≤ rc) (hl : t.cols.length ≤ 1000000000) (hn : t.name < 256) (hok : ∀ x ∈ r, x.Ok) :
    Calls Try.prog 17 #[t.agg a c, .slice ra r.length rc] w (PofPost w t r) := by
  have HFI := Lib.hid (fun (W : World) (T : Tch [] w W) => isFit_any t a c b o W (hk.keep0 T) hl)
  have HHV := Lib.hid (fun (W : World) (T : Tch [] w W) => hasValues_any t a c b o r ra rc rb ro W (hk.keep0 T) (hr.keep0 T) hl)
  obtain ⟨W0, hW0⟩ : ∃ W0, W0 = (w.alloc (.cells #[.int .u8 t.name, .slice a t.cols.length c, .int .i64 t.keys, .int .i64 t.idx] 24)).alloc (.cells #[.string ⟨#[]⟩, .string ⟨#[]⟩, .string ⟨#[]⟩, .string ⟨#[]⟩] 61) := ⟨_, rfl⟩
  have T0 : Tch [] w W0 := by rw [hW0]; exact ((Tch.refl [] w).alloc _).alloc _
  have hb1 : W0.heap[w.heap.size]? = some (.cells #[.int .u8 t.name, .slice a t.cols.length c, .int .i64 t.keys, .int .i64 t.idx] 24 (0, 0)) := by rw [hW0]; exact blk_alloc (blk_new w _) _
  have hb2 : W0.heap[w.heap.size + 1]? = some (.cells #[.string ⟨#[]⟩, .string ⟨#[]⟩, .string ⟨#[]⟩, .string ⟨#[]⟩] 61 (0, 0)) := by
    have h := blk_new (w.alloc (.cells #[.int .u8 t.name, .slice a t.cols.length c, .int .i64 t.keys, .int .i64 t.idx] 24)) (.cells #[.string ⟨#[]⟩, .string ⟨#[]⟩, .string ⟨#[]⟩, .string ⟨#[]⟩] 61)
    rw [show (w.alloc (.cells #[.int .u8 t.name, .slice a t.cols.length c, .int .i64 t.keys, .int .i64 t.idx] 24)).heap.size = w.heap.size + 1 from Array.size_push _] at h
    rw [hW0]; exact h
  have HX : Hid (∀ W, Tch [] W0 W → TbC t a c w.heap.size W) := fun W t3 => by
    have h1 := t3.keep hb1 (by simp)
    exact ⟨by rw [blk_cell h1]; rfl, by rw [blk_cell h1]; rfl, by rw [blk_cell h1]; rfl, by rw [blk_cell h1]; rfl⟩
  have HP : Hid (∀ W, Tch [] W0 W → PrC (w.heap.size + 1) (.string ⟨#[]⟩) (.string ⟨#[]⟩) (.string ⟨#[]⟩) (.string ⟨#[]⟩) W) := fun W t3 => by
    have h1 := t3.keep hb2 (by simp)
    exact ⟨by rw [blk_cell h1]; rfl, by rw [blk_cell h1]; rfl, by rw [blk_cell h1]; rfl, by rw [blk_cell h1]; rfl, blk_free h1 0, blk_free h1 1, blk_free h1 2, blk_free h1 3⟩
  have HPQ : Hid (∀ W, Tch [] W0 W → ∀ x0 x1 x2 x3, PrC (w.heap.size + 1) x0 x1 x2 x3 ((((W.setCell ⟨w.heap.size + 1, 0, none⟩ x0).setCell ⟨w.heap.size + 1, 1, none⟩ x1).setCell ⟨w.heap.size + 1, 2, none⟩ x2).setCell ⟨w.heap.size + 1, 3, none⟩ x3)) := fun W t3 x0 x1 x2 x3 => prs_put (t3.keep hb2 (by simp)) x0 x1 x2 x3
  have HPQ2 : Hid (∀ W, Tch [] W0 W → ∀ x0 x1 x2 x3 ob, PrC (w.heap.size + 1) x0 x1 x2 x3 (((((W.setCell ⟨w.heap.size + 1, 0, none⟩ x0).setCell ⟨w.heap.size + 1, 1, none⟩ x1).setCell ⟨w.heap.size + 1, 2, none⟩ x2).setCell ⟨w.heap.size + 1, 3, none⟩ x3).alloc ob)) := fun W t3 x0 x1 x2 x3 ob => prs_put2 (t3.keep hb2 (by simp)) x0 x1 x2 x3 ob
  have hg : w.heap.size + 1 < W0.heap.size := lt_of_block hb2
  have HT0 := Lib.hid T0
  have HNO : Hid (∀ W, pairsF t r = none → Tch [] W0 W → PofPost w t r (.returned (.tuple #[vPrs [] [] [], .bool false])) ((((W.setCell ⟨w.heap.size + 1, 0, none⟩ (.string ⟨#[]⟩)).setCell ⟨w.heap.size + 1, 1, none⟩ (.string ⟨#[]⟩)).setCell ⟨w.heap.size + 1, 2, none⟩ (.string ⟨#[]⟩)).setCell ⟨w.heap.size + 1, 3, none⟩ (.string ⟨#[]⟩))) := fun W h t3 => ⟨by rw [h]; rfl, by
    have t4 := HT0.out.trans t3
    exact (((t4.setNew (by simp) _).setNew (by simp) _).setNew (by simp) _).setNew (by simp) _⟩
  have HPF : Hid (pairsF t r = if tfit t && hasV t r && decide ((keysOf t r).length ≤ 46) && decide ((fieldsOf t r).length ≤ 200) && decide ((indexOf t r).length ≤ 48) then some (tbegin t 0 ++ keysOf t r, fieldsOf t r, indexOf t r) else none) := rfl
  clear hb1 hb2 T0
  unfold Tb.agg at *
  go_enter Try.func17, Try.ntmps17
  go_upto_region 1 with fail
  rw [← hW0]
  clear hW0
  obtain ⟨x0, x1, x2, x3⟩ := HX.out W0 (Tch.refl _ _)
  go_wp2_with fail
  refine (HFI.out _ HT0.out).mono ?_
  rintro e w1 ⟨rfl, t1⟩
  clear x0 x1 x2 x3
  obtain ⟨x0, x1, x2, x3⟩ := HX.out w1 t1
  rcases hf : tfit t with _ | _
  · obtain ⟨p0, p1, p2, p3, f0, f1, f2, f3⟩ := HP.out w1 t1
    have HEND := Lib.hid (HNO.out w1 (by rw [HPF.out, hf]; rfl) t1)
    generalize PofPost w t r = Q at *
    clear hf HPF HNO HP HX HFI HHV HT0
    go_wp2_with fail
    obtain ⟨q0, q1, q2, q3, _⟩ := HPQ.out w1 t1 (.string ⟨#[]⟩) (.string ⟨#[]⟩) (.string ⟨#[]⟩) (.string ⟨#[]⟩)
    exact bodyPost_ret (v := .tuple #[vPrs [] [] [], .bool false]) (by simp [results, Try.results17, vPrs, go_sem, q0, q1, q2, q3]) rfl HEND.out
  go_wp2_with fail
  refine (HHV.out _ (HT0.out.trans t1)).mono ?_
  rintro e w2 ⟨rfl, t2'⟩
  have t2 := t1.trans t2'
  clear x0 x1 x2 x3 t1 t2'
  rcases hv : hasV t r with _ | _
  · obtain ⟨p0, p1, p2, p3, f0, f1, f2, f3⟩ := HP.out w2 t2
    have hg2 : w.heap.size + 1 < w2.heap.size := Nat.lt_of_lt_of_le hg t2.size
    have HEND := Lib.hid (HNO.out w2 (by rw [HPF.out, hf, hv]; rfl) t2)
    generalize PofPost w t r = Q at *
    clear hf hv HPF HNO HP HX HFI HHV HT0
    go_wp2_with fail
    obtain ⟨q0, q1, q2, q3, _⟩ := HPQ.out w2 t2 (.string ⟨#[]⟩) (.string ⟨#[]⟩) (.string ⟨#[]⟩) (.string ⟨#[]⟩)
    exact bodyPost_ret (v := .tuple #[vPrs [] [] [], .bool false]) (by simp [results, Try.results17, vPrs, go_sem, q0, q1, q2, q3]) rfl HEND.out
  obtain ⟨k1, k2, k3, k4⟩ := tfit_keys hf
  have hln := hasV_len hv
  obtain ⟨kk, hK⟩ : ∃ kk : Nat, t.keys = (kk : Int) := ⟨t.keys.toNat, by omega⟩
  have ha := hk.some_ (by omega)
  have hra := hr.some_ (by omega)
  obtain ⟨A1, hA1, hA2⟩ := psl_lo 22 1 Try.elem_ks Try.size_ks b o t.cols.length c kk (by omega) hc
  obtain ⟨R1, hR1, hR2⟩ := psl_lo 26 2 Try.elem_rw Try.size_rw rb ro r.length rc kk (by omega) hrc
  have hA3 : ∀ W : World, (Instr.slice 22 (.slice (some ⟨b, o, none⟩) t.cols.length c) none (some (.int .i64 (kk : Int))) none).run Try.prog W = .ok (.slice (some ⟨b, o, none⟩) kk c) W := fun W => psl_hi _ 1 Try.elem_ks Try.size_ks _ _ _ _ _ (by omega) W
  have hR3 : ∀ W : World, (Instr.slice 26 (.slice (some ⟨rb, ro, none⟩) r.length rc) none (some (.int .i64 (kk : Int))) none).run Try.prog W = .ok (.slice (some ⟨rb, ro, none⟩) kk rc) W := fun W => psl_hi _ 2 Try.elem_rw Try.size_rw _ _ _ _ _ (by omega) W
  have hkt : t.keys.toNat = kk := by rw [hK]; rfl
  obtain ⟨SK, hSK⟩ : ∃ s : ByteArray, s = if (keysOf t r).length ≤ 46 then ⟨(keysOf t r).toArray⟩ else ⟨#[]⟩ := ⟨_, rfl⟩
  obtain ⟨BK, hBK⟩ : ∃ s : Bool, s = decide ((keysOf t r).length ≤ 46) := ⟨_, rfl⟩
  obtain ⟨SF, hSF⟩ : ∃ s : ByteArray, s = if (fieldsOf t r).length ≤ 200 then ⟨(fieldsOf t r).toArray⟩ else ⟨#[]⟩ := ⟨_, rfl⟩
  obtain ⟨BF, hBF⟩ : ∃ s : Bool, s = decide ((fieldsOf t r).length ≤ 200) := ⟨_, rfl⟩
  have HJK : Hid (∀ W, Tch [] w2 W → Calls Try.prog 30 #[.slice (some ⟨b, o, none⟩) kk c, .slice (some ⟨rb, ro, none⟩) kk rc, .func (.func 31) #[] #[], .int .i64 46] W fun e w' => e = .returned (.tuple #[.string SK, .bool BK]) ∧ Tch [] W w') := fun W t3 => by
    have T3 := (HT0.out.trans t2).trans t3
    have q1 := (hk.keep0 T3).part 0 kk (by omega) (some ⟨b, o, none⟩) (fun _ => by simp)
    have q2 := (hr.keep0 T3).part 0 kk (by omega) (some ⟨rb, ro, none⟩) (fun _ => by simp)
    rw [List.drop_zero] at q1 q2
    have e1 : (t.cols.take kk).length = kk := by rw [List.length_take]; omega
    have e2 : (r.take kk).length = kk := by rw [List.length_take]; omega
    have h := joined_key (t.cols.take kk) (r.take kk) (some ⟨b, o, none⟩) c b _ (some ⟨rb, ro, none⟩) rc rb _ 46 W (by rw [e1]; exact q1) (by rw [e2]; exact q2) (by omega) (by omega) (by omega) (fun x hx => hok x (List.mem_of_mem_take hx))
    rw [e1, e2, joinE_is] at h
    rw [hSK, hBK]
    unfold keysOf
    rw [hkt]
    exact h
  have HJF : Hid (∀ W, Tch [] w2 W → Calls Try.prog 30 #[.slice A1 (t.cols.length - kk) (c - kk), .slice R1 (r.length - kk) (rc - kk), .func (.func 32) #[] #[], .int .i64 200] W fun e w' => e = .returned (.tuple #[.string SF, .bool BF]) ∧ Tch [] W w') := fun W t3 => by
    have T3 := (HT0.out.trans t2).trans t3
    have q1 := (hk.keep0 T3).part kk (t.cols.length - kk) (by omega) A1 hA2
    have q2 := (hr.keep0 T3).part kk (r.length - kk) (by omega) R1 hR2
    have e1 : (t.cols.drop kk).length = t.cols.length - kk := by rw [List.length_drop]
    have e2 : (r.drop kk).length = r.length - kk := by rw [List.length_drop]
    rw [List.take_of_length_le (by omega)] at q1 q2
    have h := joined_field (t.cols.drop kk) (r.drop kk) A1 (c - kk) b _ R1 (rc - kk) rb _ 200 W (by rw [e1]; exact q1) (by rw [e2]; exact q2) (by omega) (by omega) (by omega) (fun x hx => hok x (List.mem_of_mem_drop hx))
    rw [e1, e2, joinE_is] at h
    rw [hSF, hBF]
    unfold fieldsOf
    rw [hkt]
    exact h
  subst ha hra
  have HSK := Lib.hid hSK
  have HSF := Lib.hid hSF
  have HBK := Lib.hid hBK
  have HBF := Lib.hid hBF
  clear hSK hSF hBK hBF
  have HX2 : Hid (∀ W, Tch [] w2 W → W.cell? ⟨w.heap.size, 0, none⟩ = some (.int .u8 t.name) ∧ W.cell? ⟨w.heap.size, 1, none⟩ = some (.slice (some ⟨b, o, none⟩) t.cols.length c) ∧ W.cell? ⟨w.heap.size, 2, none⟩ = some (.int .i64 (kk : Int)) ∧ W.cell? ⟨w.heap.size, 3, none⟩ = some (.int .i64 t.idx)) := fun W t3 => by
    obtain ⟨x0, x1, x2, x3⟩ := HX.out W (t2.trans t3)
    exact ⟨x0, x1, by rw [x2, hK], x3⟩
  have hi7 : (kk : Int) ≤ (t.cols.length : Int) := by omega
  have HLN := Lib.hid hln
  clear hln
  go_upto_region 3 with fail
  refine wp_region_quiet (C := fun W => Tch [] w2 W) (by kernel_rfl) (by kernel_rfl) ((Tch.refl _ _).drew) ?_
  with_reducible refine wpQuiet_step (fun K hK => ?_)
  go_simp
  refine ⟨.pointer (some ⟨w.heap.size, 1, none⟩), fun w1 t1 => rfl, ?_⟩
  refine hK _ ?_
  clear hK K
  with_reducible refine wpQuiet_step (fun K hK => ?_)
  go_simp
  refine ⟨.slice (some ⟨b, o, none⟩) t.cols.length c, fun w1 t1 => ?_, hK _ ?_⟩
  · obtain ⟨x0, x1, x2, x3⟩ := HX2.out w1 t1
    go_simp
  clear hK K
  with_reducible refine wpQuiet_step (fun K hK => ?_)
  go_simp
  refine ⟨.pointer (some ⟨w.heap.size, 2, none⟩), fun w1 t1 => rfl, ?_⟩
  refine hK _ ?_
  clear hK K
  with_reducible refine wpQuiet_step (fun K hK => ?_)
  go_simp
  refine ⟨.int .i64 (kk : Int), fun w1 t1 => ?_, hK _ ?_⟩
  · obtain ⟨x0, x1, x2, x3⟩ := HX2.out w1 t1
    go_simp
  clear hK K
  with_reducible refine wpQuiet_step (fun K hK => ?_)
  go_simp
  refine ⟨.slice (some ⟨b, o, none⟩) kk c, fun w1 t1 => rfl, ?_⟩
  refine hK _ ?_
  clear hK K
  with_reducible refine wpQuiet_step (fun K hK => ?_)
  go_simp
  refine ⟨.slice (some ⟨rb, ro, none⟩) r.length rc, fun w1 t1 => rfl, ?_⟩
  refine hK _ ?_
  clear hK K
  with_reducible refine wpQuiet_step (fun K hK => ?_)
  go_simp
  refine ⟨.pointer (some ⟨w.heap.size, 2, none⟩), fun w1 t1 => rfl, ?_⟩
  refine hK _ ?_
  clear hK K
  with_reducible refine wpQuiet_step (fun K hK => ?_)
  go_simp
  refine ⟨.int .i64 (kk : Int), fun w1 t1 => ?_, hK _ ?_⟩
  · obtain ⟨x0, x1, x2, x3⟩ := HX2.out w1 t1
    go_simp
  clear hK K
  with_reducible refine wpQuiet_step (fun K hK => ?_)
  go_simp
  refine ⟨.slice (some ⟨rb, ro, none⟩) kk rc, fun w1 t1 => rfl, ?_⟩
  refine hK _ ?_
  clear hK K
  with_reducible refine wpQuiet_step (fun K hK => ?_)
  go_simp
  refine ⟨_, fun w1 t1 => (HJK.out w1 t1).mono (fun e w5 ⟨he, t5⟩ => ⟨he, t1.trans t5⟩), hK _ ?_⟩
  clear hK K
  with_reducible refine wpQuiet_step (fun K hK => ?_)
  go_simp
  refine ⟨.tuple #[.string SK, .bool BK], fun w1 t1 => rfl, ?_⟩
  refine hK _ ?_
  clear hK K
  with_reducible refine wpQuiet_step (fun K hK => ?_)
  go_simp
  refine ⟨.string SK, fun w1 t1 => rfl, ?_⟩
  refine hK _ ?_
  clear hK K
  with_reducible refine wpQuiet_step (fun K hK => ?_)
  go_simp
  refine ⟨.bool BK, fun w1 t1 => rfl, ?_⟩
  refine hK _ ?_
  clear hK K
  with_reducible refine wpQuiet_step (fun K hK => ?_)
  go_simp
  refine ⟨.string SK, fun w1 t1 => rfl, ?_⟩
  refine hK _ ?_
  clear hK K
  with_reducible refine wpQuiet_step (fun K hK => ?_)
  go_simp
  refine ⟨.bool BK, fun w1 t1 => rfl, ?_⟩
  refine hK _ ?_
  clear hK K
  with_reducible refine wpQuiet_nil ?_
  intro w3 t3
  rcases hb : BK with _ | _
  · obtain ⟨p0, p1, p2, p3, f0, f1, f2, f3⟩ := HP.out w3 (t2.trans t3)
    have t3 := t2.trans t3
    have hg2 : w.heap.size + 1 < w3.heap.size := Nat.lt_of_lt_of_le hg t3.size
    have HEND := Lib.hid (HNO.out w3 (by rw [HPF.out, hf, hv, ← HBK.out, hb]; rfl) t3)
    generalize PofPost w t r = Q at *
    clear hf hv HPF HNO HP HX HFI HHV HT0 HJK HJF HSK HSF HBK HBF hb
    go_wp2_with fail
    obtain ⟨q0, q1, q2, q3, _⟩ := HPQ.out w3 t3 (.string ⟨#[]⟩) (.string ⟨#[]⟩) (.string ⟨#[]⟩) (.string ⟨#[]⟩)
    exact bodyPost_ret (v := .tuple #[vPrs [] [] [], .bool false]) (by simp [results, Try.results17, vPrs, go_sem, q0, q1, q2, q3]) rfl HEND.out
  go_upto_region 6 with fail
  refine wp_region_quiet (C := fun W => Tch [] w2 W) (by kernel_rfl) (by kernel_rfl) t3.drew ?_
  with_reducible refine wpQuiet_step (fun K hK => ?_)
  go_simp
  refine ⟨.pointer (some ⟨w.heap.size, 1, none⟩), fun w1 t1 => rfl, ?_⟩
  refine hK _ ?_
  clear hK K
  with_reducible refine wpQuiet_step (fun K hK => ?_)
  go_simp
  refine ⟨.slice (some ⟨b, o, none⟩) t.cols.length c, fun w1 t1 => ?_, hK _ ?_⟩
  · obtain ⟨x0, x1, x2, x3⟩ := HX2.out w1 t1
    go_simp
  clear hK K
  with_reducible refine wpQuiet_step (fun K hK => ?_)
  go_simp
  refine ⟨.pointer (some ⟨w.heap.size, 2, none⟩), fun w1 t1 => rfl, ?_⟩
  refine hK _ ?_
  clear hK K
  with_reducible refine wpQuiet_step (fun K hK => ?_)
  go_simp
  refine ⟨.int .i64 (kk : Int), fun w1 t1 => ?_, hK _ ?_⟩
  · obtain ⟨x0, x1, x2, x3⟩ := HX2.out w1 t1
    go_simp
  clear hK K
  with_reducible refine wpQuiet_step (fun K hK => ?_)
  go_simp
  refine ⟨.slice A1 (t.cols.length - kk) (c - kk), fun w1 t1 => rfl, ?_⟩
  refine hK _ ?_
  clear hK K
  with_reducible refine wpQuiet_step (fun K hK => ?_)
  go_simp
  refine ⟨.slice (some ⟨rb, ro, none⟩) r.length rc, fun w1 t1 => rfl, ?_⟩
  refine hK _ ?_
  clear hK K
  with_reducible refine wpQuiet_step (fun K hK => ?_)
  go_simp
  refine ⟨.pointer (some ⟨w.heap.size, 2, none⟩), fun w1 t1 => rfl, ?_⟩
  refine hK _ ?_
  clear hK K
  with_reducible refine wpQuiet_step (fun K hK => ?_)
  go_simp
  refine ⟨.int .i64 (kk : Int), fun w1 t1 => ?_, hK _ ?_⟩
  · obtain ⟨x0, x1, x2, x3⟩ := HX2.out w1 t1
    go_simp
  clear hK K
  with_reducible refine wpQuiet_step (fun K hK => ?_)
  go_simp
  refine ⟨.slice R1 (r.length - kk) (rc - kk), fun w1 t1 => rfl, ?_⟩
  refine hK _ ?_
  clear hK K
  with_reducible refine wpQuiet_step (fun K hK => ?_)
  go_simp
  refine ⟨_, fun w1 t1 => (HJF.out w1 t1).mono (fun e w5 ⟨he, t5⟩ => ⟨he, t1.trans t5⟩), hK _ ?_⟩
  clear hK K
  with_reducible refine wpQuiet_step (fun K hK => ?_)
  go_simp
  refine ⟨.tuple #[.string SF, .bool BF], fun w1 t1 => rfl, ?_⟩
  refine hK _ ?_
  clear hK K
  with_reducible refine wpQuiet_step (fun K hK => ?_)
  go_simp
  refine ⟨.string SF, fun w1 t1 => rfl, ?_⟩
  refine hK _ ?_
  clear hK K
  with_reducible refine wpQuiet_step (fun K hK => ?_)
  go_simp
  refine ⟨.bool BF, fun w1 t1 => rfl, ?_⟩
  refine hK _ ?_
  clear hK K
  with_reducible refine wpQuiet_step (fun K hK => ?_)
  go_simp
  refine ⟨.string SF, fun w1 t1 => rfl, ?_⟩
  refine hK _ ?_
  clear hK K
  with_reducible refine wpQuiet_step (fun K hK => ?_)
  go_simp
  refine ⟨.bool BF, fun w1 t1 => rfl, ?_⟩
  refine hK _ ?_
  clear hK K
  with_reducible refine wpQuiet_nil ?_
  intro w4 t4
  clear t3
  have t4 := t2.trans t4
  rcases hb2 : BF with _ | _
  · obtain ⟨p0, p1, p2, p3, f0, f1, f2, f3⟩ := HP.out w4 t4
    have hg2 : w.heap.size + 1 < w4.heap.size := Nat.lt_of_lt_of_le hg t4.size
    have HEND := Lib.hid (HNO.out w4 (by rw [HPF.out, hf, hv, ← HBK.out, hb, ← HBF.out, hb2]; rfl) t4)
    generalize PofPost w t r = Q at *
    clear hf hv HPF HNO HP HX HFI HHV HT0 HJK HJF HSK HSF HBK HBF hb
    go_wp2_with fail
    obtain ⟨q0, q1, q2, q3, _⟩ := HPQ.out w4 t4 (.string ⟨#[]⟩) (.string ⟨#[]⟩) (.string ⟨#[]⟩) (.string ⟨#[]⟩)
    exact bodyPost_ret (v := .tuple #[vPrs [] [] [], .bool false]) (by simp [results, Try.results17, vPrs, go_sem, q0, q1, q2, q3]) rfl HEND.out
  have eSK : SK = ⟨(keysOf t r).toArray⟩ := by rw [HSK.out, if_pos (by have := HBK.out; rw [hb] at this; exact of_decide_eq_true this.symm)]
  have eSF : SF = ⟨(fieldsOf t r).toArray⟩ := by rw [HSF.out, if_pos (by have := HBF.out; rw [hb2] at this; exact of_decide_eq_true this.symm)]
  have hkl : (keysOf t r).length ≤ 46 := by have := HBK.out; rw [hb] at this; exact of_decide_eq_true this.symm
  have hfl : (fieldsOf t r).length ≤ 200 := by have := HBF.out; rw [hb2] at this; exact of_decide_eq_true this.symm
  subst eSK eSF
  have HY : Hid (∀ W, Tch [] w W → (indexOf t r).length ≤ 48 → PofPost w t r (.returned (.tuple #[vPrs (tbegin t 0 ++ keysOf t r) (fieldsOf t r) (indexOf t r), .bool true])) W) := fun W t3 hx => ⟨by
      rw [HPF.out, hf, hv, decide_eq_true hkl, decide_eq_true hfl, decide_eq_true hx]; rfl, t3⟩
  have HN2 : Hid (∀ W, Tch [] w W → ¬ (indexOf t r).length ≤ 48 → PofPost w t r (.returned (.tuple #[vPrs [] [] [], .bool false])) W) := fun W t3 hx => ⟨by rw [HPF.out, decide_eq_false hx]; simp [pofE], t3⟩
  have HT4 : Hid (∀ W, Tch [] W0 W → ∀ y0 y1 y2 y3 ob, Tch [] w (((((W.setCell ⟨w.heap.size + 1, 0, none⟩ y0).setCell ⟨w.heap.size + 1, 1, none⟩ y1).setCell ⟨w.heap.size + 1, 2, none⟩ y2).setCell ⟨w.heap.size + 1, 3, none⟩ y3).alloc ob)) := fun W t3 y0 y1 y2 y3 ob => by
    have t5 := HT0.out.trans t3
    exact ((((t5.setNew (by simp) _).setNew (by simp) _).setNew (by simp) _).setNew (by simp) _).alloc _
  have HBE : Hid (∀ W : World, Calls Try.prog 33 #[.agg #[.int .u8 t.name, .slice (some ⟨b, o, none⟩) t.cols.length c, .int .i64 (kk : Int), .int .i64 t.idx], .string ⟨#[0]⟩] W fun e w' => e = .returned (.string ⟨(tbegin t 0).toArray⟩) ∧ Tch [] W w') := fun W => by
    have h := begin_any t 0 (some ⟨b, o, none⟩) c W hn
    unfold Tb.agg at h
    rw [hK] at h
    exact h
  have hcat : ∀ W : World, (Op.stringOp .add ⟨(tbegin t 0).toArray⟩ ⟨(keysOf t r).toArray⟩).run Try.prog W = .ok (.string ⟨(tbegin t 0 ++ keysOf t r).toArray⟩) W := fun W => by
    have h2 : (⟨(tbegin t 0).toArray⟩ : ByteArray).size = 2 := rfl
    have h3 : (⟨(keysOf t r).toArray⟩ : ByteArray).size = (keysOf t r).length := List.size_toArray
    refine (run_string_add_sum W _ _ (by omega)).trans ?_
    rw [cat_l]
  have HIX : Hid (t.idx = -1 → indexOf t r = []) := fun h => by unfold indexOf; rw [if_pos h]
  obtain ⟨x0, x1, x2, x3⟩ := HX.out w4 t4
  rw [hK] at x2
  have HX4 : Hid (∀ W, Tch [] w4 W → W.cell? ⟨w.heap.size, 0, none⟩ = some (.int .u8 t.name) ∧ W.cell? ⟨w.heap.size, 1, none⟩ = some (.slice (some ⟨b, o, none⟩) t.cols.length c) ∧ W.cell? ⟨w.heap.size, 2, none⟩ = some (.int .i64 (kk : Int)) ∧ W.cell? ⟨w.heap.size, 3, none⟩ = some (.int .i64 t.idx)) := fun W t3 => by
    obtain ⟨x0, x1, x2, x3⟩ := HX.out W (t4.trans t3)
    exact ⟨x0, x1, by rw [x2, hK], x3⟩
  have hg4 : w.heap.size + 1 < w4.heap.size := Nat.lt_of_lt_of_le hg t4.size
  clear HPF HNO HFI HHV HJK HJF HSK HSF HBK HBF hA1 hA2 hA3 hR1 hR2 hR3 hkt hi7 hb hb2
  go_wp2_with fail
  refine (HBE.out _).mono ?_
  rintro e w5 ⟨rfl, t5⟩
  have t6 := t4.trans t5
  clear x0 x1 x2 x3
  obtain ⟨x0, x1, x2, x3⟩ := HX4.out w5 t5
  have hg5 : w.heap.size + 1 < w5.heap.size := Nat.lt_of_lt_of_le hg4 t5.size
  have hg6 : w.heap.size < w5.heap.size := by omega
  by_cases hx : t.idx = -1
  · have hxb : (t.idx != -1) = false := by rw [hx]; rfl
    have hix := HIX.out hx
    rw [hix] at HY
    obtain ⟨p0, p1, p2, p3, f0, f1, f2, f3⟩ := HP.out w5 t6
    have HEND := Lib.hid (HY.out _ (HT4.out w5 t6 (.string ⟨(tbegin t 0 ++ keysOf t r).toArray⟩) (.string ⟨(fieldsOf t r).toArray⟩) (.string ⟨#[]⟩) (.string ⟨#[]⟩) (.cells #[.string ⟨(tbegin t 0 ++ keysOf t r).toArray⟩, .string ⟨(fieldsOf t r).toArray⟩, .string ⟨#[]⟩, .string ⟨#[]⟩] 61)) (by simp))
    have HQQ := Lib.hid (HPQ2.out w5 t6 (.string ⟨(tbegin t 0 ++ keysOf t r).toArray⟩) (.string ⟨(fieldsOf t r).toArray⟩) (.string ⟨#[]⟩) (.string ⟨#[]⟩) (.cells #[.string ⟨(tbegin t 0 ++ keysOf t r).toArray⟩, .string ⟨(fieldsOf t r).toArray⟩, .string ⟨#[]⟩, .string ⟨#[]⟩] 61))
    generalize PofPost w t r = Q at *
    clear hf hv HP HX HT0 hix HIX hx HY HN2 HBE HT4 HPQ2
    go_wp2_with fail
    obtain ⟨q0, q1, q2, q3, _⟩ := HQQ.out
    exact bodyPost_ret (v := .tuple #[vPrs (tbegin t 0 ++ keysOf t r) (fieldsOf t r) [], .bool true]) (by simp [results, Try.results17, vPrs, go_sem, q0, q1, q2, q3]) rfl HEND.out
  · obtain ⟨i, hi⟩ : ∃ i : Nat, t.idx = (i : Int) := ⟨t.idx.toNat, by omega⟩
    have hxb : (t.idx != -1) = true := by simp; exact hx
    have hin : i < t.cols.length := by omega
    have hir : i < r.length := by have := HLN.out; omega
    obtain ⟨k, hkk⟩ : ∃ k, t.cols[i]? = some k := ⟨_, List.getElem?_eq_getElem hin⟩
    obtain ⟨x, hxx⟩ : ∃ x, r[i]? = some x := ⟨_, List.getElem?_eq_getElem hir⟩
    have hxok := hok x (List.mem_of_getElem? hxx)
    have hio : indexOf t r = ibegin t k x ++ keysOf t r := by
      unfold indexOf
      rw [if_neg hx, hi, Int.toNat_natCast, List.getD_eq_getElem?_getD, hkk, List.getD_eq_getElem?_getD, hxx]; rfl
    have hcat2 : ∀ W : World, (Op.stringOp .add ⟨(ibegin t k x).toArray⟩ ⟨(keysOf t r).toArray⟩).run Try.prog W = .ok (.string ⟨(indexOf t r).toArray⟩) W := fun W => by
      have h1 := kform_len k x hxok
      have h2 : (⟨(ibegin t k x).toArray⟩ : ByteArray).size = (ibegin t k x).length := List.size_toArray
      have h3 : (⟨(keysOf t r).toArray⟩ : ByteArray).size = (keysOf t r).length := List.size_toArray
      have h4 : (ibegin t k x).length = 2 + (kform k x).length := by unfold ibegin; rw [List.length_append]; rfl
      refine (run_string_add_sum W _ _ (by omega)).trans ?_
      rw [cat_l, hio]
    have HIB : Hid (∀ W, Tch [] w5 W → Calls Try.prog 34 #[.agg #[.int .u8 t.name, .slice (some ⟨b, o, none⟩) t.cols.length c, .int .i64 (kk : Int), .int .i64 t.idx], .agg #[.int .i64 x.n, .string x.s]] W fun e w' => e = .returned (.string ⟨(ibegin t k x).toArray⟩) ∧ Tch [] W w') := fun W t3 => by
      have h := indexBegin_any t (some ⟨b, o, none⟩) c b o i k x W ((hk.keep0 (HT0.out.trans t6)).keep0 t3) hkk hi hl hn hxok
      unfold Tb.agg Vl.agg at h
      rw [hK] at h
      exact h
    obtain ⟨g, hgd⟩ : ∃ g, g = w5.heap.size := ⟨_, rfl⟩
    obtain ⟨W6, hW6⟩ : ∃ W6, W6 = w5.alloc (.cells #[.string ⟨(tbegin t 0 ++ keysOf t r).toArray⟩, .string ⟨(fieldsOf t r).toArray⟩, .string ⟨#[]⟩, .string ⟨#[]⟩] 61) := ⟨_, rfl⟩
    have t7 : Tch [] w5 W6 := by rw [hW6]; exact (Tch.refl _ _).alloc _
    have hbg : W6.heap[g]? = some (.cells #[.string ⟨(tbegin t 0 ++ keysOf t r).toArray⟩, .string ⟨(fieldsOf t r).toArray⟩, .string ⟨#[]⟩, .string ⟨#[]⟩] 61 (0, 0)) := by rw [hW6, hgd]; exact blk_new _ _
    have hrb : rb < w.heap.size := hr.lt (by omega)
    have hw5 : w.heap.size < w5.heap.size := hg6
    have HS : Hid (∀ W, Tch [g] W6 W → (W.cell? ⟨w.heap.size, 0, none⟩ = some (.int .u8 t.name) ∧ W.cell? ⟨w.heap.size, 1, none⟩ = some (.slice (some ⟨b, o, none⟩) t.cols.length c) ∧ W.cell? ⟨w.heap.size, 2, none⟩ = some (.int .i64 (kk : Int)) ∧ W.cell? ⟨w.heap.size, 3, none⟩ = some (.int .i64 t.idx)) ∧ W.cell? ⟨rb, ro + i * 2, none⟩ = some (.int .i64 x.n) ∧ W.cell? ⟨rb, ro + i * 2 + 1, none⟩ = some (.string x.s)) := fun W t3 => by
      have h6 := HX4.out W6 (t5.trans t7)
      have r6 := ((hr.keep0 (HT0.out.trans t6)).keep0 t7).keep t3 (fun _ => by simp; omega)
      have hws : w.heap.size < W6.heap.size := Nat.lt_of_lt_of_le hg6 t7.size
      have hne : w.heap.size ∉ [g] := by simp; omega
      refine ⟨⟨?_, ?_, ?_, ?_⟩, r6.c0 hxx rfl, r6.c hxx 1 rfl⟩
      · rw [t3.cell hws hne]; exact h6.1
      · rw [t3.cell hws hne]; exact h6.2.1
      · rw [t3.cell hws hne]; exact h6.2.2.1
      · rw [t3.cell hws hne]; exact h6.2.2.2
    have HG : Hid (∀ W, Tch [] W6 W → W.heap[g]? = some (.cells #[.string ⟨(tbegin t 0 ++ keysOf t r).toArray⟩, .string ⟨(fieldsOf t r).toArray⟩, .string ⟨#[]⟩, .string ⟨#[]⟩] 61 (0, 0))) := fun W t3 => t3.keep hbg (by simp)
    have HT6 := Lib.hid (t6.trans t7)
    have HT7 := Lib.hid t7
    have hI : (i : Int) < (r.length : Int) := by omega
    rw [hi] at HIB HS x3 hxb
    have HI := Lib.hid hi
    have HIO := Lib.hid hio
    have hg0 : W0.heap.size ≤ g := by rw [hgd]; exact t6.size
    have td : Tch [] W6 W6.drew := (Tch.refl _ _).drew
    clear hk hr hok hx hkk hxx hxok hio hbg t7 HIX hi
    go_upto_region 11 with fail
    rw [← hgd, ← hW6]
    clear hgd hW6
    go_region_held3 (fun w' => (w'.cell? ⟨w.heap.size, 0, none⟩ = some (.int .u8 t.name) ∧ w'.cell? ⟨w.heap.size, 1, none⟩ = some (.slice (some ⟨b, o, none⟩) t.cols.length c) ∧ w'.cell? ⟨w.heap.size, 2, none⟩ = some (.int .i64 (kk : Int)) ∧ w'.cell? ⟨w.heap.size, 3, none⟩ = some (.int .i64 (i : Int))) ∧ w'.cell? ⟨rb, ro + i * 2, none⟩ = some (.int .i64 x.n) ∧ w'.cell? ⟨rb, ro + i * 2 + 1, none⟩ = some (.string x.s))
      (first | exact HS.out _ (td.mono (by simp)) | exact HS.out _ ((td.trans t8).mono (by simp)) | exact HS.out _ (((td.trans t8).mono (by simp)).setCell (by simp) _))
      (first | (go_at_call 34; (with_reducible refine (HIB.out _ (HT7.out.trans td)).mono ?_); rintro e w7 ⟨rfl, t8⟩; have hG7 := HG.out _ (td.trans t8); have g2 := blk_cell hG7 2; have z2 := blk_free hG7 2; simp only [List.getElem?_toArray, List.getElem?_cons_zero, List.getElem?_cons_succ] at g2))
    obtain ⟨XS, hXS⟩ : ∃ s : ByteArray, s = ⟨(indexOf t r).toArray⟩ := ⟨_, rfl⟩
    rw [← hXS]
    obtain ⟨W8, hW8⟩ : ∃ W8, W8 = w7.setCell ⟨g, 2, none⟩ (.string XS) := ⟨_, rfl⟩
    rw [← hW8]
    have T8 : Tch [] W0 W8 := by rw [hW8]; exact (HT6.out.trans (td.trans t8)).setNew hg0 _
    have hb8 := blk_set hG7 2 (.string XS)
    rw [← hW8] at hb8
    have c0 : W8.cell? ⟨g, 0, none⟩ = some (.string ⟨(tbegin t 0 ++ keysOf t r).toArray⟩) := by rw [blk_cell hb8]; rfl
    have c1 : W8.cell? ⟨g, 1, none⟩ = some (.string ⟨(fieldsOf t r).toArray⟩) := by rw [blk_cell hb8]; rfl
    have c2 : W8.cell? ⟨g, 2, none⟩ = some (.string XS) := by rw [blk_cell hb8]; rfl
    have c3 : W8.cell? ⟨g, 3, none⟩ = some (.string ⟨#[]⟩) := by rw [blk_cell hb8]; rfl
    obtain ⟨p0, p1, p2, p3, f0, f1, f2, f3⟩ := HP.out W8 T8
    have hsz : XS.size = (indexOf t r).length := by rw [hXS]; exact List.size_toArray
    have HTF : Hid (∀ y0 y1 y2 y3, Tch [] w ((((W8.setCell ⟨w.heap.size + 1, 0, none⟩ y0).setCell ⟨w.heap.size + 1, 1, none⟩ y1).setCell ⟨w.heap.size + 1, 2, none⟩ y2).setCell ⟨w.heap.size + 1, 3, none⟩ y3)) := fun y0 y1 y2 y3 => by
      have t5 := HT0.out.trans T8
      exact (((t5.setNew (by simp) _).setNew (by simp) _).setNew (by simp) _).setNew (by simp) _
    have hgw : w.heap.size + 1 < W8.heap.size := Nat.lt_of_lt_of_le hg T8.size
    clear hW8 hG7 hb8 HS HG HIB HX4 HBE HT6 HT7 HX HX2 t4 t5 t6 t8 td hcat hcat2 g2 z2 HPQ2 HT4
    by_cases hbig : 48 < XS.size
    · have hd : decide (48 < XS.size) = true := decide_eq_true hbig
      have hdi : decide ((48 : Int) < (XS.size : Int)) = true := decide_eq_true (by omega)
      have HEND := Lib.hid (HN2.out _ (HTF.out (.string ⟨#[]⟩) (.string ⟨#[]⟩) (.string ⟨#[]⟩) (.string ⟨#[]⟩)) (by omega))
      have HQQ := Lib.hid (HPQ.out W8 T8 (.string ⟨#[]⟩) (.string ⟨#[]⟩) (.string ⟨#[]⟩) (.string ⟨#[]⟩))
      generalize PofPost w t r = Q at *
      clear hf hv HP HY HN2 HTF hXS hsz hbig HPQ T8
      go_wp2_with fail
      obtain ⟨q0, q1, q2, q3, _⟩ := HQQ.out
      exact bodyPost_ret (v := .tuple #[vPrs [] [] [], .bool false]) (by simp [results, Try.results17, vPrs, go_sem, q0, q1, q2, q3]) rfl HEND.out
    · have hd : decide (48 < XS.size) = false := decide_eq_false hbig
      have hdi : decide ((48 : Int) < (XS.size : Int)) = false := decide_eq_false (by omega)
      have HEND : Hid (PofPost w t r (.returned (.tuple #[.agg #[.string ⟨(tbegin t 0 ++ keysOf t r).toArray⟩, .string ⟨(fieldsOf t r).toArray⟩, .string XS, .string ⟨#[]⟩], .bool true])) ((((W8.setCell ⟨w.heap.size + 1, 0, none⟩ (.string ⟨(tbegin t 0 ++ keysOf t r).toArray⟩)).setCell ⟨w.heap.size + 1, 1, none⟩ (.string ⟨(fieldsOf t r).toArray⟩)).setCell ⟨w.heap.size + 1, 2, none⟩ (.string XS)).setCell ⟨w.heap.size + 1, 3, none⟩ (.string ⟨#[]⟩))) := by
        have h := HY.out _ (HTF.out (.string ⟨(tbegin t 0 ++ keysOf t r).toArray⟩) (.string ⟨(fieldsOf t r).toArray⟩) (.string XS) (.string ⟨#[]⟩)) (by omega)
        unfold vPrs at h
        rw [← hXS] at h
        exact h
      have HQQ := Lib.hid (HPQ.out W8 T8 (.string ⟨(tbegin t 0 ++ keysOf t r).toArray⟩) (.string ⟨(fieldsOf t r).toArray⟩) (.string XS) (.string ⟨#[]⟩))
      generalize PofPost w t r = Q at *
      clear hf hv HP HY HN2 HTF hXS hsz hbig HPQ T8
      go_wp2_with fail
      obtain ⟨q0, q1, q2, q3, _⟩ := HQQ.out
      exact bodyPost_ret (v := .tuple #[.agg #[.string ⟨(tbegin t 0 ++ keysOf t r).toArray⟩, .string ⟨(fieldsOf t r).toArray⟩, .string XS, .string ⟨#[]⟩], .bool true]) (by simp [results, Try.results17, go_sem, q0, q1, q2, q3]) rfl HEND.out
end Go.Proofs.Ytenohgogfddniaa
