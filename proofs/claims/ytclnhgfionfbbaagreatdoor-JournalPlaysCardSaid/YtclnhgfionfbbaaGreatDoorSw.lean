/-
  A step of the law's script over journals: 'append(nil, changes...)' as one law; a commit. Conditions: the count of writes stays below the greatest int64; the list of changes is within the reach of memory.
-/
import Derived.Test.YtclnhgfionfbbaaGreatDoorWorld
import Derived.Deep.RegionHeld3
import Derived.Deep.DeepFit
import Derived.Laws.AppendOwnNone
namespace Go.Proofs.YtclnhgfionfbbaaGreatDoor
open Go.RowKit
set_option linter.unusedVariables false

theorem Tryz.info_chg2 : (Tryz.prog.info? 65).map (fun i => (i.zero, i.size, i.bytes)) = some (some (.agg #[.int .i64 0, .string ⟨#[]⟩]), 2, 24) := by kernel_rfl
theorem IsChs.keepc {w w' : World} {a : Option Addr} {len cb o : Nat} {cs : List (Int × ByteArray)} {L : List Nat} (h : IsChs w a len cb o cs) (t : Tch L w w') (hn : 0 < len → cb ∉ L) : IsChs w' a len cb o cs := by
  by_cases h0 : 0 < len
  · exact h.keep t (hn h0)
  · have hl := h.hlen
    refine ⟨h.hlen, Or.inl (by omega), fun k c hk => ?_, h.fit⟩
    have := (List.getElem?_eq_some_iff.1 hk).1
    omega

/-- 'append(nil, changes...)': the same changes, in new memory. -/
theorem run_append_chs (w : World) (ty : TypeId) (a : Option Addr) (len cap cb o : Nat) (cs : List (Int × ByteArray)) (h : IsChs w a len cb o cs) (hl : len * 24 ≤ 140737488351232) (hn : a = none → len = 0 ∧ cap = 0) :
    ∃ x c gb w', (Builtin.append_ #[34, 34] ty #[.slice none 0 0, .slice a len cap]).run Tryz.prog w = .ok (.slice x len c) w' ∧ IsChs w' x len gb 0 cs ∧ (0 < len → w.heap.size ≤ gb) ∧ Tch [] w w' := by
  obtain ⟨i0, hi, hz0, hz1, hz2⟩ := info_parts Tryz.info_chg2
  obtain rfl := h.hlen
  cases a with
  | none =>
    obtain ⟨h0, rfl⟩ := hn rfl
    refine ⟨none, 0, 0, w, ?_, ⟨rfl, Or.inl h0, fun k c hk => by have := (List.getElem?_eq_some_iff.1 hk).1; omega, h.fit⟩, fun h1 => by omega, Tch.refl _ _⟩
    rw [h0]
    exact run_append_owned_none (P := Tryz.prog) (w := w) 0 34 ty 65 i0 2 Tryz.underlying34 hi (.slice none 0 0) 0 [] (World.ownsRow_nil _ _ _ _)
  | some y =>
    have hnew : ∀ j u, (chCells cs)[j]? = some u → w.cell? (y.add j) = some u := fun j u hu => by
      obtain ⟨k, c, hk, hc⟩ := chCells_inv cs j u hu
      have hlt := (List.getElem?_eq_some_iff.1 hk).1
      obtain ⟨h1, h2⟩ := h.row k c hk
      rcases h.at_ with h0 | ⟨h0, _⟩
      · omega
      · cases h0
        rw [add_mk]
        rcases hc with ⟨rfl, rfl⟩ | ⟨rfl, rfl⟩
        · exact h1
        · rw [← Nat.add_assoc]; exact h2
    obtain ⟨v', w', hr, hown, hg, _⟩ := run_append_own (P := Tryz.prog) (w := w) w.heap.size 34 ty 65 i0 (.agg #[.int .i64 0, .string ⟨#[]⟩]) 2 24 Tryz.underlying34 hi hz0 hz1 hz2 rfl (by decide)
      (.slice none 0 0) 0 [] (World.ownsRow_nil _ _ _ _) y cs.length cap (chCells cs) (chCells_len cs) hnew (chCells_one cs) (by unfold maxLen; omega) (by omega) (Nat.le_refl _)
    rw [Nat.zero_add, List.nil_append] at hown
    obtain ⟨x, c, rfl⟩ := own_slice hown
    obtain ⟨gb, hch, _, hgb⟩ := chs_own hown rfl h.fit
    exact ⟨x, c, gb, w', hr, hch, hgb, (Tch.refl [] w).grown hg (by simp [Value.ownBlock])⟩

/-- .. at a step of a region that draws its order. -/
theorem step_append_chs {ops : Array Oper} {oo : Oper} {ac : Act} {w : World} {K : Act → World → Prop} {Q : Exit → Act → World → Prop} {E : Prop} (hgd : oo.guard = none) (s x : Operand)
    (ho : oo.op = .call { callee := .builtin .append, args := #[s, x], argTypes := #[34, 34] }) (hs : ac.eval s = .slice none 0 0)
    (a : Option Addr) (len cap cb o : Nat) (cs : List (Int × ByteArray)) (hx : ac.eval x = .slice a len cap) (h : IsChs w a len cb o cs) (hl : len * 24 ≤ 140737488351232) (hn : a = none → len = 0 ∧ cap = 0)
    (hk : ∀ x2 c2 gb w', IsChs w' x2 len gb 0 cs → (0 < len → w.heap.size ≤ gb) → Tch [] w w' → K (ac.put oo.dst (.slice x2 len c2)) w') :
    if Region.wanted oo (yielded ops ac.tmps) = true then Oper.wp Tryz.prog oo ac w K Q else E := by
  have hw : Region.wanted oo (yielded ops ac.tmps) = true := by simp [Region.wanted, hgd]
  rw [if_pos hw]
  obtain ⟨x2, c2, gb, w', hr, h1, h2, h3⟩ := run_append_chs w oo.type a len cap cb o cs h hl hn
  unfold Oper.wp execOp
  simp only [ho, resolve, invoke, builtin, Sem.run_bind, Sem.run_pure, Result.andThen_ok, List.map_toArray, List.map_cons, List.map_nil, hs, hx, hr]
  exact hk x2 c2 gb w' h1 h2 h3

theorem jc_done (room : Nat) (cs : List (Int × ByteArray)) (D : Ds) (hr : room ≤ 500) : (jcommit room cs D).2.done ≤ D.done + 1002 := by
  unfold jcommit
  split
  · simp; omega
  · split
    · simp; omega
    · have := wrs_done (cws room cs) D
      have hl2 : (cws room cs).length = 2 * cs.length + 2 := by
        unfold cws scs
        simp [cps_len]
        omega
      omega

/-- What a step leaves: both disks stand for one and the same, and so do the journals. -/
def SwPost (wb db ds rb rs r : Nat) (D : Ds) (w : World) (e : Ending) (w' : World) : Prop :=
  e = .returned (.bool true) ∧ ∃ E : Ds, IsDs w' db ds E ∧ IsRf w' rb rs E ∧ Jrs w' wb db ds rb rs r ∧ E.done ≤ D.done + 1002 ∧ Tch [wb, db, ds, rb, rs] w w'

set_option maxRecDepth 100000 in
set_option maxHeartbeats 1000000 in
theorem sw_commit (wb db ds rb rs r jb kb : Nat) (room : Int) (D : Ds) (i : Int) (a : Option Addr) (len cap cb o : Nat) (cs : List (Int × ByteArray)) (x : ByteArray) (w : World) (ha : Apart wb db ds rb rs)
    (h : IsWd w wb db (some ⟨jb, 0, none⟩) rb (some ⟨kb, 0, none⟩)) (hJ : IsJn w jb db r) (hK : IsRj w kb rb r) (hr : r ≤ 500) (hjn : jb ∉ [wb, db, ds, rb, rs]) (hkn : kb ∉ [wb, db, ds, rb, rs]) (hd : IsDs w db ds D) (hf : IsRf w rb rs D) (hn : D.done + 1002 < 9223372036854775807)
    (hch : IsChs w a len cb o cs) (hcb : 0 < len → cb ∉ [wb, db, ds, rb, rs]) (hl : len * 24 ≤ 140737488351232) (hnil : a = none → len = 0 ∧ cap = 0) :
    Calls Tryz.prog 8 #[.pointer (some ⟨wb, 0, none⟩), .int .i64 room, .agg #[.int .i64 1, .int .i64 i, .slice a len cap, .string x]] w (SwPost wb db ds rb rs r D w) := by
  have ha0 := ha
  obtain ⟨a1, a2, a3, a4, a5, a6, a7, a8⟩ := ha
  have T0 : Tch [] w (w.alloc (.cells #[.int .i64 1, .int .i64 i, .slice a len cap, .string x] 36)) := (Tch.refl _ _).alloc _
  have k := blk_new w (.cells #[.int .i64 1, .int .i64 i, .slice a len cap, .string x] 36)
  have hwlt : wb < w.heap.size := lt_of_block h
  have hdlt := hd.lt
  have hrlt := hf.lt
  have hjlt := hJ.lt
  have hklt := hK.lt
  have h1 := h.keep T0 (by simp)
  have HAL : Hid (IsJn _ jb db r ∧ IsRj _ kb rb r ∧ IsDs _ db ds D ∧ IsRf _ rb rs D ∧ IsChs _ a len cb o cs) := ⟨hJ.keep T0 (by simp), hK.keep T0 (by simp), hd.keep T0 (by simp) (by simp), hf.keep T0 (by simp) (by simp), hch.keep T0 (by simp)⟩
  have HC : Hid (∀ w1 y c gb, IsJn w1 jb db r → IsDs w1 db ds D → IsChs w1 y len gb 0 cs → (0 < len → gb ≠ db ∧ gb ≠ ds) → Calls Tryz.prog 13 #[.pointer (some ⟨jb, 0, none⟩), .slice y len c] w1 fun e w' => e = .returned (.int .i64 (jcommit r cs D).1) ∧ (IsDs w' db ds (jcommit r cs D).2 ∧ Tch [db, ds] w1 w')) :=
    fun w1 y c gb q1 q2 q3 q4 => commit_any jb db ds r D y len c gb 0 cs w1 q1 q2 (by simp at hjn; omega) hr q3 q4 (by omega) hn
  have HR : Hid (∀ w1 y c gb, IsRj w1 kb rb r → IsRf w1 rb rs D → IsChs w1 y cs.length gb 0 cs → (0 < cs.length → gb ≠ rb ∧ gb ≠ rs) → Calls Tryz.prog 17 #[.pointer (some ⟨kb, 0, none⟩), .slice y cs.length c] w1 fun e w' => e = .returned (.int .i64 (jcommit r cs D).1) ∧ (IsRf w' rb rs (jcommit r cs D).2 ∧ Tch [rb, rs] w1 w')) :=
    fun w1 y c gb q1 q2 q3 q4 => rcommit_any kb rb rs r D y cs.length c gb 0 cs w1 q1 q2 (by simp at hkn; omega) hr q3 q4 (by have := hch.hlen; omega) hn
  have HL := Lib.hid hch.hlen
  have HD := Lib.hid (jc_done r cs D hr)
  have HJRS : Hid (∀ w', Tch [db, ds, rb, rs] w w' → Jrs w' wb db ds rb rs r) := fun w' t => Jrs.keep (Or.inr ⟨jb, kb, h, hJ, hK, hr, hjn, hkn⟩) t ha0 (fun k hk => hk)
  have m1 : wb ∉ [db, ds, rb, rs] := by simp; omega
  have m2 : w.heap.size ∉ [db, ds, rb, rs] := by simp; omega
  have m3 : 0 < len → cb ∉ [db, ds] := fun h0 hm => hcb h0 (by simp at hm ⊢; omega)
  have m4 : kb ∉ [db, ds] := fun hm => hkn (by simp at hm ⊢; omega)
  have HCB := Lib.hid m3
  have HNI := Lib.hid hnil
  generalize (jcommit r cs D).1 = c at HC HR
  generalize (jcommit r cs D).2 = E at HC HR HD
  obtain ⟨c0, c1, c2, c3⟩ := h1.at_
  clear h hJ hK hd hf hch hcb hnil m3 hjn hkn
  go_enter Tryz.func8, Tryz.ntmps8
  go_wp2_with fail
  have k2 := blk_cell k 2
  simp at k2
  generalize hp : w.heap.size = p at k k2 m2 hwlt hdlt hrlt hjlt hklt ⊢
  have HP := Lib.hid hp
  clear hp
  generalize w.alloc (.cells #[.int .i64 1, .int .i64 i, .slice a len cap, .string x] 36) = W1 at T0 k k2 h1 HAL c0 c1 c2 c3 ⊢
  have HS : Hid (∀ w', Tch [db, ds, rb, rs] W1.drew w' → w'.cell? ⟨wb, 1, none⟩ = some (.pointer (some ⟨jb, 0, none⟩)) ∧ w'.cell? ⟨wb, 3, none⟩ = some (.pointer (some ⟨kb, 0, none⟩)) ∧ w'.cell? ⟨p, 2, none⟩ = some (.slice a len cap)) := fun w' t => by
    have hk := t.keep (b := p) (show W1.drew.heap[p]? = _ from k) m2
    have hw := (h1.keep (Tch.refl [] W1).drew (by simp)).keep t m1
    exact ⟨hw.at_.2.1, hw.at_.2.2.2, by rw [blk_cell hk]; rfl⟩
  have hsz : p < W1.drew.heap.size := lt_of_block k
  obtain ⟨hJ1, hK1, hd1, hf1, hch1⟩ : IsJn W1.drew jb db r ∧ IsRj W1.drew kb rb r ∧ IsDs W1.drew db ds D ∧ IsRf W1.drew rb rs D ∧ IsChs W1.drew a len cb o cs := ⟨HAL.out.1.keep (Tch.refl [] W1).drew (by simp), HAL.out.2.1.keep (Tch.refl [] W1).drew (by simp), HAL.out.2.2.1.keep (Tch.refl [] W1).drew (by simp) (by simp), HAL.out.2.2.2.1.keep (Tch.refl [] W1).drew (by simp) (by simp), HAL.out.2.2.2.2.keep (Tch.refl [] W1).drew (by simp)⟩
  clear k k2 h1 HAL
  go_region_held3 (fun w' => w'.cell? ⟨wb, 1, none⟩ = some (.pointer (some ⟨jb, 0, none⟩)) ∧ w'.cell? ⟨wb, 3, none⟩ = some (.pointer (some ⟨kb, 0, none⟩)) ∧ w'.cell? ⟨p, 2, none⟩ = some (.slice a len cap))
    (first | exact HS.out _ T5 | exact HS.out _ T4 | exact HS.out _ T3 | exact HS.out _ T2 | exact HS.out _ (Tch.refl _ _))
    (first
      | ((refine step_append_chs (by rfl) _ _ (by rfl) (by rfl) a len cap cb o cs (by rfl) hch1 hl HNI.out ?_); intro y2 q2 gb w2 hch2 hgb t2; have T2 : Tch [db, ds, rb, rs] W1.drew w2 := t2.mono (by simp); have hJ2 := hJ1.keep t2 (by simp); have hd2 := hd1.keep t2 (by simp) (by simp); have HCM := HC.out w2 y2 q2 gb hJ2 hd2 hch2 (fun h0 => by have := hgb h0; omega))
      | (go_at_call 13; refine HCM.mono ?_; rintro e w3 ⟨rfl, hd3, t3⟩; have T3 := T2.trans (t3.mono (L' := [db, ds, rb, rs]) (by simp)); have hch3 := (hch1.keep t2 (by simp)).keepc t3 HCB.out; have HRF := jref_any a len cap cb o cs w3 hch3 hl)
      | (go_at_call 18; refine HRF.mono ?_; rintro e w4 ⟨y4, q4, gb4, rfl, hch4, hgb4, t4⟩; have T4 := T3.trans (t4.mono (L' := [db, ds, rb, rs]) (by simp)); have hK4 := ((hK1.keep t2 (by simp)).keep t3 m4).keep t4 (by simp); have hf4 := ((hf1.keep t2 (by simp) (by simp)).keep t3 (by simp; omega) (by simp; omega)).keep t4 (by simp) (by simp); have HRC := HR.out w4 y4 q4 gb4 hK4 hf4 hch4 (fun h0 => by have := hgb4 h0; have := T3.size; omega))
      | (go_at_call 17; refine HRC.mono ?_; rintro e w5 ⟨rfl, hf5, t5⟩; have T5 := T4.trans (t5.mono (L' := [db, ds, rb, rs]) (by simp))))
  have hd5 := (hd3.keep t4 (by simp) (by simp)).keep t5 (by simp; omega) (by simp; omega)
  have TW : Tch [db, ds, rb, rs] w w5 := (T0.drew.mono (by simp)).trans T5
  go_wp2
  go_ret
  refine ⟨rfl, E, hd5, hf5, HJRS.out w5 TW, HD.out, TW.mono (by simp)⟩
end Go.Proofs.YtclnhgfionfbbaaGreatDoor
