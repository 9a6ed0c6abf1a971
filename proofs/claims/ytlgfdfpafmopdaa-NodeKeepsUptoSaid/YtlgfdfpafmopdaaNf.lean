/-
  Which nodes are fit, by the document. Conditions: texts shorter than 10^9 bytes, the whole shorter than 10^18.
-/
import Derived.Test.YtlgfdfpafmopdaaNb
import Derived.BigQuiet
import Derived.BigGuardPart
import Derived.WalkLawsBesides
namespace Go.Proofs.Ytlgfdfpafmopdaa
open Go.RowKit
set_option linter.unusedVariables false

/-- The key ahead of the k-th entry. -/
def prevK (es : List En) (k : Nat) : Option ByteArray := if k = 0 then none else (es[k - 1]?).map (·.key)
theorem fit_step (leaf : Bool) (es : List En) (k : Nat) (e : En) (h : es[k]? = some e) : fitFrom leaf (prevK es k) (es.drop k) = (fitE leaf e && (match prevK es k with | none => true | some p => !sle e.key p) && fitFrom leaf (some e.key) (es.drop (k + 1))) := by
  obtain ⟨hk, he⟩ := List.getElem?_eq_some_iff.1 h
  rw [List.drop_eq_getElem_cons hk, he]
  generalize prevK es k = p
  cases p <;> rfl
theorem prevK_succ (es : List En) (k : Nat) (e : En) (h : es[k]? = some e) : prevK es (k + 1) = some e.key := by simp [prevK, h]

/-- What holds at the head of each round. -/
def NfRel (w : World) (leaf : Bool) (es : List En) (v3 : Value) (wr : World) : Prop :=
  ∃ k : Nat, k ≤ es.length ∧ v3 = .int .i64 k ∧ fitFrom leaf none es = fitFrom leaf (prevK es k) (es.drop k) ∧ Tch [] w wr

set_option maxRecDepth 100000 in
set_option maxHeartbeats 2000000 in
theorem rfit_any (leaf : Bool) (a : Option Addr) (n c b o : Nat) (es : List En) (w : World) (h : IsR fEn 3 w a n b o es) (hf : Fine es) (hn : es.length ≤ 1000000000) (hT : (ndb leaf es).length ≤ 1000000000000000000) :
    Calls Try.prog 35 #[.agg #[.bool leaf, .slice a n c]] w fun x w' => x = .returned (.bool (fitN leaf es)) ∧ Tch [] w w' := by
  obtain rfl := h.hlen
  have T0 : Tch [] w (w.alloc (.cells #[.bool leaf, .slice a es.length c] 32)) := (Tch.refl _ _).alloc _
  have k := blk_new w (.cells #[.bool leaf, .slice a es.length c] 32)
  have HR : Hid (∀ wr, Tch [] (w.alloc (.cells #[.bool leaf, .slice a es.length c] 32)) wr → IsR fEn 3 wr a es.length b o es) := fun wr t => h.keep0 (T0.trans t)
  have HB : Hid (∀ wr, Tch [] (w.alloc (.cells #[.bool leaf, .slice a es.length c] 32)) wr → Calls Try.prog 11 #[.agg #[.bool leaf, .slice a es.length c]] wr fun x w' => x = .returned (.string ⟨(ndb leaf es).toArray⟩) ∧ Tch [] wr w') := fun wr t => rbytes_any leaf a es.length c b o es wr (h.keep0 (T0.trans t)) hf hT
  have HW0 : Hid (∀ wr, Tch [] (w.alloc (.cells #[.bool leaf, .slice a es.length c] 32)) wr → wr.heap[w.heap.size]? = some (.cells #[.bool leaf, .slice a es.length c] 32 (0, 0))) := fun wr t => t.keep k (by simp)
  clear h hf
  go_enter Try.func35, Try.ntmps35
  go_wp2_with fail
  generalize w.heap.size = p at k HW0 ⊢
  generalize w.alloc (.cells #[.bool leaf, .slice a es.length c] 32) = W1 at T0 k HR HB HW0 ⊢
  go_loopw [3] (fun v3 wr => NfRel W1 leaf es v3 wr) (fun v3 _ => es.length - (intOf v3).toNat)
  case atStart => exact ⟨0, by omega, rfl, rfl, Tch.refl _ _⟩
  case round =>
    clear k
    obtain ⟨k, hk, rfl, hfr, T⟩ := hrel
    have hb := HW0.out wr T
    have q0 := blk_cell hb 0
    have q1 := blk_cell hb 1
    simp only [List.getElem?_toArray, List.getElem?_cons_zero, List.getElem?_cons_succ] at q0 q1
    have hplt := lt_of_block hb
    by_cases hkl : k < es.length
    · have hget := List.getElem?_eq_getElem hkl
      have hst := fit_step leaf es k _ hget
      have hrd := HR.out wr T
      have ha := hrd.some_ (by omega)
      have hbl := hrd.lt (by omega)
      have x0 : wr.cell? ⟨b, o + k * 3, none⟩ = some (.string es[k].key) := hrd.c0 hget rfl
      have x1 : wr.cell? ⟨b, o + k * 3 + 1, none⟩ = some (.string es[k].val) := hrd.c hget 1 rfl
      have x2 : wr.cell? ⟨b, o + k * 3 + 2, none⟩ = some (.int .i64 es[k].kid) := hrd.c hget 2 rfl
      subst ha
      generalize es[k] = e at x0 x1 x2 hst hget
      obtain ⟨key, val, kid⟩ := e
      simp only at x0 x1 x2
      have HST := Lib.hid (hfr.trans hst)
      have HPS := Lib.hid (prevK_succ es k _ hget)
      have hI2 : (k : Int) < (es.length : Int) := by omega
      clear hrd hst hfr
      by_cases hk1 : key.size < 1
      · have hd1 : decide ((key.size : Int) < 1) = true := by simp; omega
        clear hget
        have HF : Hid (∀ n, Ending.returned (.bool false) = .returned (.bool (fitN leaf es)) ∧ Tch [] w ((wr.alloc (.cells #[.string key, .string val, .int .i64 kid] 68)).drewN n)) := fun n => ⟨by rw [fitN, HST.out]; simp [fitE, show ¬ 1 ≤ key.size from by omega], tdrewN ((T0.trans T).alloc _) n⟩
        clear T
        go_wp2_with fail
        go_quiet (fail)
        go_wp2
        go_ret
        exact HF.out _
      have hk0 : 1 ≤ key.size := by omega
      have hd1 : decide ((key.size : Int) < 1) = false := by simp; omega
      by_cases hk2 : 48 < key.size
      · have hd2 : decide (48 < (key.size : Int)) = true := by simp; omega
        clear hget
        have HF : Hid (∀ n, Ending.returned (.bool false) = .returned (.bool (fitN leaf es)) ∧ Tch [] w ((wr.alloc (.cells #[.string key, .string val, .int .i64 kid] 68)).drewN n)) := fun n => ⟨by rw [fitN, HST.out]; simp [fitE, show ¬ key.size ≤ 48 from by omega], tdrewN ((T0.trans T).alloc _) n⟩
        clear T
        go_wp2_with fail
        go_quiet (fail)
        go_wp2
        go_ret
        exact HF.out _
      have hk9 : key.size ≤ 48 := by omega
      have hd2 : decide (48 < (key.size : Int)) = false := by simp; omega
      clear hk1 hk2
      by_cases hz : k = 0
      · have hd3 : decide ((0 : Int) < (k : Int)) = false := by simp; omega
        have hd3b : decide (0 < k) = false := by simp; omega
        have hpn : prevK es k = none := by rw [hz]; rfl
        rw [hpn] at HST
        clear hget hpn hz
        cases leaf
        · by_cases hki : kid < 1
          · have hd5 : decide (kid < 1) = true := by simpa using hki
            have HF : Hid (∀ n, Ending.returned (.bool false) = .returned (.bool (fitN false es)) ∧ Tch [] w ((wr.alloc (.cells #[.string key, .string val, .int .i64 kid] 68)).drewN n)) := fun n => ⟨by rw [fitN, HST.out]; simp [fitE, show ¬ 1 ≤ kid from by omega], tdrewN ((T0.trans T).alloc _) n⟩
            clear T
            go_wp2_with fail
            go_quiet (fail)
            go_wp2
            go_ret
            exact HF.out _
          · have hd5 : decide (kid < 1) = false := by simpa using hki
            by_cases hki2 : 16384 ≤ kid
            · have hd6 : decide (16384 ≤ kid) = true := by simpa using hki2
              have HF : Hid (∀ n, Ending.returned (.bool false) = .returned (.bool (fitN false es)) ∧ Tch [] w ((wr.alloc (.cells #[.string key, .string val, .int .i64 kid] 68)).drewN n)) := fun n => ⟨by rw [fitN, HST.out]; simp [fitE, show ¬ kid < 16384 from by omega], tdrewN ((T0.trans T).alloc _) n⟩
              clear T
              go_wp2_with fail
              go_quiet (fail)
              go_wp2
              go_ret
              exact HF.out _
            · have hd6 : decide (16384 ≤ kid) = false := by simpa using hki2
              have HG : Hid (∀ n, NfRel W1 false es (.int .i64 ((k + 1 : Nat) : Int)) ((wr.alloc (.cells #[.string key, .string val, .int .i64 kid] 68)).drewN n)) := fun n => ⟨k + 1, by omega, rfl, by rw [HST.out, HPS.out]; simp [fitE, hk0, hk9, show 1 ≤ kid from by omega, show kid < 16384 from by omega], tdrewN (T.alloc _) n⟩
              clear T
              go_wp2_with fail
              go_quiet (fail)
              go_wp2
              go_roundw
              case rel => exact HG.out _
              case measure => simp [intOf]; omega
        · by_cases hkv : 200 < val.size
          · have hd5 : decide (200 < (val.size : Int)) = true := by simp; omega
            have HF : Hid (∀ n, Ending.returned (.bool false) = .returned (.bool (fitN true es)) ∧ Tch [] w ((wr.alloc (.cells #[.string key, .string val, .int .i64 kid] 68)).drewN n)) := fun n => ⟨by rw [fitN, HST.out]; simp [fitE, show ¬ val.size ≤ 200 from by omega], tdrewN ((T0.trans T).alloc _) n⟩
            clear T
            go_wp2_with fail
            go_quiet (fail)
            go_wp2
            go_ret
            exact HF.out _
          · have hd5 : decide (200 < (val.size : Int)) = false := by simp; omega
            have HG : Hid (∀ n, NfRel W1 true es (.int .i64 ((k + 1 : Nat) : Int)) ((wr.alloc (.cells #[.string key, .string val, .int .i64 kid] 68)).drewN n)) := fun n => ⟨k + 1, by omega, rfl, by rw [HST.out, HPS.out]; simp [fitE, hk0, hk9, show val.size ≤ 200 from by omega], tdrewN (T.alloc _) n⟩
            clear T
            go_wp2_with fail
            go_quiet (fail)
            go_wp2
            go_roundw
            case rel => exact HG.out _
            case measure => simp [intOf]; omega
      · have hkm : k - 1 < es.length := by omega
        have hgp := List.getElem?_eq_getElem hkm
        have hrd2 := HR.out wr T
        have y0 : wr.cell? ⟨b, o + (k - 1) * 3, none⟩ = some (.string es[k - 1].key) := hrd2.c0 hgp rfl
        have hpn : prevK es k = some es[k - 1].key := by unfold prevK; rw [if_neg hz, hgp]; rfl
        rw [hpn] at HST
        generalize es[k - 1].key = pk at y0 HST
        have hd3 : decide ((0 : Int) < (k : Int)) = true := by simp; omega
        have hd3b : decide (0 < k) = true := by simp; omega
        have hd3c : 0 < k := by omega
        have hw : IntKind.i64.wrap ((k : Int) - 1) = (k : Int) - 1 := IntWalk.i64_in _ (by omega)
        have hI0 : 0 ≤ (k : Int) - 1 := by omega
        have hI1 : 1 ≤ (k : Int) := by omega
        have hI3 : (k : Int) - 1 < (es.length : Int) := by omega
        have htn : ((k : Int) - 1).toNat = k - 1 := by omega
        clear hget hpn hz hgp hkm hrd2
        by_cases hb1 : Go.Op.bytesLess key.toList pk.toList = true
        · skip
          have HF : Hid (∀ n, Ending.returned (.bool false) = .returned (.bool (fitN leaf es)) ∧ Tch [] w ((wr.alloc (.cells #[.string key, .string val, .int .i64 kid] 68)).drewN n)) := fun n => ⟨by rw [fitN, HST.out]; simp [sle, slt, hb1], tdrewN ((T0.trans T).alloc _) n⟩
          clear T
          go_wp2_with fail
          go_quiet (fail)
          go_wp2
          go_ret
          exact HF.out _
        have hb1 : Go.Op.bytesLess key.toList pk.toList = false := by simpa using hb1
        by_cases hb2 : (key.toList == pk.toList) = true
        · skip
          have HF : Hid (∀ n, Ending.returned (.bool false) = .returned (.bool (fitN leaf es)) ∧ Tch [] w ((wr.alloc (.cells #[.string key, .string val, .int .i64 kid] 68)).drewN n)) := fun n => ⟨by rw [fitN, HST.out]; simp [sle, slt, hb1, hb2], tdrewN ((T0.trans T).alloc _) n⟩
          clear T
          go_wp2_with fail
          go_quiet (fail)
          go_wp2
          go_ret
          exact HF.out _
        have hb2 : (key.toList == pk.toList) = false := by simpa using hb2
        cases leaf
        · by_cases hki : kid < 1
          · have hd5 : decide (kid < 1) = true := by simpa using hki
            have HF : Hid (∀ n, Ending.returned (.bool false) = .returned (.bool (fitN false es)) ∧ Tch [] w ((wr.alloc (.cells #[.string key, .string val, .int .i64 kid] 68)).drewN n)) := fun n => ⟨by rw [fitN, HST.out]; simp [fitE, show ¬ 1 ≤ kid from by omega], tdrewN ((T0.trans T).alloc _) n⟩
            clear T
            go_wp2_with fail
            go_quiet (fail)
            go_wp2
            go_ret
            exact HF.out _
          · have hd5 : decide (kid < 1) = false := by simpa using hki
            by_cases hki2 : 16384 ≤ kid
            · have hd6 : decide (16384 ≤ kid) = true := by simpa using hki2
              have HF : Hid (∀ n, Ending.returned (.bool false) = .returned (.bool (fitN false es)) ∧ Tch [] w ((wr.alloc (.cells #[.string key, .string val, .int .i64 kid] 68)).drewN n)) := fun n => ⟨by rw [fitN, HST.out]; simp [fitE, show ¬ kid < 16384 from by omega], tdrewN ((T0.trans T).alloc _) n⟩
              clear T
              go_wp2_with fail
              go_quiet (fail)
              go_wp2
              go_ret
              exact HF.out _
            · have hd6 : decide (16384 ≤ kid) = false := by simpa using hki2
              have HG : Hid (∀ n, NfRel W1 false es (.int .i64 ((k + 1 : Nat) : Int)) ((wr.alloc (.cells #[.string key, .string val, .int .i64 kid] 68)).drewN n)) := fun n => ⟨k + 1, by omega, rfl, by rw [HST.out, HPS.out]; simp [fitE, hk0, hk9, show 1 ≤ kid from by omega, show kid < 16384 from by omega, sle, slt, hb1, hb2], tdrewN (T.alloc _) n⟩
              clear T
              go_wp2_with fail
              go_quiet (fail)
              go_wp2
              go_roundw
              case rel => exact HG.out _
              case measure => simp [intOf]; omega
        · by_cases hkv : 200 < val.size
          · have hd5 : decide (200 < (val.size : Int)) = true := by simp; omega
            have HF : Hid (∀ n, Ending.returned (.bool false) = .returned (.bool (fitN true es)) ∧ Tch [] w ((wr.alloc (.cells #[.string key, .string val, .int .i64 kid] 68)).drewN n)) := fun n => ⟨by rw [fitN, HST.out]; simp [fitE, show ¬ val.size ≤ 200 from by omega], tdrewN ((T0.trans T).alloc _) n⟩
            clear T
            go_wp2_with fail
            go_quiet (fail)
            go_wp2
            go_ret
            exact HF.out _
          · have hd5 : decide (200 < (val.size : Int)) = false := by simp; omega
            have HG : Hid (∀ n, NfRel W1 true es (.int .i64 ((k + 1 : Nat) : Int)) ((wr.alloc (.cells #[.string key, .string val, .int .i64 kid] 68)).drewN n)) := fun n => ⟨k + 1, by omega, rfl, by rw [HST.out, HPS.out]; simp [fitE, hk0, hk9, show val.size ≤ 200 from by omega, sle, slt, hb1, hb2], tdrewN (T.alloc _) n⟩
            clear T
            go_wp2_with fail
            go_quiet (fail)
            go_wp2
            go_roundw
            case rel => exact HG.out _
            case measure => simp [intOf]; omega
    · obtain rfl : k = es.length := by omega
      have HT : Hid (fitFrom leaf none es = true) := by
        show _ = _
        rw [hfr, List.drop_length]
        generalize prevK es es.length = pp
        cases pp <;> rfl
      have HBY := Lib.hid (HB.out wr T)
      have HFN : Hid (fitN leaf es = (decide ((⟨(ndb leaf es).toArray⟩ : ByteArray).size ≤ 1024) && (leaf || decide (0 < es.length)))) := by
        show _ = _
        rw [fitN, HT.out, show (⟨(ndb leaf es).toArray⟩ : ByteArray).size = (ndb leaf es).length from List.size_toArray]; rfl
      generalize (⟨(ndb leaf es).toArray⟩ : ByteArray) = sb at HBY HFN
      have TW := T0.trans T
      clear hfr hk HT hb hplt
      by_cases hs : sb.size ≤ 1024
      · have e1 : decide ((sb.size : Int) ≤ 1024) = true := by simp; omega
        cases leaf
        · by_cases hl : 0 < es.length
          · have e2 : decide ((0 : Int) < (es.length : Int)) = true := by simp; omega
            have HF : Hid (fitN false es = true) := by show _ = _; rw [HFN.out]; simp [hs, hl]
            clear hkl
            go_wp2_with fail
            refine HBY.out.mono ?_
            rintro e w2 ⟨rfl, t2⟩
            have hb2 := HW0.out w2 (T.trans t2)
            have r0 := blk_cell hb2 0
            have r1 := blk_cell hb2 1
            simp only [List.getElem?_toArray, List.getElem?_cons_zero, List.getElem?_cons_succ] at r0 r1
            clear hb2 q0 q1
            go_wp2_with fail
            go_ret
            refine ⟨?_, TW.trans t2⟩
            rw [HF.out]
            rfl
          · have e2 : decide ((0 : Int) < (es.length : Int)) = false := decide_eq_false (by omega)
            have e3 : decide (0 < es.length) = false := decide_eq_false (by omega)
            have HF : Hid (fitN false es = false) := by show _ = _; rw [HFN.out]; simp [hl]
            clear hl
            clear hkl
            go_wp2_with fail
            refine HBY.out.mono ?_
            rintro e w2 ⟨rfl, t2⟩
            have hb2 := HW0.out w2 (T.trans t2)
            have r0 := blk_cell hb2 0
            have r1 := blk_cell hb2 1
            simp only [List.getElem?_toArray, List.getElem?_cons_zero, List.getElem?_cons_succ] at r0 r1
            clear hb2 q0 q1
            go_wp2_with fail
            go_ret
            refine ⟨?_, TW.trans t2⟩
            rw [HF.out]
            rfl
        · have HF : Hid (fitN true es = true) := by show _ = _; rw [HFN.out]; simp [hs]
          clear hkl
          go_wp2_with fail
          refine HBY.out.mono ?_
          rintro e w2 ⟨rfl, t2⟩
          have hb2 := HW0.out w2 (T.trans t2)
          have r0 := blk_cell hb2 0
          have r1 := blk_cell hb2 1
          simp only [List.getElem?_toArray, List.getElem?_cons_zero, List.getElem?_cons_succ] at r0 r1
          clear hb2 q0 q1
          go_wp2_with fail
          go_ret
          refine ⟨?_, TW.trans t2⟩
          rw [HF.out]
          rfl
      · have e1 : decide ((sb.size : Int) ≤ 1024) = false := by simp; omega
        have HF : Hid (fitN leaf es = false) := by show _ = _; rw [HFN.out]; simp [hs]
        clear hs
        clear hkl
        go_wp2_with fail
        refine HBY.out.mono ?_
        rintro e w2 ⟨rfl, t2⟩
        have hb2 := HW0.out w2 (T.trans t2)
        have r0 := blk_cell hb2 0
        have r1 := blk_cell hb2 1
        simp only [List.getElem?_toArray, List.getElem?_cons_zero, List.getElem?_cons_succ] at r0 r1
        clear hb2 q0 q1
        go_wp2_with fail
        go_ret
        refine ⟨?_, TW.trans t2⟩
        rw [HF.out]
        rfl
end Go.Proofs.Ytlgfdfpafmopdaa
