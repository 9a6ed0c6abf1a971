/-
  Layer 6: 'readRow'.
-/
import Derived.Test.YtenohgogfddniaaRea
import Derived.Test.YtenohgogfddniaaPsl
import Derived.Test.YtenohgogfddniaaShelf2
import Derived.Deep.RegionHeld3
import Derived.Laws.AppendOwnNone
namespace Go.Proofs.Ytenohgogfddniaa
open Go.RowKit
set_option linter.unusedVariables false

/-- The values that stand in a pair. -/
def rrowF (t : Tb) (K V : List UInt8) : Option (List Vl) :=
  if tfit t && Lib.hasPrefix K (tbegin t 0) then
    match rdAcc rdKey K (t.cols.take t.keys.toNat) 2 [] with
    | none => none
    | some ks => (rdAcc rdField V (t.cols.drop t.keys.toNat) 0 []).map (ks ++ ·)
  else none
def RrwPost (w : World) (res : Option (List Vl)) (e : Ending) (w' : World) : Prop :=
  match res with
  | none => (∃ x n c, e = .returned (.tuple #[.slice x n c, .bool false])) ∧ Tch [] w w'
  | some l => ∃ x c, e = .returned (.tuple #[.slice x l.length c, .bool true]) ∧ w'.ownsRow w.heap.size 58 2 (.slice x l.length c) l.length (l.flatMap fVl) ∧ Tch [] w w'
theorem hasPrefix_len {K : List UInt8} {t : Tb} (h : Lib.hasPrefix K (tbegin t 0) = true) : 2 ≤ K.length := by
  unfold Lib.hasPrefix at h
  have := (List.isPrefixOf_iff_prefix.1 h).length_le
  simpa [tbegin] using this
theorem rdAcc_len (F : Int → List UInt8 → Int × Vl × Nat) (L : List UInt8) : ∀ (ks : List Int) (p : Nat) (acc l : List Vl), rdAcc F L ks p acc = some l → l.length = acc.length + ks.length
  | [], p, acc, l, h => by rw [rdAcc] at h; cases h; simp
  | k :: ks, p, acc, l, h => by
    rw [rdAcc] at h
    split at h
    · have := rdAcc_len F L ks _ _ l h
      simp at this ⊢; omega
    · cases h
theorem fVl_one (x : Vl) : ∀ u ∈ fVl x, u.oneCell' = true := fun u hu => by
  unfold fVl at hu
  simp only [List.mem_cons, List.not_mem_nil, or_false] at hu
  rcases hu with rfl | rfl <;> rfl

set_option maxRecDepth 100000 in
set_option maxHeartbeats 4000000 in
theorem readRow_any (t : Tb) (a : Option Addr) (c b o : Nat) (K V : ByteArray) (w : World) (hk : IsKs w a t.cols.length b o t.cols) (hc : t.cols.length ≤ c) (hl : t.cols.length ≤ 1000000000) (hn : t.name < 256) (hK : K.size ≤ 1000000000) (hV : V.size ≤ 1000000000) (hm : MaxL w) :
    Calls Try.prog 25 #[t.agg a c, .agg #[.string K, .string V]] w (RrwPost w (rrowF t K.data.toList V.data.toList)) := by
  have HFI := Lib.hid (fun (W : World) (T : Tch [] w W) => isFit_any t a c b o W (hk.keep0 T) hl)
  have HBE := Lib.hid (fun (W : World) => begin_any t 0 a c W hn)
  obtain ⟨W0, hW0⟩ : ∃ W0, W0 = (w.alloc (.cells #[.int .u8 t.name, .slice a t.cols.length c, .int .i64 t.keys, .int .i64 t.idx] 24)).alloc (.cells #[.string K, .string V] 28) := ⟨_, rfl⟩
  have T0 : Tch [] w W0 := by rw [hW0]; exact ((Tch.refl [] w).alloc _).alloc _
  have hb1 : W0.heap[w.heap.size]? = some (.cells #[.int .u8 t.name, .slice a t.cols.length c, .int .i64 t.keys, .int .i64 t.idx] 24 (0, 0)) := by rw [hW0]; exact blk_alloc (blk_new w _) _
  have hb2 : W0.heap[w.heap.size + 1]? = some (.cells #[.string K, .string V] 28 (0, 0)) := by
    have h := blk_new (w.alloc (.cells #[.int .u8 t.name, .slice a t.cols.length c, .int .i64 t.keys, .int .i64 t.idx] 24)) (.cells #[.string K, .string V] 28)
    rw [show (w.alloc (.cells #[.int .u8 t.name, .slice a t.cols.length c, .int .i64 t.keys, .int .i64 t.idx] 24)).heap.size = w.heap.size + 1 from Array.size_push _] at h
    rw [hW0]; exact h
  have HX : Hid (∀ W, Tch [] W0 W → W.cell? ⟨w.heap.size, 0, none⟩ = some (.int .u8 t.name) ∧ W.cell? ⟨w.heap.size, 1, none⟩ = some (.slice a t.cols.length c) ∧ W.cell? ⟨w.heap.size, 2, none⟩ = some (.int .i64 t.keys) ∧ W.cell? ⟨w.heap.size, 3, none⟩ = some (.int .i64 t.idx) ∧
      W.cell? ⟨w.heap.size + 1, 0, none⟩ = some (.string K) ∧ W.cell? ⟨w.heap.size + 1, 1, none⟩ = some (.string V)) := fun W t3 => by
    have h1 := t3.keep hb1 (by simp)
    have h2 := t3.keep hb2 (by simp)
    exact ⟨by rw [blk_cell h1]; rfl, by rw [blk_cell h1]; rfl, by rw [blk_cell h1]; rfl, by rw [blk_cell h1]; rfl, by rw [blk_cell h2]; rfl, by rw [blk_cell h2]; rfl⟩
  have HNO : Hid (∀ W x n c', rrowF t K.data.toList V.data.toList = none → Tch [] w W → RrwPost w (rrowF t K.data.toList V.data.toList) (.returned (.tuple #[.slice x n c', .bool false])) W) := fun W x n c' h t => by
    rw [h]; exact ⟨⟨x, n, c', rfl⟩, t⟩
  have HYES : Hid (∀ W x c' l, rrowF t K.data.toList V.data.toList = some l → W.ownsRow w.heap.size 58 2 (.slice x l.length c') l.length (l.flatMap fVl) → Tch [] w W → RrwPost w (rrowF t K.data.toList V.data.toList) (.returned (.tuple #[.slice x l.length c', .bool true])) W) := fun W x c' l h ho t => by
    rw [h]; exact ⟨x, c', rfl, ho, t⟩
  have HRR : Hid (rrowF t K.data.toList V.data.toList = if tfit t && Lib.hasPrefix K.data.toList (tbegin t 0) then (match rdAcc rdKey K.data.toList (t.cols.take t.keys.toNat) 2 [] with | none => none | some ks => (rdAcc rdField V.data.toList (t.cols.drop t.keys.toNat) 0 []).map (ks ++ ·)) else none) := rfl
  generalize hQ : RrwPost w (rrowF t K.data.toList V.data.toList) = Q at HNO HYES ⊢
  generalize rrowF t K.data.toList V.data.toList = RF at *
  have HPX : Hid (∀ W, Calls Try.prog 37 #[.string K, .string ⟨(tbegin t 0).toArray⟩] W fun e w' => e = .returned (.bool (Lib.hasPrefix K.data.toList (tbegin t 0))) ∧ Tch [] W w') := fun W => (Try.strings_HasPrefix K ⟨(tbegin t 0).toArray⟩ W).mono fun e w' ⟨h1, h2⟩ => ⟨h1, by rw [h2]; exact Tch.refl _ _⟩
  have HT0 := Lib.hid T0
  clear hb1 hb2 T0 hQ
  unfold Tb.agg at *
  go_enter Try.func25, Try.ntmps25
  go_upto_region 1 with fail
  rw [← hW0]
  clear hW0
  have td : Tch [] W0 W0.drew := (Tch.refl _ _).drew
  go_cut [19] from 9 to 18 (fun v19 wx => v19 = .bool (!(tfit t && Lib.hasPrefix K.data.toList (tbegin t 0))) ∧ Tch [] W0 wx)
  case first =>
    rcases hf : tfit t with _ | _
    · have HFI2 : Hid (∀ W, Tch [] w W → Calls Try.prog 28 #[.agg #[.int .u8 t.name, .slice a t.cols.length c, .int .i64 t.keys, .int .i64 t.idx]] W fun e w' => e = .returned (.bool false) ∧ Tch [] W w') := fun W t3 => by
        have := HFI.out W t3
        rw [hf] at this; exact this
      clear HFI HNO HYES HRR
      refine wp_region_quiet (C := fun W => Tch [] W0 W) (by kernel_rfl) (by kernel_rfl) ((Tch.refl _ _).drew) ?_
      with_reducible refine wpQuiet_step (fun K' hK' => ?_)
      go_simp
      refine ⟨.agg #[.int .u8 t.name, .slice a t.cols.length c, .int .i64 t.keys, .int .i64 t.idx], fun w1 t1 => ?_, hK' _ ?_⟩
      · obtain ⟨x0, x1, x2, x3, x4, x5⟩ := HX.out w1 t1
        go_simp
      clear hK' K'
      with_reducible refine wpQuiet_step (fun K' hK' => ?_)
      go_simp
      refine ⟨_, fun w1 t1 => (HFI2.out w1 (HT0.out.trans t1)).mono (fun e w5 ⟨he, t5⟩ => ⟨he, t1.trans t5⟩), hK' _ ?_⟩
      clear hK' K'
      with_reducible refine wpQuiet_step (fun K' hK' => ?_)
      go_simp
      refine ⟨.bool true, fun w1 t1 => rfl, ?_⟩
      refine hK' _ ?_
      clear hK' K'
      with_reducible refine wpQuiet_step (fun K' hK' => ?_)
      go_simp
      refine ⟨.bool true, fun w1 t1 => rfl, ?_⟩
      refine hK' _ ?_
      clear hK' K'
      with_reducible refine wpQuiet_step (fun K' hK' => ?_)
      go_simp
      refine hK' _ ?_
      clear hK' K'
      with_reducible refine wpQuiet_step (fun K' hK' => ?_)
      go_simp
      refine hK' _ ?_
      clear hK' K'
      with_reducible refine wpQuiet_step (fun K' hK' => ?_)
      go_simp
      refine hK' _ ?_
      clear hK' K'
      with_reducible refine wpQuiet_step (fun K' hK' => ?_)
      go_simp
      refine hK' _ ?_
      clear hK' K'
      with_reducible refine wpQuiet_step (fun K' hK' => ?_)
      go_simp
      refine hK' _ ?_
      clear hK' K'
      with_reducible refine wpQuiet_step (fun K' hK' => ?_)
      go_simp
      refine hK' _ ?_
      clear hK' K'
      with_reducible refine wpQuiet_step (fun K' hK' => ?_)
      go_simp
      refine ⟨.bool true, fun w1 t1 => rfl, ?_⟩
      refine hK' _ ?_
      clear hK' K'
      refine wpQuiet_nil ?_
      intro w5 t5
      go_wp2_with fail
      go_meet
      exact ⟨by rw [hf]; rfl, t5⟩
    · have HFI2 : Hid (∀ W, Tch [] w W → Calls Try.prog 28 #[.agg #[.int .u8 t.name, .slice a t.cols.length c, .int .i64 t.keys, .int .i64 t.idx]] W fun e w' => e = .returned (.bool true) ∧ Tch [] W w') := fun W t3 => by
        have := HFI.out W t3
        rw [hf] at this; exact this
      clear HFI HNO HYES HRR
      refine wp_region_quiet (C := fun W => Tch [] W0 W) (by kernel_rfl) (by kernel_rfl) ((Tch.refl _ _).drew) ?_
      obtain ⟨hp, hhp⟩ : ∃ hp, hp = Lib.hasPrefix K.data.toList (tbegin t 0) := ⟨_, rfl⟩
      rw [← hhp] at HPX
      have HHP := Lib.hid hhp
      clear hhp
      with_reducible refine wpQuiet_step (fun K' hK' => ?_)
      go_simp
      refine ⟨.agg #[.int .u8 t.name, .slice a t.cols.length c, .int .i64 t.keys, .int .i64 t.idx], fun w1 t1 => ?_, hK' _ ?_⟩
      · obtain ⟨x0, x1, x2, x3, x4, x5⟩ := HX.out w1 t1
        go_simp
      clear hK' K'
      with_reducible refine wpQuiet_step (fun K' hK' => ?_)
      go_simp
      refine ⟨_, fun w1 t1 => (HFI2.out w1 (HT0.out.trans t1)).mono (fun e w5 ⟨he, t5⟩ => ⟨he, t1.trans t5⟩), hK' _ ?_⟩
      clear hK' K'
      with_reducible refine wpQuiet_step (fun K' hK' => ?_)
      go_simp
      refine ⟨.bool false, fun w1 t1 => rfl, ?_⟩
      refine hK' _ ?_
      clear hK' K'
      with_reducible refine wpQuiet_step (fun K' hK' => ?_)
      go_simp
      refine ⟨.bool false, fun w1 t1 => rfl, ?_⟩
      refine hK' _ ?_
      clear hK' K'
      with_reducible refine wpQuiet_step (fun K' hK' => ?_)
      go_simp
      refine ⟨.pointer (some ⟨w.heap.size + 1, 0, none⟩), fun w1 t1 => rfl, ?_⟩
      refine hK' _ ?_
      clear hK' K'
      with_reducible refine wpQuiet_step (fun K' hK' => ?_)
      go_simp
      refine ⟨.string K, fun w1 t1 => ?_, hK' _ ?_⟩
      · obtain ⟨x0, x1, x2, x3, x4, x5⟩ := HX.out w1 t1
        go_simp
      clear hK' K'
      with_reducible refine wpQuiet_step (fun K' hK' => ?_)
      go_simp
      refine ⟨.agg #[.int .u8 t.name, .slice a t.cols.length c, .int .i64 t.keys, .int .i64 t.idx], fun w1 t1 => ?_, hK' _ ?_⟩
      · obtain ⟨x0, x1, x2, x3, x4, x5⟩ := HX.out w1 t1
        go_simp
      clear hK' K'
      with_reducible refine wpQuiet_step (fun K' hK' => ?_)
      go_simp
      refine ⟨_, fun w1 t1 => (HBE.out w1).mono (fun e w5 ⟨he, t5⟩ => ⟨he, t1.trans t5⟩), hK' _ ?_⟩
      clear hK' K'
      with_reducible refine wpQuiet_step (fun K' hK' => ?_)
      go_simp
      refine ⟨_, fun w1 t1 => (HPX.out w1).mono (fun e w5 ⟨he, t5⟩ => ⟨he, t1.trans t5⟩), hK' _ ?_⟩
      clear hK' K'
      with_reducible refine wpQuiet_step (fun K' hK' => ?_)
      go_simp
      refine ⟨.bool (!hp), fun w1 t1 => rfl, ?_⟩
      refine hK' _ ?_
      clear hK' K'
      with_reducible refine wpQuiet_step (fun K' hK' => ?_)
      go_simp
      refine ⟨.bool (!hp), fun w1 t1 => rfl, ?_⟩
      refine hK' _ ?_
      clear hK' K'
      refine wpQuiet_nil ?_
      intro w5 t5
      go_wp2_with fail
      go_meet
      exact ⟨by rw [hf, ← HHP.out]; rfl, t5⟩
  case rest =>
    obtain ⟨rfl, tc⟩ := hcut
    rcases hb : (tfit t && Lib.hasPrefix K.data.toList (tbegin t 0)) with _ | _
    · have HE := Lib.hid (HNO.out wc none 0 0 (by rw [HRR.out, hb]; rfl) (HT0.out.trans tc))
      clear hb HNO HYES HRR tc HFI HBE HX HPX
      go_wp2_with fail
      first | exact HE.out | (go_ret2; exact HE.out)
    · have hb2 := hb
      simp only [Bool.and_eq_true] at hb2
      obtain ⟨hf, hp⟩ := hb2
      obtain ⟨k1, k2, _, _⟩ := tfit_keys hf
      have hK2 := hasPrefix_len hp
      rw [← Lib.size_eq] at hK2
      obtain ⟨kk, hKK⟩ : ∃ kk : Nat, t.keys = (kk : Int) := ⟨t.keys.toNat, by omega⟩
      have hkt : t.keys.toNat = kk := by rw [hKK]; rfl
      have ha := hk.some_ (by omega)
      subst ha
      rw [hKK] at HX
      rw [hb, hkt] at HRR
      have HRR2 : Hid (RF = match rdAcc rdKey K.data.toList (t.cols.take kk) 2 [] with | none => none | some ks => (rdAcc rdField V.data.toList (t.cols.drop kk) 0 []).map (ks ++ ·)) := HRR.out
      obtain ⟨A1, hA1, hA2⟩ := psl_lo 22 1 Try.elem_ks Try.size_ks b o t.cols.length c kk (by omega) hc
      have hA3 : ∀ W : World, (Instr.slice 22 (.slice (some ⟨b, o, none⟩) t.cols.length c) none (some (.int .i64 (kk : Int))) none).run Try.prog W = .ok (.slice (some ⟨b, o, none⟩) kk c) W := fun W => psl_hi _ 1 Try.elem_ks Try.size_ks _ _ _ _ _ (by omega) W
      have HRK : Hid (∀ W, Tch [] w W → Calls Try.prog 38 #[.string K, .int .i64 2, .slice (some ⟨b, o, none⟩) kk c, .func (.func 39) #[] #[]] W (ReaPost W (rdAcc rdKey K.data.toList (t.cols.take kk) 2 []))) := fun W t3 => by
        have q1 := (hk.keep0 t3).part 0 kk (by omega) (some ⟨b, o, none⟩) (fun _ => by simp)
        rw [List.drop_zero] at q1
        have e1 : (t.cols.take kk).length = kk := by rw [List.length_take]; omega
        have h := read_key K 2 (t.cols.take kk) (some ⟨b, o, none⟩) c b _ W hK (by omega) (by rw [e1]; exact q1) (by omega) (hm.keep t3)
        rw [e1] at h
        exact h
      have HRF : Hid (∀ W, Tch [] w W → Calls Try.prog 38 #[.string V, .int .i64 0, .slice A1 (t.cols.length - kk) (c - kk), .func (.func 40) #[] #[]] W (ReaPost W (rdAcc rdField V.data.toList (t.cols.drop kk) 0 []))) := fun W t3 => by
        have q1 := (hk.keep0 t3).part kk (t.cols.length - kk) (by omega) A1 hA2
        have e1 : (t.cols.drop kk).length = t.cols.length - kk := by rw [List.length_drop]
        rw [List.take_of_length_le (by omega)] at q1
        have h := read_field V 0 (t.cols.drop kk) A1 (c - kk) b _ W hV (by omega) (by rw [e1]; exact q1) (by omega) (hm.keep t3)
        rw [e1] at h
        exact h
      have HLK : Hid (∀ l, rdAcc rdKey K.data.toList (t.cols.take kk) 2 [] = some l → l.length = kk) := fun l h => by
        have := rdAcc_len _ _ _ _ _ _ h
        rw [List.length_take] at this
        simp at this; omega
      have HLF : Hid (∀ l, rdAcc rdField V.data.toList (t.cols.drop kk) 0 [] = some l → l.length = t.cols.length - kk) := fun l h => by
        have := rdAcc_len _ _ _ _ _ _ h
        rw [List.length_drop] at this
        simpa using this
      have HTC := Lib.hid (HT0.out.trans tc)
      have HX2 : Hid (∀ W, Tch [] wc W → _) := fun W t3 => HX.out W (tc.trans t3)
      have hi7 : (kk : Int) ≤ (t.cols.length : Int) := by omega
      have hi8 : kk ≤ t.cols.length := by omega
      have td : Tch [] wc wc.drew := (Tch.refl _ _).drew
      clear hb hf hp HRR HX tc HFI HBE HPX hk hm hkt hKK hK2 k1 k2 hA2
      generalize rdAcc rdKey K.data.toList (t.cols.take kk) 2 [] = R1 at *
      generalize rdAcc rdField V.data.toList (t.cols.drop kk) 0 [] = R2 at *
      cases R1 with
      | none =>
        go_wp2_with fail
        go_region_held3 (fun W => W.cell? ⟨w.heap.size, 0, none⟩ = some (.int .u8 t.name) ∧ W.cell? ⟨w.heap.size, 1, none⟩ = some (.slice (some ⟨b, o, none⟩) t.cols.length c) ∧ W.cell? ⟨w.heap.size, 2, none⟩ = some (.int .i64 (kk : Int)) ∧ W.cell? ⟨w.heap.size, 3, none⟩ = some (.int .i64 t.idx) ∧ W.cell? ⟨w.heap.size + 1, 0, none⟩ = some (.string K) ∧ W.cell? ⟨w.heap.size + 1, 1, none⟩ = some (.string V))
          (first | exact HX2.out _ td | exact HX2.out _ (td.trans t5))
          (first | (go_at_call 38; (with_reducible refine (HRK.out _ (HTC.out.trans td)).mono ?_); rintro e w5 ⟨rfl, t5⟩))
        have HE := Lib.hid (HNO.out w5 none 0 0 (by rw [HRR2.out]) ((HTC.out.trans td).trans t5))
        clear HNO HYES HRR2 HRK HRF HX2 t5 td
        go_wp2_with fail
        first | exact HE.out | (go_ret2; exact HE.out)
      | some l1 =>
        have hl1 : l1.length ≤ t.cols.length := by have := HLK.out l1 rfl; omega
        have hl12 : ∀ l2 : List Vl, R2 = some l2 → l1.length + l2.length ≤ 1000000000 := fun l2 h => by have := HLK.out l1 rfl; have := HLF.out l2 h; omega
        go_wp2_with fail
        go_region_held3 (fun W => W.cell? ⟨w.heap.size, 0, none⟩ = some (.int .u8 t.name) ∧ W.cell? ⟨w.heap.size, 1, none⟩ = some (.slice (some ⟨b, o, none⟩) t.cols.length c) ∧ W.cell? ⟨w.heap.size, 2, none⟩ = some (.int .i64 (kk : Int)) ∧ W.cell? ⟨w.heap.size, 3, none⟩ = some (.int .i64 t.idx) ∧ W.cell? ⟨w.heap.size + 1, 0, none⟩ = some (.string K) ∧ W.cell? ⟨w.heap.size + 1, 1, none⟩ = some (.string V))
          (first | exact HX2.out _ td | exact HX2.out _ (td.trans t5))
          (first | (go_at_call 38; (with_reducible refine (HRK.out _ (HTC.out.trans td)).mono ?_); rintro e w5 ⟨x5, c5, rfl, ho5, t5⟩))
        have T5 := Lib.hid ((HTC.out.trans td).trans t5)
        have HX3 : Hid (∀ W, Tch [] w5 W → _) := fun W t3 => HX2.out W ((td.trans t5).trans t3)
        have HO5 := Lib.hid (own_base ho5 (show w.heap.size ≤ wc.drew.heap.size from HTC.out.size))
        clear ho5 t5 td HX2 HRK
        have td : Tch [] w5 w5.drew := (Tch.refl _ _).drew
        cases R2 with
        | none =>
          go_wp2_with fail
          go_region_held3 (fun W => W.cell? ⟨w.heap.size, 0, none⟩ = some (.int .u8 t.name) ∧ W.cell? ⟨w.heap.size, 1, none⟩ = some (.slice (some ⟨b, o, none⟩) t.cols.length c) ∧ W.cell? ⟨w.heap.size, 2, none⟩ = some (.int .i64 (kk : Int)) ∧ W.cell? ⟨w.heap.size, 3, none⟩ = some (.int .i64 t.idx) ∧ W.cell? ⟨w.heap.size + 1, 0, none⟩ = some (.string K) ∧ W.cell? ⟨w.heap.size + 1, 1, none⟩ = some (.string V))
            (first | exact HX3.out _ td | exact HX3.out _ (td.trans t6))
            (first | (go_at_call 38; (with_reducible refine (HRF.out _ (T5.out.trans td)).mono ?_); rintro e w6 ⟨rfl, t6⟩))
          have HE := Lib.hid (HNO.out w6 x5 l1.length c5 (by rw [HRR2.out]; rfl) ((T5.out.trans td).trans t6))
          have HO6 := Lib.hid (own_keep HO5.out (td.trans t6) (fun _ _ => by simp))
          obtain ⟨i0, hi, hz0, hz1, hz2⟩ := info_parts Try.info_vl
          clear HNO HYES HRR2 HRF HX3 t6 td HLK HLF hl12
          go_wp2_with (at_builtin; refine wpList_append_own_none rfl _ _ 26 rfl w.heap.size 58 i0 2 Try.underlying26 hi _ _ _ rfl HO6.out rfl ?_)
          first | exact HE.out | (go_ret2; exact HE.out)
        | some l2 =>
          have hl2 := hl12 l2 rfl
          clear hl12
          go_wp2_with fail
          go_region_held3 (fun W => W.cell? ⟨w.heap.size, 0, none⟩ = some (.int .u8 t.name) ∧ W.cell? ⟨w.heap.size, 1, none⟩ = some (.slice (some ⟨b, o, none⟩) t.cols.length c) ∧ W.cell? ⟨w.heap.size, 2, none⟩ = some (.int .i64 (kk : Int)) ∧ W.cell? ⟨w.heap.size, 3, none⟩ = some (.int .i64 t.idx) ∧ W.cell? ⟨w.heap.size + 1, 0, none⟩ = some (.string K) ∧ W.cell? ⟨w.heap.size + 1, 1, none⟩ = some (.string V))
            (first | exact HX3.out _ td | exact HX3.out _ (td.trans t6))
            (first | (go_at_call 38; (with_reducible refine (HRF.out _ (T5.out.trans td)).mono ?_); rintro e w6 ⟨x6, c6, rfl, ho6, t6⟩))
          have T6 := Lib.hid ((T5.out.trans td).trans t6)
          have HO6 := Lib.hid (own_keep HO5.out (td.trans t6) (fun _ _ => by simp))
          have HY : Hid (∀ W x c', W.ownsRow w.heap.size 58 2 (.slice x (l1.length + l2.length) c') (l1.length + l2.length) (l1.flatMap fVl ++ l2.flatMap fVl) → Tch [] w W → Q (.returned (.tuple #[.slice x (l1.length + l2.length) c', .bool true])) W) := fun W x c' h t => by
            have := HYES.out W x c' (l1 ++ l2) (by rw [HRR2.out]; rfl) (by rw [List.length_append, List.flatMap_append]; exact h) t
            rw [List.length_append] at this; exact this
          obtain ⟨i0, hi, hz0, hz1, hz2⟩ := info_parts Try.info_vl
          have hs6 := T6.out.size
          clear HNO HYES HRR2 HRF HX3 td t6 HLK HLF
          rcases ho6.2 with ⟨hv, h0⟩ | ⟨g, cap, cur, hv, _, hg, hcap, hcm, hcs, htk⟩
          · simp only [Value.slice.injEq] at hv
            obtain ⟨rfl, hl0, rfl⟩ := hv
            have hl2e : l2 = [] := List.length_eq_zero_iff.1 hl0
            subst hl2e
            have HE := Lib.hid (HY.out w6 x5 c5 (by simpa using HO6.out) T6.out)
            clear HY ho6
            simp only [List.length_nil, Nat.add_zero] at HE ⊢
            go_wp2_with (at_builtin; refine wpList_append_own_none rfl _ _ 26 rfl w.heap.size 58 i0 2 Try.underlying26 hi _ _ _ rfl HO6.out rfl ?_)
            first | exact HE.out | (go_ret2; exact HE.out)
          · simp only [Value.slice.injEq] at hv
            obtain ⟨rfl, _, rfl⟩ := hv
            have HC6 : Hid (∀ j u, (l2.flatMap fVl)[j]? = some u → w6.cell? ((⟨g, 0, none⟩ : Addr).add j) = some u) := ho6.cells rfl
            have HL6 : Hid ((l2.flatMap fVl).length = l2.length * 2) := fm_len (f := fVl) (sz := 2) (fun _ => rfl) l2
            have HON : Hid (∀ u ∈ l2.flatMap fVl, u.oneCell' = true) := fm_one fVl_one l2
            clear ho6
            go_wp2_with (at_builtin; refine wpList_append_own _ rfl _ _ 26 rfl w.heap.size 58 i0 (.agg #[.int .i64 0, .string ⟨#[]⟩]) 2 24 Try.underlying26 hi hz0 hz1 hz2 rfl (by decide) _ _ _ rfl HO6.out ⟨g, 0, none⟩ l2.length _ (l2.flatMap fVl) rfl HL6.out HC6.out HON.out ?c3 ?c4 ?c5 ?_)
            case c3 => unfold maxLen; omega
            case c4 => omega
            case c5 => omega
            intro v' w7 hown7 hgrow _
            have T7 := T6.out.own HO6.out (Nat.le_refl _) hgrow
            obtain ⟨x7, c7, rfl⟩ := own_slice hown7
            have HE := Lib.hid (HY.out w7 x7 c7 hown7 T7)
            clear hown7 hgrow T7 HY HC6 HL6 HON HO6
            go_wp2_with fail
            first | exact HE.out | (go_ret2; exact HE.out)
end Go.Proofs.Ytenohgogfddniaa
