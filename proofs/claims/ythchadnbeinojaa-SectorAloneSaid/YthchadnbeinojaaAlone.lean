/-
  The law SectorAlone, walked: for every place and every list of texts (within the reach of memory) it answers true and turns nothing that was there.
-/
import Derived.Test.YthchadnbeinojaaWakes
import Derived.Test.YthchadnbeinojaaState
import Derived.Test.YthchadnbeinojaaRowsIn
namespace Go.Proofs.Ythchadnbeinojaa
open Go.RowKit
set_option linter.unusedVariables false

/-- The letter of sector i. -/
def ltr (i : Nat) : ByteArray := ⟨#[UInt8.ofNat (97 + i)]⟩

/-- What holds at the head of each round of the first loop. -/
def A1 (w : World) (b bs : Nat) (v15 : Value) (wr : World) : Prop :=
  ∃ (k : Nat) (D : Ds), k ≤ 9 ∧ v15 = .int .i64 k ∧ IsDs wr b bs D ∧ Tch [] w wr ∧ D.texts.length = 9 ∧ D.on = true ∧ D.left = -1 ∧ D.done ≤ k ∧ ∀ i, i < k → D.texts[i]? = some (ltr i)

/-- .. of the second, .. -/
def A2 (w : World) (b bs len : Nat) (p : Int) (v32 : Value) (wr : World) : Prop :=
  ∃ (k : Nat) (D : Ds), k ≤ len ∧ v32 = .int .i64 k ∧ IsDs wr b bs D ∧ Tch [] w wr ∧ D.texts.length = 9 ∧ D.on = true ∧ D.left = -1 ∧ D.done ≤ 9 + k ∧ ∀ i : Nat, i < 9 → (i : Int) ≠ p → D.texts[i]? = some (ltr i)
/-- .. and of the third. -/
def A3 (w : World) (b bs : Nat) (p : Int) (v41 : Value) (wr : World) : Prop :=
  ∃ (k : Nat) (D : Ds), k ≤ 9 ∧ v41 = .int .i64 k ∧ IsDs wr b bs D ∧ Tch [] w wr ∧ D.texts.length = 9 ∧ D.on = true ∧ ∀ i : Nat, i < 9 → (i : Int) ≠ p → D.texts[i]? = some (ltr i)

theorem ltr_conv (k : Nat) (w : World) : (convert 44 9 (.slice (some ⟨w.heap.size, 0, none⟩) 1 1)).run Try.prog (w.alloc (.cells #[.int .u8 (97 + (k : Int))] 5)) = .ok (.string (ltr k)) (w.alloc (.cells #[.int .u8 (97 + (k : Int))] 5)) := by
  rw [run_convert_bytes_string _ _ _ 5 _ _ _ Try.underlying44 Try.underlying5 Try.underlying9]
  have hl := run_loadCells_list (P := Try.prog) (w := w.alloc (.cells #[.int .u8 (97 + (k : Int))] 5)) ⟨w.heap.size, 0, none⟩ [.int .u8 (97 + (k : Int))] (by
    intro j v hj
    rw [add_mk, blk_cell (blk_new w _)]
    simpa using hj)
  rw [run_bytesToString _ _ 1 1 [97 + (k : Int)] hl]
  simp only [List.foldl_cons, List.foldl_nil]
  rw [show (97 + (k : Int)).toNat = 97 + k from by omega]
  rfl
theorem ltr_0 (k : Nat) (hk : k < 9) (h : 0 < (pad (ltr k)).size) : (((pad (ltr k))[0]'h).toNat : Int) = 97 + (k : Int) := by
  have : (pad (ltr k))[0]'h = UInt8.ofNat (97 + k) := rfl
  rw [this]
  simp [UInt8.toNat_ofNat]
  omega
theorem ltr_1 (k : Nat) (h : 1 < (pad (ltr k)).size) : (((pad (ltr k))[1]'h).toNat : Int) = 0 := by
  have : (pad (ltr k))[1]'h = 0 := rfl
  rw [this]
  rfl
theorem ltr_size (k : Nat) : (ltr k).size = 1 := rfl

set_option maxRecDepth 100000 in
set_option maxHeartbeats 1000000 in
theorem alone_walk (n : Int) (a : Option Addr) (len cap : Nat) (ss : List ByteArray) (w : World) (hn : (Lit.int .i64 n).wf = true) (hw : IsStrs w a len cap ss) (hsz : len * 16 ≤ 140737488351232) :
    Calls Try.prog 7 #[.int .i64 n, .slice a len cap] w fun e w' => e = .returned (.bool true) ∧ Tch [] w w' := by
  have hn2 := i64_of_wf hn
  have HW := Lib.hid (wakes_any w)
  have HN := Lib.hid (fun w1 => dnew 9 w1 (by omega) (by omega))
  rw [show many 9 = 9 from rfl] at HN
  clear hn
  go_enter Try.func7, Try.ntmps7
  go_wp2_with fail
  refine HW.out.mono ?_
  rintro e w1 ⟨rfl, t1⟩
  go_wp2_with fail
  refine (HN.out w1).mono ?_
  rintro e w2 ⟨rfl, hd2, t2⟩
  go_wp2_with fail
  have hb1 : w.heap.size ≤ w1.heap.size := t1.size
  have hb2 := hd2.lt
  have T2 := t1.trans t2
  clear HW HN t1 t2
  generalize w1.heap.size = N at hd2 hb1 hb2 ⊢
  go_loopw [15] (fun v15 wr => A1 w (N + 1) N v15 wr) (fun v15 _ => 9 - (intOf v15).toNat)
  case atStart => exact ⟨0, freshD 9, by omega, rfl, hd2, T2, rfl, rfl, rfl, by decide, fun i hi => by omega⟩
  case round =>
    obtain ⟨k, D, hk, rfl, hd, T, hl, hon, hle, hdn, hlt⟩ := hrel
    by_cases h9 : k < 9
    · have HE := Lib.hid (And.intro hl (And.intro hon (And.intro hle hlt)))
      clear hl hon hle hlt
      have hcv := ltr_conv k wr
      have hda := hd.keep ((Tch.refl [] wr).alloc (.cells #[.int .u8 (97 + (k : Int))] 5)) (by simp) (by simp)
      have HX := Lib.hid (dwrite (N + 1) N D k (ltr k) _ hda (by omega))
      rw [wstate_in HE.out.2.1 (by omega) (by rw [HE.out.1]; omega) (by rw [ltr_size]; omega) (by rw [HE.out.2.2.1]; omega)] at HX
      have TA := (T.alloc (.cells #[.int .u8 (97 + (k : Int))] 5))
      clear hda hd T
      go_wp2_with fail
      refine HX.out.mono ?_
      rintro e w5 ⟨rfl, hd5, t5⟩
      go_wp2
      go_roundw
      case rel =>
        obtain ⟨hl, hon, hle, hlt⟩ := HE.out
        refine ⟨k + 1, _, by omega, by go_num, hd5, TA.transNew t5 (by simp; omega), by simp [hl], hon, by simp [tk, hle], by simp; omega, fun i hi => ?_⟩
        simp only [Int.toNat_natCast]
        rw [List.getElem?_set]
        by_cases hik : k = i
        · subst hik
          rw [if_pos rfl, if_pos (by omega)]
        · rw [if_neg hik]
          exact hlt i (by omega)
      case measure => simp [intOf]; omega
    · have hk9 : k = 9 := by omega
      subst hk9
      have hp0 : 0 ≤ max 0 n := by omega
      rw [show ((9 : Nat) : Int) = 9 from rfl]
      go_wp2
      go_loopw [32] (fun v32 wr => A2 w (N + 1) N len (max 0 n % 9) v32 wr) (fun v32 _ => len - (intOf v32).toNat)
      case atStart => exact ⟨0, D, by omega, rfl, hd, T, hl, hon, hle, by omega, fun i hi _ => hlt i hi⟩
      case round =>
        obtain ⟨k, D, hk, rfl, hd, T, hl, hon, hle, hdn, hlt⟩ := hrel
        by_cases hkl : k < len
        · obtain ⟨ab, ao, rfl, hab, hlz, hlm2, hc, hwf⟩ := hw.at_ (by omega)
          have hck := hc k (by omega)
          rw [← T.cell hab (by simp)] at hck
          have hts := hwf (ss.getD k ByteArray.empty) (by rw [List.getD_eq_getElem?_getD, List.getElem?_eq_getElem (by omega)]; exact List.getElem_mem _)
          unfold maxLen at hts
          generalize ss.getD k ByteArray.empty = t at hck hts
          clear hc hwf
          have HX := Lib.hid (dwrite (N + 1) N D (max 0 n % 9) t _ hd (by omega))
          have HE : Hid ((D.wstate (max 0 n % 9) t).texts.length = 9 ∧ (D.wstate (max 0 n % 9) t).on = true ∧ (D.wstate (max 0 n % 9) t).left = -1 ∧ (D.wstate (max 0 n % 9) t).done ≤ 9 + ↑(k + 1) ∧ ∀ i : Nat, i < 9 → (i : Int) ≠ max 0 n % 9 → (D.wstate (max 0 n % 9) t).texts[i]? = some (ltr i)) := by
            by_cases htl : t.size ≤ 1024
            · rw [wstate_in hon (by omega) (by omega) htl (by omega)]
              refine ⟨by simp [hl], hon, by simp [tk, hle], by simp; omega, fun i hi hne => ?_⟩
              simp only
              rw [List.getElem?_set, if_neg (by omega)]
              exact hlt i hi hne
            · rw [(wcode_long (D := D) (i := max 0 n % 9) (x := t) hon (by omega) (by omega) (by omega)).2]
              exact ⟨hl, hon, hle, by omega, hlt⟩
          clear hl hon hle hlt hdn hd
          generalize D.wstate (max 0 n % 9) t = E at HX HE
          generalize D.wcode (max 0 n % 9) t = c at HX
          go_wp2_with (first | (go_at_call 16; refine HX.out.mono ?_; rintro e w5 ⟨rfl, hd5, t5⟩))
          go_roundw
          case rel => exact ⟨k + 1, E, by omega, by go_num, hd5, T.transNew t5 (by simp; omega), HE.out⟩
          case measure => simp [intOf]; omega
        · go_wp2
          go_loopw [41] (fun v41 wr => A3 w (N + 1) N (max 0 n % 9) v41 wr) (fun v41 _ => 9 - (intOf v41).toNat)
          case atStart => exact ⟨0, D, by omega, rfl, hd, T, hl, hon, hlt⟩
          case round =>
            obtain ⟨k, D, hk, rfl, hd, T, hl, hon, hlt⟩ := hrel
            by_cases hk9 : k < 9
            · have HR := Lib.hid (dread (N + 1) N D k _ hd)
              rw [(rd_in (D := D) (i := k) hon (by omega) (by omega)).1, (rd_in (D := D) (i := k) hon (by omega) (by omega)).2] at HR
              have hsz2 : (pad (D.texts.getD (k : Int).toNat ⟨#[]⟩)).size = 1024 := pad_size _ (by
                obtain ⟨S, hk', hm, ho, hl', hs, k1, h2, h3, h4, h5, h6, h7, h8, h9⟩ := hd
                have e1 : S.secs[k]? = some S.secs[k] := List.getElem?_eq_getElem (by omega)
                have e2 : D.texts[k]? = some D.texts[k] := List.getElem?_eq_getElem (by omega)
                have := (hs k _ _ e1 e2).2
                simpa [List.getD_eq_getElem?_getD, e2] using this)
              by_cases hkp : (k : Int) = max 0 n % 9
              · have hb : ((k : Int) != max 0 n % 9) = false := by simp [hkp]
                have HE := Lib.hid (And.intro hl (And.intro hon hlt))
                clear hkp hl hon hlt
                generalize pad (D.texts.getD (k : Int).toNat ⟨#[]⟩) = y at HR hsz2
                go_wp2_with (first | (go_at_call 20; refine HR.out.mono ?_; rintro e w5 ⟨rfl, hd5, t5⟩))
                go_roundw
                case rel => exact ⟨k + 1, D, by omega, by go_num, hd5, T.transNew t5 (by simp; omega), HE.out⟩
                case measure => simp [intOf]; omega
              · have hb : ((k : Int) != max 0 n % 9) = true := by simp [hkp]
                have hx : D.texts.getD (k : Int).toNat ⟨#[]⟩ = ltr k := by
                  simp only [Int.toNat_natCast]
                  rw [List.getD_eq_getElem?_getD, hlt k hk9 hkp]; rfl
                rw [hx] at HR hsz2
                have HE := Lib.hid (And.intro hl (And.intro hon hlt))
                have e0 := ltr_0 k hk9
                have e1 := ltr_1 k
                clear hkp hl hon hlt hx
                go_wp2_with (first | (go_at_call 20; refine HR.out.mono ?_; rintro e w5 ⟨rfl, hd5, t5⟩))
                go_roundw
                case rel => exact ⟨k + 1, D, by omega, by go_num, hd5, T.transNew t5 (by simp; omega), HE.out⟩
                case measure => simp [intOf]; omega
            · go_wp2
              go_ret
              exact ⟨rfl, T⟩
end Go.Proofs.Ythchadnbeinojaa
