/-
  Layer 6: 'joined', of a builder of the call's own.
-/
import Derived.Test.YtenohgogfddniaaHav
import Derived.Test.YtenohgogfddniaaBld
namespace Go.Proofs.Ytenohgogfddniaa
open Go.RowKit
set_option linter.unusedVariables false

/-- The forms, one behind the other. -/
def joinF (F : Int → Vl → List UInt8) : List Int → List Vl → List UInt8
  | k :: ks, x :: xs => F k x ++ joinF F ks xs
  | _, _ => []
theorem joinF_take (F : Int → Vl → List UInt8) : ∀ (ks : List Int) (xs : List Vl) (i : Nat) k x, ks[i]? = some k → xs[i]? = some x → joinF F (ks.take (i + 1)) (xs.take (i + 1)) = joinF F (ks.take i) (xs.take i) ++ F k x
  | [], _, _, _, _, h, _ => by simp at h
  | _ :: _, [], _, _, _, _, h => by simp at h
  | k0 :: ks, x0 :: xs, 0, k, x, h1, h2 => by simp at h1 h2; subst h1 h2; simp [joinF]
  | k0 :: ks, x0 :: xs, i + 1, k, x, h1, h2 => by
    rw [List.take_succ_cons, List.take_succ_cons, joinF, joinF_take F ks xs i k x (by simpa using h1) (by simpa using h2), List.take_succ_cons, List.take_succ_cons, joinF, List.append_assoc]
theorem joinF_len (F : Int → Vl → List UInt8) : ∀ (ks : List Int) (xs : List Vl) (i : Nat), (joinF F (ks.take i) (xs.take i)).length ≤ (joinF F ks xs).length
  | [], xs, i => by simp [joinF]
  | _ :: _, [], i => by simp [joinF]
  | k0 :: ks, x0 :: xs, 0 => by simp [joinF]
  | k0 :: ks, x0 :: xs, i + 1 => by
    rw [List.take_succ_cons, List.take_succ_cons, joinF, joinF, List.length_append, List.length_append]
    have := joinF_len F ks xs i
    omega
def joinE (F : Int → Vl → List UInt8) (ks : List Int) (xs : List Vl) (most : Nat) : Ending :=
  if (joinF F ks xs).length ≤ most then .returned (.tuple #[.string ⟨(joinF F ks xs).toArray⟩, .bool true]) else .returned (.tuple #[.string ⟨#[]⟩, .bool false])
def JoRel (F : Int → Vl → List UInt8) (w : World) (ks : List Int) (xs : List Vl) (most n : Nat) (v15 : Value) (wr : World) : Prop :=
  ∃ i : Nat, n + i = ks.length ∧ v15 = .int .i64 i ∧ Lib.IsBuilder 93 5 w.heap.size w.heap.size (Lib.byteCells (joinF F (ks.take i) (xs.take i))) wr ∧ (joinF F (ks.take i) (xs.take i)).length ≤ most ∧ Tch [] w wr
theorem jcells_app (a b : List UInt8) : Lib.byteCells a ++ Lib.strCells ⟨b.toArray⟩ = Lib.byteCells (a ++ b) := by
  simp [Lib.byteCells, Lib.strCells]
theorem jbld_keep {w w' : World} {B b : Nat} {bs : List Value} {L : List Nat} {T e : TypeId} (h : Lib.IsBuilder T e B b bs w) (t : Tch L w w') (hn : ∀ k ∈ L, k < B) : Lib.IsBuilder T e B b bs w' := by
  have key : ∀ p, Lib.BuilderAt T e B b p bs w → Lib.BuilderAt T e B b p bs w' := fun p h => by
    obtain ⟨h1, v, h2, h3, h4⟩ := h
    exact ⟨h1, v, t.keep h2 (fun hm => by have := hn b hm; omega), own_keep h3 t (fun k hk hm => by have := hn k hm; have := (h3.lt k hk).1; omega), h4⟩
  rcases h with h | h
  · exact Or.inl (key _ h)
  · exact Or.inr (key _ h)
theorem kform_len (k : Int) (x : Vl) (hx : x.Ok) : (kform k x).length ≤ 1000000100 := by
  have := hx.2.2
  unfold kform; split
  · rw [ord_len]; omega
  · rw [List.length_append, ← Lib.size_eq]; simp; omega
theorem fform_len (k : Int) (x : Vl) (hx : x.Ok) : (fform k x).length ≤ 1000000100 := by
  have h2 := hx.2.2
  unfold fform; split
  · have := ub_len 9 (zz x.n) (by have := zz_lt hx.1 hx.2.1; omega); omega
  · unfold tx
    have := ub_len 9 x.s.size (by omega)
    rw [List.length_append, ← Lib.size_eq]; omega

set_option maxRecDepth 100000 in
set_option maxHeartbeats 1000000 in
theorem joined_key (ks : List Int) (xs : List Vl) (ka : Option Addr) (kc kb ko : Nat) (ra : Option Addr) (rc rb ro most : Nat) (w : World) (hk : IsKs w ka ks.length kb ko ks) (hr : IsVs w ra xs.length rb ro xs)
    (hlen : xs.length = ks.length) (hl : ks.length ≤ 1000000000) (hm : most ≤ 1000) (hok : ∀ x ∈ xs, x.Ok) :
    Calls Try.prog 30 #[.slice ka ks.length kc, .slice ra xs.length rc, .func (.func 31) #[] #[], .int .i64 most] w fun e w' => e = joinE kform ks xs most ∧ Tch [] w w' := by
  have HCE : Hid (∀ W, Tch [] w W → ∀ i k x, ks[i]? = some k → xs[i]? = some x → W.cell? ⟨kb, ko + i, none⟩ = some (.int .i64 k) ∧ W.cell? ⟨rb, ro + i * 2, none⟩ = some (.int .i64 x.n) ∧ W.cell? ⟨rb, ro + i * 2 + 1, none⟩ = some (.string x.s) ∧ ka = some ⟨kb, ko, none⟩ ∧ ra = some ⟨rb, ro, none⟩) := fun W t i k x h1 h2 => by
    have r1 := hk.keep0 t
    have r2 := hr.keep0 t
    have := (List.getElem?_eq_some_iff.1 h1).1
    have := (List.getElem?_eq_some_iff.1 h2).1
    exact ⟨r1.one h1 rfl, r2.c0 h2 rfl, r2.c h2 1 rfl, r1.some_ (by omega), r2.some_ (by omega)⟩
  have HFN := Lib.hid (fun (W : World) (k : Int) (x : Vl) (h : x.Ok) => keyForm_any k x W h)
  have HOK := Lib.hid hok
  have HLN := Lib.hid hlen
  have HT := Lib.hid (joinF_take kform ks xs)
  have HLE := Lib.hid (joinF_len kform ks xs)
  have HG : Hid ((joinF kform ks xs).length ≤ most → joinE kform ks xs most = .returned (.tuple #[.string ⟨(joinF kform ks xs).toArray⟩, .bool true])) := fun h => if_pos h
  have HB : Hid (¬ (joinF kform ks xs).length ≤ most → joinE kform ks xs most = .returned (.tuple #[.string ⟨#[]⟩, .bool false])) := fun h => if_neg h
  have HST : Hid (JoRel kform w ks xs most ks.length (.int .i64 0) (w.alloc (.cells #[.pointer none, .slice none 0 0] 93))) := ⟨0, by simp, rfl, by rw [List.take_zero, List.take_zero]; exact Lib.fresh_isBuilder 93 5 w, by simp [joinF], (Tch.refl [] w).alloc _⟩
  have HN : Hid (∃ n, n = xs.length) := ⟨_, rfl⟩
  obtain ⟨xn, hxn⟩ := HN.out
  rw [← hxn]
  have HXN := Lib.hid hxn
  clear hk hr hok hlen hxn HN
  generalize joinE kform ks xs most = E at *
  go_enter Try.func30, Try.ntmps30
  go_wp2_with fail
  go_loopg [15] ks.length (fun n v15 wr => JoRel kform w ks xs most n v15 wr)
  case atStart => exact HST.out
  case round =>
    obtain ⟨i, hni, rfl, hbl, hle, T⟩ := hrel
    match gk, hni with
    | 0, hni =>
      have hlt : decide (i < ks.length) = false := decide_eq_false (by omega)
      obtain rfl : i = ks.length := by omega
      have hx2 : xs.take ks.length = xs := List.take_of_length_le (by rw [HLN.out]; exact Nat.le_refl _)
      rw [List.take_length, hx2] at hbl hle
      have HR := Lib.hid (HG.out hle)
      clear hx2 hle HG HB HT HLE HCE HFN HST
      go_wp2_with fail
      refine (Try.Builder_String_any w.heap.size w.heap.size _ _ hbl T.size).mono ?_
      rintro e w2 ⟨rfl, b2⟩
      have T2 := T.belowNew b2
      go_wp2_with fail
      go_ret2
      exact ⟨by rw [HR.out]; rfl, T2⟩
    | m + 1, hni =>
      have hi' : i < ks.length := by omega
      have hlt : decide (i < ks.length) = true := decide_eq_true hi'
      have hi1 : (i : Int) < (ks.length : Int) := by omega
      obtain ⟨k, hkk⟩ : ∃ k, ks[i]? = some k := ⟨_, List.getElem?_eq_getElem hi'⟩
      obtain ⟨x, hxx⟩ : ∃ x, xs[i]? = some x := ⟨_, List.getElem?_eq_getElem (by have := HLN.out; omega)⟩
      obtain ⟨s0, s1, s2, h1, h2⟩ := HCE.out wr T i k x hkk hxx
      have hxi : i < xn := by have := HLN.out; have := HXN.out; omega
      have hxi1 : (i : Int) < (xn : Int) := by omega
      subst h1 h2
      have hxok := HOK.out x (List.mem_of_getElem? hxx)
      have HF := Lib.hid (fun W => HFN.out W k x hxok)
      have HTK := Lib.hid (HT.out i k x hkk hxx)
      have HLK := Lib.hid (HLE.out (i + 1))
      have HFL := Lib.hid (kform_len k x hxok)
      have HBL := Lib.hid hbl
      have HLE1 := Lib.hid hle
      clear hkk hxx hbl hle hxok
      go_wp2_with fail
      refine (HF.out wr).mono ?_
      rintro e w1 ⟨rfl, t1⟩
      have T1 := T.trans t1
      have hb1 := jbld_keep HBL.out t1 (by simp)
      clear s0 s1 s2 t1 HF HCE HFN HST
      go_wp2_with fail
      refine (bwrite_any w.heap.size w.heap.size _ ⟨(kform k x).toArray⟩ _ hb1 (by rw [Lib.byteCells_length]; have h1 := HLE1.out; have h2 := HFL.out; simp [ByteArray.size]; omega) T1.size).mono ?_
      rintro e w2 ⟨rfl, hb2, b2⟩
      rw [jcells_app, ← HTK.out] at hb2
      have T2 := T1.belowNew b2
      have HB2 := Lib.hid hb2
      clear hb1 b2 hb2
      generalize hJ : joinF kform (ks.take (i + 1)) (xs.take (i + 1)) = J at *
      have HJ := Lib.hid hJ
      clear hJ
      go_wp2_with fail
      refine (Try.Builder_Len w.heap.size w.heap.size _ _ HB2.out).mono ?_
      rintro e w3 ⟨rfl, rfl⟩
      rw [Lib.byteCells_length]
      by_cases hbig : most < J.length
      · have hd : decide (most < J.length) = true := decide_eq_true hbig
        have hdi : decide ((most : Int) < (J.length : Int)) = true := decide_eq_true (by omega)
        have HR := Lib.hid (HB.out (by have := HLK.out; omega))
        clear hbig HG HB HT HLE
        go_wp2_with fail
        go_ret2
        exact ⟨by rw [HR.out]; rfl, T2⟩
      · have hd : decide (most < J.length) = false := decide_eq_false hbig
        have hdi : decide ((most : Int) < (J.length : Int)) = false := decide_eq_false (by omega)
        have hle2 := Lib.hid (show J.length ≤ most by omega)
        clear hbig HG HB HT HLE
        go_wp2_with fail
        go_roundg m
        case measure => omega
        case rel => exact ⟨i + 1, by omega, by go_num, by rw [HJ.out]; exact HB2.out, by rw [HJ.out]; exact hle2.out, T2⟩

set_option maxRecDepth 100000 in
set_option maxHeartbeats 1000000 in
theorem joined_field (ks : List Int) (xs : List Vl) (ka : Option Addr) (kc kb ko : Nat) (ra : Option Addr) (rc rb ro most : Nat) (w : World) (hk : IsKs w ka ks.length kb ko ks) (hr : IsVs w ra xs.length rb ro xs)
    (hlen : xs.length = ks.length) (hl : ks.length ≤ 1000000000) (hm : most ≤ 1000) (hok : ∀ x ∈ xs, x.Ok) :
    Calls Try.prog 30 #[.slice ka ks.length kc, .slice ra xs.length rc, .func (.func 32) #[] #[], .int .i64 most] w fun e w' => e = joinE fform ks xs most ∧ Tch [] w w' := by
  have HCE : Hid (∀ W, Tch [] w W → ∀ i k x, ks[i]? = some k → xs[i]? = some x → W.cell? ⟨kb, ko + i, none⟩ = some (.int .i64 k) ∧ W.cell? ⟨rb, ro + i * 2, none⟩ = some (.int .i64 x.n) ∧ W.cell? ⟨rb, ro + i * 2 + 1, none⟩ = some (.string x.s) ∧ ka = some ⟨kb, ko, none⟩ ∧ ra = some ⟨rb, ro, none⟩) := fun W t i k x h1 h2 => by
    have r1 := hk.keep0 t
    have r2 := hr.keep0 t
    have := (List.getElem?_eq_some_iff.1 h1).1
    have := (List.getElem?_eq_some_iff.1 h2).1
    exact ⟨r1.one h1 rfl, r2.c0 h2 rfl, r2.c h2 1 rfl, r1.some_ (by omega), r2.some_ (by omega)⟩
  have HFN := Lib.hid (fun (W : World) (k : Int) (x : Vl) (h : x.Ok) => field_any k x W h)
  have HOK := Lib.hid hok
  have HLN := Lib.hid hlen
  have HT := Lib.hid (joinF_take fform ks xs)
  have HLE := Lib.hid (joinF_len fform ks xs)
  have HG : Hid ((joinF fform ks xs).length ≤ most → joinE fform ks xs most = .returned (.tuple #[.string ⟨(joinF fform ks xs).toArray⟩, .bool true])) := fun h => if_pos h
  have HB : Hid (¬ (joinF fform ks xs).length ≤ most → joinE fform ks xs most = .returned (.tuple #[.string ⟨#[]⟩, .bool false])) := fun h => if_neg h
  have HST : Hid (JoRel fform w ks xs most ks.length (.int .i64 0) (w.alloc (.cells #[.pointer none, .slice none 0 0] 93))) := ⟨0, by simp, rfl, by rw [List.take_zero, List.take_zero]; exact Lib.fresh_isBuilder 93 5 w, by simp [joinF], (Tch.refl [] w).alloc _⟩
  have HN : Hid (∃ n, n = xs.length) := ⟨_, rfl⟩
  obtain ⟨xn, hxn⟩ := HN.out
  rw [← hxn]
  have HXN := Lib.hid hxn
  clear hk hr hok hlen hxn HN
  generalize joinE fform ks xs most = E at *
  go_enter Try.func30, Try.ntmps30
  go_wp2_with fail
  go_loopg [15] ks.length (fun n v15 wr => JoRel fform w ks xs most n v15 wr)
  case atStart => exact HST.out
  case round =>
    obtain ⟨i, hni, rfl, hbl, hle, T⟩ := hrel
    match gk, hni with
    | 0, hni =>
      have hlt : decide (i < ks.length) = false := decide_eq_false (by omega)
      obtain rfl : i = ks.length := by omega
      have hx2 : xs.take ks.length = xs := List.take_of_length_le (by rw [HLN.out]; exact Nat.le_refl _)
      rw [List.take_length, hx2] at hbl hle
      have HR := Lib.hid (HG.out hle)
      clear hx2 hle HG HB HT HLE HCE HFN HST
      go_wp2_with fail
      refine (Try.Builder_String_any w.heap.size w.heap.size _ _ hbl T.size).mono ?_
      rintro e w2 ⟨rfl, b2⟩
      have T2 := T.belowNew b2
      go_wp2_with fail
      go_ret2
      exact ⟨by rw [HR.out]; rfl, T2⟩
    | m + 1, hni =>
      have hi' : i < ks.length := by omega
      have hlt : decide (i < ks.length) = true := decide_eq_true hi'
      have hi1 : (i : Int) < (ks.length : Int) := by omega
      obtain ⟨k, hkk⟩ : ∃ k, ks[i]? = some k := ⟨_, List.getElem?_eq_getElem hi'⟩
      obtain ⟨x, hxx⟩ : ∃ x, xs[i]? = some x := ⟨_, List.getElem?_eq_getElem (by have := HLN.out; omega)⟩
      obtain ⟨s0, s1, s2, h1, h2⟩ := HCE.out wr T i k x hkk hxx
      have hxi : i < xn := by have := HLN.out; have := HXN.out; omega
      have hxi1 : (i : Int) < (xn : Int) := by omega
      subst h1 h2
      have hxok := HOK.out x (List.mem_of_getElem? hxx)
      have HF := Lib.hid (fun W => HFN.out W k x hxok)
      have HTK := Lib.hid (HT.out i k x hkk hxx)
      have HLK := Lib.hid (HLE.out (i + 1))
      have HFL := Lib.hid (fform_len k x hxok)
      have HBL := Lib.hid hbl
      have HLE1 := Lib.hid hle
      clear hkk hxx hbl hle hxok
      go_wp2_with fail
      refine (HF.out wr).mono ?_
      rintro e w1 ⟨rfl, t1⟩
      have T1 := T.trans t1
      have hb1 := jbld_keep HBL.out t1 (by simp)
      clear s0 s1 s2 t1 HF HCE HFN HST
      go_wp2_with fail
      refine (bwrite_any w.heap.size w.heap.size _ ⟨(fform k x).toArray⟩ _ hb1 (by rw [Lib.byteCells_length]; have h1 := HLE1.out; have h2 := HFL.out; simp [ByteArray.size]; omega) T1.size).mono ?_
      rintro e w2 ⟨rfl, hb2, b2⟩
      rw [jcells_app, ← HTK.out] at hb2
      have T2 := T1.belowNew b2
      have HB2 := Lib.hid hb2
      clear hb1 b2 hb2
      generalize hJ : joinF fform (ks.take (i + 1)) (xs.take (i + 1)) = J at *
      have HJ := Lib.hid hJ
      clear hJ
      go_wp2_with fail
      refine (Try.Builder_Len w.heap.size w.heap.size _ _ HB2.out).mono ?_
      rintro e w3 ⟨rfl, rfl⟩
      rw [Lib.byteCells_length]
      by_cases hbig : most < J.length
      · have hd : decide (most < J.length) = true := decide_eq_true hbig
        have hdi : decide ((most : Int) < (J.length : Int)) = true := decide_eq_true (by omega)
        have HR := Lib.hid (HB.out (by have := HLK.out; omega))
        clear hbig HG HB HT HLE
        go_wp2_with fail
        go_ret2
        exact ⟨by rw [HR.out]; rfl, T2⟩
      · have hd : decide (most < J.length) = false := decide_eq_false hbig
        have hdi : decide ((most : Int) < (J.length : Int)) = false := decide_eq_false (by omega)
        have hle2 := Lib.hid (show J.length ≤ most by omega)
        clear hbig HG HB HT HLE
        go_wp2_with fail
        go_roundg m
        case measure => omega
        case rel => exact ⟨i + 1, by omega, by go_num, by rw [HJ.out]; exact HB2.out, by rw [HJ.out]; exact hle2.out, T2⟩
end Go.Proofs.Ytenohgogfddniaa
