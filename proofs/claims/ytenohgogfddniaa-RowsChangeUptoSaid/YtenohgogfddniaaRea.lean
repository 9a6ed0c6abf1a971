/-
  Layer 6: 'read'.
-/
import Derived.Test.YtenohgogfddniaaRkf
import Derived.Test.YtenohgogfddniaaHav
import Derived.Laws.AppendOwn
import Derived.Lib.IndexLaws
namespace Go.Proofs.Ytenohgogfddniaa
open Go.RowKit
set_option linter.unusedVariables false

/-- Values read one behind the other, behind those that were read. -/
def rdAcc (F : Int → List UInt8 → Int × Vl × Nat) (L : List UInt8) : List Int → Nat → List Vl → Option (List Vl)
  | [], _, acc => some acc
  | k :: ks, at_, acc => if (F k (L.drop at_)).1 = 0 then rdAcc F L ks (at_ + (F k (L.drop at_)).2.2) (acc ++ [(F k (L.drop at_)).2.1]) else none
theorem ib_lt (L : List UInt8) (h : 0 ≤ Lib.indexByte L 0) : Lib.indexByte L 0 < L.length := by
  obtain ⟨o, ho⟩ := Int.eq_ofNat_of_zero_le h
  have := (List.getElem?_eq_some_iff.1 (Lib.indexByte_some ho).1).1
  omega
theorem rdKey_len (k : Int) (L : List UInt8) (h : (rdKey k L).1 = 0) : (rdKey k L).2.2 ≤ L.length := by
  unfold rdKey at h ⊢
  by_cases hk : k = 0
  · rw [if_pos hk] at h ⊢
    by_cases h8 : L.length < 8
    · rw [if_pos h8] at h; simp at h
    · rw [if_neg h8]; simp only; omega
  · rw [if_neg hk] at h ⊢
    by_cases hc : (Lib.cut L [0]).2.2 = true
    · rw [if_pos hc]
      unfold Lib.cut at hc ⊢
      by_cases hi : 0 ≤ Lib.index L [0]
      · rw [if_pos hi]
        simp only [List.length_take]
        have hi2 : 0 ≤ Lib.indexByte L 0 := by rw [Lib.index_one] at hi; exact hi
        have h1 := ib_lt L hi2
        rw [Lib.index_one]
        omega
      · rw [if_neg hi] at hc; simp at hc
    · rw [if_neg hc] at h; simp at h
theorem rdField_len (k : Int) (L : List UInt8) (h : (rdField k L).1 = 0) : (rdField k L).2.2 ≤ L.length := by
  unfold rdField at h ⊢
  by_cases hk : k = 0
  · rw [if_pos hk] at h ⊢
    by_cases hc : (rdu L 0 0).1 = 0
    · rw [if_pos hc]
      rcases hr : rdu L 0 0 with ⟨c, v, n⟩
      rw [hr] at hc
      have := rdu_bound L 0 0 c v n hr (by simp) (by omega) hc
      simp only; omega
    · rw [if_neg hc] at h; exact absurd h hc
  · rw [if_neg hk] at h ⊢
    simp only at h ⊢
    rcases hr : rtx L with ⟨c, t, n⟩
    rw [hr] at h
    simp only at h; subst h
    exact (rtx_len L t n hr).1

def RaRel (F : Int → List UInt8 → Int × Vl × Nat) (w : World) (s : ByteArray) (ks : List Int) (p n : Nat) (v18 v1 v10 : Value) (wr : World) : Prop :=
  ∃ (i at_ : Nat) (acc : List Vl) (x : Option Addr) (c : Nat), n + i = ks.length ∧ v18 = .int .i64 i ∧ v1 = .int .i64 at_ ∧ v10 = .slice x acc.length c ∧ acc.length = i ∧ at_ ≤ s.size ∧
    wr.ownsRow w.heap.size 58 2 (.slice x acc.length c) acc.length (acc.flatMap fVl) ∧ rdAcc F s.data.toList ks p [] = rdAcc F s.data.toList (ks.drop i) at_ acc ∧ Tch [] w wr
def ReaPost (w : World) (res : Option (List Vl)) (e : Ending) (w' : World) : Prop :=
  match res with
  | none => e = .returned (.tuple #[.slice none 0 0, .bool false]) ∧ Tch [] w w'
  | some l => ∃ x c, e = .returned (.tuple #[.slice x l.length c, .bool true]) ∧ w'.ownsRow w.heap.size 58 2 (.slice x l.length c) l.length (l.flatMap fVl) ∧ Tch [] w w'
theorem Try.info_vl : (Try.prog.info? 58).map (fun i => (i.zero, i.size, i.bytes)) = some (some (.agg #[.int .i64 0, .string ⟨#[]⟩]), 2, 24) := by kernel_rfl
theorem cells_two2 (w : World) (x y : Value) (T : TypeId) : ∀ j u, [x, y][j]? = some u → (w.alloc (.cells #[x, y] T)).cell? ((⟨w.heap.size, 0, none⟩ : Addr).add j) = some u := fun j u hu => by
  rw [add_mk, blk_cell (blk_new w _), Nat.zero_add]; simpa using hu

set_option maxRecDepth 100000 in
set_option maxHeartbeats 4000000 in
theorem read_key (s : ByteArray) (p : Nat) (ks : List Int) (ka : Option Addr) (kc kb ko : Nat) (w : World) (hs : s.size ≤ 1000000000) (hp : p ≤ s.size) (hk : IsKs w ka ks.length kb ko ks) (hl : ks.length ≤ 1000000000) (hm : MaxL w) :
    Calls Try.prog 38 #[.string s, .int .i64 p, .slice ka ks.length kc, .func (.func 39) #[] #[]] w (ReaPost w (rdAcc rdKey s.data.toList ks p [])) := by
  have HCE : Hid (∀ W, Tch [] w W → ∀ i k, ks[i]? = some k → W.cell? ⟨kb, ko + i, none⟩ = some (.int .i64 k) ∧ ka = some ⟨kb, ko, none⟩) := fun W t i k h1 => by
    have r1 := hk.keep0 t
    have := (List.getElem?_eq_some_iff.1 h1).1
    exact ⟨r1.one h1 rfl, r1.some_ (by omega)⟩
  have HFN : Hid (∀ W, Tch [] w W → ∀ (k : Int) (at_ : Nat), at_ ≤ s.size → Calls Try.prog 39 #[.int .i64 k, .string s, .int .i64 at_] W fun e w' => e = rdvE (rdKey k (s.data.toList.drop at_)) at_ ∧ Tch [] W w') := fun W t k at_ h => readKeyForm_any k s at_ W hs h (hm.keep t)
  have HLEN : Hid (∀ k (at_ : Nat), at_ ≤ s.size → (rdKey k (s.data.toList.drop at_)).1 = 0 → at_ + (rdKey k (s.data.toList.drop at_)).2.2 ≤ s.size) := fun k at_ h1 h2 => by
    have := rdKey_len k _ h2
    rw [List.length_drop, ← Lib.size_eq] at this
    omega
  have HST : Hid (RaRel rdKey w s ks p ks.length (.int .i64 0) (.int .i64 p) (.slice none 0 0) w) := ⟨0, p, [], none, 0, by simp, rfl, rfl, rfl, rfl, hp, World.ownsRow_nil w w.heap.size 58 2, by simp, Tch.refl _ _⟩
  have HSN : Hid (rdAcc rdKey s.data.toList ks p [] = none → ∀ W, Tch [] w W → ReaPost w (rdAcc rdKey s.data.toList ks p []) (.returned (.tuple #[.slice none 0 0, .bool false])) W) := fun h W t => by rw [h]; exact ⟨rfl, t⟩
  have HSS : Hid (∀ l, rdAcc rdKey s.data.toList ks p [] = some l → ∀ W x c, W.ownsRow w.heap.size 58 2 (.slice x l.length c) l.length (l.flatMap fVl) → Tch [] w W → ReaPost w (rdAcc rdKey s.data.toList ks p []) (.returned (.tuple #[.slice x l.length c, .bool true])) W) := fun l h W x c h2 t => by rw [h]; exact ⟨x, c, rfl, h2, t⟩
  obtain ⟨i0, hi, hz0, hz1, hz2⟩ := info_parts Try.info_vl
  clear hk hm hp
  generalize ReaPost w (rdAcc rdKey s.data.toList ks p []) = Q at *
  go_enter Try.func38, Try.ntmps38
  go_wp2_with fail
  go_loopg [18, 1, 10] ks.length (fun n v18 v1 v10 wr => RaRel rdKey w s ks p n v18 v1 v10 wr)
  case atStart => exact HST.out
  case round =>
    obtain ⟨i, at_, acc, x, c, hni, rfl, rfl, rfl, hai, hat, hown, hacc, T⟩ := hrel
    have HAI := Lib.hid hai
    clear hai
    match gk, hni with
    | 0, hni =>
      have hlt : decide (i < ks.length) = false := decide_eq_false (by omega)
      rw [List.drop_of_length_le (by omega)] at hacc
      have HE := Lib.hid (HSS.out acc (by rw [hacc]; rfl) wr x c hown T)
      clear hown hacc HST HSN HSS HFN HCE HLEN
      go_wp2_with fail
      first | exact HE.out | (go_ret2; exact HE.out)
    | m + 1, hni =>
      have hi' : i < ks.length := by omega
      have hlt : decide (i < ks.length) = true := decide_eq_true hi'
      have hi1 : (i : Int) < (ks.length : Int) := by omega
      obtain ⟨s0, ha⟩ := HCE.out wr T i _ (List.getElem?_eq_getElem hi')
      rw [List.drop_eq_getElem_cons hi', rdAcc] at hacc
      generalize ks[i] = k at s0 hacc
      subst ha
      have HF := Lib.hid (HFN.out wr T k at_ hat)
      have hln := HLEN.out k at_ hat
      generalize rdKey k (s.data.toList.drop at_) = r at *
      obtain ⟨C, y, q⟩ := r
      obtain ⟨yn, ys⟩ := y
      have HAC := Lib.hid hacc
      have HOW := Lib.hid hown
      clear hacc hown
      simp only at hln
      unfold rdvE Vl.agg at HF
      simp only at HF
      go_wp2_with fail
      refine HF.out.mono ?_
      rintro e w1 ⟨rfl, t1⟩
      have T1 := T.trans t1
      have hws := T1.size
      clear s0
      by_cases hC : C = 0
      · subst hC
        have hln2 := hln rfl
        have HAC2 := HAC.out
        rw [if_pos rfl] at HAC2
        have HAC3 := Lib.hid HAC2
        have hown1 := own_keep HOW.out t1 (fun _ _ => by simp)
        have HO1 := Lib.hid hown1
        rw [if_pos rfl]
        clear HAC2 HAC hown1 HOW t1 HF hln
        go_wp2_with (at_builtin; go_loud (refine wpList_append_own _ rfl _ _ 26 rfl w.heap.size 58 i0 (.agg #[.int .i64 0, .string ⟨#[]⟩]) 2 24 Try.underlying26 hi hz0 hz1 hz2 rfl (by decide) _ _ _ rfl ((HO1.out.alloc (.cells #[.int .i64 yn, .string ys] 58)).alloc (.cells #[.int .i64 yn, .string ys] 58)) ⟨w1.heap.size + 1, 0, none⟩ 1 1 [.int .i64 yn, .string ys] rfl rfl (fun j u hu => by have := cells_two2 (w1.alloc (.cells #[.int .i64 yn, .string ys] 58)) _ _ 58 j u hu; simpa using this) (by intro u hu; simp only [List.mem_cons, List.not_mem_nil, or_false] at hu; rcases hu with rfl | rfl <;> rfl) ?c3 ?c4 ?c5 ?_))
        case c3 => have := HAI.out; unfold maxLen; omega
        case c4 => have := HAI.out; omega
        case c5 => have := HAI.out; first | (simp; omega) | omega
        intro v' w2 hown2 hgrow _
        have T2 := ((T1.alloc (.cells #[.int .i64 yn, .string ys] 58)).alloc (.cells #[.int .i64 yn, .string ys] 58)).own ((HO1.out.alloc _).alloc _) (Nat.le_refl _) hgrow
        obtain ⟨x2, c2, rfl⟩ := own_slice hown2
        rw [show acc.flatMap fVl ++ [Value.int .i64 yn, .string ys] = (acc ++ [(⟨yn, ys⟩ : Vl)]).flatMap fVl from by rw [List.flatMap_append]; rfl, show acc.length + 1 = (acc ++ [(⟨yn, ys⟩ : Vl)]).length from by simp] at hown2
        have HO := Lib.hid hown2
        clear hown2 hgrow HO1
        have HA2 := Lib.hid (show (acc ++ [(⟨yn, ys⟩ : Vl)]).length = i + 1 from by rw [List.length_append, HAI.out]; rfl)
        clear HAI
        go_wp2_with fail
        go_roundg m
        case measure => omega
        case rel => exact ⟨i + 1, at_ + q, acc ++ [⟨yn, ys⟩], x2, c2, by omega, by go_num, by go_num, by simp, HA2.out, hln2, HO.out, HAC3.out, T2⟩
      · have hCb : (C != 0) = true := by simpa using hC
        have HAC2 := HAC.out
        rw [if_neg hC] at HAC2
        have HE := Lib.hid (HSN.out HAC2 (w1.alloc (.cells #[.int .i64 yn, .string ys] 58)) (T1.alloc _))
        rw [if_neg hC]
        clear HAC2 HAC HOW t1 HF HST HSN HSS HFN HCE HLEN hC
        go_wp2_with fail
        first | exact HE.out | (go_ret2; exact HE.out)

set_option maxRecDepth 100000 in
set_option maxHeartbeats 4000000 in
theorem read_field (s : ByteArray) (p : Nat) (ks : List Int) (ka : Option Addr) (kc kb ko : Nat) (w : World) (hs : s.size ≤ 1000000000) (hp : p ≤ s.size) (hk : IsKs w ka ks.length kb ko ks) (hl : ks.length ≤ 1000000000) (hm : MaxL w) :
    Calls Try.prog 38 #[.string s, .int .i64 p, .slice ka ks.length kc, .func (.func 40) #[] #[]] w (ReaPost w (rdAcc rdField s.data.toList ks p [])) := by
  have HCE : Hid (∀ W, Tch [] w W → ∀ i k, ks[i]? = some k → W.cell? ⟨kb, ko + i, none⟩ = some (.int .i64 k) ∧ ka = some ⟨kb, ko, none⟩) := fun W t i k h1 => by
    have r1 := hk.keep0 t
    have := (List.getElem?_eq_some_iff.1 h1).1
    exact ⟨r1.one h1 rfl, r1.some_ (by omega)⟩
  have HFN : Hid (∀ W, Tch [] w W → ∀ (k : Int) (at_ : Nat), at_ ≤ s.size → Calls Try.prog 40 #[.int .i64 k, .string s, .int .i64 at_] W fun e w' => e = rdvE (rdField k (s.data.toList.drop at_)) at_ ∧ Tch [] W w') := fun W t k at_ h => readField_any k s at_ W hs
  have HLEN : Hid (∀ k (at_ : Nat), at_ ≤ s.size → (rdField k (s.data.toList.drop at_)).1 = 0 → at_ + (rdField k (s.data.toList.drop at_)).2.2 ≤ s.size) := fun k at_ h1 h2 => by
    have := rdField_len k _ h2
    rw [List.length_drop, ← Lib.size_eq] at this
    omega
  have HST : Hid (RaRel rdField w s ks p ks.length (.int .i64 0) (.int .i64 p) (.slice none 0 0) w) := ⟨0, p, [], none, 0, by simp, rfl, rfl, rfl, rfl, hp, World.ownsRow_nil w w.heap.size 58 2, by simp, Tch.refl _ _⟩
  have HSN : Hid (rdAcc rdField s.data.toList ks p [] = none → ∀ W, Tch [] w W → ReaPost w (rdAcc rdField s.data.toList ks p []) (.returned (.tuple #[.slice none 0 0, .bool false])) W) := fun h W t => by rw [h]; exact ⟨rfl, t⟩
  have HSS : Hid (∀ l, rdAcc rdField s.data.toList ks p [] = some l → ∀ W x c, W.ownsRow w.heap.size 58 2 (.slice x l.length c) l.length (l.flatMap fVl) → Tch [] w W → ReaPost w (rdAcc rdField s.data.toList ks p []) (.returned (.tuple #[.slice x l.length c, .bool true])) W) := fun l h W x c h2 t => by rw [h]; exact ⟨x, c, rfl, h2, t⟩
  obtain ⟨i0, hi, hz0, hz1, hz2⟩ := info_parts Try.info_vl
  clear hk hm hp
  generalize ReaPost w (rdAcc rdField s.data.toList ks p []) = Q at *
  go_enter Try.func38, Try.ntmps38
  go_wp2_with fail
  go_loopg [18, 1, 10] ks.length (fun n v18 v1 v10 wr => RaRel rdField w s ks p n v18 v1 v10 wr)
  case atStart => exact HST.out
  case round =>
    obtain ⟨i, at_, acc, x, c, hni, rfl, rfl, rfl, hai, hat, hown, hacc, T⟩ := hrel
    have HAI := Lib.hid hai
    clear hai
    match gk, hni with
    | 0, hni =>
      have hlt : decide (i < ks.length) = false := decide_eq_false (by omega)
      rw [List.drop_of_length_le (by omega)] at hacc
      have HE := Lib.hid (HSS.out acc (by rw [hacc]; rfl) wr x c hown T)
      clear hown hacc HST HSN HSS HFN HCE HLEN
      go_wp2_with fail
      first | exact HE.out | (go_ret2; exact HE.out)
    | m + 1, hni =>
      have hi' : i < ks.length := by omega
      have hlt : decide (i < ks.length) = true := decide_eq_true hi'
      have hi1 : (i : Int) < (ks.length : Int) := by omega
      obtain ⟨s0, ha⟩ := HCE.out wr T i _ (List.getElem?_eq_getElem hi')
      rw [List.drop_eq_getElem_cons hi', rdAcc] at hacc
      generalize ks[i] = k at s0 hacc
      subst ha
      have HF := Lib.hid (HFN.out wr T k at_ hat)
      have hln := HLEN.out k at_ hat
      generalize rdField k (s.data.toList.drop at_) = r at *
      obtain ⟨C, y, q⟩ := r
      obtain ⟨yn, ys⟩ := y
      have HAC := Lib.hid hacc
      have HOW := Lib.hid hown
      clear hacc hown
      simp only at hln
      unfold rdvE Vl.agg at HF
      simp only at HF
      go_wp2_with fail
      refine HF.out.mono ?_
      rintro e w1 ⟨rfl, t1⟩
      have T1 := T.trans t1
      have hws := T1.size
      clear s0
      by_cases hC : C = 0
      · subst hC
        have hln2 := hln rfl
        have HAC2 := HAC.out
        rw [if_pos rfl] at HAC2
        have HAC3 := Lib.hid HAC2
        have hown1 := own_keep HOW.out t1 (fun _ _ => by simp)
        have HO1 := Lib.hid hown1
        rw [if_pos rfl]
        clear HAC2 HAC hown1 HOW t1 HF hln
        go_wp2_with (at_builtin; go_loud (refine wpList_append_own _ rfl _ _ 26 rfl w.heap.size 58 i0 (.agg #[.int .i64 0, .string ⟨#[]⟩]) 2 24 Try.underlying26 hi hz0 hz1 hz2 rfl (by decide) _ _ _ rfl ((HO1.out.alloc (.cells #[.int .i64 yn, .string ys] 58)).alloc (.cells #[.int .i64 yn, .string ys] 58)) ⟨w1.heap.size + 1, 0, none⟩ 1 1 [.int .i64 yn, .string ys] rfl rfl (fun j u hu => by have := cells_two2 (w1.alloc (.cells #[.int .i64 yn, .string ys] 58)) _ _ 58 j u hu; simpa using this) (by intro u hu; simp only [List.mem_cons, List.not_mem_nil, or_false] at hu; rcases hu with rfl | rfl <;> rfl) ?c3 ?c4 ?c5 ?_))
        case c3 => have := HAI.out; unfold maxLen; omega
        case c4 => have := HAI.out; omega
        case c5 => have := HAI.out; first | (simp; omega) | omega
        intro v' w2 hown2 hgrow _
        have T2 := ((T1.alloc (.cells #[.int .i64 yn, .string ys] 58)).alloc (.cells #[.int .i64 yn, .string ys] 58)).own ((HO1.out.alloc _).alloc _) (Nat.le_refl _) hgrow
        obtain ⟨x2, c2, rfl⟩ := own_slice hown2
        rw [show acc.flatMap fVl ++ [Value.int .i64 yn, .string ys] = (acc ++ [(⟨yn, ys⟩ : Vl)]).flatMap fVl from by rw [List.flatMap_append]; rfl, show acc.length + 1 = (acc ++ [(⟨yn, ys⟩ : Vl)]).length from by simp] at hown2
        have HO := Lib.hid hown2
        clear hown2 hgrow HO1
        have HA2 := Lib.hid (show (acc ++ [(⟨yn, ys⟩ : Vl)]).length = i + 1 from by rw [List.length_append, HAI.out]; rfl)
        clear HAI
        go_wp2_with fail
        go_roundg m
        case measure => omega
        case rel => exact ⟨i + 1, at_ + q, acc ++ [⟨yn, ys⟩], x2, c2, by omega, by go_num, by go_num, by simp, HA2.out, hln2, HO.out, HAC3.out, T2⟩
      · have hCb : (C != 0) = true := by simpa using hC
        have HAC2 := HAC.out
        rw [if_neg hC] at HAC2
        have HE := Lib.hid (HSN.out HAC2 (w1.alloc (.cells #[.int .i64 yn, .string ys] 58)) (T1.alloc _))
        rw [if_neg hC]
        clear HAC2 HAC HOW t1 HF HST HSN HSS HFN HCE HLEN hC
        go_wp2_with fail
        first | exact HE.out | (go_ret2; exact HE.out)
end Go.Proofs.Ytenohgogfddniaa
