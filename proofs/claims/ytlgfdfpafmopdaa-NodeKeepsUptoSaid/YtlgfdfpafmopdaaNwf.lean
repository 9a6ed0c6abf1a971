/-
  Which nodes are fit, as package node tells it. Conditions: the lists and texts are short (Nv.Ok).
-/
import Derived.Test.YtlgfdfpafmopdaaNwb
import Derived.Test.YtlgfdfpafmopdaaNG
namespace Go.Proofs.Ytlgfdfpafmopdaa
open Go.RowKit
set_option linter.unusedVariables false

theorem less_no : ∀ (x y : List UInt8), Go.Op.bytesLess x y = true → Go.Op.bytesLess y x = false ∧ (y == x) = false := by
  intro x
  induction x with
  | nil => intro y h; cases y with
    | nil => simp [Go.Op.bytesLess] at h
    | cons b y => exact ⟨by simp [Go.Op.bytesLess], by simp⟩
  | cons a x ih => intro y h; cases y with
    | nil => simp [Go.Op.bytesLess] at h
    | cons b y =>
      simp only [Go.Op.bytesLess] at h ⊢
      by_cases hab : a < b
      · have h1 : ¬ b < a := by intro h2; exact absurd (UInt8.lt_trans hab h2) (UInt8.lt_irrefl _)
        have h3 : ¬ b = a := by intro h2; subst h2; exact absurd hab (UInt8.lt_irrefl _)
        simp [h1, h3]
      · simp [hab] at h
        obtain ⟨rfl, h⟩ := h
        have := ih y h
        have h1 : ¬ a < a := UInt8.lt_irrefl _
        simp [h1, this.1]
        simpa using this.2
theorem sle_slt (k p : ByteArray) : sle k p = !slt p k := by
  cases h : slt p k
  · cases h2 : sle k p
    · have := slt_of h2; rw [h] at this; cases this
    · rfl
  · have := less_no _ _ h
    unfold sle slt
    rw [this.1, this.2]
    rfl
/-- Keys that rise. -/
def kOk : Option ByteArray → List ByteArray → Bool
  | _, [] => true
  | prev, k :: ks => decide (1 ≤ k.size) && decide (k.size ≤ 48) && (match prev with | none => true | some p => slt p k) && kOk (some k) ks
def vOk (l : List ByteArray) : Bool := l.all fun x => decide (x.size ≤ 200)
def iOk (l : List Int) : Bool := l.all fun x => decide (1 ≤ x) && decide (x < 16384)

theorem mkN_leaf (keys vals : List ByteArray) (kids : List Int) (h : vals.length = keys.length) : mkN true keys vals kids = List.zipWith (fun k x => (⟨k, x, 0⟩ : En)) keys vals := by
  apply List.ext_getElem?
  intro k
  rcases hk : keys[k]? with _ | key
  · have h1 : keys.length ≤ k := List.getElem?_eq_none_iff.1 hk
    rw [List.getElem?_eq_none (by rw [mkN_len]; exact h1), List.getElem?_eq_none (by rw [List.length_zipWith]; omega)]
  · have hlt := (List.getElem?_eq_some_iff.1 hk).1
    rw [mkN_get _ _ _ _ _ _ hk, List.getElem?_zipWith, hk, List.getElem?_eq_getElem (by omega : k < vals.length)]
    simp [mkE, h, hlt]
theorem mkN_kids (keys vals : List ByteArray) (kids : List Int) (h : kids.length = keys.length) : mkN false keys vals kids = List.zipWith (fun k x => (⟨k, ⟨#[]⟩, x⟩ : En)) keys kids := by
  apply List.ext_getElem?
  intro k
  rcases hk : keys[k]? with _ | key
  · have h1 : keys.length ≤ k := List.getElem?_eq_none_iff.1 hk
    rw [List.getElem?_eq_none (by rw [mkN_len]; exact h1), List.getElem?_eq_none (by rw [List.length_zipWith]; omega)]
  · have hlt := (List.getElem?_eq_some_iff.1 hk).1
    rw [mkN_get _ _ _ _ _ _ hk, List.getElem?_zipWith, hk, List.getElem?_eq_getElem (by omega : k < kids.length)]
    simp [mkE, h, hlt]
theorem fit_leaf : ∀ (keys vals : List ByteArray) (prev : Option ByteArray), vals.length = keys.length → fitFrom true prev (List.zipWith (fun k x => (⟨k, x, 0⟩ : En)) keys vals) = (kOk prev keys && vOk vals)
  | [], [], prev, h => by cases prev <;> rfl
  | [], x :: vals, prev, h => by simp at h
  | k :: keys, [], prev, h => by simp at h
  | k :: keys, x :: vals, prev, h => by
    have ih := fit_leaf keys vals (some k) (by simpa using h)
    have hv : vOk (x :: vals) = (decide (x.size ≤ 200) && vOk vals) := by simp [vOk]
    rw [List.zipWith_cons_cons, hv]
    cases prev with
    | none =>
      simp only [fitFrom, kOk]
      rw [ih]
      simp only [fitE, if_true]
      cases decide (1 ≤ k.size) <;> cases decide (k.size ≤ 48) <;> cases decide (x.size ≤ 200) <;> cases kOk (some k) keys <;> cases vOk vals <;> rfl
    | some p =>
      simp only [fitFrom, kOk]
      rw [ih, sle_slt]
      simp only [fitE, if_true, Bool.not_not]
      cases decide (1 ≤ k.size) <;> cases decide (k.size ≤ 48) <;> cases decide (x.size ≤ 200) <;> cases kOk (some k) keys <;> cases vOk vals <;> cases slt p k <;> rfl
theorem fit_kids : ∀ (keys : List ByteArray) (kids : List Int) (prev : Option ByteArray), kids.length = keys.length → fitFrom false prev (List.zipWith (fun k x => (⟨k, ⟨#[]⟩, x⟩ : En)) keys kids) = (kOk prev keys && iOk kids)
  | [], [], prev, h => by cases prev <;> rfl
  | [], x :: kids, prev, h => by simp at h
  | k :: keys, [], prev, h => by simp at h
  | k :: keys, x :: kids, prev, h => by
    have ih := fit_kids keys kids (some k) (by simpa using h)
    have hv : iOk (x :: kids) = (decide (1 ≤ x) && decide (x < 16384) && iOk kids) := by simp [iOk]
    rw [List.zipWith_cons_cons, hv]
    cases prev with
    | none =>
      simp only [fitFrom, kOk]
      rw [ih]
      simp only [fitE, if_false, Bool.false_eq_true]
      cases decide (1 ≤ k.size) <;> cases decide (k.size ≤ 48) <;> cases decide (1 ≤ x) <;> cases decide (x < 16384) <;> cases kOk (some k) keys <;> cases iOk kids <;> rfl
    | some p =>
      simp only [fitFrom, kOk]
      rw [ih, sle_slt]
      simp only [fitE, if_false, Bool.false_eq_true, Bool.not_not]
      cases decide (1 ≤ k.size) <;> cases decide (k.size ≤ 48) <;> cases decide (1 ≤ x) <;> cases decide (x < 16384) <;> cases kOk (some k) keys <;> cases iOk kids <;> cases slt p k <;> rfl
theorem fits_leaf (v : Nv) (h : v.leaf = true) : v.fits = (kOk none v.keys && (v.kids.length == 0 && (vOk v.vals && v.vals.length == v.keys.length)) && decide ((ndb v.leaf v.es).length ≤ 1024)) := by
  unfold Nv.fits Nv.lens fitN
  rw [h]
  simp only [↓reduceIte, Bool.true_or, Bool.and_true]
  by_cases h1 : v.vals.length = v.keys.length
  · have he : v.es = List.zipWith (fun k x => (⟨k, x, 0⟩ : En)) v.keys v.vals := by unfold Nv.es; rw [h, mkN_leaf _ _ _ h1]
    have hf := fit_leaf v.keys v.vals none h1
    rw [← he] at hf
    rw [hf, h1]
    cases kOk none v.keys <;> cases vOk v.vals <;> cases (v.kids.length == 0) <;> simp
  · have h2 : (v.vals.length == v.keys.length) = false := by simpa using h1
    rw [h2]
    simp
theorem fits_kids (v : Nv) (h : v.leaf = false) : v.fits = (kOk none v.keys && (v.vals.length == 0 && (iOk v.kids && v.kids.length == v.keys.length && decide (0 < v.keys.length))) && decide ((ndb v.leaf v.es).length ≤ 1024)) := by
  unfold Nv.fits Nv.lens fitN
  rw [h]
  simp only [↓reduceIte, Bool.false_eq_true, Bool.false_or]
  by_cases h1 : v.kids.length = v.keys.length
  · have he : v.es = List.zipWith (fun k x => (⟨k, ⟨#[]⟩, x⟩ : En)) v.keys v.kids := by unfold Nv.es; rw [h, mkN_kids _ _ _ h1]
    have hf := fit_kids v.keys v.kids none h1
    rw [← he] at hf
    rw [hf, h1, v.es_len]
    cases kOk none v.keys <;> cases iOk v.kids <;> cases (v.vals.length == 0) <;> cases decide (0 < v.keys.length) <;> simp
  · have h2 : (v.kids.length == v.keys.length) = false := by simpa using h1
    rw [h2]
    simp

/-- The key ahead of the k-th one. -/
def prevO (keys : List ByteArray) (k : Nat) : Option ByteArray := if k = 0 then none else keys[k - 1]?
theorem kok_step (keys : List ByteArray) (k : Nat) (key : ByteArray) (h : keys[k]? = some key) : kOk (prevO keys k) (keys.drop k) = (decide (1 ≤ key.size) && decide (key.size ≤ 48) && (match prevO keys k with | none => true | some p => slt p key) && kOk (some key) (keys.drop (k + 1))) := by
  obtain ⟨hk, he⟩ := List.getElem?_eq_some_iff.1 h
  rw [List.drop_eq_getElem_cons hk, he]
  generalize prevO keys k = p
  cases p <;> rfl
theorem prevO_succ (keys : List ByteArray) (k : Nat) (key : ByteArray) (h : keys[k]? = some key) : prevO keys (k + 1) = some key := by simp [prevO, h]

set_option maxRecDepth 100000 in
set_option maxHeartbeats 1000000 in
theorem nareKeys_any (a : Option Addr) (n c b o : Nat) (keys : List ByteArray) (w : World) (h : IsR fStr 1 w a n b o keys) (hn : keys.length ≤ 1000000000) (hs : ∀ x ∈ keys, x.size ≤ 1000000000) :
    Calls Try.prog 41 #[.slice a n c] w fun e w' => e = .returned (.bool (kOk none keys)) ∧ Tch [] w w' := by
  obtain rfl := h.hlen
  go_enter Try.func41, Try.ntmps41
  go_wp2_with fail
  go_loopw [7] (fun v7 wr => ∃ k : Nat, k ≤ keys.length ∧ v7 = .int .i64 k ∧ kOk none keys = kOk (prevO keys k) (keys.drop k) ∧ Tch [] w wr) (fun v7 _ => keys.length - (intOf v7).toNat)
  case atStart => exact ⟨0, by omega, rfl, rfl, Tch.refl _ _⟩
  case round =>
    obtain ⟨k, hk, rfl, hok, T⟩ := hrel
    by_cases hkl : k < keys.length
    · have hget := List.getElem?_eq_getElem hkl
      have hr := h.keep0 T
      have ha := hr.some_ (by omega)
      have hbl := hr.lt (by omega)
      have x0 := hr.one hget (v := .string keys[k]) rfl
      have hst := hok.trans (kok_step keys k _ hget)
      have hps := prevO_succ keys k _ hget
      have hsz := hs _ (List.getElem_mem hkl)
      subst ha
      generalize keys[k] = key at *
      have HST := Lib.hid hst
      have HPS := Lib.hid hps
      clear hget hr hst hps hok hs
      by_cases hz : key.size = 0
      · have hd0 : key.toList.isEmpty = true := by rw [ByteArray.toList_eq, List.isEmpty_iff, ← List.length_eq_zero_iff, ← Lib.size_eq]; exact hz
        have HR : Hid (kOk none keys = false) := by show _ = _; rw [HST.out]; simp [hz]
        go_wp2_with fail
        go_ret
        exact ⟨by rw [HR.out]; rfl, T⟩
      have hd0 : key.toList.isEmpty = false := by
        rw [ByteArray.toList_eq]
        cases h0 : key.data.toList.isEmpty
        · rfl
        · rw [List.isEmpty_iff, ← List.length_eq_zero_iff, ← Lib.size_eq] at h0; omega
      by_cases h48 : 48 < key.size
      · have hd1 : decide (48 < key.size) = true := decide_eq_true h48
        have hd1i : decide ((48 : Int) < (key.size : Int)) = true := decide_eq_true (by omega)
        have HR : Hid (kOk none keys = false) := by show _ = _; rw [HST.out]; simp [show ¬ key.size ≤ 48 from by omega]
        go_wp2_with fail
        go_ret
        exact ⟨by rw [HR.out]; rfl, T⟩
      have hd1 : decide (48 < key.size) = false := decide_eq_false h48
      have hd1i : decide ((48 : Int) < (key.size : Int)) = false := decide_eq_false (by omega)
      by_cases hk0 : k = 0
      · have hc0 : decide (0 < k) = false := decide_eq_false (by omega)
        have hc0i : decide ((0 : Int) < (k : Int)) = false := decide_eq_false (by omega)
        have HR : Hid (kOk none keys = kOk (prevO keys (k + 1)) (keys.drop (k + 1))) := by show _ = _; rw [HST.out, HPS.out]; simp [prevO, hk0, show 1 ≤ key.size from by omega, show key.size ≤ 48 from by omega]
        clear HST hk0
        go_wp2_with fail
        go_roundw
        case rel => exact ⟨k + 1, by omega, by go_num, HR.out, T⟩
        case measure => simp [intOf]; omega
      have hkm : k - 1 < keys.length := by omega
      have hgp := List.getElem?_eq_getElem hkm
      have y0 := (h.keep0 T).one hgp (v := .string keys[k - 1]) rfl
      have hpo : prevO keys k = some keys[k - 1] := by unfold prevO; rw [if_neg hk0, hgp]
      rw [hpo] at HST
      generalize keys[k - 1] = prev at *
      clear hgp hpo
      have hc0 : decide (0 < k) = true := decide_eq_true (by omega)
      have hc0i : decide ((0 : Int) < (k : Int)) = true := decide_eq_true (by omega)
      have hI3 : (0 : Int) ≤ (k : Int) - 1 := by omega
      have hI4 : (k : Int) - 1 < (keys.length : Int) := by omega
      cases hl : slt prev key
      · have hl2 : Go.Op.bytesLess prev.toList key.toList = false := hl
        have HR : Hid (kOk none keys = false) := by show _ = _; rw [HST.out]; simp [hl]
        clear HST hl h
        go_wp2_with fail
        go_ret
        exact ⟨by rw [HR.out]; rfl, T⟩
      · have hl2 : Go.Op.bytesLess prev.toList key.toList = true := hl
        have HR : Hid (kOk none keys = kOk (prevO keys (k + 1)) (keys.drop (k + 1))) := by show _ = _; rw [HST.out, HPS.out]; simp [hl, show 1 ≤ key.size from by omega, show key.size ≤ 48 from by omega]
        clear HST hl h
        go_wp2_with fail
        go_roundw
        case rel => exact ⟨k + 1, by omega, by go_num, HR.out, T⟩
        case measure => simp [intOf]; omega
    · obtain rfl : k = keys.length := by omega
      have HR : Hid (kOk none keys = true) := by show _ = _; rw [hok, List.drop_length]; cases prevO keys keys.length <;> rfl
      clear hok h
      go_wp2_with fail
      go_ret
      exact ⟨by rw [HR.out]; rfl, T⟩

theorem ibeq (a b : Nat) : (((a : Nat) : Int) == ((b : Nat) : Int)) = (a == b) := by
  by_cases h : a = b
  · subst h; simp
  · have h1 : (a == b) = false := by simpa using h
    rw [h1, beq_eq_false_iff_ne]; omega
set_option maxRecDepth 100000 in
theorem nareValues_any (a : Option Addr) (n c b o : Nat) (vals : List ByteArray) (m : Nat) (w : World) (h : IsR fStr 1 w a n b o vals) (hn : vals.length ≤ 1000000000) (hm : m ≤ 1000000000) :
    Calls Try.prog 42 #[.slice a n c, .int .i64 m] w fun e w' => e = .returned (.bool (vOk vals && vals.length == m)) ∧ Tch [] w w' := by
  obtain rfl := h.hlen
  go_enter Try.func42, Try.ntmps42
  go_wp2_with fail
  go_loopw [9] (fun v9 wr => ∃ k : Nat, k ≤ vals.length ∧ v9 = .int .i64 k ∧ vOk vals = vOk (vals.drop k) ∧ Tch [] w wr) (fun v9 _ => vals.length - (intOf v9).toNat)
  case atStart => exact ⟨0, by omega, rfl, rfl, Tch.refl _ _⟩
  case round =>
    obtain ⟨k, hk, rfl, hok, T⟩ := hrel
    by_cases hkl : k < vals.length
    · have hget := List.getElem?_eq_getElem hkl
      have hr := h.keep0 T
      have ha := hr.some_ (by omega)
      have hbl := hr.lt (by omega)
      have x0 := hr.one hget (v := .string vals[k]) rfl
      have hst : vOk vals = (decide (vals[k].size ≤ 200) && vOk (vals.drop (k + 1))) := by rw [hok, List.drop_eq_getElem_cons hkl]; rfl
      subst ha
      generalize vals[k] = x at *
      have HST := Lib.hid hst
      clear hget hr hst hok h
      by_cases hz : 200 < x.size
      · have hd1 : decide (200 < x.size) = true := decide_eq_true hz
        have hd1i : decide ((200 : Int) < (x.size : Int)) = true := decide_eq_true (by omega)
        have HR : Hid ((vOk vals && vals.length == m) = false) := by show _ = _; rw [HST.out]; simp [show ¬ x.size ≤ 200 from by omega]
        go_wp2_with fail
        go_ret
        exact ⟨by rw [HR.out]; rfl, T⟩
      · have hd1 : decide (200 < x.size) = false := decide_eq_false hz
        have hd1i : decide ((200 : Int) < (x.size : Int)) = false := decide_eq_false (by omega)
        have HR : Hid (vOk vals = vOk (vals.drop (k + 1))) := by show _ = _; rw [HST.out]; simp [show x.size ≤ 200 from by omega]
        clear HST
        go_wp2_with fail
        go_roundw
        case rel => exact ⟨k + 1, by omega, by go_num, HR.out, T⟩
        case measure => simp [intOf]; omega
    · obtain rfl : k = vals.length := by omega
      have HR : Hid (vOk vals = true) := by show _ = _; rw [hok, List.drop_length]; rfl
      clear hok h
      go_wp2_with fail
      go_ret
      refine ⟨?_, T⟩
      rw [HR.out]
      simp [ibeq]
set_option maxRecDepth 100000 in
theorem nareKids_any (a : Option Addr) (n c b o : Nat) (kids : List Int) (m : Nat) (w : World) (h : IsR fInt 1 w a n b o kids) (hn : kids.length ≤ 1000000000) (hm : m ≤ 1000000000) :
    Calls Try.prog 43 #[.slice a n c, .int .i64 m] w fun e w' => e = .returned (.bool (iOk kids && kids.length == m && decide (0 < m))) ∧ Tch [] w w' := by
  obtain rfl := h.hlen
  go_enter Try.func43, Try.ntmps43
  go_wp2_with fail
  go_loopw [9] (fun v9 wr => ∃ k : Nat, k ≤ kids.length ∧ v9 = .int .i64 k ∧ iOk kids = iOk (kids.drop k) ∧ Tch [] w wr) (fun v9 _ => kids.length - (intOf v9).toNat)
  case atStart => exact ⟨0, by omega, rfl, rfl, Tch.refl _ _⟩
  case round =>
    obtain ⟨k, hk, rfl, hok, T⟩ := hrel
    by_cases hkl : k < kids.length
    · have hget := List.getElem?_eq_getElem hkl
      have hr := h.keep0 T
      have ha := hr.some_ (by omega)
      have hbl := hr.lt (by omega)
      have x0 := hr.one hget (v := .int .i64 kids[k]) rfl
      have hst : iOk kids = (decide (1 ≤ kids[k]) && decide (kids[k] < 16384) && iOk (kids.drop (k + 1))) := by rw [hok, List.drop_eq_getElem_cons hkl]; rfl
      subst ha
      generalize kids[k] = x at *
      have HST := Lib.hid hst
      clear hget hr hst hok h
      by_cases hz : x < 1
      · have hd1 : decide (x < 1) = true := decide_eq_true hz
        have HR : Hid ((iOk kids && kids.length == m && decide (0 < m)) = false) := by show _ = _; rw [HST.out]; simp [show ¬ 1 ≤ x from by omega]
        go_wp2_with fail
        go_ret
        exact ⟨by rw [HR.out]; rfl, T⟩
      have hd1 : decide (x < 1) = false := decide_eq_false hz
      by_cases hy : 16383 < x
      · have hd2 : decide (16383 < x) = true := decide_eq_true hy
        have HR : Hid ((iOk kids && kids.length == m && decide (0 < m)) = false) := by show _ = _; rw [HST.out]; simp [show ¬ x < 16384 from by omega]
        go_wp2_with fail
        go_ret
        exact ⟨by rw [HR.out]; rfl, T⟩
      · have hd2 : decide (16383 < x) = false := decide_eq_false hy
        have HR : Hid (iOk kids = iOk (kids.drop (k + 1))) := by show _ = _; rw [HST.out]; simp [show 1 ≤ x from by omega, show x < 16384 from by omega]
        clear HST
        go_wp2_with fail
        go_roundw
        case rel => exact ⟨k + 1, by omega, by go_num, HR.out, T⟩
        case measure => simp [intOf]; omega
    · obtain rfl : k = kids.length := by omega
      have HR : Hid (iOk kids = true) := by show _ = _; rw [hok, List.drop_length]; rfl
      clear hok h
      by_cases hm2 : kids.length = m
      · subst hm2
        go_wp2_with fail
        go_ret
        refine ⟨?_, T⟩
        rw [HR.out]
        simp
      · have hd3 : (((kids.length : Nat) : Int) == ((m : Nat) : Int)) = false := by rw [ibeq]; simpa using hm2
        have hd4 : (kids.length == m) = false := by simpa using hm2
        go_wp2_with fail
        go_ret
        refine ⟨?_, T⟩
        rw [HR.out, hd4]
        rfl
end Go.Proofs.Ytlgfdfpafmopdaa
