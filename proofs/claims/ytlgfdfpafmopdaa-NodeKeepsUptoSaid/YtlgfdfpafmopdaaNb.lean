/-
  The bytes of a node, by the document: 'entry' and 'Bytes'. Conditions: texts shorter than 10^9 bytes, the whole shorter than 10^18.
-/
import Derived.Test.YtlgfdfpafmopdaaOf
import Derived.Deep.RegionHeld3
import Derived.Deep.DeepFit
namespace Go.Proofs.Ytlgfdfpafmopdaa
open Go.RowKit
set_option linter.unusedVariables false

/-- Entries whose texts are short, whose kids are ints. -/
def Fine (es : List En) : Prop := ∀ e ∈ es, e.key.size ≤ 1000000000 ∧ e.val.size ≤ 1000000000 ∧ -9223372036854775808 ≤ e.kid ∧ e.kid ≤ 9223372036854775807

theorem ub10 (n : Nat) (h : n < 18446744073709551616) : (ub n).length ≤ 10 := ub_len 9 n (by simp; omega)
theorem tx_len (s : ByteArray) (h : s.size ≤ 1000000000) : (tx s).length ≤ s.size + 10 := by
  unfold tx
  have := ub10 s.size (by omega)
  rw [List.length_append, ← Lib.size_eq]; omega

set_option maxRecDepth 100000 in
theorem rentry_any (leaf : Bool) (e : En) (w : World) (h1 : e.key.size ≤ 1000000000) (h2 : e.val.size ≤ 1000000000) (h3 : -9223372036854775808 ≤ e.kid) (h4 : e.kid ≤ 9223372036854775807) :
    Calls Try.prog 33 #[.bool leaf, .agg #[.string e.key, .string e.val, .int .i64 e.kid]] w fun x w' => x = .returned (.string ⟨(enb leaf e).toArray⟩) ∧ Tch [] w w' := by
  obtain ⟨key, val, kid⟩ := e
  simp only at h1 h2 h3 h4 ⊢
  have T0 : Tch [] w (w.alloc (.cells #[.string key, .string val, .int .i64 kid] 68)) := (Tch.refl _ _).alloc _
  have k := blk_new w (.cells #[.string key, .string val, .int .i64 kid] 68)
  have HK := Lib.hid (rtext_any key (w.alloc (.cells #[.string key, .string val, .int .i64 kid] 68)) h1)
  have hl1 := tx_len key h1
  cases leaf
  · have HU := Lib.hid (fun w1 => ruint_any kid.toNat w1 (by omega))
    have hl2 := ub10 kid.toNat (by omega)
    have hsum : ¬ 9223372036854775807 < (⟨(tx key).toArray⟩ : ByteArray).size + (⟨(ub kid.toNat).toArray⟩ : ByteArray).size := by
      have e1 : (⟨(tx key).toArray⟩ : ByteArray).size = (tx key).length := List.size_toArray
      have e2 : (⟨(ub kid.toNat).toArray⟩ : ByteArray).size = (ub kid.toNat).length := List.size_toArray
      omega
    have HJ : Hid ((⟨(tx key).toArray⟩ : ByteArray) ++ ⟨(ub kid.toNat).toArray⟩ = ⟨(enb false ⟨key, val, kid⟩).toArray⟩) := by
      show _ = _
      rw [jjoin]; rfl
    by_cases hneg : kid < 0
    · have e0 : kid.toNat = 0 := by omega
      rw [e0] at HU hsum HJ
      clear hl1 hl2 e0
      go_enter Try.func33, Try.ntmps33
      go_wp2_with fail
      refine HK.out.mono ?_
      rintro e w1 ⟨rfl, t1⟩
      have T1 := T0.trans t1
      have k1 := t1.keep k (by simp)
      have q2 := blk_cell k1 2
      simp only [List.getElem?_toArray, List.getElem?_cons_zero, List.getElem?_cons_succ] at q2
      clear k k1 t1 T0
      go_wp2_with fail
      refine (HU.out w1).mono ?_
      rintro e w2 ⟨rfl, t2⟩
      go_wp2_with fail
      go_ret
      exact ⟨by rw [HJ.out]; rfl, T1.trans t2⟩
    · obtain ⟨m, rfl⟩ := Int.eq_ofNat_of_zero_le (by omega : 0 ≤ kid)
      rw [Int.toNat_natCast] at HU hsum HJ
      have hw1 : IntKind.u64.wrap (m : Int) = (m : Int) := by rw [IntKind.wrap_u64]; omega
      have hd : decide ((m : Int) < 0) = false := by simp
      clear hl1 hl2 hneg
      go_enter Try.func33, Try.ntmps33
      go_wp2_with fail
      refine HK.out.mono ?_
      rintro e w1 ⟨rfl, t1⟩
      have T1 := T0.trans t1
      have k1 := t1.keep k (by simp)
      have q2 := blk_cell k1 2
      simp only [List.getElem?_toArray, List.getElem?_cons_zero, List.getElem?_cons_succ] at q2
      clear k k1 t1 T0
      go_wp2_with fail
      refine (HU.out w1).mono ?_
      rintro e w2 ⟨rfl, t2⟩
      go_wp2_with fail
      go_ret
      exact ⟨by rw [HJ.out]; rfl, T1.trans t2⟩
  · have HV := Lib.hid (fun w1 => rtext_any val w1 h2)
    have hl2 := tx_len val h2
    have hsum : ¬ 9223372036854775807 < (⟨(tx key).toArray⟩ : ByteArray).size + (⟨(tx val).toArray⟩ : ByteArray).size := by
      have e1 : (⟨(tx key).toArray⟩ : ByteArray).size = (tx key).length := List.size_toArray
      have e2 : (⟨(tx val).toArray⟩ : ByteArray).size = (tx val).length := List.size_toArray
      omega
    have HJ : Hid ((⟨(tx key).toArray⟩ : ByteArray) ++ ⟨(tx val).toArray⟩ = ⟨(enb true ⟨key, val, kid⟩).toArray⟩) := by
      show _ = _
      rw [jjoin]; rfl
    clear hl1 hl2
    go_enter Try.func33, Try.ntmps33
    go_wp2_with fail
    refine HK.out.mono ?_
    rintro e w1 ⟨rfl, t1⟩
    have T1 := T0.trans t1
    have k1 := t1.keep k (by simp)
    have q2 := blk_cell k1 1
    simp only [List.getElem?_toArray, List.getElem?_cons_zero, List.getElem?_cons_succ] at q2
    clear k k1 t1 T0
    go_wp2_with fail
    refine (HV.out w1).mono ?_
    rintro e w2 ⟨rfl, t2⟩
    go_wp2_with fail
    go_ret
    exact ⟨by rw [HJ.out]; rfl, T1.trans t2⟩

/-- The bytes up to the k-th entry. -/
def nbk (leaf : Bool) (es : List En) (k : Nat) : List UInt8 := (if leaf then 1 else 2) :: (ub es.length ++ (es.take k).flatMap (enb leaf))
theorem nbk_all (leaf : Bool) (es : List En) : nbk leaf es es.length = ndb leaf es := by unfold nbk ndb; rw [List.take_length]
theorem nbk_step (leaf : Bool) (es : List En) (k : Nat) (e : En) (h : es[k]? = some e) : nbk leaf es (k + 1) = nbk leaf es k ++ enb leaf e := by
  unfold nbk
  rw [List.take_add_one, h, List.flatMap_append]
  simp
theorem nbk_le (leaf : Bool) (es : List En) (k : Nat) (h : k ≤ es.length) : (nbk leaf es k).length ≤ (ndb leaf es).length := by
  unfold nbk ndb
  have : (es.flatMap (enb leaf)).length = ((es.take k).flatMap (enb leaf)).length + ((es.drop k).flatMap (enb leaf)).length := by
    rw [← List.length_append, ← List.flatMap_append, List.take_append_drop]
  simp only [List.length_cons, List.length_append]
  omega
/-- What holds at the head of each round. -/
def NbRel (w : World) (leaf : Bool) (es : List En) (v3 v5 : Value) (wr : World) : Prop :=
  ∃ k : Nat, k ≤ es.length ∧ v5 = .int .i64 k ∧ v3 = .string ⟨(nbk leaf es k).toArray⟩ ∧ Tch [] w wr

set_option maxRecDepth 100000 in
set_option maxHeartbeats 1000000 in
theorem rbytes_any (leaf : Bool) (a : Option Addr) (n c b o : Nat) (es : List En) (w : World) (h : IsR fEn 3 w a n b o es) (hf : Fine es) (hT : (ndb leaf es).length ≤ 1000000000000000000) :
    Calls Try.prog 11 #[.agg #[.bool leaf, .slice a n c]] w fun x w' => x = .returned (.string ⟨(ndb leaf es).toArray⟩) ∧ Tch [] w w' := by
  obtain rfl := h.hlen
  have hnl : es.length ≤ 1000000000000000000 := by
    have : es.length ≤ (es.flatMap (enb leaf)).length := by
      clear h hf hT
      induction es with
      | nil => simp
      | cons e es ih =>
        rw [List.flatMap_cons, List.length_append, List.length_cons]
        have : 0 < (enb leaf e).length := by
          unfold enb tx
          have := List.length_pos_iff.2 (ub_ne e.key.size)
          simp only [List.length_append]; omega
        omega
    unfold ndb at hT
    simp only [List.length_cons, List.length_append] at hT
    omega
  have T0 : Tch [] w (w.alloc (.cells #[.bool leaf, .slice a es.length c] 32)) := (Tch.refl _ _).alloc _
  have k := blk_new w (.cells #[.bool leaf, .slice a es.length c] 32)
  have HR : Hid (∀ wr, Tch [] (w.alloc (.cells #[.bool leaf, .slice a es.length c] 32)) wr → IsR fEn 3 wr a es.length b o es) := fun wr t => h.keep0 (T0.trans t)
  have HE : Hid (∀ e ∈ es, ∀ w1, _) := fun e he w1 => rentry_any leaf e w1 (hf e he).1 (hf e he).2.1 (hf e he).2.2.1 (hf e he).2.2.2
  have HU := Lib.hid (fun w1 => ruint_any es.length w1 (by omega))
  have hcw : IntKind.u64.wrap (es.length : Int) = (es.length : Int) := by rw [IntKind.wrap_u64]; omega
  have HLE : Hid (∀ k, k ≤ es.length → (nbk leaf es k).length ≤ 1000000000000000000) := fun k hk => Nat.le_trans (nbk_le leaf es k hk) hT
  have HL0 := Lib.hid (ub10 es.length (by omega))
  have H0 : Hid ((⟨#[if leaf then 1 else 2]⟩ : ByteArray) ++ ⟨(ub es.length).toArray⟩ = ⟨(nbk leaf es 0).toArray⟩) := by
    show _ = _
    have := jjoin [if leaf then 1 else 2] (ub es.length)
    rw [show (⟨#[if leaf then 1 else 2]⟩ : ByteArray) = ⟨([if leaf then 1 else 2] : List UInt8).toArray⟩ from rfl, this]
    simp [nbk]
  clear h hf hT
  have HALL := Lib.hid (nbk_all leaf es)
  have hsum0 : ¬ 9223372036854775807 < (⟨#[if leaf then 1 else 2]⟩ : ByteArray).size + (⟨(ub es.length).toArray⟩ : ByteArray).size := by
    have e1 : (⟨(ub es.length).toArray⟩ : ByteArray).size = (ub es.length).length := List.size_toArray
    have e2 : (⟨#[if leaf then 1 else 2]⟩ : ByteArray).size = 1 := rfl
    have := HL0.out
    omega
  have HW0 : Hid (∀ wr, Tch [] (w.alloc (.cells #[.bool leaf, .slice a es.length c] 32)) wr → wr.heap[w.heap.size]? = some (.cells #[.bool leaf, .slice a es.length c] 32 (0, 0))) := fun wr t => t.keep k (by simp)
  cases leaf
  · simp only [if_false, Bool.false_eq_true] at H0 hsum0
    go_enter Try.func11, Try.ntmps11
    go_wp2_with fail
    generalize hp : w.heap.size = p at k HW0 ⊢
    refine (HU.out _).mono ?_
    rintro e w1 ⟨rfl, t1⟩
    have k1 := HW0.out w1 t1
    have q0 := blk_cell k1 0
    have q1 := blk_cell k1 1
    simp only [List.getElem?_toArray, List.getElem?_cons_zero, List.getElem?_cons_succ] at q0 q1
    clear k hp
    go_wp2_with fail
    go_loopw [3, 5] (fun v3 v5 wr => NbRel (w.alloc (.cells #[.bool false, .slice a es.length c] 32)) false es v3 v5 wr) (fun _ v5 _ => es.length - (intOf v5).toNat)
    case atStart => exact ⟨0, by omega, rfl, by rw [H0.out], t1⟩
    case round =>
      clear q0 q1 k1 t1
      obtain ⟨k, hk, rfl, rfl, T⟩ := hrel
      have hb := HW0.out wr T
      have q0 := blk_cell hb 0
      have q1 := blk_cell hb 1
      simp only [List.getElem?_toArray, List.getElem?_cons_zero, List.getElem?_cons_succ] at q0 q1
      by_cases hkl : k < es.length
      · have hget := List.getElem?_eq_getElem hkl
        have HLK := HLE.out (k + 1) hkl
        have hst := nbk_step false es k _ hget
        have HEE := Lib.hid (HE.out _ (List.getElem_mem hkl))
        have hrd : IsR fEn 3 wr.drew a es.length b o es := (HR.out wr T).keep0 (Tch.refl [] wr).drew
        have ha := hrd.some_ (by omega)
        have hbl : b < wr.drew.heap.size := hrd.lt (by omega)
        have x0 : wr.drew.cell? ⟨b, o + k * 3, none⟩ = some (.string es[k].key) := hrd.c0 hget rfl
        have x1 : wr.drew.cell? ⟨b, o + k * 3 + 1, none⟩ = some (.string es[k].val) := hrd.c hget 1 rfl
        have x2 : wr.drew.cell? ⟨b, o + k * 3 + 2, none⟩ = some (.int .i64 es[k].kid) := hrd.c hget 2 rfl
        subst ha
        generalize es[k] = e at x0 x1 x2 hst HEE
        have hI1 : (0 : Int) ≤ (k : Int) := by omega
        have hI2 : (k : Int) < (es.length : Int) := by omega
        have hplt : p < wr.drew.heap.size := lt_of_block hb
        rw [hst, List.length_append] at HLK
        have hsum : ¬ 9223372036854775807 < (⟨(nbk false es k).toArray⟩ : ByteArray).size + (⟨(enb false e).toArray⟩ : ByteArray).size := by
          have e1 : (⟨(nbk false es k).toArray⟩ : ByteArray).size = (nbk false es k).length := List.size_toArray
          have e2 : (⟨(enb false e).toArray⟩ : ByteArray).size = (enb false e).length := List.size_toArray
          omega
        have HJ : Hid ((⟨(nbk false es k).toArray⟩ : ByteArray) ++ ⟨(enb false e).toArray⟩ = ⟨(nbk false es (k + 1)).toArray⟩) := by
          show _ = _
          rw [jjoin, hst]
        have HS : Hid (∀ w', Tch [] wr.drew w' → w'.cell? ⟨p, 0, none⟩ = some (.bool false) ∧ w'.cell? ⟨p, 1, none⟩ = some (.slice (some ⟨b, o, none⟩) es.length c) ∧ w'.cell? ⟨b, o + k * 3, none⟩ = some (.string e.key) ∧ w'.cell? ⟨b, o + k * 3 + 1, none⟩ = some (.string e.val) ∧ w'.cell? ⟨b, o + k * 3 + 2, none⟩ = some (.int .i64 e.kid)) := fun w' t =>
          ⟨(t.cell hplt (by simp)).trans q0, (t.cell hplt (by simp)).trans q1, (t.cell hbl (by simp)).trans x0, (t.cell hbl (by simp)).trans x1, (t.cell hbl (by simp)).trans x2⟩
        clear x0 x1 x2 hget hrd HLK hst hb hbl hplt
        go_wp2_with fail
        go_region_held3 (fun w' => w'.cell? ⟨p, 0, none⟩ = some (.bool false) ∧ w'.cell? ⟨p, 1, none⟩ = some (.slice (some ⟨b, o, none⟩) es.length c) ∧ w'.cell? ⟨b, o + k * 3, none⟩ = some (.string e.key) ∧ w'.cell? ⟨b, o + k * 3 + 1, none⟩ = some (.string e.val) ∧ w'.cell? ⟨b, o + k * 3 + 2, none⟩ = some (.int .i64 e.kid))
          (first | exact HS.out _ t2 | exact HS.out _ (Tch.refl _ _))
          (first | (go_at_call 33; refine (HEE.out _).mono ?_; rintro e w2 ⟨rfl, t2⟩))
        have T2 := T.drew.trans t2
        clear q0 q1
        go_wp2
        go_roundw
        case rel => exact ⟨k + 1, by omega, by go_num, by rw [HJ.out], T2⟩
        case measure => simp [intOf]; omega
      · obtain rfl : k = es.length := by omega
        have HF := Lib.hid (T0.trans T)
        go_wp2
        go_ret
        exact ⟨by rw [← HALL.out]; rfl, HF.out⟩
  · simp only [if_true] at H0 hsum0
    go_enter Try.func11, Try.ntmps11
    go_wp2_with fail
    generalize hp : w.heap.size = p at k HW0 ⊢
    refine (HU.out _).mono ?_
    rintro e w1 ⟨rfl, t1⟩
    have k1 := HW0.out w1 t1
    have q0 := blk_cell k1 0
    have q1 := blk_cell k1 1
    simp only [List.getElem?_toArray, List.getElem?_cons_zero, List.getElem?_cons_succ] at q0 q1
    clear k hp
    go_wp2_with fail
    go_loopw [3, 5] (fun v3 v5 wr => NbRel (w.alloc (.cells #[.bool true, .slice a es.length c] 32)) true es v3 v5 wr) (fun _ v5 _ => es.length - (intOf v5).toNat)
    case atStart => exact ⟨0, by omega, rfl, by rw [H0.out], t1⟩
    case round =>
      clear q0 q1 k1 t1
      obtain ⟨k, hk, rfl, rfl, T⟩ := hrel
      have hb := HW0.out wr T
      have q0 := blk_cell hb 0
      have q1 := blk_cell hb 1
      simp only [List.getElem?_toArray, List.getElem?_cons_zero, List.getElem?_cons_succ] at q0 q1
      by_cases hkl : k < es.length
      · have hget := List.getElem?_eq_getElem hkl
        have HLK := HLE.out (k + 1) hkl
        have hst := nbk_step true es k _ hget
        have HEE := Lib.hid (HE.out _ (List.getElem_mem hkl))
        have hrd : IsR fEn 3 wr.drew a es.length b o es := (HR.out wr T).keep0 (Tch.refl [] wr).drew
        have ha := hrd.some_ (by omega)
        have hbl : b < wr.drew.heap.size := hrd.lt (by omega)
        have x0 : wr.drew.cell? ⟨b, o + k * 3, none⟩ = some (.string es[k].key) := hrd.c0 hget rfl
        have x1 : wr.drew.cell? ⟨b, o + k * 3 + 1, none⟩ = some (.string es[k].val) := hrd.c hget 1 rfl
        have x2 : wr.drew.cell? ⟨b, o + k * 3 + 2, none⟩ = some (.int .i64 es[k].kid) := hrd.c hget 2 rfl
        subst ha
        generalize es[k] = e at x0 x1 x2 hst HEE
        have hI1 : (0 : Int) ≤ (k : Int) := by omega
        have hI2 : (k : Int) < (es.length : Int) := by omega
        have hplt : p < wr.drew.heap.size := lt_of_block hb
        rw [hst, List.length_append] at HLK
        have hsum : ¬ 9223372036854775807 < (⟨(nbk true es k).toArray⟩ : ByteArray).size + (⟨(enb true e).toArray⟩ : ByteArray).size := by
          have e1 : (⟨(nbk true es k).toArray⟩ : ByteArray).size = (nbk true es k).length := List.size_toArray
          have e2 : (⟨(enb true e).toArray⟩ : ByteArray).size = (enb true e).length := List.size_toArray
          omega
        have HJ : Hid ((⟨(nbk true es k).toArray⟩ : ByteArray) ++ ⟨(enb true e).toArray⟩ = ⟨(nbk true es (k + 1)).toArray⟩) := by
          show _ = _
          rw [jjoin, hst]
        have HS : Hid (∀ w', Tch [] wr.drew w' → w'.cell? ⟨p, 0, none⟩ = some (.bool true) ∧ w'.cell? ⟨p, 1, none⟩ = some (.slice (some ⟨b, o, none⟩) es.length c) ∧ w'.cell? ⟨b, o + k * 3, none⟩ = some (.string e.key) ∧ w'.cell? ⟨b, o + k * 3 + 1, none⟩ = some (.string e.val) ∧ w'.cell? ⟨b, o + k * 3 + 2, none⟩ = some (.int .i64 e.kid)) := fun w' t =>
          ⟨(t.cell hplt (by simp)).trans q0, (t.cell hplt (by simp)).trans q1, (t.cell hbl (by simp)).trans x0, (t.cell hbl (by simp)).trans x1, (t.cell hbl (by simp)).trans x2⟩
        clear x0 x1 x2 hget hrd HLK hst hb hbl hplt
        go_wp2_with fail
        go_region_held3 (fun w' => w'.cell? ⟨p, 0, none⟩ = some (.bool true) ∧ w'.cell? ⟨p, 1, none⟩ = some (.slice (some ⟨b, o, none⟩) es.length c) ∧ w'.cell? ⟨b, o + k * 3, none⟩ = some (.string e.key) ∧ w'.cell? ⟨b, o + k * 3 + 1, none⟩ = some (.string e.val) ∧ w'.cell? ⟨b, o + k * 3 + 2, none⟩ = some (.int .i64 e.kid))
          (first | exact HS.out _ t2 | exact HS.out _ (Tch.refl _ _))
          (first | (go_at_call 33; refine (HEE.out _).mono ?_; rintro e w2 ⟨rfl, t2⟩))
        have T2 := T.drew.trans t2
        clear q0 q1
        go_wp2
        go_roundw
        case rel => exact ⟨k + 1, by omega, by go_num, by rw [HJ.out], T2⟩
        case measure => simp [intOf]; omega
      · obtain rfl : k = es.length := by omega
        have HF := Lib.hid (T0.trans T)
        go_wp2
        go_ret
        exact ⟨by rw [← HALL.out]; rfl, HF.out⟩
end Go.Proofs.Ytlgfdfpafmopdaa
