/-
  'Split' of the document's nodes: the node alone, or as two. Conditions: texts shorter than 10^9 bytes, fewer than 10^8 entries.
-/
import Derived.Test.YtlgfdfpafmopdaaNj
import Derived.StillTailTactics
namespace Go.Proofs.Ytlgfdfpafmopdaa
open Go.RowKit
set_option linter.unusedVariables false

/-- A row of nodes in block g. -/
def IsNs (w : World) (g : Nat) (leaf : Bool) (parts : List (List En)) : Prop :=
  ∀ (k : Nat) part, parts[k]? = some part → ∃ x c b o, w.cell? ⟨g, k * 2, none⟩ = some (.bool leaf) ∧ w.cell? ⟨g, k * 2 + 1, none⟩ = some (.slice x part.length c) ∧ IsR fEn 3 w x part.length b o part
/-- What Split answers. -/
def SpPost (w : World) (leaf : Bool) (es : List En) (e : Ending) (w' : World) : Prop :=
  ∃ g, e = .returned (.slice (some ⟨g, 0, none⟩) (splitN leaf es).length (splitN leaf es).length) ∧ w.heap.size ≤ g ∧ IsNs w' g leaf (splitN leaf es) ∧ Tch [] w w'

/-- How many bytes the first k entries have. -/
def wsum (leaf : Bool) (es : List En) (k : Nat) : Nat := ((es.take k).flatMap (enb leaf)).length
theorem wsum_step (leaf : Bool) (es : List En) (k : Nat) (e : En) (h : es[k]? = some e) : wsum leaf es (k + 1) = wsum leaf es k + (enb leaf e).length := by
  unfold wsum; rw [List.take_add_one, h, List.flatMap_append]; simp
theorem wsum_all (leaf : Bool) (es : List En) : wsum leaf es es.length = (es.flatMap (enb leaf)).length := by unfold wsum; rw [List.take_length]
theorem wsum_le (leaf : Bool) (es : List En) (k : Nat) : wsum leaf es k ≤ (es.flatMap (enb leaf)).length := by
  unfold wsum
  have : (es.flatMap (enb leaf)).length = ((es.take k).flatMap (enb leaf)).length + ((es.drop k).flatMap (enb leaf)).length := by
    rw [← List.length_append, ← List.flatMap_append, List.take_append_drop]
  omega
theorem flat_fine {leaf : Bool} {es : List En} (hf : Fine es) : (es.flatMap (enb leaf)).length ≤ es.length * 2000000020 := by
  induction es with
  | nil => simp
  | cons e es ih =>
    have := ih (fun a ha => hf a (List.mem_cons_of_mem _ ha))
    have he := hf e (List.mem_cons_self ..)
    have hk := tx_len e.key he.1
    have hv := tx_len e.val he.2.1
    have hu := ub10 e.kid.toNat (by omega)
    rw [List.flatMap_cons, List.length_append, List.length_cons, Nat.add_mul]
    have : (enb leaf e).length ≤ 2000000020 := by
      unfold enb
      rw [List.length_append]
      split <;> omega
    omega
theorem ndb_small {leaf : Bool} {es : List En} (hf : Fine es) (hl : es.length ≤ 100000000) : (ndb leaf es).length ≤ 1000000000000000000 := by
  have h1 := flat_fine (leaf := leaf) hf
  have h2 := ub10 es.length (by omega)
  unfold ndb
  simp only [List.length_cons, List.length_append]
  omega

set_option maxRecDepth 100000 in
set_option maxHeartbeats 1000000 in
theorem rsplit_one (leaf : Bool) (a : Option Addr) (n c b o : Nat) (es : List En) (w : World) (h : IsR fEn 3 w a n b o es) (hf : Fine es) (hl : es.length ≤ 100000000) (h1 : (ndb leaf es).length ≤ 1024 ∨ es.length < 2) :
    Calls Try.prog 17 #[.agg #[.bool leaf, .slice a n c]] w (SpPost w leaf es) := by
  obtain rfl := h.hlen
  have T0 : Tch [] w (w.alloc (.cells #[.bool leaf, .slice a es.length c] 32)) := (Tch.refl _ _).alloc _
  have kb0 := blk_new w (.cells #[.bool leaf, .slice a es.length c] 32)
  have HB := Lib.hid (rbytes_any leaf a es.length c b o es _ (h.keep0 T0) hf (ndb_small hf hl))
  have hsz : (⟨(ndb leaf es).toArray⟩ : ByteArray).size = (ndb leaf es).length := List.size_toArray
  have HS : Hid (splitN leaf es = [es]) := by show _ = _; unfold splitN; rw [if_pos h1]
  have hlt : w.heap.size < (w.alloc (.cells #[.bool leaf, .slice a es.length c] 32)).heap.size := by simp
  have HF : Hid (∀ w2, Tch [] (w.alloc (.cells #[.bool leaf, .slice a es.length c] 32)) w2 → SpPost w leaf es (.returned (.slice (some ⟨w2.heap.size, 0, none⟩) 1 1)) (w2.alloc (.cells #[.bool leaf, .slice a es.length c] 32))) := fun w2 t => by
    have t2 := (T0.trans t).alloc (.cells #[.bool leaf, .slice a es.length c] 32)
    have hs := t.size
    refine ⟨w2.heap.size, by rw [HS.out]; rfl, by omega, ?_, t2⟩
    rw [HS.out]
    intro k part hk
    match k, hk with
    | 0, hk =>
      simp at hk; subst hk
      exact ⟨a, c, b, o, by rw [blk_cell (blk_new w2 _)]; rfl, by rw [blk_cell (blk_new w2 _)]; rfl, h.keep0 t2⟩
  generalize (⟨(ndb leaf es).toArray⟩ : ByteArray) = sb at HB hsz
  rw [← hsz] at h1
  clear h hf hsz T0 hlt
  go_enter Try.func17, Try.ntmps17
  go_wp2_with fail
  refine HB.out.mono ?_
  rintro e w2 ⟨rfl, t2⟩
  have hb2 := t2.keep kb0 (by simp)
  have q0 := blk_cell hb2 0
  have q1 := blk_cell hb2 1
  simp only [List.getElem?_toArray, List.getElem?_cons_zero, List.getElem?_cons_succ] at q0 q1
  have HFF := Lib.hid (HF.out w2 t2)
  clear hb2 kb0 t2 HF HB
  by_cases hs : sb.size ≤ 1024
  · have e1 : decide ((sb.size : Int) ≤ 1024) = true := by simp; omega
    clear h1
    go_wp2_with fail
    go_ret
    exact HFF.out
  · have e1 : decide ((sb.size : Int) ≤ 1024) = false := by simp; omega
    have e2 : decide ((es.length : Int) < 2) = true := decide_eq_true (by omega)
    clear h1 hs
    go_wp2_with fail
    go_ret
    exact HFF.out

theorem Try.elem_es : Try.prog.underlying 30 = some (.slice (Try.prog.elem 30)) := by kernel_rfl
theorem Try.size_es (w : World) : (sizeOf (Try.prog.elem 30)).run Try.prog w = .ok 3 w := by kernel_rfl
theorem slice_hi (b o len c k : Nat) (h : k + 1 ≤ c) (w : World) : (Instr.slice 30 (.slice (some ⟨b, o, none⟩) len c) none (some (.int .i64 ((k : Int) + 1))) none).run Try.prog w = .ok (.slice (some ⟨b, o, none⟩) (k + 1) c) w := by
  rw [run_slice_h _ _ _ _ _ Try.elem_es _ _ (by omega) (by omega), Try.size_es]
  simp only [Result.andThen, sliced]
  rw [show ((k : Int) + 1).toNat = k + 1 from by omega]
  split <;> simp [add_mk]
theorem slice_lo (b o len c k : Nat) (h : k + 1 ≤ len) (hc : k + 1 < c) (w : World) : (Instr.slice 30 (.slice (some ⟨b, o, none⟩) len c) (some (.int .i64 ((k : Int) + 1))) none none).run Try.prog w = .ok (.slice (some ⟨b, o + (k + 1) * 3, none⟩) (len - (k + 1)) (c - (k + 1))) w := by
  rw [run_slice_l _ _ _ _ _ Try.elem_es _ _ (by omega) (by omega), Try.size_es]
  simp only [Result.andThen, sliced]
  rw [show ((k : Int) + 1).toNat = k + 1 from by omega, if_neg (by omega)]
  simp [add_mk]
theorem cut_step (leaf : Bool) (W last s k : Nat) (es : List En) (e : En) (h : es[k]? = some e) : cutE leaf W last k s (es.drop k) = if W ≤ 2 * (s + (enb leaf e).length) ∨ k = last then k + 1 else cutE leaf W last (k + 1) (s + (enb leaf e).length) (es.drop (k + 1)) := by
  obtain ⟨hk, he⟩ := List.getElem?_eq_some_iff.1 h
  rw [List.drop_eq_getElem_cons hk, he, cutE]

set_option maxRecDepth 100000 in
set_option maxHeartbeats 2000000 in
theorem rsplit_two (leaf : Bool) (a : Option Addr) (n c b o : Nat) (es : List En) (w : World) (h : IsR fEn 3 w a n b o es) (hf : Fine es) (hl : es.length ≤ 100000000) (hc : es.length ≤ c) (h1 : ¬ ((ndb leaf es).length ≤ 1024 ∨ es.length < 2)) :
    Calls Try.prog 17 #[.agg #[.bool leaf, .slice a n c]] w (SpPost w leaf es) := by
  obtain rfl := h.hlen
  have T0 : Tch [] w (w.alloc (.cells #[.bool leaf, .slice a es.length c] 32)) := (Tch.refl _ _).alloc _
  have kb0 := blk_new w (.cells #[.bool leaf, .slice a es.length c] 32)
  have HB := Lib.hid (rbytes_any leaf a es.length c b o es _ (h.keep0 T0) hf (ndb_small hf hl))
  have hsz : (⟨(ndb leaf es).toArray⟩ : ByteArray).size = (ndb leaf es).length := List.size_toArray
  have h2 : 2 ≤ es.length := by omega
  have ha := h.some_ (by omega)
  subst ha
  have HSP : Hid (splitN leaf es = [es.take (cutN leaf es), es.drop (cutN leaf es)]) := by show _ = _; unfold splitN; rw [if_neg h1]
  have HWL : Hid (∀ k, wsum leaf es k ≤ 1000000000000000000) := fun k => by
    have h3 := wsum_le leaf es k
    have h4 := flat_fine (leaf := leaf) hf
    omega
  have HWA := Lib.hid (wsum_all leaf es)
  have HR : Hid (∀ wr, Tch [] (w.alloc (.cells #[.bool leaf, .slice (some ⟨b, o, none⟩) es.length c] 32)) wr → IsR fEn 3 wr (some ⟨b, o, none⟩) es.length b o es) := fun wr t => h.keep0 (T0.trans t)
  have HE : Hid (∀ e ∈ es, ∀ w1, _) := fun e he w1 => rentry_any leaf e w1 (hf e he).1 (hf e he).2.1 (hf e he).2.2.1 (hf e he).2.2.2
  have HW0 : Hid (∀ wr, Tch [] (w.alloc (.cells #[.bool leaf, .slice (some ⟨b, o, none⟩) es.length c] 32)) wr → wr.heap[w.heap.size]? = some (.cells #[.bool leaf, .slice (some ⟨b, o, none⟩) es.length c] 32 (0, 0))) := fun wr t => t.keep kb0 (by simp)
  have hs1024 : ¬ (⟨(ndb leaf es).toArray⟩ : ByteArray).size ≤ 1024 := by omega
  generalize (⟨(ndb leaf es).toArray⟩ : ByteArray) = sb at HB hsz hs1024
  have e1 : decide ((sb.size : Int) ≤ 1024) = false := by simp; omega
  have e2 : decide ((es.length : Int) < 2) = false := decide_eq_false (by omega)
  clear h hf hsz hs1024 h1
  go_enter Try.func17, Try.ntmps17
  go_wp2_with fail
  generalize w.heap.size = p at kb0 HW0 ⊢
  generalize w.alloc (.cells #[.bool leaf, .slice (some ⟨b, o, none⟩) es.length c] 32) = W1 at T0 kb0 HR HW0 HB ⊢
  refine HB.out.mono ?_
  rintro e w2 ⟨rfl, t2⟩
  have hb2 := HW0.out w2 t2
  have q0 := blk_cell hb2 0
  have q1 := blk_cell hb2 1
  simp only [List.getElem?_toArray, List.getElem?_cons_zero, List.getElem?_cons_succ] at q0 q1
  have HT2 := Lib.hid t2
  clear kb0 HB hb2 t2
  go_wp2_with fail
  go_loopw [4, 5] (fun v4 v5 wr => ∃ k : Nat, k ≤ es.length ∧ v5 = .int .i64 k ∧ v4 = .int .i64 (wsum leaf es k : Nat) ∧ Tch [] W1 wr) (fun _ v5 _ => es.length - (intOf v5).toNat)
  case atStart => exact ⟨0, by omega, rfl, rfl, HT2.out⟩
  case round =>
    clear q0 q1
    obtain ⟨k, hk, rfl, rfl, T⟩ := hrel
    have hb := HW0.out wr T
    have q0 := blk_cell hb 0
    have q1 := blk_cell hb 1
    simp only [List.getElem?_toArray, List.getElem?_cons_zero, List.getElem?_cons_succ] at q0 q1
    by_cases hkl : k < es.length
    · have hget := List.getElem?_eq_getElem hkl
      have hst := wsum_step leaf es k _ hget
      have HEE := Lib.hid (HE.out _ (List.getElem_mem hkl))
      have hwb := HWL.out (k + 1)
      have hrd : IsR fEn 3 wr.drew (some ⟨b, o, none⟩) es.length b o es := (HR.out wr T).keep0 (Tch.refl [] wr).drew
      have hbl : b < wr.drew.heap.size := hrd.lt (by omega)
      have x0 : wr.drew.cell? ⟨b, o + k * 3, none⟩ = some (.string es[k].key) := hrd.c0 hget rfl
      have x1 : wr.drew.cell? ⟨b, o + k * 3 + 1, none⟩ = some (.string es[k].val) := hrd.c hget 1 rfl
      have x2 : wr.drew.cell? ⟨b, o + k * 3 + 2, none⟩ = some (.int .i64 es[k].kid) := hrd.c hget 2 rfl
      have hsx : (⟨(enb leaf es[k]).toArray⟩ : ByteArray).size = (enb leaf es[k]).length := List.size_toArray
      rw [← hsx] at hst
      rw [hst] at hwb
      generalize (⟨(enb leaf es[k]).toArray⟩ : ByteArray) = sx at HEE hst hwb hsx
      generalize es[k] = e at x0 x1 x2 HEE hsx
      have HST := Lib.hid hst
      generalize wsum leaf es k = s at hwb HST
      have hI1 : (0 : Int) ≤ (k : Int) := by omega
      have hI2 : (k : Int) < (es.length : Int) := by omega
      have hplt : p < wr.drew.heap.size := lt_of_block hb
      have HS : Hid (∀ w', Tch [] wr.drew w' → w'.cell? ⟨p, 0, none⟩ = some (.bool leaf) ∧ w'.cell? ⟨p, 1, none⟩ = some (.slice (some ⟨b, o, none⟩) es.length c) ∧ w'.cell? ⟨b, o + k * 3, none⟩ = some (.string e.key) ∧ w'.cell? ⟨b, o + k * 3 + 1, none⟩ = some (.string e.val) ∧ w'.cell? ⟨b, o + k * 3 + 2, none⟩ = some (.int .i64 e.kid)) := fun w' t =>
        ⟨(t.cell hplt (by simp)).trans q0, (t.cell hplt (by simp)).trans q1, (t.cell hbl (by simp)).trans x0, (t.cell hbl (by simp)).trans x1, (t.cell hbl (by simp)).trans x2⟩
      clear x0 x1 x2 hget hrd hst hb hbl hplt hsx
      go_wp2_with fail
      go_region_held3 (fun w' => w'.cell? ⟨p, 0, none⟩ = some (.bool leaf) ∧ w'.cell? ⟨p, 1, none⟩ = some (.slice (some ⟨b, o, none⟩) es.length c) ∧ w'.cell? ⟨b, o + k * 3, none⟩ = some (.string e.key) ∧ w'.cell? ⟨b, o + k * 3 + 1, none⟩ = some (.string e.val) ∧ w'.cell? ⟨b, o + k * 3 + 2, none⟩ = some (.int .i64 e.kid))
        (first | exact HS.out _ t2 | exact HS.out _ (Tch.refl _ _))
        (first | (go_at_call 33; refine (HEE.out _).mono ?_; rintro e w2 ⟨rfl, t2⟩))
      have T2 := T.drew.trans t2
      clear q0 q1
      go_wp2
      go_roundw
      case rel => exact ⟨k + 1, by omega, by go_num, by rw [HST.out]; go_num, T2⟩
      case measure => simp [intOf]; omega
    · obtain rfl : k = es.length := by omega
      rw [HWA.out]
      have HT3 := Lib.hid T
      clear hb T hkl hk
      go_wp2
      clear q0 q1
      generalize hWW : (es.flatMap (enb leaf)).length = W at HWA ⊢
      have HCUT : Hid (cutN leaf es = cutE leaf W (es.length - 2) 0 (wsum leaf es 0) (es.drop 0)) := by show _ = _; unfold cutN; rw [hWW]; rfl
      have hWb : W ≤ 1000000000000000000 := by have := HWL.out es.length; rw [HWA.out] at this; exact this
      clear hWW HWA
      go_loopw [7, 8] (fun v7 v8 wr => ∃ k : Nat, k + 2 ≤ es.length ∧ v8 = .int .i64 k ∧ v7 = .int .i64 (wsum leaf es k : Nat) ∧ cutN leaf es = cutE leaf W (es.length - 2) k (wsum leaf es k) (es.drop k) ∧ Tch [] W1 wr) (fun _ v8 _ => es.length - (intOf v8).toNat)
      case atStart => exact ⟨0, by omega, rfl, rfl, HCUT.out, HT3.out⟩
      case round =>
        obtain ⟨k, hk, rfl, rfl, hcu, T⟩ := hrel
        clear HCUT HT3 HT2
        have hb := HW0.out _ T
        have q0 := blk_cell hb 0
        have q1 := blk_cell hb 1
        simp only [List.getElem?_toArray, List.getElem?_cons_zero, List.getElem?_cons_succ] at q0 q1
        have hkl : k < es.length := by omega
        have hget := List.getElem?_eq_getElem hkl
        have hst := wsum_step leaf es k _ hget
        have hcs := cut_step leaf W (es.length - 2) (wsum leaf es k) k es _ hget
        have HEE := Lib.hid (HE.out _ (List.getElem_mem hkl))
        have hwb := HWL.out (k + 1)
        rename_i wr
        have hrd : IsR fEn 3 wr.drew (some ⟨b, o, none⟩) es.length b o es := (HR.out wr T).keep0 (Tch.refl [] wr).drew
        have hbl : b < wr.drew.heap.size := hrd.lt (by omega)
        have x0 : wr.drew.cell? ⟨b, o + k * 3, none⟩ = some (.string es[k].key) := hrd.c0 hget rfl
        have x1 : wr.drew.cell? ⟨b, o + k * 3 + 1, none⟩ = some (.string es[k].val) := hrd.c hget 1 rfl
        have x2 : wr.drew.cell? ⟨b, o + k * 3 + 2, none⟩ = some (.int .i64 es[k].kid) := hrd.c hget 2 rfl
        have hsx : (⟨(enb leaf es[k]).toArray⟩ : ByteArray).size = (enb leaf es[k]).length := List.size_toArray
        rw [← hsx] at hst hcs
        rw [hst] at hwb
        generalize (⟨(enb leaf es[k]).toArray⟩ : ByteArray) = sx at HEE hst hwb hsx hcs
        generalize es[k] = e at x0 x1 x2 HEE hsx
        have HST := Lib.hid hst
        rw [← hcu] at hcs
        generalize wsum leaf es k = s at hwb HST hcs hcu
        have hI1 : (0 : Int) ≤ (k : Int) := by omega
        have hI2 : (k : Int) < (es.length : Int) := by omega
        have hplt : p < wr.drew.heap.size := lt_of_block hb
        have HS : Hid (∀ w', Tch [] wr.drew w' → w'.cell? ⟨p, 0, none⟩ = some (.bool leaf) ∧ w'.cell? ⟨p, 1, none⟩ = some (.slice (some ⟨b, o, none⟩) es.length c) ∧ w'.cell? ⟨b, o + k * 3, none⟩ = some (.string e.key) ∧ w'.cell? ⟨b, o + k * 3 + 1, none⟩ = some (.string e.val) ∧ w'.cell? ⟨b, o + k * 3 + 2, none⟩ = some (.int .i64 e.kid)) := fun w' t =>
          ⟨(t.cell hplt (by simp)).trans q0, (t.cell hplt (by simp)).trans q1, (t.cell hbl (by simp)).trans x0, (t.cell hbl (by simp)).trans x1, (t.cell hbl (by simp)).trans x2⟩
        clear x0 x1 x2 hget hrd hst hb hbl hplt hsx hcu
        have HCS := Lib.hid hcs
        clear hcs
        by_cases hgo : W ≤ 2 * (s + sx.size) ∨ k = es.length - 2
        · have HCU : Hid (cutN leaf es = k + 1) := by show _ = _; rw [HCS.out, if_pos hgo]
          have hk1 : k + 1 < es.length := by omega
          have hk1I : (k : Int) + 1 < (es.length : Int) := by omega
          have hwr : IntKind.i64.wrap ((k : Int) + 1) = (k : Int) + 1 := IntWalk.i64_in _ (by omega)
          have hs1 := slice_hi b o es.length c k (by omega)
          have hs2 := slice_lo b o es.length c k (by omega) (by omega)
          have HQ : Hid (∀ w', Tch [] wr.drew w' → w'.cell? ⟨p, 0, none⟩ = some (.bool leaf) ∧ w'.cell? ⟨p, 1, none⟩ = some (.slice (some ⟨b, o, none⟩) es.length c)) := fun w' t => ⟨(HS.out w' t).1, (HS.out w' t).2.1⟩
          have HIRT : Hid (∀ w', Tch [] wr.drew w' → IsR fEn 3 w' (some ⟨b, o, none⟩) (k + 1) b o (es.take (k + 1)) ∧ IsR fEn 3 w' (some ⟨b, o + (k + 1) * 3, none⟩) (es.length - (k + 1)) b (o + (k + 1) * 3) (es.drop (k + 1))) := fun w' t => by
            have hr := HR.out w' (T.drew.trans t)
            have h1 := hr.part 0 (k + 1) (by omega) (some ⟨b, o, none⟩) (fun _ => by simp)
            have h2 := hr.part (k + 1) (es.length - (k + 1)) (by omega) (some ⟨b, o + (k + 1) * 3, none⟩) (fun _ => rfl)
            rw [Nat.zero_mul, Nat.add_zero, List.drop_zero] at h1
            rw [List.take_of_length_le (by simp)] at h2
            exact ⟨h1, h2⟩
          have HTW := Lib.hid (T0.trans T.drew)
          have HFS : Hid (∀ w2, Tch [] wr.drew w2 → SpPost w leaf es (.returned (.slice (some ⟨w2.heap.size + 1 + 1, 0, none⟩) 2 2)) ((((w2.alloc (.cells #[.bool leaf, .slice (some ⟨b, o, none⟩) (k + 1) c] 32)).alloc (.cells #[.bool leaf, .slice (some ⟨b, o + (k + 1) * 3, none⟩) (es.length - (k + 1)) (c - (k + 1))] 32)).alloc (.cells #[.bool leaf, .slice (some ⟨b, o, none⟩) (k + 1) c, .bool leaf, .slice (some ⟨b, o + (k + 1) * 3, none⟩) (es.length - (k + 1)) (c - (k + 1))] 32)).drewN 2)) := fun w2 t => by
            have t2 := tdrewN (((t.alloc (.cells #[.bool leaf, .slice (some ⟨b, o, none⟩) (k + 1) c] 32)).alloc (.cells #[.bool leaf, .slice (some ⟨b, o + (k + 1) * 3, none⟩) (es.length - (k + 1)) (c - (k + 1))] 32)).alloc (.cells #[.bool leaf, .slice (some ⟨b, o, none⟩) (k + 1) c, .bool leaf, .slice (some ⟨b, o + (k + 1) * 3, none⟩) (es.length - (k + 1)) (c - (k + 1))] 32)) 2
            have hbk : ((((w2.alloc (.cells #[.bool leaf, .slice (some ⟨b, o, none⟩) (k + 1) c] 32)).alloc (.cells #[.bool leaf, .slice (some ⟨b, o + (k + 1) * 3, none⟩) (es.length - (k + 1)) (c - (k + 1))] 32)).alloc (.cells #[.bool leaf, .slice (some ⟨b, o, none⟩) (k + 1) c, .bool leaf, .slice (some ⟨b, o + (k + 1) * 3, none⟩) (es.length - (k + 1)) (c - (k + 1))] 32)).drewN 2).heap[w2.heap.size + 1 + 1]? = some (.cells #[.bool leaf, .slice (some ⟨b, o, none⟩) (k + 1) c, .bool leaf, .slice (some ⟨b, o + (k + 1) * 3, none⟩) (es.length - (k + 1)) (c - (k + 1))] 32 (0, 0)) := by
              rw [show w2.heap.size + 1 + 1 = ((w2.alloc (.cells #[.bool leaf, .slice (some ⟨b, o, none⟩) (k + 1) c] 32)).alloc (.cells #[.bool leaf, .slice (some ⟨b, o + (k + 1) * 3, none⟩) (es.length - (k + 1)) (c - (k + 1))] 32)).heap.size from by simp]
              exact blk_new _ _
            obtain ⟨i1, i2⟩ := HIRT.out _ t2
            have hwl := HTW.out.size
            have hws := t.size
            refine ⟨w2.heap.size + 1 + 1, by rw [HSP.out]; rfl, by omega, ?_, HTW.out.trans t2⟩
            rw [HSP.out, HCU.out]
            intro j part hj
            match j, hj with
            | 0, hj =>
              simp at hj; subst hj
              have hlen : (es.take (k + 1)).length = k + 1 := by rw [List.length_take]; omega
              rw [hlen]
              exact ⟨_, c, b, o, by rw [blk_cell hbk]; rfl, by rw [blk_cell hbk]; rfl, i1⟩
            | 1, hj =>
              simp at hj; subst hj
              rw [List.length_drop]
              exact ⟨_, _, b, _, by rw [blk_cell hbk]; rfl, by rw [blk_cell hbk]; rfl, i2⟩
          rcases hgo with hgo | hgo
          · have hd1 : decide ((W : Int) ≤ 2 * ((s : Int) + (sx.size : Int))) = true := decide_eq_true (by omega)
            clear hgo T HCS HR HW0 HE HWL
            go_wp2_with fail
            go_region_held3 (fun w' => w'.cell? ⟨p, 0, none⟩ = some (.bool leaf) ∧ w'.cell? ⟨p, 1, none⟩ = some (.slice (some ⟨b, o, none⟩) es.length c) ∧ w'.cell? ⟨b, o + k * 3, none⟩ = some (.string e.key) ∧ w'.cell? ⟨b, o + k * 3 + 1, none⟩ = some (.string e.val) ∧ w'.cell? ⟨b, o + k * 3 + 2, none⟩ = some (.int .i64 e.kid))
              (first | exact HS.out _ t2 | exact HS.out _ (Tch.refl _ _))
              (first | (go_at_call 33; refine (HEE.out _).mono ?_; rintro e w2 ⟨rfl, t2⟩))
            obtain ⟨r0, r1⟩ := HQ.out _ t2
            clear q0 q1 HS HEE
            go_wp2
            have HQ2 : Hid (∀ w', Tch [] w2.drew w' → w'.cell? ⟨p, 0, none⟩ = some (.bool leaf) ∧ w'.cell? ⟨p, 1, none⟩ = some (.slice (some ⟨b, o, none⟩) es.length c)) := fun w' t => HQ.out w' (t2.drew.trans t)
            go_region_held3 (fun w' => w'.cell? ⟨p, 0, none⟩ = some (.bool leaf) ∧ w'.cell? ⟨p, 1, none⟩ = some (.slice (some ⟨b, o, none⟩) es.length c))
              (first | exact HQ2.out _ (Tch.refl _ _) | exact HQ2.out _ ((Tch.refl _ _).alloc _) | exact HQ2.out _ (((Tch.refl _ _).alloc _).drew))
              (fail)
            go_wp2_with fail
            go_region_held3 (fun w' => w'.cell? ⟨p, 0, none⟩ = some (.bool leaf) ∧ w'.cell? ⟨p, 1, none⟩ = some (.slice (some ⟨b, o, none⟩) es.length c))
              (first | exact HQ2.out _ (Tch.refl _ _) | exact HQ2.out _ ((Tch.refl _ _).alloc _) | exact HQ2.out _ (((Tch.refl _ _).alloc _).drew) | exact HQ2.out _ ((((Tch.refl _ _).alloc _).drew).alloc _) | exact HQ2.out _ (((((Tch.refl _ _).alloc _)).alloc _).drew) | exact HQ2.out _ (((((Tch.refl _ _).alloc _)).alloc _).drew).drew)
              (fail)
            go_wp2_with fail
            go_ret
            exact HFS.out w2 t2
          · by_cases hgo2 : W ≤ 2 * (s + sx.size)
            · have hd1 : decide ((W : Int) ≤ 2 * ((s : Int) + (sx.size : Int))) = true := decide_eq_true (by omega)
              clear hgo hgo2 T HCS HR HW0 HE HWL
              go_wp2_with fail
              go_region_held3 (fun w' => w'.cell? ⟨p, 0, none⟩ = some (.bool leaf) ∧ w'.cell? ⟨p, 1, none⟩ = some (.slice (some ⟨b, o, none⟩) es.length c) ∧ w'.cell? ⟨b, o + k * 3, none⟩ = some (.string e.key) ∧ w'.cell? ⟨b, o + k * 3 + 1, none⟩ = some (.string e.val) ∧ w'.cell? ⟨b, o + k * 3 + 2, none⟩ = some (.int .i64 e.kid))
                (first | exact HS.out _ t2 | exact HS.out _ (Tch.refl _ _))
                (first | (go_at_call 33; refine (HEE.out _).mono ?_; rintro e w2 ⟨rfl, t2⟩))
              obtain ⟨r0, r1⟩ := HQ.out _ t2
              clear q0 q1 HS HEE
              go_wp2
              have HQ2 : Hid (∀ w', Tch [] w2.drew w' → w'.cell? ⟨p, 0, none⟩ = some (.bool leaf) ∧ w'.cell? ⟨p, 1, none⟩ = some (.slice (some ⟨b, o, none⟩) es.length c)) := fun w' t => HQ.out w' (t2.drew.trans t)
              go_region_held3 (fun w' => w'.cell? ⟨p, 0, none⟩ = some (.bool leaf) ∧ w'.cell? ⟨p, 1, none⟩ = some (.slice (some ⟨b, o, none⟩) es.length c))
                (first | exact HQ2.out _ (Tch.refl _ _) | exact HQ2.out _ ((Tch.refl _ _).alloc _) | exact HQ2.out _ (((Tch.refl _ _).alloc _).drew))
                (fail)
              go_wp2_with fail
              go_region_held3 (fun w' => w'.cell? ⟨p, 0, none⟩ = some (.bool leaf) ∧ w'.cell? ⟨p, 1, none⟩ = some (.slice (some ⟨b, o, none⟩) es.length c))
                (first | exact HQ2.out _ (Tch.refl _ _) | exact HQ2.out _ ((Tch.refl _ _).alloc _) | exact HQ2.out _ (((Tch.refl _ _).alloc _).drew) | exact HQ2.out _ ((((Tch.refl _ _).alloc _).drew).alloc _) | exact HQ2.out _ (((((Tch.refl _ _).alloc _)).alloc _).drew) | exact HQ2.out _ (((((Tch.refl _ _).alloc _)).alloc _).drew).drew)
                (fail)
              go_wp2_with fail
              go_ret
              exact HFS.out w2 t2
            · have hd1 : decide ((W : Int) ≤ 2 * ((s : Int) + (sx.size : Int))) = false := decide_eq_false (by omega)
              have hd2 : ((k : Int) == (es.length : Int) - 2) = true := beq_iff_eq.2 (by omega)
              clear hgo hgo2 T HCS HR HW0 HE HWL
              go_wp2_with fail
              go_region_held3 (fun w' => w'.cell? ⟨p, 0, none⟩ = some (.bool leaf) ∧ w'.cell? ⟨p, 1, none⟩ = some (.slice (some ⟨b, o, none⟩) es.length c) ∧ w'.cell? ⟨b, o + k * 3, none⟩ = some (.string e.key) ∧ w'.cell? ⟨b, o + k * 3 + 1, none⟩ = some (.string e.val) ∧ w'.cell? ⟨b, o + k * 3 + 2, none⟩ = some (.int .i64 e.kid))
                (first | exact HS.out _ t2 | exact HS.out _ (Tch.refl _ _))
                (first | (go_at_call 33; refine (HEE.out _).mono ?_; rintro e w2 ⟨rfl, t2⟩))
              obtain ⟨r0, r1⟩ := HQ.out _ t2
              clear q0 q1 HS HEE
              go_wp2
              have HQ2 : Hid (∀ w', Tch [] w2.drew w' → w'.cell? ⟨p, 0, none⟩ = some (.bool leaf) ∧ w'.cell? ⟨p, 1, none⟩ = some (.slice (some ⟨b, o, none⟩) es.length c)) := fun w' t => HQ.out w' (t2.drew.trans t)
              go_region_held3 (fun w' => w'.cell? ⟨p, 0, none⟩ = some (.bool leaf) ∧ w'.cell? ⟨p, 1, none⟩ = some (.slice (some ⟨b, o, none⟩) es.length c))
                (first | exact HQ2.out _ (Tch.refl _ _) | exact HQ2.out _ ((Tch.refl _ _).alloc _) | exact HQ2.out _ (((Tch.refl _ _).alloc _).drew))
                (fail)
              go_wp2_with fail
              go_region_held3 (fun w' => w'.cell? ⟨p, 0, none⟩ = some (.bool leaf) ∧ w'.cell? ⟨p, 1, none⟩ = some (.slice (some ⟨b, o, none⟩) es.length c))
                (first | exact HQ2.out _ (Tch.refl _ _) | exact HQ2.out _ ((Tch.refl _ _).alloc _) | exact HQ2.out _ (((Tch.refl _ _).alloc _).drew) | exact HQ2.out _ ((((Tch.refl _ _).alloc _).drew).alloc _) | exact HQ2.out _ (((((Tch.refl _ _).alloc _)).alloc _).drew) | exact HQ2.out _ (((((Tch.refl _ _).alloc _)).alloc _).drew).drew)
                (fail)
              go_wp2_with fail
              go_ret
              exact HFS.out w2 t2
        · have HCU : Hid (cutN leaf es = cutE leaf W (es.length - 2) (k + 1) (wsum leaf es (k + 1)) (es.drop (k + 1))) := by show _ = _; rw [HCS.out, if_neg hgo, HST.out]
          have hd1 : decide ((W : Int) ≤ 2 * ((s : Int) + (sx.size : Int))) = false := decide_eq_false (by omega)
          have hd2 : ((k : Int) == (es.length : Int) - 2) = false := beq_eq_false_iff_ne.2 (by omega)
          have hk3 : k + 1 + 2 ≤ es.length := by omega
          clear hgo
          go_wp2_with fail
          go_region_held3 (fun w' => w'.cell? ⟨p, 0, none⟩ = some (.bool leaf) ∧ w'.cell? ⟨p, 1, none⟩ = some (.slice (some ⟨b, o, none⟩) es.length c) ∧ w'.cell? ⟨b, o + k * 3, none⟩ = some (.string e.key) ∧ w'.cell? ⟨b, o + k * 3 + 1, none⟩ = some (.string e.val) ∧ w'.cell? ⟨b, o + k * 3 + 2, none⟩ = some (.int .i64 e.kid))
            (first | exact HS.out _ t2 | exact HS.out _ (Tch.refl _ _))
            (first | (go_at_call 33; refine (HEE.out _).mono ?_; rintro e w2 ⟨rfl, t2⟩))
          have T2 := T.drew.trans t2
          obtain ⟨r0, r1, _⟩ := HS.out _ t2
          clear q0 q1
          go_wp2
          go_roundw
          case rel => exact ⟨k + 1, by omega, by go_num, by rw [HST.out]; go_num, HCU.out, T2⟩
          case measure => simp [intOf]; omega

/-- Split, of whatever node. -/
theorem rsplit_any (leaf : Bool) (a : Option Addr) (n c b o : Nat) (es : List En) (w : World) (h : IsR fEn 3 w a n b o es) (hf : Fine es) (hl : es.length ≤ 100000000) (hc : es.length ≤ c) :
    Calls Try.prog 17 #[.agg #[.bool leaf, .slice a n c]] w (SpPost w leaf es) := by
  by_cases h1 : (ndb leaf es).length ≤ 1024 ∨ es.length < 2
  · exact rsplit_one leaf a n c b o es w h hf hl h1
  · exact rsplit_two leaf a n c b o es w h hf hl hc h1
end Go.Proofs.Ytlgfdfpafmopdaa
