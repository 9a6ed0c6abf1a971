/-
  The order of texts, lists of entries in that order, and what a leaf holds behind a change. Plain; of no program.
-/
import Derived.Test.YtenohgogfddniaaNd
namespace Go.Proofs.Ytenohgogfddniaa
set_option linter.unusedVariables false

theorem bl_irr : ∀ x : List UInt8, Go.Op.bytesLess x x = false
  | [] => rfl
  | a :: x => by simp [Go.Op.bytesLess, bl_irr x, UInt8.lt_irrefl]
theorem bl_tr : ∀ (x y z : List UInt8), Go.Op.bytesLess x y = true → Go.Op.bytesLess y z = true → Go.Op.bytesLess x z = true := by
  intro x
  induction x with
  | nil => intro y z h1 h2; cases z with
    | nil => cases y <;> simp [Go.Op.bytesLess] at h2
    | cons c z => simp [Go.Op.bytesLess]
  | cons a x ih => intro y z h1 h2; cases y with
    | nil => simp [Go.Op.bytesLess] at h1
    | cons b y => cases z with
      | nil => simp [Go.Op.bytesLess] at h2
      | cons c z =>
        simp only [Go.Op.bytesLess, Bool.or_eq_true, Bool.and_eq_true, decide_eq_true_eq, beq_iff_eq] at h1 h2 ⊢
        rcases h1 with h1 | ⟨rfl, h1⟩
        · rcases h2 with h2 | ⟨rfl, h2⟩
          · exact Or.inl (UInt8.lt_trans h1 h2)
          · exact Or.inl h1
        · rcases h2 with h2 | ⟨rfl, h2⟩
          · exact Or.inl h2
          · exact Or.inr ⟨rfl, ih y z h1 h2⟩
theorem bl_tri : ∀ a b : List UInt8, Go.Op.bytesLess a b = false → Go.Op.bytesLess b a = false → a = b
  | [], [], _, _ => rfl
  | [], b :: y, h, _ => by simp [Go.Op.bytesLess] at h
  | a :: x, [], _, h => by simp [Go.Op.bytesLess] at h
  | a :: x, b :: y, h1, h2 => by
    simp only [Go.Op.bytesLess, Bool.or_eq_false_iff, Bool.and_eq_false_iff, decide_eq_false_iff_not] at h1 h2
    have hab : a = b := UInt8.toNat_inj.1 (by
      have h3 := h1.1; have h4 := h2.1
      rw [UInt8.lt_iff_toNat_lt] at h3 h4
      omega)
    subst hab
    rw [bl_tri x y (by rcases h1.2 with h | h; simp at h; exact h) (by rcases h2.2 with h | h; simp at h; exact h)]
theorem lt_irr (a : ByteArray) : slt a a = false := bl_irr _
theorem lt_tr {a b c : ByteArray} (h1 : slt a b = true) (h2 : slt b c = true) : slt a c = true := bl_tr _ _ _ h1 h2
theorem lt_anti {a b : ByteArray} (h : slt a b = true) : slt b a = false := by
  cases h2 : slt b a
  · rfl
  · have := lt_tr h h2; rw [lt_irr] at this; cases this
theorem lt_tri {a b : ByteArray} (h1 : slt a b = false) (h2 : slt b a = false) : a = b := by
  have := bl_tri _ _ h1 h2
  rw [ByteArray.toList_eq, ByteArray.toList_eq] at this
  cases a with | mk x => cases b with | mk y =>
    simp only at this
    congr 1
    exact Array.toList_inj.1 this
theorem lt_ne {a b : ByteArray} (h : slt a b = true) : a ≠ b := fun e => by subst e; rw [lt_irr] at h; cases h
theorem lt_of_ne {a b : ByteArray} (h : a ≠ b) (h2 : slt a b = false) : slt b a = true := by
  cases h3 : slt b a
  · exact absurd (lt_tri h2 h3) h
  · rfl
/-- sle is 'not above'. -/
theorem sle_is (a b : ByteArray) : sle a b = !slt b a := by
  unfold sle
  cases h : slt b a
  · cases h2 : slt a b
    · rw [lt_tri h2 h]; simp
    · rfl
  · rw [lt_anti h]
    have hne := lt_ne h
    simp only [Bool.false_or, Bool.not_true, beq_eq_false_iff_ne, ne_eq]
    intro he
    apply hne
    rw [ByteArray.toList_eq, ByteArray.toList_eq] at he
    cases a with | mk x => cases b with | mk y =>
      simp only at he
      congr 1
      exact (Array.toList_inj.1 he).symm
theorem lt_le_tr {a b c : ByteArray} (h1 : slt a b = true) (h2 : slt c b = false) : slt a c = true := by
  by_cases h : b = c
  · rw [← h]; exact h1
  · exact lt_tr h1 (lt_of_ne (fun e => h e.symm) h2)
theorem le_lt_tr {a b c : ByteArray} (h1 : slt b a = false) (h2 : slt b c = true) : slt a c = true := by
  by_cases h : a = b
  · rw [h]; exact h2
  · exact lt_tr (lt_of_ne (fun e => h e.symm) h1) h2

/-- The entries' keys rise. -/
def Srt (l : List En) : Prop := l.Pairwise fun a b => slt a.key b.key = true
theorem Srt.app {l m : List En} : Srt (l ++ m) ↔ Srt l ∧ Srt m ∧ ∀ a ∈ l, ∀ b ∈ m, slt a.key b.key = true := List.pairwise_append
theorem Srt.cons {a : En} {l : List En} : Srt (a :: l) ↔ (∀ b ∈ l, slt a.key b.key = true) ∧ Srt l := List.pairwise_cons

/-- A change: a key with its new value, or gone. -/
structure Ch where
  key : ByteArray
  val : ByteArray
  gone : Bool
def newE (c : Ch) : List En := if c.gone then [] else [⟨c.key, c.val, 0⟩]
def en0 : En := ⟨⟨#[]⟩, ⟨#[]⟩, 0⟩
/-- Is the key that of the entry where it belongs? -/
def hitE (es : List En) (key : ByteArray) : Bool := match es[plcN es key]? with
  | some e => e.key.toList == key.toList
  | none => false
/-- A leaf's entries behind a change, as package tree reckons them. -/
def altE (es : List En) (c : Ch) : List En :=
  if hitE es c.key = true then es.take (plcN es c.key) ++ newE c ++ es.drop (plcN es c.key + 1)
  else if 0 < es.length ∧ slt (es.getD (plcN es c.key) en0).key c.key = true then es.take (plcN es c.key + 1) ++ newE c ++ es.drop (plcN es c.key + 1)
  else es.take (plcN es c.key) ++ newE c ++ es.drop (plcN es c.key)
/-- .. and as the document has them. -/
def altL (es : List En) (c : Ch) : List En := es.filter (fun e => slt e.key c.key) ++ newE c ++ es.filter (fun e => slt c.key e.key)

/-- A list in order is cut by a key: what is below, what has it, what is above. -/
theorem srt_cut (key : ByteArray) : ∀ (es : List En), Srt es → ∃ L m G, es = L ++ m ++ G ∧ (∀ e ∈ L, slt e.key key = true) ∧ (m = [] ∨ ∃ e, m = [e] ∧ e.key = key) ∧ ∀ e ∈ G, slt key e.key = true
  | [], _ => ⟨[], [], [], rfl, by simp, Or.inl rfl, by simp⟩
  | e :: es, h => by
    obtain ⟨h1, h2⟩ := Srt.cons.1 h
    obtain ⟨L, m, G, rfl, hL, hm, hG⟩ := srt_cut key es h2
    cases h3 : slt e.key key
    · cases h4 : slt key e.key
      · have hk := lt_tri h3 h4
        refine ⟨[], [e], L ++ m ++ G, rfl, by simp, Or.inr ⟨e, rfl, hk⟩, fun x hx => ?_⟩
        rw [← hk]; exact h1 x hx
      · refine ⟨[], [], e :: (L ++ m ++ G), rfl, by simp, Or.inl rfl, fun x hx => ?_⟩
        rcases List.mem_cons.1 hx with rfl | hx
        · exact h4
        · exact lt_tr h4 (h1 x hx)
    · exact ⟨e :: L, m, G, by simp, fun x hx => by
        rcases List.mem_cons.1 hx with rfl | hx
        · exact h3
        · exact hL x hx, hm, hG⟩
theorem plc_low (key : ByteArray) : ∀ (L R : List En) (at_ i : Nat), (∀ e ∈ L, sle e.key key = true) → plcE key at_ i (L ++ R) = plcE key (if L = [] then at_ else i + L.length - 1) (i + L.length) R
  | [], R, at_, i, _ => by simp
  | e :: L, R, at_, i, h => by
    rw [List.cons_append, plcE, if_pos (h e (by simp)), plc_low key L R i (i + 1) (fun x hx => h x (by simp [hx]))]
    rw [List.length_cons, show i + 1 + L.length = i + (L.length + 1) from by omega]
    by_cases hl : L = []
    · subst hl; simp
    · rw [if_neg hl, if_neg (List.cons_ne_nil e L)]
theorem plc_high (key : ByteArray) : ∀ (R : List En) (at_ i : Nat), (∀ e ∈ R, sle e.key key = false) → plcE key at_ i R = at_
  | [], at_, i, _ => rfl
  | e :: R, at_, i, h => by
    rw [plcE, if_neg (by rw [h e (by simp)]; simp), plc_high key R at_ (i + 1) (fun x hx => h x (by simp [hx]))]
/-- Where a key belongs: behind what isn't above it. -/
theorem plc_cut (key : ByteArray) (L R : List En) (hL : ∀ e ∈ L, slt key e.key = false) (hR : ∀ e ∈ R, slt key e.key = true) : plcN (L ++ R) key = L.length - 1 := by
  unfold plcN
  rw [plc_low key L R 0 0 (fun e he => by rw [sle_is, hL e he]; rfl), plc_high key R _ _ (fun e he => by rw [sle_is, hR e he]; rfl)]
  by_cases hl : L = []
  · subst hl; rfl
  · rw [if_neg hl]; omega

theorem altL_cut {key : ByteArray} (c : Ch) (hc : c.key = key) {L m G : List En} (hL : ∀ e ∈ L, slt e.key key = true) (hm : m = [] ∨ ∃ e, m = [e] ∧ e.key = key) (hG : ∀ e ∈ G, slt key e.key = true) : altL (L ++ m ++ G) c = L ++ newE c ++ G := by
  subst hc
  unfold altL
  have g1 : G.filter (fun e => slt e.key c.key) = [] := List.filter_eq_nil_iff.2 (fun e he => by rw [lt_anti (hG e he)]; simp)
  have g2 : L.filter (fun e => slt c.key e.key) = [] := List.filter_eq_nil_iff.2 (fun e he => by rw [lt_anti (hL e he)]; simp)
  have g3 : m.filter (fun e => slt e.key c.key) = [] := by
    rcases hm with rfl | ⟨e, rfl, he⟩
    · rfl
    · simp [he, lt_irr]
  have g4 : m.filter (fun e => slt c.key e.key) = [] := by
    rcases hm with rfl | ⟨e, rfl, he⟩
    · rfl
    · simp [he, lt_irr]
  rw [List.filter_append, List.filter_append, List.filter_append, List.filter_append, List.filter_eq_self.2 hL, List.filter_eq_self.2 hG, g1, g2, g3, g4]
  simp
theorem altE_is (es : List En) (c : Ch) (h : Srt es) : altE es c = altL es c := by
  obtain ⟨L, m, G, rfl, hL, hm, hG⟩ := srt_cut c.key es h
  rw [altL_cut c rfl hL hm hG]
  unfold altE
  rcases hm with rfl | ⟨e, rfl, he⟩
  · rw [List.append_nil]
    have hp := plc_cut c.key L G (fun e he => lt_anti (hL e he)) hG
    have hh : hitE (L ++ G) c.key = false := by
      unfold hitE
      cases hg : (L ++ G)[plcN (L ++ G) c.key]? with
      | none => rfl
      | some e =>
        have hne : e.key ≠ c.key := by
          rcases List.mem_append.1 (List.mem_of_getElem? hg) with h1 | h1
          · exact lt_ne (hL e h1)
          · exact (lt_ne (hG e h1)).symm
        simp only [beq_eq_false_iff_ne, ne_eq]
        intro h2
        apply hne
        rw [ByteArray.toList_eq, ByteArray.toList_eq] at h2
        cases hx : e.key with | mk x => cases hy : c.key with | mk y =>
          rw [hx, hy] at h2
          simp only at h2
          congr 1
          exact Array.toList_inj.1 h2
    rw [hh, hp, if_neg (by simp)]
    rcases L.eq_nil_or_concat with rfl | ⟨L', x, rfl⟩
    · rw [if_neg ?_]
      · simp
      · rintro ⟨h1, h2⟩
        cases G with
        | nil => simp at h1
        | cons g G =>
          simp at h2
          rw [lt_anti (hG g (by simp))] at h2
          cases h2
    · rw [List.concat_eq_append] at *
      rw [if_pos ?_]
      · rw [show (L' ++ [x]).length - 1 + 1 = (L' ++ [x]).length from by simp, List.take_left, List.drop_left]
      · refine ⟨by simp; omega, ?_⟩
        have : ((L' ++ [x]) ++ G).getD ((L' ++ [x]).length - 1) en0 = x := by simp [List.getD_eq_getElem?_getD]
        rw [this]; exact hL x (by simp)
  · have hp : plcN (L ++ [e] ++ G) c.key = L.length := by
      rw [plc_cut c.key (L ++ [e]) G ?_ hG]
      · simp
      · intro x hx
        rcases List.mem_append.1 hx with h1 | h1
        · exact lt_anti (hL x h1)
        · simp at h1; subst h1; rw [he]; exact lt_irr _
    have hh : hitE (L ++ [e] ++ G) c.key = true := by
      unfold hitE
      rw [hp]
      simp [he]
    rw [hh, hp, if_pos rfl]
    simp [List.drop_append]
/-- What is below and what is above stay as they are. -/
theorem altL_mid (A m C : List En) (c : Ch) (hA : ∀ e ∈ A, slt e.key c.key = true) (hC : ∀ e ∈ C, slt c.key e.key = true) : altL (A ++ m ++ C) c = A ++ altL m c ++ C := by
  unfold altL
  have g1 : C.filter (fun e => slt e.key c.key) = [] := List.filter_eq_nil_iff.2 (fun e he => by rw [lt_anti (hC e he)]; simp)
  have g2 : A.filter (fun e => slt c.key e.key) = [] := List.filter_eq_nil_iff.2 (fun e he => by rw [lt_anti (hA e he)]; simp)
  rw [List.filter_append, List.filter_append, List.filter_append, List.filter_append, List.filter_eq_self.2 hA, List.filter_eq_self.2 hC, g1, g2]
  simp
theorem altL_mem {es : List En} {c : Ch} {x : En} : x ∈ altL es c ↔ (x ∈ es ∧ x.key ≠ c.key) ∨ x ∈ newE c := by
  unfold altL
  simp only [List.mem_append, List.mem_filter]
  constructor
  · rintro ((⟨h1, h2⟩ | h) | ⟨h1, h2⟩)
    · exact Or.inl ⟨h1, lt_ne h2⟩
    · exact Or.inr h
    · exact Or.inl ⟨h1, (lt_ne h2).symm⟩
  · rintro (⟨h1, h2⟩ | h)
    · cases h3 : slt x.key c.key
      · exact Or.inr ⟨h1, lt_of_ne h2 h3⟩
      · exact Or.inl (Or.inl ⟨h1, rfl⟩)
    · exact Or.inl (Or.inr h)
theorem newE_key {c : Ch} {x : En} (h : x ∈ newE c) : x.key = c.key := by
  unfold newE at h
  cases hg : c.gone
  · rw [hg] at h; simp at h; rw [h]
  · rw [hg] at h; simp at h
theorem newE_srt (c : Ch) : Srt (newE c) := by
  unfold newE
  cases c.gone <;> simp [Srt]
theorem altL_srt {es : List En} {c : Ch} (h : Srt es) : Srt (altL es c) := by
  unfold altL
  rw [Srt.app, Srt.app]
  refine ⟨⟨h.filter _, newE_srt c, fun a ha b hb => ?_⟩, h.filter _, fun a ha b hb => ?_⟩
  · rw [newE_key hb]; exact (List.mem_filter.1 ha).2
  · have h2 := (List.mem_filter.1 hb).2
    rcases List.mem_append.1 ha with h1 | h1
    · exact lt_tr (List.mem_filter.1 h1).2 h2
    · rw [newE_key h1]; exact h2
/-- Two lists in order that have the same entries are the same. -/
theorem srt_ext : ∀ {l m : List En}, Srt l → Srt m → (∀ x, x ∈ l ↔ x ∈ m) → l = m
  | [], [], _, _, _ => rfl
  | [], b :: m, _, _, h => by have := (h b).2 (by simp); simp at this
  | a :: l, [], _, _, h => by have := (h a).1 (by simp); simp at this
  | a :: l, b :: m, h1, h2, h => by
    obtain ⟨h3, h4⟩ := Srt.cons.1 h1
    obtain ⟨h5, h6⟩ := Srt.cons.1 h2
    have hab : a = b := by
      rcases List.mem_cons.1 ((h a).1 (by simp)) with e | e
      · exact e
      · rcases List.mem_cons.1 ((h b).2 (by simp)) with e2 | e2
        · exact e2.symm
        · have := lt_tr (h5 a e) (h3 b e2); rw [lt_irr] at this; cases this
    subst hab
    congr 1
    refine srt_ext h4 h6 (fun x => ⟨fun hx => ?_, fun hx => ?_⟩)
    · rcases List.mem_cons.1 ((h x).1 (by simp [hx])) with e | e
      · subst e; have := h3 x hx; rw [lt_irr] at this; cases this
      · exact e
    · rcases List.mem_cons.1 ((h x).2 (by simp [hx])) with e | e
      · subst e; have := h5 x hx; rw [lt_irr] at this; cases this
      · exact e
end Go.Proofs.Ytenohgogfddniaa
