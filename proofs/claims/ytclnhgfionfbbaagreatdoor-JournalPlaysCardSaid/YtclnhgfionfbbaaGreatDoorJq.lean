/-
  Plain laws of a journal's heads, and of what an Open of a disk will find. Of no program.
-/
import Derived.Test.YtclnhgfionfbbaaGreatDoorJp
import Derived.Test.YtclnhgfionfbbaaGreatDoorFin
namespace Go.Proofs.YtclnhgfionfbbaaGreatDoor
set_option linter.unusedVariables false

theorem rnums_heads (n : Nat) (s : List UInt8) (l : List Nat) : ∀ (p : Nat) (met : List Nat) (z : List UInt8), s.drop p = l.flatMap ub ++ z → (∀ a ∈ l, a < n) → n ≤ 16384 → (met ++ l).Nodup →
    rnums s n l.length p met = some (met ++ l, p + (l.flatMap ub).length) := by
  induction l with
  | nil => intro p met z _ _ _ _; simp [rnums]
  | cons a l ih =>
    intro p met z hs hn h6 hnd
    have ha := hn a (by simp)
    have hr : rdu (s.drop p) 0 0 = (0, a, (ub a).length) := by
      rw [hs, List.flatMap_cons, List.append_assoc]
      exact rdu_ub64 a (by omega) _
    have hnm : a ∉ met := fun hm => by
      rw [List.nodup_append] at hnd
      exact hnd.2.2 a hm a (by simp) rfl
    rw [List.length_cons, rnums, hr]
    rw [if_neg (by simp [hnm]; omega)]
    rw [ih (p + (ub a).length) (met ++ [a]) z (by rw [← List.drop_drop, hs, List.flatMap_cons, List.append_assoc, List.drop_left]) (fun b hb => hn b (by simp [hb])) h6 (by simpa using hnd)]
    simp
    omega

theorem nil0_rep (k : Nat) : nil0 (List.replicate k 0) = true := by
  unfold nil0
  induction k with
  | zero => rfl
  | succ k ih => rw [List.replicate_succ, List.all_cons, ih]; rfl
/-- A head that a commit wrote names its sectors. -/
theorem rhead_hdb (l : List Nat) (room n : Nat) (hl : l.length ≤ room) (hr : room ≤ 500) (hn : ∀ a ∈ l, a < n) (h6 : n ≤ 16384) (hd : l.Nodup) : rhead (pad (hdb l)).data.toList room n = some l := by
  have hs : (pad (hdb l)).data.toList = ub l.length ++ (l.flatMap ub ++ List.replicate (1024 - (hdb l).size) 0) := by
    show ((hdb l).data.toList ++ List.replicate (1024 - (hdb l).size) 0).toArray.toList = _
    simp [hdb]
  have hr0 : rdu (pad (hdb l)).data.toList 0 0 = (0, l.length, (ub l.length).length) := by
    rw [hs]; exact rdu_ub64 _ (by omega) _
  unfold rhead
  rw [hr0, if_neg (by simp; omega)]
  simp only
  rw [rnums_heads n _ l _ [] (List.replicate (1024 - (hdb l).size) 0) (by rw [hs, List.drop_left]) hn h6 (by simpa using hd)]
  simp only [List.nil_append]
  rw [show (ub l.length).length + (l.flatMap ub).length = (ub l.length ++ l.flatMap ub).length from by simp, hs, ← List.append_assoc, List.drop_left, nil0_rep, if_pos rfl]

/-- The head says that nothing is under way. -/
def Clean (D : Ds) : Prop := pad (D.texts.getD 0 ⟨#[]⟩) = pad ⟨#[]⟩
theorem pad_hdb0 : pad (hdb []) = pad ⟨#[]⟩ := by
  rw [hd_nil, ub_small (by omega)]
  rfl
theorem rhead_clean (room n : Nat) (hr : room ≤ 500) (h6 : n ≤ 16384) : rhead (pad ⟨#[]⟩).data.toList room n = some [] := by
  rw [← pad_hdb0]
  exact rhead_hdb [] room n (by simp) hr (by simp) h6 (by simp)

/-- What sector i will hold, once the copies that l names are in their sectors. -/
def cont (D : Ds) (room : Nat) (l : List Nat) (i : Nat) : ByteArray := if i ∈ l then D.texts.getD (1 + l.idxOf i) ⟨#[]⟩ else D.texts.getD (room + 1 + i) ⟨#[]⟩
/-- What an Open of this disk will find: the head names l, and the sectors will hold 'now'. -/
structure Seen (D : Ds) (room : Nat) (l : List Nat) (now : List ByteArray) : Prop where
  len : D.texts.length = room + 1 + now.length
  head : rhead (pad (D.texts.getD 0 ⟨#[]⟩)).data.toList room now.length = some l
  held : ∀ i, i < now.length → pad (cont D room l i) = pad (now.getD i ⟨#[]⟩)

theorem Seen.keep {D E : Ds} {room : Nat} {l : List Nat} {now : List ByteArray} (h : Seen D room l now) (he : E.texts = D.texts) : Seen E room l now :=
  ⟨by rw [he]; exact h.len, by rw [he]; exact h.head, fun i hi => by unfold cont; rw [he]; exact h.held i hi⟩

/-- A write: it is done, or the power goes off and nothing else has turned. -/
theorem wr_or {D : Ds} {i : Int} {x : ByteArray} (hon : D.on = true) (h0 : 0 ≤ i) (h1 : i < D.texts.length) (hx : x.size ≤ 1024) :
    (D.wcode i x = 0) ∨ (D.wcode i x = 12 ∧ D.left = 0 ∧ (D.wstate i x).on = false ∧ (D.wstate i x).texts = D.texts ∧ (D.wstate i x).done = D.done) := by
  by_cases hl : D.left = 0
  · have := wcode_cut (D := D) (i := i) (x := x) hon h0 h1 hx hl
    rw [this.1, this.2]
    exact Or.inr ⟨rfl, hl, rfl, rfl, rfl⟩
  · exact Or.inl (wcode_in hon h0 h1 hx hl)
theorem wz_left {D : Ds} {i : Int} {x : ByteArray} (h : D.wcode i x = 0) (hl : D.left = -1) : (D.wstate i x).left = -1 := by
  have := wz h
  rw [this.2.2.2.2.2]; simp [tk, hl]
theorem wz_done {D : Ds} {i : Int} {x : ByteArray} (h : D.wcode i x = 0) : (D.wstate i x).done = D.done + 1 := by
  have := wz h
  rw [this.2.2.2.2.2]

theorem wr_other (D : Ds) (i : Int) (x : ByteArray) (j : Nat) (h : (j : Int) ≠ i) : (D.wstate i x).texts.getD j ⟨#[]⟩ = D.texts.getD j ⟨#[]⟩ := by
  unfold Ds.wstate
  split
  · rfl
  · split
    · rfl
    · split
      · rfl
      · split
        · rfl
        · simp only [List.getD_eq_getElem?_getD]
          rw [List.getElem?_set, if_neg (by omega)]
theorem wrs_other (l : List (Int × ByteArray)) : ∀ (D : Ds) (j : Nat), (∀ p ∈ l, (j : Int) ≠ p.1) → (wrs l D).2.texts.getD j ⟨#[]⟩ = D.texts.getD j ⟨#[]⟩ := by
  induction l with
  | nil => intro D j _; rfl
  | cons p l ih =>
    intro D j h
    rw [wrs]
    split
    · rw [ih _ j (fun q hq => h q (by simp [hq])), wr_other _ _ _ _ (h p (by simp))]
    · exact wr_other _ _ _ _ (h p (by simp))
/-- Writes that fit: all are done, or the power goes off. -/
theorem wrs_or (l : List (Int × ByteArray)) : ∀ (D : Ds), D.on = true → (∀ p ∈ l, 0 ≤ p.1 ∧ p.1 < D.texts.length ∧ p.2.size ≤ 1024) →
    ((wrs l D).1 = 0 ∧ (wrs l D).2.on = true ∨ (wrs l D).1 = 12 ∧ (wrs l D).2.on = false) ∧ (D.left = -1 → (wrs l D).1 = 0 ∧ (wrs l D).2.left = -1 ∧ (wrs l D).2.done = D.done + l.length) := by
  induction l with
  | nil => intro D hon _; exact ⟨Or.inl ⟨rfl, hon⟩, fun h => ⟨rfl, h, by simp [wrs]⟩⟩
  | cons p l ih =>
    intro D hon h
    obtain ⟨h0, h1, h2⟩ := h p (by simp)
    rw [wrs]
    rcases wr_or hon h0 h1 h2 with hw | ⟨hw, hl, ho, ht, hdn⟩
    · rw [if_pos hw]
      have := ih (D.wstate p.1 p.2) (wz_on hw) (fun q hq => by rw [wst_len]; exact h q (by simp [hq]))
      refine ⟨this.1, fun hl => ?_⟩
      obtain ⟨a, b, c⟩ := this.2 (wz_left hw hl)
      refine ⟨a, b, ?_⟩
      rw [c, wz_done hw, List.length_cons]
      omega
    · rw [if_neg (by rw [hw]; omega)]
      exact ⟨Or.inr ⟨hw, ho⟩, fun h => by omega⟩

/-- Copies are brought to their sectors: all of them, or the power goes off; nothing but those sectors turns. -/
theorem fin_or (room n : Nat) (l : List Nat) : ∀ (k : Nat) (D : Ds), D.on = true → D.texts.length = room + 1 + n → k + l.length ≤ room → (∀ a ∈ l, a < n) → l.Nodup → (∀ j, (D.texts.getD j ⟨#[]⟩).size ≤ 1024) →
    (∀ j : Nat, (∀ a ∈ l, j ≠ room + 1 + a) → (fin room k l D).2.texts.getD j ⟨#[]⟩ = D.texts.getD j ⟨#[]⟩) ∧
    ((fin room k l D).1 = 0 ∧ (fin room k l D).2.on = true ∧ (∀ m, m < l.length → (fin room k l D).2.texts.getD (room + 1 + l.getD m 0) ⟨#[]⟩ = D.texts.getD (1 + (k + m)) ⟨#[]⟩) ∨ (fin room k l D).1 = 12 ∧ (fin room k l D).2.on = false) ∧
    (D.left = -1 → (fin room k l D).1 = 0 ∧ (fin room k l D).2.left = -1 ∧ (fin room k l D).2.done = D.done + l.length) := by
  induction l with
  | nil => intro k D hon _ _ _ _ _; exact ⟨fun _ _ => rfl, Or.inl ⟨rfl, hon, fun m hm => by simp at hm⟩, fun h => ⟨rfl, h, by simp [fin]⟩⟩
  | cons a l ih =>
    intro k D hon hlen hk hn hnd hsz
    have ha := hn a (by simp)
    simp only [List.length_cons] at hk
    rw [fin, if_neg (by rw [rc_in hon (by omega)]; simp)]
    rcases wr_or (D := D) (i := ((room + 1 + a : Nat) : Int)) (x := D.texts.getD (1 + k) ⟨#[]⟩) hon (by omega) (by omega) (hsz _) with hw | ⟨hw, hl, ho, ht, hdn⟩
    · rw [if_pos hw]
      have hnd2 := List.nodup_cons.1 hnd
      obtain ⟨i1, i2, i3⟩ := ih (k + 1) (D.wstate ((room + 1 + a : Nat) : Int) (D.texts.getD (1 + k) ⟨#[]⟩)) (wz_on hw) (by rw [wst_len]; exact hlen) (by omega) (fun b hb => hn b (by simp [hb])) hnd2.2 (fun j => by
        rw [wz_get hw]
        split
        · exact hsz _
        · exact hsz _)
      refine ⟨fun j hj => ?_, ?_, fun hl => ?_⟩
      · rw [i1 j (fun b hb => hj b (by simp [hb])), wr_other _ _ _ _ (by have := hj a (by simp); omega)]
      · rcases i2 with ⟨h1, h2, h3⟩ | h1
        · refine Or.inl ⟨h1, h2, fun m hm => ?_⟩
          cases m with
          | zero =>
            rw [List.getD_cons_zero, i1 (room + 1 + a) (fun b hb => by
              intro hab
              have : a = b := by omega
              subst this
              exact hnd2.1 hb), wz_get hw, if_pos rfl]
            rfl
          | succ m =>
            rw [List.getD_cons_succ, h3 m (by simp at hm; omega), wr_other _ _ _ _ (by simp at hm; omega)]
            congr 1
            omega
        · exact Or.inr h1
      · obtain ⟨b1, b2, b3⟩ := i3 (wz_left hw hl)
        refine ⟨b1, b2, ?_⟩
        rw [b3, wz_done hw, List.length_cons]
        omega
    · rw [if_neg (by rw [hw]; omega)]
      exact ⟨fun j _ => by rw [ht], Or.inr ⟨hw, ho⟩, fun h => by omega⟩

theorem getD_idx {l : List Nat} {i : Nat} (h : i ∈ l) : l.getD (l.idxOf i) 0 = i := by
  have hx := List.idxOf_lt_length_iff.2 h
  rw [List.getD_eq_getElem?_getD, List.getElem?_eq_getElem hx, Option.getD_some, List.getElem_idxOf]

theorem Seen.nums {D : Ds} {room : Nat} {l : List Nat} {now : List ByteArray} (h : Seen D room l now) : l.length ≤ room ∧ (∀ a ∈ l, a < now.length) ∧ l.Nodup := ⟨rhead_len h.head, rhead_in h.head⟩

/-- What an Open does to a disk with copies under way. -/
theorem fins_seen {D : Ds} {room : Nat} {l : List Nat} {now : List ByteArray} (hon : D.on = true) (hs : Seen D room l now) (hr : room ≤ 500) (h6 : now.length ≤ 16384) (hsz : ∀ j, (D.texts.getD j ⟨#[]⟩).size ≤ 1024) :
    ((fins room l D).1 = 0 ∧ (fins room l D).2.on = true ∧ Seen (fins room l D).2 room [] now ∨ (fins room l D).1 = 12 ∧ (fins room l D).2.on = false ∧ Seen (fins room l D).2 room l now) ∧
    (D.left = -1 → (fins room l D).1 = 0 ∧ (fins room l D).2.left = -1 ∧ (fins room l D).2.done = D.done + l.length + 1) := by
  obtain ⟨hl1, hl2, hl3⟩ := hs.nums
  obtain ⟨f1, f2, f3⟩ := fin_or room now.length l 0 D hon hs.len (by omega) hl2 hl3 hsz
  have flen := fin_len room l 0 D
  have hkeep : Seen (fin room 0 l D).2 room l now := by
    refine ⟨by rw [flen]; exact hs.len, ?_, fun i hi => ?_⟩
    · rw [f1 0 (fun a _ => by omega)]; exact hs.head
    · rw [← hs.held i hi]
      unfold cont
      by_cases h : i ∈ l
      · have hx := List.idxOf_lt_length_iff.2 h
        rw [if_pos h, if_pos h, f1 _ (fun a _ => by omega)]
      · rw [if_neg h, if_neg h, f1 _ (fun a ha => by intro e; have : i = a := by omega
                                                     subst this; exact h ha)]
  unfold fins
  rcases f2 with ⟨g1, g2, g3⟩ | ⟨g1, g2⟩
  · rw [if_pos g1, wrs_one]
    have h0 : (hdb []).size ≤ 1024 := hd_size [] (by simp) (by simp)
    rcases wr_or (D := (fin room 0 l D).2) (i := 0) (x := hdb []) g2 (by omega) (by rw [flen, hs.len]; omega) h0 with hw | ⟨hw, hl, ho, ht, hdn⟩
    · refine ⟨Or.inl ⟨hw, wz_on hw, ⟨by rw [wst_len, flen]; exact hs.len, ?_, fun i hi => ?_⟩⟩, fun hl => ?_⟩
      · rw [wz_get hw, if_pos (by simp), pad_hdb0]
        exact rhead_clean room now.length hr h6
      · rw [← hs.held i hi]
        unfold cont
        rw [if_neg (by simp), wz_get hw, if_neg (by omega)]
        by_cases h : i ∈ l
        · have hx := List.idxOf_lt_length_iff.2 h
          rw [if_pos h]
          have := g3 (l.idxOf i) hx
          rw [getD_idx h, Nat.zero_add] at this
          rw [this]
        · rw [if_neg h, f1 _ (fun a ha => by intro e; have : i = a := by omega
                                             subst this; exact h ha)]
      · obtain ⟨b1, b2, b3⟩ := f3 hl
        refine ⟨hw, wz_left hw b2, ?_⟩
        rw [wz_done hw, b3]
    · refine ⟨Or.inr ⟨hw, ho, hkeep.keep ht⟩, fun h => ?_⟩
      have := (f3 h).2.1
      omega
  · rw [if_neg (by rw [g1]; omega)]
    exact ⟨Or.inr ⟨g1, g2, hkeep⟩, fun h => by have := (f3 h).1; omega⟩

/-- What Open leaves: it is done, or the power goes off; either way it will find the same. -/
theorem jopen_seen {D : Ds} {room : Nat} {l : List Nat} {now : List ByteArray} (hon : D.on = true) (hs : Seen D room l now) (h1 : 1 ≤ room) (hr : room ≤ 500) (h6 : now.length ≤ 16384) (hsz : ∀ j, (D.texts.getD j ⟨#[]⟩).size ≤ 1024) :
    ((jopen room D).1 = 0 ∧ (jopen room D).2.on = true ∧ Seen (jopen room D).2 room [] now ∨ (jopen room D).1 = 12 ∧ (jopen room D).2.on = false ∧ Seen (jopen room D).2 room l now) ∧
    (D.left = -1 → (jopen room D).1 = 0 ∧ (jopen room D).2.left = -1 ∧ (jopen room D).2.done = D.done + (if l = [] then 0 else l.length + 1)) := by
  have hlen : 0 < D.texts.length := by rw [hs.len]; omega
  have hjl : jlen D room = now.length := by unfold jlen; rw [hs.len]; omega
  have hrt : D.rtext 0 = pad (D.texts.getD 0 ⟨#[]⟩) := (rd_in (D := D) (i := 0) hon (by omega) (by omega)).2
  have hrc : D.rcode 0 = 0 := (rd_in (D := D) (i := 0) hon (by omega) (by omega)).1
  have hj : jopen room D = match l with
      | [] => (0, D)
      | a :: l => fins room (a :: l) D := by
    unfold jopen
    rw [if_neg (by omega), if_neg (by rw [hrc]; simp), hrt, Int.toNat_natCast, hjl, hs.head]
    cases l <;> rfl
  rw [hj]
  cases l with
  | nil => exact ⟨Or.inl ⟨rfl, hon, hs⟩, fun h => ⟨rfl, h, by simp⟩⟩
  | cons a l =>
    have := fins_seen hon hs hr h6 hsz
    refine ⟨this.1, fun hl => ?_⟩
    obtain ⟨b1, b2, b3⟩ := this.2 hl
    refine ⟨b1, b2, ?_⟩
    rw [if_neg (by simp)]
    simp only at b3 ⊢
    rw [b3]
    omega

/-- The sectors behind a commit. -/
def upd (now : List ByteArray) (cs : List (Int × ByteArray)) : List ByteArray := cs.foldl (fun s p => s.set p.1.toNat p.2) now
theorem upd_len (cs : List (Int × ByteArray)) : ∀ now, (upd now cs).length = now.length := by
  induction cs with
  | nil => intro now; rfl
  | cons p cs ih => intro now; unfold upd at ih ⊢; rw [List.foldl_cons, ih]; simp
theorem upd_get (cs : List (Int × ByteArray)) : ∀ (now : List ByteArray) (i : Nat), i < now.length → (ats cs).Nodup → (upd now cs).getD i ⟨#[]⟩ = if i ∈ ats cs then (cs.getD ((ats cs).idxOf i) (0, ⟨#[]⟩)).2 else now.getD i ⟨#[]⟩ := by
  induction cs with
  | nil => intro now i hi _; rfl
  | cons p cs ih =>
    intro now i hi hnd
    have hnd2 : p.1.toNat ∉ ats cs ∧ (ats cs).Nodup := List.nodup_cons.1 hnd
    have e : upd now (p :: cs) = upd (now.set p.1.toNat p.2) cs := rfl
    rw [e, ih _ i (by simpa using hi) hnd2.2]
    show _ = if i ∈ p.1.toNat :: ats cs then _ else _
    by_cases hpi : p.1.toNat = i
    · subst hpi
      rw [if_neg hnd2.1, if_pos (by simp)]
      show _ = ((p :: cs).getD ((p.1.toNat :: ats cs).idxOf p.1.toNat) (0, ⟨#[]⟩)).2
      rw [List.idxOf_cons_self]
      simp only [List.getD_eq_getElem?_getD]
      rw [List.getElem?_set, if_pos rfl, if_pos (by simpa using hi)]
      rfl
    · by_cases hic : i ∈ ats cs
      · rw [if_pos hic, if_pos (by simp [hic])]
        show _ = ((p :: cs).getD ((p.1.toNat :: ats cs).idxOf i) (0, ⟨#[]⟩)).2
        rw [show (p.1.toNat :: ats cs).idxOf i = (ats cs).idxOf i + 1 from by rw [List.idxOf_cons, show (p.1.toNat == i) = false from by simpa using hpi]; rfl]
        rfl
      · rw [if_neg hic, if_neg (by simp [hic]; omega)]
        simp only [List.getD_eq_getElem?_getD]
        rw [List.getElem?_set, if_neg hpi]

theorem ats_len (cs : List (Int × ByteArray)) : (ats cs).length = cs.length := by unfold ats; simp
theorem cws_fit {room n : Nat} {cs : List (Int × ByteArray)} (hl : cs.length ≤ room) (hin : ∀ p ∈ cs, 0 ≤ p.1 ∧ p.1 < n ∧ p.2.size ≤ 1024) : ∀ (k : Nat), k + cs.length ≤ room → ∀ p ∈ cps k cs, 1 + k ≤ p.1 ∧ p.1 < 1 + k + cs.length ∧ p.2.size ≤ 1024 := by
  have key : ∀ (l : List (Int × ByteArray)) (k : Nat), (∀ p ∈ l, p.2.size ≤ 1024) → ∀ p ∈ cps k l, 1 + k ≤ p.1 ∧ p.1 < 1 + k + l.length ∧ p.2.size ≤ 1024 := by
    intro l
    induction l with
    | nil => intro k _ p hp; simp [cps] at hp
    | cons q l ih =>
      intro k hs p hp
      rw [cps] at hp
      rcases List.mem_cons.1 hp with rfl | hp
      · exact ⟨by omega, by simp; omega, hs q (by simp)⟩
      · have := ih (k + 1) (fun r hr => hs r (by simp [hr])) p hp
        simp only [List.length_cons]
        refine ⟨by omega, by omega, this.2.2⟩
  intro k _ p hp
  exact key cs k (fun q hq => (hin q hq).2.2) p hp

/-- What a commit leaves: it is refused and nothing turns; or it is done; or the power goes off, and an Open will find the sectors ahead of it, or those behind it. -/
def CmSeen (D : Ds) (room : Nat) (now : List ByteArray) (cs : List (Int × ByteArray)) (c : Int) (E : Ds) : Prop :=
  (c = 0 ∧ E.on = true ∧ Seen E room [] (upd now cs)) ∨ (c = 12 ∧ E.on = false ∧ ∃ l, Seen E room l now ∨ Seen E room l (upd now cs))

theorem jcommit_seen {D : Ds} {room : Nat} {now : List ByteArray} {cs : List (Int × ByteArray)} (hon : D.on = true) (hs : Seen D room [] now) (h1 : 1 ≤ room) (hr : room ≤ 500) (h6 : now.length ≤ 16384) (hsz : ∀ j, (D.texts.getD j ⟨#[]⟩).size ≤ 1024)
    (hl : cs.length ≤ room) (hck : ckc now.length cs [] = 0) :
    CmSeen D room now cs (jcommit room cs D).1 (jcommit room cs D).2 ∧ (D.left = -1 → (jcommit room cs D).1 = 0 ∧ (jcommit room cs D).2.left = -1 ∧ (jcommit room cs D).2.done = D.done + (if cs = [] then 0 else 2 * cs.length + 2)) := by
  have hjl : jlen D room = now.length := by unfold jlen; rw [hs.len]; omega
  by_cases hcs : cs = []
  · subst hcs
    have e : jcommit room [] D = (0, D) := by unfold jcommit; rw [if_neg (by simp), if_pos (Or.inr rfl)]; rfl
    rw [e]
    exact ⟨Or.inl ⟨rfl, hon, hs⟩, fun h => ⟨rfl, h, by simp⟩⟩
  have hin := ckc_in _ cs [] hck
  have hnd := ckc_nodup _ cs [] hck (by simp)
  simp only [List.nil_append] at hnd
  have hal := ats_len cs
  have hatn : ∀ a ∈ ats cs, a < now.length := fun a ha => by
    unfold ats at ha
    obtain ⟨p, hp, rfl⟩ := List.mem_map.1 ha
    have := hin p hp
    omega
  have hatd : (ats cs).Nodup := by
    have e : ats cs = (cs.map Prod.fst).map Int.toNat := by unfold ats; rw [List.map_map]; rfl
    rw [e]
    refine (List.pairwise_map.2 ?_)
    refine List.Pairwise.imp_of_mem (fun {a b} ha hb hab => ?_) hnd
    obtain ⟨p, hp, rfl⟩ := List.mem_map.1 ha
    obtain ⟨q, hq, rfl⟩ := List.mem_map.1 hb
    have := hin p hp
    have := hin q hq
    omega
  have hpos : 0 < cs.length := List.length_pos_iff.2 hcs
  have e0 : jcommit room cs D = wrs (cws room cs) D := by unfold jcommit; rw [if_neg (by omega), if_neg (by rw [hjl]; simp [hck, hcs])]
  have hA := wrs_or (cps 0 cs) D hon (fun p hp => by
    have := cws_fit hl hin 0 (by omega) p hp
    have hlen := hs.len
    refine ⟨by omega, ?_, this.2.2⟩
    have h3 := this.2.1
    omega)
  have hlen1 := wrs_len (cps 0 cs) D
  have hcpl := cps_len cs 0
  have hother : ∀ j : Nat, j < 1 ∨ 1 + cs.length ≤ j → (wrs (cps 0 cs) D).2.texts.getD j ⟨#[]⟩ = D.texts.getD j ⟨#[]⟩ := fun j hj => wrs_other _ D j (fun p hp => by
    have := cws_fit hl hin 0 (by omega) p hp
    omega)
  have hseen1 : Seen (wrs (cps 0 cs) D).2 room [] now := by
    refine ⟨by rw [hlen1]; exact hs.len, by rw [hother 0 (by omega)]; exact hs.head, fun i hi => ?_⟩
    rw [← hs.held i hi]
    unfold cont
    rw [if_neg (by simp), if_neg (by simp), hother _ (by omega)]
  rw [e0, cws, wrs_app]
  rcases hA.1 with ⟨c1, o1⟩ | ⟨c1, o1⟩
  · rw [if_pos c1, wrs]
    simp only
    have hcg := (cps_get cs 0 D c1).1
    simp only [Nat.zero_add] at hcg
    have hhs : (hdb (ats cs)).size ≤ 1024 := hd_size _ (by omega) (fun a ha => by have := hatn a ha; omega)
    generalize (wrs (cps 0 cs) D).2 = E at hA hlen1 hseen1 o1 hcg hother
    rcases wr_or (D := E) (i := 0) (x := hdb (ats cs)) o1 (by omega) (by rw [hseen1.len]; omega) hhs with hw | ⟨hw, hl0, ho, ht, hdn⟩
    · rw [if_pos hw]
      have hseen2 : Seen (E.wstate 0 (hdb (ats cs))) room (ats cs) (upd now cs) := by
        refine ⟨by rw [wst_len, upd_len]; exact hseen1.len, ?_, fun i hi => ?_⟩
        · rw [wz_get hw, if_pos (by simp), upd_len]
          exact rhead_hdb (ats cs) room now.length (by omega) hr hatn h6 hatd
        · rw [upd_len] at hi
          rw [upd_get cs now i hi hatd]
          unfold cont
          by_cases hia : i ∈ ats cs
          · have hx := List.idxOf_lt_length_iff.2 hia
            rw [if_pos hia, if_pos hia, wz_get hw, if_neg (by omega), hcg _ (by omega)]
          · rw [if_neg hia, if_neg hia, wz_get hw, if_neg (by omega), ← hseen1.held i hi]
            unfold cont
            rw [if_neg (by simp)]
      have hcop : ∀ j, j < cs.length → (E.wstate 0 (hdb (ats cs))).texts.getD (1 + j) ⟨#[]⟩ = (cs.getD j (0, ⟨#[]⟩)).2 := fun j hj => by
        rw [wz_get hw, if_neg (by omega), hcg j hj]
      have hsz2 : ∀ j, ((E.wstate 0 (hdb (ats cs))).texts.getD j ⟨#[]⟩).size ≤ 1024 := fun j => by
        rw [wz_get hw]
        split
        · exact hhs
        · by_cases hj : 1 ≤ j ∧ j < 1 + cs.length
          · obtain ⟨q, rfl⟩ : ∃ q, j = 1 + q := ⟨j - 1, by omega⟩
            rw [hcg q (by omega), List.getD_eq_getElem?_getD, List.getElem?_eq_getElem (by omega), Option.getD_some]
            exact (hin _ (List.getElem_mem _)).2.2
          · rw [hother j (by omega)]; exact hsz j
      rw [← fins_cws room cs _ (wz_on hw) (by rw [hseen2.len]; omega) hl hcop]
      have hF := fins_seen (wz_on hw) hseen2 hr (by rw [upd_len]; exact h6) hsz2
      refine ⟨?_, fun hl1 => ?_⟩
      · rcases hF.1 with h | ⟨a1, a2, a3⟩
        · exact Or.inl h
        · exact Or.inr ⟨a1, a2, _, Or.inr a3⟩
      · obtain ⟨b1, b2, b3⟩ := hA.2 hl1
        obtain ⟨d1, d2, d3⟩ := hF.2 (wz_left hw b2)
        refine ⟨d1, d2, ?_⟩
        rw [d3, wz_done hw, b3, if_neg hcs, hal, hcpl]
        omega
    · rw [if_neg (by rw [hw]; omega)]
      exact ⟨Or.inr ⟨hw, ho, _, Or.inl (hseen1.keep ht)⟩, fun h => by have := (hA.2 h).2.1; omega⟩
  · rw [if_neg (by rw [c1]; omega)]
    exact ⟨Or.inr ⟨c1, o1, _, Or.inl hseen1⟩, fun h => by have := (hA.2 h).1; omega⟩
end Go.Proofs.YtclnhgfionfbbaaGreatDoor
