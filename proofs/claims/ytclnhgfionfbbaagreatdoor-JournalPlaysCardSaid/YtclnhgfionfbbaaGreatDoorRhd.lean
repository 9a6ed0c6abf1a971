/-
  'readHead' of package journal: what a head names, or that it is none. Conditions: the journal is one that Open makes, over a disk; the text's length is an int's.
-/
import Derived.Test.YtclnhgfionfbbaaGreatDoorHead
import Derived.Lib.TrimByte
namespace Go.Proofs.YtclnhgfionfbbaaGreatDoor
open Go.RowKit
set_option linter.unusedVariables false

theorem Tryz.info_int : (Tryz.prog.info? 3).map (fun i => (i.zero, i.size, i.bytes)) = some (some (.int .i64 0), 1, 8) := by kernel_rfl
theorem dropWhile_all (l : List UInt8) (h : l.all (· == 0) = true) : l.dropWhile (· == 0) = [] := by
  induction l with
  | nil => rfl
  | cons a l ih =>
    simp only [List.all_cons, Bool.and_eq_true] at h
    rw [List.dropWhile_cons, if_pos h.1, ih h.2]
theorem dropWhile_some (l : List UInt8) (h : l.all (· == 0) = false) : (l.dropWhile (· == 0)).all (· == 0) = false := by
  induction l with
  | nil => simp at h
  | cons a l ih =>
    rw [List.dropWhile_cons]
    by_cases ha : (a == 0) = true
    · rw [if_pos ha]
      simp only [List.all_cons, ha, Bool.true_and] at h
      exact ih h
    · rw [if_neg ha]; exact h
theorem trim_nil {l : List UInt8} (h : nil0 l = true) : Lib.trimB l 0 = [] := by
  unfold Lib.trimB Lib.trimRightB Lib.trimLeftB
  rw [dropWhile_all l.reverse (by unfold nil0 at h; rw [List.all_reverse]; exact h)]
  rfl
theorem trim_some {l : List UInt8} (h : nil0 l = false) : Lib.trimB l 0 ≠ [] := by
  unfold Lib.trimB Lib.trimRightB Lib.trimLeftB
  have h1 := dropWhile_some l.reverse (by unfold nil0 at h; rw [List.all_reverse]; exact h)
  have h2 := dropWhile_some (l.reverse.dropWhile (· == 0)).reverse (by rw [List.all_reverse]; exact h1)
  intro h3
  rw [h3] at h2
  simp at h2

theorem rdu_at (s : ByteArray) (p : Nat) (w : World) (hs : s.size ≤ 9223372036854775807) :
    Calls Tryz.prog 47 #[.string s, .int .i64 p] w fun e w' => e = rduE (s.data.toList.drop p) p ∧ w = w' := by
  by_cases hp : p < s.size
  · exact rdu_any s p w hs hp
  · refine (rdu_low s p w (Or.inr (by omega))).mono ?_
    rintro e w' ⟨rfl, rfl⟩
    refine ⟨?_, rfl⟩
    rw [rduE_no (c := 20) (by rw [List.drop_eq_nil_of_le (by rw [← Lib.size_eq]; omega), rdu_nil _ (by omega)]) (by omega)]

/-- What is read: an error, or a number and the place behind it. -/
theorem rdu_cases (L : List UInt8) : (∃ c : Int, c ≠ 0 ∧ rdu L 0 0 = (c, 0, 0)) ∨ ∃ u n : Nat, rdu L 0 0 = (0, u, n) ∧ u < 18446744073709551616 ∧ n ≤ L.length := by
  have key : ∀ (l : List UInt8) (i v : Nat), (∃ c : Int, c ≠ 0 ∧ rdu l i v = (c, 0, 0)) ∨ ∃ u n : Nat, rdu l i v = (0, u, n) := by
    intro l
    induction l with
    | nil =>
      intro i v
      by_cases hi : i = 10
      · subst hi; exact Or.inl ⟨21, by omega, rdu_10 _ _⟩
      · exact Or.inl ⟨20, by omega, rdu_nil _ hi⟩
    | cons b l ih =>
      intro i v
      by_cases hi : i = 10
      · subst hi; exact Or.inl ⟨21, by omega, rdu_10 _ _⟩
      by_cases hb : 128 ≤ b.toNat
      · rw [rdu_more l v hi hb]; exact ih _ _
      · by_cases h0 : b.toNat = 0 ∧ i ≠ 0
        · exact Or.inl ⟨21, by omega, rdu_zero l v hi h0.1 h0.2⟩
        · by_cases h9 : i = 9 ∧ 1 < b.toNat
          · obtain ⟨rfl, h9⟩ := h9
            exact Or.inl ⟨21, by omega, rdu_ten l v (by omega) h9⟩
          · exact Or.inr ⟨_, _, rdu_last l v hi (by omega) h0 h9⟩
  rcases key L 0 0 with h | ⟨u, n, h⟩
  · exact Or.inl h
  · have := rdu_bound L 0 0 0 u n h (by simp) (by omega) rfl
    exact Or.inr ⟨u, n, h, this.1, by omega⟩

/-- What readHead answers and leaves. -/
def RhPost (w : World) (s : List UInt8) (room n : Nat) (e : Ending) (w' : World) : Prop :=
  Tch [] w w' ∧ ((rhead s room n = none ∧ e = .returned (.tuple #[.slice none 0 0, .bool false])) ∨ ∃ l v, rhead s room n = some l ∧ e = .returned (.tuple #[v, .bool true]) ∧ w'.ownsRow w.heap.size 3 1 v l.length (l.map fun a : Nat => Value.int .i64 (a : Int)))

/-- What holds at the head of each round. -/
def RhRel (w : World) (s : List UInt8) (n cnt p0 : Nat) (v7 v10 v31 : Value) (wr : World) : Prop :=
  ∃ (k p : Nat) (met : List Nat), k ≤ cnt ∧ v31 = .int .u64 k ∧ v7 = .int .i64 p ∧ p ≤ s.length ∧ met.length = k ∧ (∀ a ∈ met, a < n) ∧ MapOf wr w.heap.size k (met.map fun a : Nat => (a : Int)) ∧
    wr.ownsRow w.heap.size 3 1 v10 met.length (met.map fun a : Nat => Value.int .i64 (a : Int)) ∧ Tch [] w wr ∧ rnums s n cnt p0 [] = rnums s n (cnt - k) p met

theorem rhead_no1 {s : List UInt8} {room n : Nat} (h : (rdu s 0 0).1 ≠ 0 ∨ room < (rdu s 0 0).2.1) : rhead s room n = none := by unfold rhead; rw [if_pos h]
theorem rhead_of {s : List UInt8} {room n cnt p : Nat} (h : rdu s 0 0 = (0, cnt, p)) (hc : cnt ≤ room) : rhead s room n = match rnums s n cnt p [] with
  | none => none
  | some (l, p) => if nil0 (s.drop p) then some l else none := by unfold rhead; rw [h, if_neg (by simp; omega)]; rfl
theorem own_map_ne {w : World} {base size n m : Nat} {e : TypeId} {v : Value} {xs : List Value} {mb : Nat} {S : List Int} (h : w.ownsRow base e size v n xs) (hm : MapOf w mb m S) : v.ownBlock ≠ some mb := by
  obtain ⟨D, ⟨es, clock, hb, _⟩, _⟩ := hm
  rcases h.2 with ⟨rfl, _⟩ | ⟨g, cap, cur, rfl, _, hg, _⟩
  · simp [Value.ownBlock]
  · intro he
    simp only [Value.ownBlock, Option.some.injEq] at he
    subst he
    rw [hb] at hg
    cases hg

set_option maxRecDepth 100000 in
set_option maxHeartbeats 2000000 in
theorem rhd_any (jb b bs room : Nat) (D : Ds) (s : ByteArray) (w : World) (h : IsJn w jb b room) (hd : IsDs w b bs D) (hr : room ≤ 500) (hs : s.size ≤ 9223372036854775807) :
    Calls Tryz.prog 30 #[.pointer (some ⟨jb, 0, none⟩), .string s] w (RhPost w s.data.toList room (jlen D room)) := by
  have hlen := hd.len
  have hjl : jlen D room ≤ 16384 := by unfold jlen; omega
  have HRD : Hid (∀ p w1, _) := fun p w1 => rdu_at s p w1 hs
  have HSZ := Lib.hid (Lib.size_eq s)
  have c1 := h.c1
  obtain ⟨i0, hi, hz0, hz1, hz2⟩ := info_parts Tryz.info_int
  have hmm := @run_makeMap Tryz.prog
  have hrw : IntKind.u64.wrap (room : Int) = (room : Int) := by rw [IntKind.wrap_u64]; omega
  have H0 := Lib.hid (HRD.out 0 w)
  rw [List.drop_zero] at H0
  rcases rdu_cases s.data.toList with ⟨c, hc, hr0⟩ | ⟨cnt, p0, hr0, hcnt, hp0⟩
  · have hne : (c != 0) = true := by simpa using hc
    have HF : Hid (RhPost w s.data.toList room (jlen D room) (.returned (.tuple #[.slice none 0 0, .bool false])) w) := ⟨Tch.refl _ _, Or.inl ⟨rhead_no1 (Or.inl (by rw [hr0]; exact hc)), rfl⟩⟩
    rw [rduE_no hr0 hc] at H0
    clear hr0 hc hd
    go_enter Tryz.func30, Tryz.ntmps30
    go_wp2_with (first | (go_at_call 47; refine H0.out.mono ?_; rintro e w1 ⟨rfl, rfl⟩))
    go_ret2
    exact HF.out
  by_cases hcr : room < cnt
  · have hne : decide (room < cnt) = true := by simpa using hcr
    have HF : Hid (RhPost w s.data.toList room (jlen D room) (.returned (.tuple #[.slice none 0 0, .bool false])) w) := ⟨Tch.refl _ _, Or.inl ⟨rhead_no1 (Or.inr (by rw [hr0]; exact hcr)), rfl⟩⟩
    rw [rduE_ok hr0] at H0
    clear hr0 hd hcr
    go_enter Tryz.func30, Tryz.ntmps30
    go_wp2_with (first | (go_at_call 47; refine H0.out.mono ?_; rintro e w1 ⟨rfl, rfl⟩))
    go_ret2
    exact HF.out
  have HRO := Lib.hid (rhead_of (n := jlen D room) hr0 (by omega : cnt ≤ room))
  rw [rduE_ok hr0, Nat.zero_add] at H0
  have hne : decide (room < cnt) = false := by simpa using hcr
  have hmap := MapOf.made w
  have T0 := (Tch.refl [] w).alloc (.map #[] 0)
  have hcb : cnt ≤ 500 := by omega
  clear hr0 hcr
  generalize hn : jlen D room = n at HRO hjl ⊢
  have HJ : Hid (∀ wr, Tch [] w wr → Calls Tryz.prog 12 #[.pointer (some ⟨jb, 0, none⟩)] wr fun e w' => e = .returned (.int .i64 (n : Nat)) ∧ wr = w') := fun wr t => by
    rw [← hn]; exact jlen_any jb b bs room D wr (h.keep t (by simp)) (hd.keep t (by simp) (by simp)) hr
  clear hn hd h
  go_enter Tryz.func30, Tryz.ntmps30
  go_wp2_with (first | (go_at_call 47; refine H0.out.mono ?_; rintro e w1 ⟨rfl, rfl⟩))
  clear hmm H0 c1 hrw hne
  go_loopw [7, 10, 31] (fun v7 v10 v31 wr => RhRel w s.data.toList n cnt p0 v7 v10 v31 wr) (fun _ _ v31 _ => cnt - (intOf v31).toNat)
  case atStart => exact ⟨0, p0, [], by omega, rfl, rfl, hp0, rfl, by simp, hmap, World.ownsRow_nil _ _ _ _, T0, rfl⟩
  case round =>
    obtain ⟨k, p, met, hk, rfl, rfl, hp, hml, hmn, hm, hown, T, hrn⟩ := hrel
    by_cases hkc : k < cnt
    · have hps : p ≤ s.size := by rw [HSZ.out]; exact hp
      have HE : Hid (rnums s.data.toList n cnt p0 [] = if (rdu (s.data.toList.drop p) 0 0).1 ≠ 0 ∨ n ≤ (rdu (s.data.toList.drop p) 0 0).2.1 ∨ (rdu (s.data.toList.drop p) 0 0).2.1 ∈ met then none
          else rnums s.data.toList n (cnt - (k + 1)) (p + (rdu (s.data.toList.drop p) 0 0).2.2) (met ++ [(rdu (s.data.toList.drop p) 0 0).2.1])) := by
        show _ = _
        rw [hrn, show cnt - k = (cnt - (k + 1)) + 1 from by omega, rnums]
      have HR := Lib.hid (HRD.out p wr)
      have HJ1 := Lib.hid (HJ.out wr T)
      have hkc2 : decide (k < cnt) = true := by simpa using hkc
      have HML := Lib.hid hml
      clear hrn hml
      rcases rdu_cases (s.data.toList.drop p) with ⟨c, hc, hr1⟩ | ⟨a, q, hr1, ha, hq⟩
      · have hne : (c != 0) = true := by simpa using hc
        have HF : Hid (RhPost w s.data.toList room n (.returned (.tuple #[.slice none 0 0, .bool false])) wr) := ⟨T, Or.inl ⟨by rw [HRO.out, HE.out, hr1, if_pos (Or.inl hc)], rfl⟩⟩
        rw [rduE_no hr1 hc] at HR
        clear hr1 hc hmn
        go_wp2_with (first | (go_at_call 47; refine HR.out.mono ?_; rintro e w1 ⟨rfl, rfl⟩))
        go_ret2
        exact HF.out
      rw [hr1] at HE
      simp only at HE
      rw [rduE_ok hr1] at HR
      have hq2 : p + q ≤ s.data.toList.length := by rw [List.length_drop] at hq; omega
      have hpq : ((p + q : Nat) : Int) ≤ 9223372036854775807 := by have := HSZ.out; omega
      clear hr1 hq hps
      by_cases han : n ≤ a
      · have HF : Hid (RhPost w s.data.toList room n (.returned (.tuple #[.slice none 0 0, .bool false])) wr) := ⟨T, Or.inl ⟨by rw [HRO.out, HE.out, if_pos (Or.inr (Or.inl han))], rfl⟩⟩
        have hne : decide (n ≤ a) = true := by simpa using han
        have hnw : IntKind.u64.wrap (n : Int) = (n : Int) := by rw [IntKind.wrap_u64]; omega
        clear hmn HE han
        go_wp2_with (first | (go_at_call 47; refine HR.out.mono ?_; rintro e w1 ⟨rfl, rfl⟩) | (go_at_call 12; refine HJ1.out.mono ?_; rintro e w1 ⟨rfl, rfl⟩))
        go_ret2
        exact HF.out
      have hne : decide (n ≤ a) = false := by simpa using han
      have hnw : IntKind.u64.wrap (n : Int) = (n : Int) := by rw [IntKind.wrap_u64]; omega
      have haw : IntKind.i64.wrap (a : Int) = (a : Int) := IntWalk.i64_in _ (by omega)
      by_cases ham : a ∈ met
      · have HF : Hid (∀ w1, Tch [w.heap.size] wr w1 → RhPost w s.data.toList room n (.returned (.tuple #[.slice none 0 0, .bool false])) w1) := fun w1 t1 => ⟨T.transNew t1 (by simp), Or.inl ⟨by rw [HRO.out, HE.out, if_pos (Or.inr (Or.inr ham))], rfl⟩⟩
        have HM := Lib.hid (met_yes w.heap.size k _ a wr hm (WalkArith.wf_i64 (by omega)) (by omega) (List.mem_map.2 ⟨a, ham, rfl⟩))
        clear hmn HE han ham
        go_wp2_with (first | (go_at_call 47; refine HR.out.mono ?_; rintro e w1 ⟨rfl, rfl⟩) | (go_at_call 12; refine HJ1.out.mono ?_; rintro e w1 ⟨rfl, rfl⟩) | (go_at_call 48; refine HM.out.mono ?_; rintro e w1 ⟨rfl, t1⟩))
        go_ret2
        exact HF.out _ t1
      have HM := Lib.hid (met_no w.heap.size k _ a wr hm (WalkArith.wf_i64 (by omega)) (by omega) (by
        rw [List.mem_map]; rintro ⟨x, hx, hxa⟩; exact ham (by have : x = a := by omega
                                                              rw [← this]; exact hx)))
      have HE2 : Hid (rnums s.data.toList n cnt p0 [] = rnums s.data.toList n (cnt - (k + 1)) (p + q) (met ++ [a])) := by
        show _ = _
        rw [HE.out, if_neg (by simp [han, ham])]
      have HMN : Hid (∀ x ∈ met ++ [a], x < n) := fun x hx => by
        rcases List.mem_append.1 hx with h1 | h1
        · exact hmn x h1
        · simp only [List.mem_singleton] at h1; omega
      have HNE := Lib.hid (own_map_ne hown hm)
      have hsz := T.size
      clear HE hmn ham hm han
      go_wp2_with (first | (go_at_call 47; refine HR.out.mono ?_; rintro e w1 ⟨rfl, rfl⟩) | (go_at_call 12; refine HJ1.out.mono ?_; rintro e w1 ⟨rfl, rfl⟩) | (go_at_call 48; refine HM.out.mono ?_; rintro e w1 ⟨rfl, hm1, t1⟩; have hown1 := own_keep hown t1 (by intro g hg hm2; simp only [List.mem_singleton] at hm2; exact HNE.out (by rw [hg, hm2])); have T1 := T.transNew t1 (by simp)) | (at_builtin; refine wpList_append_own _ rfl _ _ 85 rfl w.heap.size 3 i0 (.int .i64 0) 1 8 Tryz.underlying85 hi hz0 hz1 hz2 rfl (by decide) _ _ _ rfl (hown1.alloc _) ⟨w1.heap.size, 0, none⟩ 1 1 [.int .i64 (a : Int)] rfl rfl ?c1 ?c2 ?c3 ?c4 ?c5 ?_))
      case c1 => exact cells_one _ _ _
      case c2 => intro x hx; simp only [List.mem_singleton] at hx; subst hx; rfl
      case c3 => have := HML.out; unfold maxLen; omega
      case c4 => have := HML.out; omega
      case c5 => have := T1.size; simp; omega
      intro v' w2 hown2 hgrow _
      have T2 := (T1.alloc (.cells #[.int .i64 (a : Int)] 3)).own (hown1.alloc _) (Nat.le_refl _) hgrow
      have hm2 : MapOf w2 w.heap.size (k + 1) ((met ++ [a]).map fun x : Nat => (x : Int)) := by
        have hm3 := hm1.kept ((Tch.refl [] w1).alloc (.cells #[.int .i64 (a : Int)] 3)) (by simp)
        have hlt := hm3.lt
        obtain ⟨DD, ⟨es, clock, hb, F, hsz2, hD⟩, hat⟩ := hm3
        refine ⟨DD, ⟨es, clock, (hgrow.block _ hlt (fun e => ?_)).trans hb, F, hsz2, hD⟩, by simpa using hat⟩
        exact own_map_ne (hown1.alloc (.cells #[.int .i64 (a : Int)] 3)) (hm1.kept ((Tch.refl [] w1).alloc (.cells #[.int .i64 (a : Int)] 3)) (by simp)) e.symm
      have HO : Hid (w2.ownsRow w.heap.size 3 1 v' (met ++ [a]).length ((met ++ [a]).map fun x : Nat => Value.int .i64 (x : Int))) := by
        rw [List.length_append, List.map_append]
        exact hown2
      clear hown2 hown1 hown hgrow T1 hm1 t1
      go_wp2
      go_roundw
      case rel => exact ⟨k + 1, p + q, met ++ [a], by omega, by go_num, rfl, hq2, by rw [List.length_append, HML.out]; rfl, HMN.out, hm2, HO.out, T2, HE2.out⟩
      case measure => simp [intOf]; omega
    · obtain rfl : k = cnt := by omega
      have hps : p ≤ s.size := by rw [HSZ.out]; exact hp
      rw [Nat.sub_self] at hrn
      have HE : Hid (rhead s.data.toList room n = if nil0 (s.data.toList.drop p) then some met else none) := by
        show _ = _
        rw [HRO.out, hrn]; rfl
      have HT := Lib.hid (Tryz.strings_Trim_one (s.extract p s.size) 0 (by decide) wr (by have := Lib.extract_from s p; rw [this, Lib.size_mk, List.length_drop, ← HSZ.out]; omega))
      rw [Lib.extract_to_end] at HT
      have hx : s.extract p s.size = ⟨(s.data.toList.drop p).toArray⟩ := Lib.extract_from s p
      have hkc2 : decide (k < k) = false := by simp
      rw [hx] at HT
      have HT := Lib.hid (HT.out.mono (R' := fun e w' => e = .returned (.string ⟨(Lib.trimB (s.data.toList.drop p) 0).toArray⟩) ∧ Tch [] wr w') (fun e w' ⟨he, hw⟩ => ⟨he, by rcases hw with rfl | rfl; exact Tch.refl _ _; exact (Tch.refl _ _).drew⟩))
      clear hrn
      cases hz : nil0 (s.data.toList.drop p)
      · have h1 := trim_some hz
        have HF : Hid (∀ w1, Tch [] wr w1 → RhPost w s.data.toList room n (.returned (.tuple #[.slice none 0 0, .bool false])) w1) := fun w1 t1 => ⟨T.trans t1, Or.inl ⟨by rw [HE.out, hz]; rfl, rfl⟩⟩
        have HD := Lib.hid (And.intro hx hz)
        generalize Lib.trimB (s.data.toList.drop p) 0 = r at HT h1
        have hne : r.isEmpty = false := by
          cases r with
          | nil => exact absurd rfl h1
          | cons x r => rfl
        clear h1 hz
        go_wp2_with (first | (go_at_call 49; refine HT.out.mono ?_; rintro e w1 ⟨rfl, t1⟩))
        go_ret2
        exact HF.out _ t1
      · have h1 := trim_nil hz
        rw [h1] at HT
        have HF : Hid (∀ w1, Tch [] wr w1 → RhPost w s.data.toList room n (.returned (.tuple #[u10, .bool true])) w1) := fun w1 t1 => ⟨T.trans t1, Or.inr ⟨met, u10, by rw [HE.out, hz]; rfl, rfl, own_keep hown t1 (by simp)⟩⟩
        have HD := Lib.hid (And.intro hx hz)
        clear h1 hz
        go_wp2_with (first | (go_at_call 49; refine HT.out.mono ?_; rintro e w1 ⟨rfl, t1⟩))
        go_ret2
        exact HF.out _ t1
end Go.Proofs.YtclnhgfionfbbaaGreatDoor
