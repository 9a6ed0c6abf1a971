/-
  'numbers' of the document's journal: what a head names, or that it is none. Conditions: the journal is one that its Open makes; the text is short.
-/
import Derived.Test.YtclnhgfionfbbaaGreatDoorRJn
namespace Go.Proofs.YtclnhgfionfbbaaGreatDoor
open Go.RowKit
set_option linter.unusedVariables false

theorem rrdu_at (s : ByteArray) (p : Nat) (w : World) (hs : s.size ≤ 1000000) :
    Calls Tryz.prog 54 #[.string s, .int .i64 p] w fun e w' => e = rduE (s.data.toList.drop p) p ∧ w = w' := by
  by_cases hp : p < s.size
  · exact rrdu_any s p w hs hp
  · have HF : Hid (rdu (s.data.toList.drop p) 0 0 = (20, 0, 0)) := by
      show _ = _
      rw [List.drop_eq_nil_of_le (by rw [← Lib.size_eq]; omega), rdu_nil _ (by omega)]
    have e1 : decide ((p : Int) < 0) = false := by simp
    have e2 : (s.size : Int) ≤ (p : Int) := by omega
    clear hp
    go_enter Tryz.func54, Tryz.ntmps54
    go_wp2
    go_ret3
    refine ⟨?_, rfl⟩
    rw [rduE_no HF.out (by decide)]
    rfl

/-- What numbers answers and leaves. -/
def RnPost (w : World) (s : List UInt8) (room n : Nat) (e : Ending) (w' : World) : Prop :=
  Tch [] w w' ∧ ((rhead s room n = none ∧ e = .returned (.tuple #[.slice none 0 0, .int .i64 32])) ∨ ∃ l v, rhead s room n = some l ∧ e = .returned (.tuple #[v, .int .i64 0]) ∧ w'.ownsRow w.heap.size 3 1 v l.length (l.map fun a : Nat => Value.int .i64 (a : Int)))
/-- What holds at the head of each round. -/
def RnRel (w : World) (s : List UInt8) (n cnt p0 : Nat) (v7 v9 : Value) (wr : World) : Prop :=
  ∃ (p : Nat) (met : List Nat) (x : Option Addr) (c : Nat), v7 = .int .i64 p ∧ p ≤ s.length ∧ met.length ≤ cnt ∧ v9 = .slice x met.length c ∧ wr.ownsRow w.heap.size 3 1 (.slice x met.length c) met.length (met.map fun a : Nat => Value.int .i64 (a : Int)) ∧
    Tch [] w wr ∧ rnums s n cnt p0 [] = rnums s n (cnt - met.length) p met
theorem own_slice {w : World} {base : Nat} {e : TypeId} {v : Value} {n : Nat} {xs : List Value} {size : Nat} (h : w.ownsRow base e size v n xs) : ∃ x c, v = .slice x n c := by
  rcases h.2 with ⟨h1, h2⟩ | ⟨g, c, cur, h1, _⟩
  · exact ⟨_, _, by rw [h1, h2]⟩
  · exact ⟨_, _, h1⟩
theorem own_nums_cell {w : World} {base : Nat} {x : Option Addr} {c : Nat} {met : List Nat} (h : w.ownsRow base 3 1 (.slice x met.length c) met.length (met.map fun a : Nat => Value.int .i64 (a : Int))) (i : Nat) (hi : i < met.length) :
    ∃ g, x = some ⟨g, 0, none⟩ ∧ w.cell? ⟨g, i, none⟩ = some (.int .i64 ((met.getD i 0 : Nat) : Int)) := by
  rcases h.2 with ⟨_, h2⟩ | ⟨g, c', cur, h1, _⟩
  · omega
  · simp only [Value.slice.injEq] at h1
    obtain ⟨rfl, _, rfl⟩ := h1
    refine ⟨g, rfl, ?_⟩
    have := World.ownsRow.cells h rfl i (.int .i64 ((met.getD i 0 : Nat) : Int)) (by
      rw [List.getElem?_map, List.getD_eq_getElem?_getD, List.getElem?_eq_getElem hi]; rfl)
    rw [add_mk, Nat.zero_add] at this
    exact this
theorem nil0_step (s : ByteArray) (q : Nat) (h : q < s.size) : nil0 (s.data.toList.drop q) = ((s[q]'h == 0) && nil0 (s.data.toList.drop (q + 1))) := by
  rw [List.drop_eq_getElem_cons (by rw [← Lib.size_eq]; exact h)]
  rfl

set_option maxRecDepth 100000 in
set_option maxHeartbeats 2000000 in
theorem rjnum_any (kb b bs room : Nat) (D : Ds) (s : ByteArray) (w : World) (h : IsRj w kb b room) (hd : IsRf w b bs D) (hr : room ≤ 500) (hs : s.size ≤ 1000000) :
    Calls Tryz.prog 38 #[.pointer (some ⟨kb, 0, none⟩), .string s] w (RnPost w s.data.toList room (jlen D room)) := by
  have hlen := hd.len
  have hjl : jlen D room ≤ 16384 := by unfold jlen; omega
  have HRD : Hid (∀ p w1, _) := fun p w1 => rrdu_at s p w1 hs
  have HSZ := Lib.hid (Lib.size_eq s)
  have c1 := h.c1
  obtain ⟨i0, hi, hz0, hz1, hz2⟩ := info_parts Tryz.info_int
  have hrw : IntKind.u64.wrap (room : Int) = (room : Int) := by rw [IntKind.wrap_u64]; omega
  have H0 := Lib.hid (HRD.out 0 w)
  rw [List.drop_zero] at H0
  rcases rdu_cases s.data.toList with ⟨c, hc, hr0⟩ | ⟨cnt, p0, hr0, hcnt, hp0⟩
  · have hne : (c != 0) = true := by simpa using hc
    have HF : Hid (RnPost w s.data.toList room (jlen D room) (.returned (.tuple #[.slice none 0 0, .int .i64 32])) w) := ⟨Tch.refl _ _, Or.inl ⟨rhead_no1 (Or.inl (by rw [hr0]; exact hc)), rfl⟩⟩
    rw [rduE_no hr0 hc] at H0
    clear hr0 hc hd
    go_enter Tryz.func38, Tryz.ntmps38
    go_wp2_with (first | (go_at_call 54; refine H0.out.mono ?_; rintro e w1 ⟨rfl, rfl⟩))
    go_ret2
    exact HF.out
  by_cases hcr : room < cnt
  · have hne : decide (room < cnt) = true := by simpa using hcr
    have HF : Hid (RnPost w s.data.toList room (jlen D room) (.returned (.tuple #[.slice none 0 0, .int .i64 32])) w) := ⟨Tch.refl _ _, Or.inl ⟨rhead_no1 (Or.inr (by rw [hr0]; exact hcr)), rfl⟩⟩
    rw [rduE_ok hr0] at H0
    clear hr0 hd hcr
    go_enter Tryz.func38, Tryz.ntmps38
    go_wp2_with (first | (go_at_call 54; refine H0.out.mono ?_; rintro e w1 ⟨rfl, rfl⟩))
    go_ret2
    exact HF.out
  have HRO := Lib.hid (rhead_of (n := jlen D room) hr0 (by omega : cnt ≤ room))
  rw [rduE_ok hr0, Nat.zero_add] at H0
  have hne : decide (room < cnt) = false := by simpa using hcr
  have hcb : cnt ≤ 500 := by omega
  clear hr0 hcr
  generalize hn : jlen D room = n at HRO hjl ⊢
  have HJ : Hid (∀ wr, Tch [] w wr → Calls Tryz.prog 20 #[.pointer (some ⟨kb, 0, none⟩)] wr fun e w' => e = .returned (.int .i64 (n : Nat)) ∧ Tch [] wr w') := fun wr t => by
    rw [← hn]
    refine (rjlen_any kb b bs room D wr (h.keep t (by simp)) (hd.keep t (by simp) (by simp)) hr).mono ?_
    rintro e w' ⟨rfl, m, rfl⟩
    exact ⟨rfl, tchDrewN (Tch.refl _ _) m⟩
  have HO0 := Lib.hid (World.ownsRow_nil w w.heap.size 3 1)
  clear hn hd h
  go_enter Tryz.func38, Tryz.ntmps38
  go_wp2_with (first | (go_at_call 54; refine H0.out.mono ?_; rintro e w1 ⟨rfl, rfl⟩))
  clear H0 c1 hrw hne
  go_loopw [7, 9] (fun v7 v9 wr => RnRel w s.data.toList n cnt p0 v7 v9 wr) (fun _ v9 _ => cnt - (match v9 with | .slice _ m _ => m | _ => 0))
  case atStart => exact ⟨p0, [], none, 0, rfl, hp0, by simp, rfl, HO0.out, Tch.refl _ _, rfl⟩
  case round =>
    obtain ⟨p, met, x, cp, rfl, hp, hmc, rfl, hown, T, hrn⟩ := hrel
    have hmw : IntKind.u64.wrap (met.length : Int) = (met.length : Int) := by rw [IntKind.wrap_u64]; omega
    by_cases hkc : met.length < cnt
    · have HE : Hid (rnums s.data.toList n cnt p0 [] = if (rdu (s.data.toList.drop p) 0 0).1 ≠ 0 ∨ n ≤ (rdu (s.data.toList.drop p) 0 0).2.1 ∨ (rdu (s.data.toList.drop p) 0 0).2.1 ∈ met then none
          else rnums s.data.toList n (cnt - (met.length + 1)) (p + (rdu (s.data.toList.drop p) 0 0).2.2) (met ++ [(rdu (s.data.toList.drop p) 0 0).2.1])) := by
        show _ = _
        rw [hrn, show cnt - met.length = (cnt - (met.length + 1)) + 1 from by omega, rnums]
      have HR := Lib.hid (HRD.out p wr)
      have HJ1 := Lib.hid (HJ.out wr T)
      have hkc2 : decide (met.length < cnt) = true := by simpa using hkc
      clear hrn
      rcases rdu_cases (s.data.toList.drop p) with ⟨c, hc, hr1⟩ | ⟨a, q, hr1, ha, hq⟩
      · have hne : (c != 0) = true := by simpa using hc
        have HF : Hid (RnPost w s.data.toList room n (.returned (.tuple #[.slice none 0 0, .int .i64 32])) wr) := ⟨T, Or.inl ⟨by rw [HRO.out, HE.out, hr1, if_pos (Or.inl hc)], rfl⟩⟩
        rw [rduE_no hr1 hc] at HR
        clear hr1 hc hown
        go_wp2_with (first | (go_at_call 54; refine HR.out.mono ?_; rintro e w1 ⟨rfl, rfl⟩))
        go_ret2
        exact HF.out
      rw [hr1] at HE
      simp only at HE
      rw [rduE_ok hr1] at HR
      have hq2 : p + q ≤ s.data.toList.length := by rw [List.length_drop] at hq; omega
      have hpq : ((p + q : Nat) : Int) ≤ 9223372036854775807 := by have := HSZ.out; omega
      have hnw : IntKind.u64.wrap (n : Int) = (n : Int) := by rw [IntKind.wrap_u64]; omega
      clear hr1 hq
      by_cases han : n ≤ a
      · have HF : Hid (∀ w1, Tch [] wr w1 → RnPost w s.data.toList room n (.returned (.tuple #[.slice none 0 0, .int .i64 32])) w1) := fun w1 t1 => ⟨T.trans t1, Or.inl ⟨by rw [HRO.out, HE.out, if_pos (Or.inr (Or.inl han))], rfl⟩⟩
        have hne : decide (n ≤ a) = true := by simpa using han
        clear HE han hown
        go_wp2_with (first | (go_at_call 54; refine HR.out.mono ?_; rintro e w1 ⟨rfl, rfl⟩) | (go_at_call 20; refine HJ1.out.mono ?_; rintro e w1 ⟨rfl, t1⟩))
        go_ret2
        exact HF.out _ t1
      have hne : decide (n ≤ a) = false := by simpa using han
      have haw : IntKind.i64.wrap (a : Int) = (a : Int) := IntWalk.i64_in _ (by omega)
      clear han
      go_wp2_with (first | (go_at_call 54; refine HR.out.mono ?_; rintro e w1 ⟨rfl, rfl⟩) | (go_at_call 20; refine HJ1.out.mono ?_; rintro e w1 ⟨rfl, t1⟩))
      have hown1 := own_keep hown t1 (by simp)
      have T1 := T.trans t1
      have HCELL := Lib.hid (own_nums_cell hown1)
      have HOW := Lib.hid hown1
      clear hown HR HJ1 t1 hown1
      go_loop [13] (fun v13 => ∃ i : Nat, i ≤ met.length ∧ v13 = .int .i64 i ∧ Hid (∀ j, j < i → met.getD j 0 ≠ a)) (fun v13 => met.length - (intOf v13).toNat)
      case atStart => exact ⟨0, by omega, rfl, fun j hj => by omega⟩
      case round =>
        obtain ⟨i, hi2, rfl, hno⟩ := hrel
        by_cases hil : i < met.length
        · obtain ⟨g, hxg, hcell⟩ := HCELL.out i hil
          have hgm : met.getD i 0 ∈ met := by rw [List.getD_eq_getElem?_getD, List.getElem?_eq_getElem hil]; exact List.getElem_mem _
          have HNO : Hid (met.getD i 0 ≠ a → ∀ j, j < i + 1 → met.getD j 0 ≠ a) := fun hne j hj => by
            by_cases h : j < i
            · exact hno.out j h
            · obtain rfl : j = i := by omega
              exact hne
          have HME : Hid (met.getD i 0 = a → a ∈ met) := fun h => h ▸ hgm
          subst hxg
          generalize met.getD i 0 = m at hcell HNO HME
          clear hgm hno
          by_cases hma : m = a
          · have hmem := HME.out hma
            have HF : Hid (RnPost w s.data.toList room n (.returned (.tuple #[.slice none 0 0, .int .i64 32])) w1) := ⟨T1, Or.inl ⟨by rw [HRO.out, HE.out, if_pos (Or.inr (Or.inr hmem))], rfl⟩⟩
            have f1 : ((m : Int) == (a : Int)) = true := by simp [hma]
            have f2 : (m == a) = true := by simp [hma]
            clear hmem hma HME HNO
            go_wp2
            go_ret2
            exact HF.out
          · have HN2 : Hid (∀ j, j < i + 1 → met.getD j 0 ≠ a) := HNO.out hma
            have f1 : ((m : Int) == (a : Int)) = false := by simp; omega
            have f2 : (m == a) = false := by simpa using hma
            clear hma HME HNO
            go_wp2
            go_round
            case rel => exact ⟨i + 1, by omega, by go_num, HN2⟩
            case measure => simp [intOf]; omega
        · obtain rfl : i = met.length := by omega
          have ham : a ∉ met := fun hm => by
            obtain ⟨j, hj, hja⟩ := List.getElem_of_mem hm
            exact hno.out j hj (by rw [List.getD_eq_getElem?_getD, List.getElem?_eq_getElem hj]; exact hja)
          have HE2 : Hid (rnums s.data.toList n cnt p0 [] = rnums s.data.toList n (cnt - (met.length + 1)) (p + q) (met ++ [a])) := by
            show _ = _
            rw [HE.out, if_neg (by simp only [ne_eq, not_true_eq_false, false_or, not_or]; exact ⟨by have := hne; simpa using this, ham⟩)]
          have hown1 := HOW.out
          have hsz := T1.size
          have hml := hkc
          clear HE hno ham HCELL
          go_wp2_with (at_builtin; refine wpList_append_own _ rfl _ _ 85 rfl w.heap.size 3 i0 (.int .i64 0) 1 8 Tryz.underlying85 hi hz0 hz1 hz2 rfl (by decide) _ _ _ rfl (hown1.alloc _) ⟨w1.heap.size, 0, none⟩ 1 1 [.int .i64 (a : Int)] rfl rfl ?c1 ?c2 ?c3 ?c4 ?c5 ?_)
          case c2 => first | rfl | (intro x hx; simp only [List.mem_singleton] at hx; subst hx; rfl)
          case c3 => unfold maxLen; omega
          case c4 => omega
          case c5 => have := T1.size; simp; omega
          intro v' w2 hown2 hgrow _
          have T2 := (T1.alloc (.cells #[.int .i64 (a : Int)] 3)).own (hown1.alloc _) (Nat.le_refl _) hgrow
          obtain ⟨x2, c2, rfl⟩ := own_slice hown2
          have HO : Hid (w2.ownsRow w.heap.size 3 1 (.slice x2 (met ++ [a]).length c2) (met ++ [a]).length ((met ++ [a]).map fun x : Nat => Value.int .i64 (x : Int))) := by
            rw [List.length_append, List.map_append]
            exact hown2
          clear hown2 hown1 hgrow HOW
          go_wp2
          go_roundw
          case rel => exact ⟨p + q, met ++ [a], x2, c2, by go_num, hq2, by simp; omega, by simp, HO.out, T2, by rw [List.length_append]; exact HE2.out⟩
          case measure => simp; omega
    · have hmc2 : met.length = cnt := by omega
      have hkc2 : decide (met.length < cnt) = false := by simpa using hkc
      have hps : p ≤ s.size := by rw [HSZ.out]; exact hp
      rw [hmc2, Nat.sub_self] at hrn
      have HE : Hid (rhead s.data.toList room n = if nil0 (s.data.toList.drop p) then some met else none) := by
        show _ = _
        rw [HRO.out, hrn]; rfl
      have HOW := Lib.hid hown
      clear hrn hown hmc2 hkc
      go_wp2
      go_loop [7] (fun v7 => ∃ q : Nat, q ≤ s.size ∧ v7 = .int .i64 q ∧ Hid (nil0 (s.data.toList.drop p) = nil0 (s.data.toList.drop q))) (fun v7 => s.size - (intOf v7).toNat)
      case atStart => exact ⟨p, hps, rfl, Lib.hid rfl⟩
      case round =>
        obtain ⟨q, hq, rfl, hnq⟩ := hrel
        by_cases hqs : q < s.size
        · have hstep := nil0_step s q hqs
          have hq8 := (s[q]'hqs).toNat_lt
          have u1 : (q : Int) < (s.size : Int) := by omega
          by_cases hb : (s[q]'hqs).toNat = 0
          · have HN : Hid (nil0 (s.data.toList.drop p) = nil0 (s.data.toList.drop (q + 1))) := by
              show _ = _
              rw [hnq.out, hstep, show (s[q]'hqs) = 0 from UInt8.toNat_inj.1 hb]; rfl
            have f1 : (((s[q]'hqs).toNat : Int) != 0) = false := by simp [hb]
            clear hstep hnq
            go_wp2
            go_round
            case rel => exact ⟨q + 1, by omega, by go_num, HN⟩
            case measure => simp [intOf]; omega
          · have HF : Hid (RnPost w s.data.toList room n (.returned (.tuple #[.slice none 0 0, .int .i64 32])) wr) := ⟨T, Or.inl ⟨by
              rw [HE.out, hnq.out, hstep, show ((s[q]'hqs) == 0) = false from by
                rw [beq_eq_false_iff_ne]; intro h; exact hb (by rw [h]; rfl)]
              rfl, rfl⟩⟩
            have f1 : (((s[q]'hqs).toNat : Int) != 0) = true := by simp; omega
            clear hstep hnq
            go_wp2
            go_ret2
            exact HF.out
        · obtain rfl : q = s.size := by omega
          have HF : Hid (RnPost w s.data.toList room n (.returned (.tuple #[.slice x met.length cp, .int .i64 0])) wr) := ⟨T, Or.inr ⟨met, _, by
            rw [HE.out, hnq.out, List.drop_eq_nil_of_le (by rw [← Lib.size_eq]; omega)]
            rfl, rfl, HOW.out⟩⟩
          clear hnq
          go_wp2
          go_ret2
          exact HF.out
end Go.Proofs.YtclnhgfionfbbaaGreatDoor
