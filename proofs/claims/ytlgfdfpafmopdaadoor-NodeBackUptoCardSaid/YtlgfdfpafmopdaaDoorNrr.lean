/-
  'read' of package node: the node that a text of at most 1024 bytes begins with, in new memory, or an error. No other condition.
-/
import Derived.Test.YtlgfdfpafmopdaaDoorNre
import Derived.Test.YtlgfdfpafmopdaaDoorNpa
namespace Go.Proofs.YtlgfdfpafmopdaaDoor
open Go.RowKit
set_option linter.unusedVariables false

theorem nreadEntry_any (B nb p : Nat) (leaf : Bool) (s : ByteArray) (es : List En) (w : World) (h : OwE B nb leaf es w) (hB : B ≤ nb) (hs : s.size ≤ 100000000) (hp : p ≤ 100000000) (hes : es.length ≤ 100000000) :
    Calls Tryd.prog 25 #[.pointer (some ⟨nb, 0, none⟩), .string s, .int .i64 p] w (RePost B nb leaf es (s.data.toList.drop p) p w) := by
  rcases hr : rtx (s.data.toList.drop p) with ⟨c, t, n⟩
  by_cases hc : c = 0
  · subst hc
    cases leaf
    · exact nre_kids B nb p s es w h hB hs hp hes hr
    · exact nre_leaf B nb p s es w h hB hs hp hes hr
  · exact nre_bad B nb p leaf s es w h hB hs hr hc
structure PEn (leaf : Bool) (e : En) : Prop where
  nrm : Nrm leaf e
  key : e.key.size ≤ 1024
  val : e.val.size ≤ 1024
  kid : 0 ≤ e.kid ∧ e.kid ≤ 16384
theorem pde_en {leaf : Bool} {L : List UInt8} {e : En} {n : Nat} (h : pde leaf L = some (e, n)) (hL : L.length ≤ 1024) : PEn leaf e ∧ 0 < n ∧ n ≤ L.length := by
  unfold pde at h
  rcases hr : rtx L with ⟨c, t, m⟩
  rw [hr] at h
  simp only at h
  by_cases hc : c ≠ 0
  · rw [if_pos hc] at h; cases h
  rw [if_neg hc] at h
  have hc0 : c = 0 := by omega
  subst hc0
  have h1 := rtx_len _ _ _ hr
  have h2 := rtx_size hr
  cases leaf
  · simp only [if_false, Bool.false_eq_true] at h
    rcases hq : rdu (L.drop m) 0 0 with ⟨c2, v, m2⟩
    rw [hq] at h
    simp only at h
    by_cases hc2 : c2 ≠ 0
    · rw [if_pos hc2] at h; cases h
    rw [if_neg hc2] at h
    have hc20 : c2 = 0 := by omega
    subst hc20
    have h3 := rdu_bound _ 0 0 0 v m2 hq (by simp) (by omega) rfl
    rw [List.length_drop] at h3
    cases h
    exact ⟨⟨rfl, by simp only; omega, by show (0 : Nat) ≤ _; omega, by simp only; omega⟩, by omega, by omega⟩
  · simp only [if_true] at h
    rcases hq : rtx (L.drop m) with ⟨c2, t2, m2⟩
    rw [hq] at h
    simp only at h
    by_cases hc2 : c2 ≠ 0
    · rw [if_pos hc2] at h; cases h
    rw [if_neg hc2] at h
    have hc20 : c2 = 0 := by omega
    subst hc20
    have h3 := rtx_len _ _ _ hq
    have h4 := rtx_size hq
    rw [List.length_drop] at h3 h4
    cases h
    exact ⟨⟨rfl, by simp only; omega, by simp only; omega, by simp only; omega⟩, by omega, by omega⟩
theorem pen_short {leaf : Bool} {es : List En} (h : ∀ e ∈ es, PEn leaf e) (hl : es.length ≤ 1024) : Short es := by
  have h1 : ksum es + vsum es ≤ es.length * 2048 := by
    clear hl
    induction es with
    | nil => simp [ksum, vsum]
    | cons a es ih =>
      have := ih (fun e he => h e (List.mem_cons_of_mem _ he))
      have h1 := (h a (List.mem_cons_self ..)).key
      have h2 := (h a (List.mem_cons_self ..)).val
      unfold ksum vsum at this ⊢
      simp only [List.map_cons, List.sum_cons, List.length_cons]
      omega
  exact ⟨by omega, by have : es.length * 2048 ≤ 1024 * 2048 := Nat.mul_le_mul_right _ hl; omega, fun e he => by have := (h e he).kid; omega⟩
theorem pdes_fail {leaf : Bool} {L : List UInt8} {cnt k p : Nat} {es : List En} (hk : k < cnt) (he : pde leaf (L.drop p) = none) : pdes leaf L (cnt - k) p es = none := by
  obtain ⟨m, hm⟩ : ∃ m, cnt - k = m + 1 := ⟨cnt - k - 1, by omega⟩
  rw [hm, pdes, he]
theorem pdes_next {leaf : Bool} {L : List UInt8} {cnt k p n : Nat} {es : List En} {e : En} (hk : k < cnt) (he : pde leaf (L.drop p) = some (e, n)) : pdes leaf L (cnt - k) p es = pdes leaf L (cnt - (k + 1)) (p + n) (es ++ [e]) := by
  obtain ⟨m, hm⟩ : ∃ m, cnt - k = m + 1 := ⟨cnt - k - 1, by omega⟩
  have h2 : cnt - (k + 1) = m := by omega
  rw [hm, h2, pdes, he]

/-- What read answers. -/
def RrPost (w : World) (L : List UInt8) (e : Ending) (w' : World) : Prop :=
  Tch [] w w' ∧ ((∃ leaf es q, ∃ u : Nv, prd L = some (leaf, es, q) ∧ q ≤ L.length ∧ e = .returned (.tuple #[.agg #[.bool u.leaf, .slice u.ka u.kn u.kc, .slice u.va u.vn u.vc, .slice u.ia u.im u.ic], .int .i64 (q : Nat), .int .i64 0]) ∧ u.Good w' leaf es ∧ NwN (w.heap.size + 1) u w') ∨
    (∃ (lf : Bool) (ka : Option Addr) (kn kc : Nat) (va : Option Addr) (vn vc : Nat) (ia : Option Addr) (im ic : Nat) (a c : Int), prd L = none ∧ c ≠ 0 ∧ e = .returned (.tuple #[.agg #[.bool lf, .slice ka kn kc, .slice va vn vc, .slice ia im ic], .int .i64 a, .int .i64 c])))
/-- What holds at the head of each round. -/
def RrRel (w : World) (nb : Nat) (leaf : Bool) (L : List UInt8) (cnt : Nat) (v7 v8 v9 : Value) (wr : World) : Prop :=
  Tch [] w wr ∧ wr.heap[w.heap.size]? = some (.cells #[.bool false, .slice none 0 0, .slice none 0 0, .slice none 0 0] 25 (0, 0)) ∧ CellsN nb wr ∧
    ((∃ (q : Nat) (es : List En), v7 = .int .i64 q ∧ v8 = .int .i64 0 ∧ v9 = .int .u64 (es.length : Nat) ∧ es.length ≤ cnt ∧ q ≤ L.length ∧ es.length ≤ q ∧ (∀ e ∈ es, PEn leaf e) ∧ OwE nb nb leaf es wr ∧ prd L = (match pdes leaf L (cnt - es.length) q es with | none => none | some (es, p) => some (leaf, es, p))) ∨
      (∃ (a c : Int) (k : Nat), v7 = .int .i64 a ∧ v8 = .int .i64 c ∧ c ≠ 0 ∧ v9 = .int .u64 k ∧ k ≤ cnt ∧ prd L = none))

theorem ns0_get (s : ByteArray) (hpos : 0 < s.size) : s.data.toList = (s[0]'hpos) :: s.data.toList.drop 1 := by
  have := List.drop_eq_getElem_cons (l := s.data.toList) (i := 0) (by rw [← Lib.size_eq]; exact hpos)
  rw [List.drop_zero] at this
  exact this
set_option maxRecDepth 100000 in
theorem nread_empty (s : ByteArray) (w : World) (h : s.size = 0) :
    Calls Tryd.prog 11 #[.string s] w (RrPost w s.data.toList) := by
  have hL : s.data.toList = [] := by rw [← List.length_eq_zero_iff, ← Lib.size_eq]; exact h
  have HF : Hid (∀ o, RrPost w s.data.toList (.returned (.tuple #[.agg #[.bool false, .slice none 0 0, .slice none 0 0, .slice none 0 0], .int .i64 0, .int .i64 40])) (w.alloc o)) := fun o => ⟨(Tch.refl [] w).alloc o, Or.inr ⟨_, _, _, _, _, _, _, _, _, _, 0, 40, by rw [hL]; rfl, by decide, rfl⟩⟩
  have hd : s.toList.isEmpty = true := by rw [ByteArray.toList_eq, List.isEmpty_iff]; exact hL
  clear h hL
  go_enter Tryd.func11, Tryd.ntmps11
  go_wp2_with fail
  refine bodyPost_ret (v := .tuple #[.agg #[.bool false, .slice none 0 0, .slice none 0 0, .slice none 0 0], .int .i64 0, .int .i64 40]) (by simp [results, Tryd.results11, go_sem]) rfl (HF.out _)
theorem nstr_ne (s : ByteArray) (h : 0 < s.size) : s.toList.isEmpty = false := by
  rw [ByteArray.toList_eq]
  cases h0 : s.data.toList.isEmpty
  · rfl
  · rw [List.isEmpty_iff, ← List.length_eq_zero_iff, ← Lib.size_eq] at h0; omega
set_option maxRecDepth 100000 in
theorem nread_other (s : ByteArray) (w : World) (hs : s.size ≤ 1024) (hpos : 0 < s.size) (h1 : s[0]'hpos ≠ 1) (h2 : s[0]'hpos ≠ 2) :
    Calls Tryd.prog 11 #[.string s] w (RrPost w s.data.toList) := by
  have HF : Hid (∀ o, RrPost w s.data.toList (.returned (.tuple #[.agg #[.bool false, .slice none 0 0, .slice none 0 0, .slice none 0 0], .int .i64 0, .int .i64 40])) (w.alloc o)) := fun o => ⟨(Tch.refl [] w).alloc o, Or.inr ⟨_, _, _, _, _, _, _, _, _, _, 0, 40, by rw [ns0_get s hpos]; unfold prd; simp only; rw [if_pos ⟨h1, h2⟩], by decide, rfl⟩⟩
  have hd := nstr_ne s hpos
  have n1 : (s[0]'hpos).toNat ≠ 1 := fun h => h1 (UInt8.toNat_inj.1 (by rw [h]; rfl))
  have n2 : (s[0]'hpos).toNat ≠ 2 := fun h => h2 (UInt8.toNat_inj.1 (by rw [h]; rfl))
  have f1 : (((s[0]'hpos).toNat : Int) != 1) = true := by simp; omega
  have f2 : (((s[0]'hpos).toNat : Int) != 2) = true := by simp; omega
  clear h1 h2 n1 n2
  go_enter Tryd.func11, Tryd.ntmps11
  go_wp2_with fail
  refine bodyPost_ret (v := .tuple #[.agg #[.bool false, .slice none 0 0, .slice none 0 0, .slice none 0 0], .int .i64 0, .int .i64 40]) (by simp [results, Tryd.results11, go_sem]) rfl (HF.out _)
theorem Tch.set4 {w w1 : World} (T : Tch [] w w1) (a b c d : Value) : Tch [] w ((((w1.setCell ⟨w.heap.size, 0, none⟩ a).setCell ⟨w.heap.size, 1, none⟩ b).setCell ⟨w.heap.size, 2, none⟩ c).setCell ⟨w.heap.size, 3, none⟩ d) :=
  (((T.setNew (Nat.le_refl _) a).setNew (Nat.le_refl _) b).setNew (Nat.le_refl _) c).setNew (Nat.le_refl _) d
theorem Nv.Good.set4 {w1 : World} {u : Nv} {leaf : Bool} {es : List En} {q B : Nat} (hu : u.Good w1 leaf es) (hn : NwN B u w1) (hq : q < B) (a b c d : Value) : u.Good ((((w1.setCell ⟨q, 0, none⟩ a).setCell ⟨q, 1, none⟩ b).setCell ⟨q, 2, none⟩ c).setCell ⟨q, 3, none⟩ d) leaf es := by
  have t : Tch [q] w1 ((((w1.setCell ⟨q, 0, none⟩ a).setCell ⟨q, 1, none⟩ b).setCell ⟨q, 2, none⟩ c).setCell ⟨q, 3, none⟩ d) := ((((Tch.refl [q] w1).setCell (by simp) a).setCell (by simp) b).setCell (by simp) c).setCell (by simp) d
  have hlt : ∀ {e : TypeId} {v : Value} {n : Nat} {xs : List Value}, w1.ownsRow B e 1 v n xs → ∀ k, v.ownBlock = some k → k ≠ q := fun hr k hk he => by have := (hr.lt k hk).1; omega
  refine ⟨⟨hu.nv.rk.keep t (fun h0 => ?_), hu.nv.rv.keep t (fun h0 => ?_), hu.nv.ri.keep t (fun h0 => ?_)⟩, hu.leaf, hu.es, hu.lens, hu.ok, hu.caps⟩
  · have := hu.nv.rk.some_ h0
    have := hlt hn.hk u.kb (by rw [this]; rfl)
    simpa using this
  · have := hu.nv.rv.some_ h0
    have := hlt hn.hv u.vb (by rw [this]; rfl)
    simpa using this
  · have := hu.nv.ri.some_ h0
    have := hlt hn.hi u.ib (by rw [this]; rfl)
    simpa using this
theorem OwE.start {B nb : Nat} {leaf : Bool} {w : World} (h : w.heap[nb]? = some (.cells #[.bool leaf, .slice none 0 0, .slice none 0 0, .slice none 0 0] 25 (0, 0))) : OwE B nb leaf [] w := by
  refine ⟨_, _, _, h, World.ownsRow_nil _ _ _ _, ?_, ?_, Apart.nil _, Apart.nil _, Apart.nil _⟩
  · cases leaf <;> exact World.ownsRow_nil _ _ _ _
  · cases leaf <;> exact World.ownsRow_nil _ _ _ _

set_option maxRecDepth 100000 in
set_option maxHeartbeats 4000000 in
theorem nread_some (s : ByteArray) (w : World) (leaf : Bool) (hs : s.size ≤ 1024) (hpos : 0 < s.size) (h1 : s[0]'hpos = if leaf then 1 else 2) :
    Calls Tryd.prog 11 #[.string s] w (RrPost w s.data.toList) := by
  have hget := ns0_get s hpos
  obtain ⟨L, hLL⟩ : ∃ L, s.data.toList = L := ⟨_, rfl⟩
  have hlen : L.length = s.size := by rw [← hLL, ← Lib.size_eq]
  rcases hr : rdu (L.drop 1) 0 0 with ⟨c, cnt, n⟩
  have hbb : ((if leaf then 1 else 2 : UInt8) == 1) = leaf := by cases leaf <;> decide
  rw [hLL, h1] at hget
  have HPR : Hid (prd L = if c ≠ 0 then none else match pdes leaf L cnt (1 + n) [] with | none => none | some (es, p) => some (leaf, es, p)) := by
    show _ = _
    rw [hget]
    unfold prd
    simp only
    rw [if_neg (by cases leaf <;> simp), hr, hbb]
    rfl
  have HR0 : Hid (∀ w1, Calls Tryd.prog 24 #[.string s, .int .i64 1] w1 fun e w' => e = .returned (.tuple #[.int .u64 (cnt : Nat), .int .i64 (if c = 0 then ((1 + n : Nat) : Int) else 0), .int .i64 c]) ∧ w1 = w') := fun w1 => by
    have h := rdu_at s 1 w1 (by omega)
    unfold rduE at h
    rw [hLL, hr] at h
    exact h
  have hbd : c = 0 → cnt < 18446744073709551616 ∧ 1 + n ≤ L.length := fun hc => by
    subst hc
    have := rdu_bound _ 0 0 0 cnt n hr (by simp) (by omega) rfl
    rw [List.length_drop] at this
    omega
  have hcnt : cnt < 18446744073709551616 := by
    rcases nrdu_cases (L.drop 1) with ⟨c1, _, h1⟩ | ⟨u1, n1, h1, h2, _⟩
    · rw [hr] at h1; cases h1; omega
    · rw [hr] at h1; cases h1; exact h2
  have hd := nstr_ne s hpos
  have f0 : (((s[0]'hpos).toNat : Int) == 1) = leaf := by rw [h1]; cases leaf <;> decide
  have f1 : (((s[0]'hpos).toNat : Int) != 1) = !leaf := by rw [h1]; cases leaf <;> decide
  have f2 : (((s[0]'hpos).toNat : Int) != 2) = leaf := by rw [h1]; cases leaf <;> decide
  obtain ⟨av, hav⟩ : ∃ av : Int, av = if c = 0 then ((1 + n : Nat) : Int) else 0 := ⟨_, rfl⟩
  rw [← hav] at HR0
  have HRE : Hid (∀ (q : Nat) (es : List En) (w1 : World), OwE (w.heap.size + 1) (w.heap.size + 1) leaf es w1 → q ≤ L.length → es.length ≤ 1024 → Calls Tryd.prog 25 _ w1 (RePost (w.heap.size + 1) (w.heap.size + 1) leaf es (L.drop q) q w1)) := fun q es w1 h hq he => by
    have := nreadEntry_any (w.heap.size + 1) (w.heap.size + 1) q leaf s es w1 h (Nat.le_refl _) (by omega) (by omega) (by omega)
    rw [hLL] at this
    exact this
  obtain ⟨W2, hW2⟩ : ∃ W2, W2 = (w.alloc (.cells #[.bool false, .slice none 0 0, .slice none 0 0, .slice none 0 0] 25)).alloc (.cells #[.bool leaf, .slice none 0 0, .slice none 0 0, .slice none 0 0] 25) := ⟨_, rfl⟩
  have T0 : Tch [] w W2 := by rw [hW2]; exact ((Tch.refl _ _).alloc _).alloc _
  have hb0 : W2.heap[w.heap.size]? = some (.cells #[.bool false, .slice none 0 0, .slice none 0 0, .slice none 0 0] 25 (0, 0)) := by rw [hW2]; exact blk_alloc (blk_new _ _) _
  have hb1 : W2.heap[w.heap.size + 1]? = some (.cells #[.bool leaf, .slice none 0 0, .slice none 0 0, .slice none 0 0] 25 (0, 0)) := by
    rw [hW2, show w.heap.size + 1 = (w.alloc (.cells #[.bool false, .slice none 0 0, .slice none 0 0, .slice none 0 0] 25)).heap.size from by simp]; exact blk_new _ _
  have HST : Hid (RrRel w (w.heap.size + 1) leaf L cnt (.int .i64 av) (.int .i64 c) (.int .u64 0) W2) := by
    refine ⟨T0, hb0, ⟨_, _, _, _, _, _, _, _, _, _, hb1⟩, ?_⟩
    by_cases hc : c = 0
    · subst hc
      exact Or.inl ⟨1 + n, [], by rw [hav, if_pos rfl], rfl, rfl, by simp, (hbd rfl).2, by simp, fun e he => (by cases he), OwE.start hb1, by rw [HPR.out, if_neg (by simp)]; rfl⟩
    · exact Or.inr ⟨av, c, 0, rfl, rfl, hc, rfl, Nat.zero_le _, by rw [HPR.out, if_pos hc]⟩
  rw [hLL]
  clear hget hr hav hbd hb0 hb1 T0 hbb
  have hk9 : (cnt : Int) < 18446744073709551616 := by omega
  cases leaf
  · simp only [Bool.not_false] at f1
    go_enter Tryd.func11, Tryd.ntmps11
    go_wp2_with fail
    refine (HR0.out _).mono ?_
    rintro e w3 ⟨rfl, rfl⟩
    go_wp2_with fail
    rw [← hW2]
    clear hW2 HR0 HPR hd f0 f1 f2 h1
    go_loopw [7, 8, 9] (fun v7 v8 v9 wr => RrRel w (w.heap.size + 1) false L cnt v7 v8 v9 wr) (fun v7 v8 _ _ => if intOf v8 = 0 then s.size + 1 - (intOf v7).toNat else 0)
    case atStart => exact HST.out
    case round =>
      clear HST
      obtain ⟨T, hb0, hcell, hor⟩ := hrel
      have hTs := T.size
      rcases hor with ⟨q, es, rfl, rfl, rfl, hec, hq, heq, hpe, hO, hpd⟩ | ⟨a, c2, k, rfl, rfl, hc2, rfl, hk, hno⟩
      · by_cases hkl : es.length < cnt
        · have hd : decide (es.length < cnt) = true := decide_eq_true hkl
          have hdi : decide ((es.length : Int) < (cnt : Int)) = true := decide_eq_true (by omega)
          have hw : IntKind.u64.wrap ((es.length : Int) + 1) = (es.length : Int) + 1 := by rw [IntKind.wrap_u64]; omega
          have HC := Lib.hid (HRE.out q es wr hO hq (by omega))
          have HT := Lib.hid T
          have HB := Lib.hid hb0
          have HPE := Lib.hid hpe
          have HPD := Lib.hid hpd
          clear hO hpd hpe T hb0 hcell
          go_wp2_with fail
          refine HC.out.mono ?_
          rintro e w4 ⟨hbl, hor⟩
          have T4 : Tch [] w w4 := below_tch HT.out hbl (by omega)
          have hb4 : w4.heap[w.heap.size]? = some (.cells #[.bool false, .slice none 0 0, .slice none 0 0, .slice none 0 0] 25 (0, 0)) := by rw [hbl.block _ (by omega)]; exact HB.out
          rcases hor with ⟨en, m, hpn, rfl, hO4⟩ | ⟨a, c, hpn, hc, rfl, hcell4⟩
          · obtain ⟨hp1, hp2, hp3⟩ := pde_en hpn (by rw [List.length_drop]; omega)
            rw [List.length_drop] at hp3
            have HN : Hid (prd L = (match pdes false L (cnt - (es.length + 1)) (q + m) (es ++ [en]) with | none => none | some (es, p) => some (false, es, p))) := by
              show _ = _
              rw [HPD.out, pdes_next hkl hpn]
            have HR : Hid (RrRel w (w.heap.size + 1) false L cnt (.int .i64 ((q + m : Nat) : Int)) (.int .i64 0) (.int .u64 ((es.length + 1 : Nat) : Int)) w4) :=
              ⟨T4, hb4, (by obtain ⟨_, _, _, h⟩ := hO4; exact h.cells), Or.inl ⟨q + m, es ++ [en], rfl, rfl, by simp, by simp; omega, by omega, by simp; omega, fun e he => by
                rcases List.mem_append.1 he with h | h
                · exact HPE.out e h
                · simp only [List.mem_singleton] at h; subst h; exact hp1, hO4, by rw [List.length_append]; exact HN.out⟩⟩
            clear hbl T4 hb4 hpn hO4 HC hp1
            go_wp2_with fail
            go_roundw
            case rel =>
              have := HR.out
              rw [show (((es.length + 1 : Nat)) : Int) = (es.length : Int) + 1 from by omega] at this
              exact this
            case measure => simp [intOf]; omega
          · have hne : (c == 0) = false := by simpa using hc
            have HR : Hid (RrRel w (w.heap.size + 1) false L cnt (.int .i64 a) (.int .i64 c) (.int .u64 ((es.length + 1 : Nat) : Int)) w4) :=
              ⟨T4, hb4, hcell4, Or.inr ⟨a, c, es.length + 1, rfl, rfl, hc, rfl, by omega, by rw [HPD.out, pdes_fail hkl hpn]⟩⟩
            clear hbl T4 hb4 hpn hcell4 HC
            go_wp2_with fail
            go_roundw
            case rel =>
              have := HR.out
              rw [show (((es.length + 1 : Nat)) : Int) = (es.length : Int) + 1 from by omega] at this
              exact this
            case measure => simp [intOf, hc]; omega
        · have hkc : es.length = cnt := by omega
          have hd : decide (es.length < cnt) = false := decide_eq_false hkl
          have hdi : decide ((es.length : Int) < (cnt : Int)) = false := decide_eq_false (by omega)
          have hprd : prd L = some (false, es, q) := by rw [hpd, hkc, Nat.sub_self]; rfl
          obtain ⟨u, hub, hug, hun, _⟩ := hO.node (fun e he => (hpe e he).nrm) (pen_short hpe (by omega))
          have r0 := blk_cell hb0 0
          have r1 := blk_cell hb0 1
          have r2 := blk_cell hb0 2
          have r3 := blk_cell hb0 3
          have f0 := blk_free hb0 0
          have f1 := blk_free hb0 1
          have f2 := blk_free hb0 2
          have f3 := blk_free hb0 3
          have rlt := lt_of_block hb0
          have u0 := blk_cell hub 0
          have u1 := blk_cell hub 1
          have u2 := blk_cell hub 2
          have u3 := blk_cell hub 3
          have ult := lt_of_block hub
          simp only [List.getElem?_toArray, List.getElem?_cons_zero, List.getElem?_cons_succ] at r0 r1 r2 r3 u0 u1 u2 u3
          have HF : Hid (∀ a b c d, RrPost w L (.returned (.tuple #[.agg #[.bool u.leaf, .slice u.ka u.kn u.kc, .slice u.va u.vn u.vc, .slice u.ia u.im u.ic], .int .i64 (q : Nat), .int .i64 0])) ((((wr.setCell ⟨w.heap.size, 0, none⟩ a).setCell ⟨w.heap.size, 1, none⟩ b).setCell ⟨w.heap.size, 2, none⟩ c).setCell ⟨w.heap.size, 3, none⟩ d)) := fun a b c d =>
            ⟨T.set4 a b c d, Or.inl ⟨false, es, q, u, hprd, hq, rfl, hug.set4 hun (by omega) a b c d, hun.keep (L := [w.heap.size]) (((((Tch.refl _ wr).setCell (by simp) a).setCell (by simp) b).setCell (by simp) c).setCell (by simp) d) (by simp)⟩⟩
          clear hub hug hun hprd hpd hO hpe T hb0 hcell hkc
          go_wp2_with fail
          refine bodyPost_ret (v := .tuple #[.agg #[.bool u.leaf, .slice u.ka u.kn u.kc, .slice u.va u.vn u.vc, .slice u.ia u.im u.ic], .int .i64 (q : Nat), .int .i64 0]) (by simp [results, Tryd.results11, go_sem, r0, r1, r2, r3]) rfl (HF.out _ _ _ _)
      · obtain ⟨lf, ka, kn, kc, va, vn, vc, ia, im, ic, hub⟩ := hcell
        have hne : (c2 == 0) = false := by simpa using hc2
        have r0 := blk_cell hb0 0
        have r1 := blk_cell hb0 1
        have r2 := blk_cell hb0 2
        have r3 := blk_cell hb0 3
        have f0 := blk_free hb0 0
        have f1 := blk_free hb0 1
        have f2 := blk_free hb0 2
        have f3 := blk_free hb0 3
        have rlt := lt_of_block hb0
        have u0 := blk_cell hub 0
        have u1 := blk_cell hub 1
        have u2 := blk_cell hub 2
        have u3 := blk_cell hub 3
        have ult := lt_of_block hub
        simp only [List.getElem?_toArray, List.getElem?_cons_zero, List.getElem?_cons_succ] at r0 r1 r2 r3 u0 u1 u2 u3
        have HF : Hid (∀ x y z d, RrPost w L (.returned (.tuple #[.agg #[.bool lf, .slice ka kn kc, .slice va vn vc, .slice ia im ic], .int .i64 a, .int .i64 c2])) ((((wr.setCell ⟨w.heap.size, 0, none⟩ x).setCell ⟨w.heap.size, 1, none⟩ y).setCell ⟨w.heap.size, 2, none⟩ z).setCell ⟨w.heap.size, 3, none⟩ d)) := fun x y z d =>
          ⟨T.set4 x y z d, Or.inr ⟨lf, ka, kn, kc, va, vn, vc, ia, im, ic, a, c2, hno, hc2, rfl⟩⟩
        clear hub T hb0 hno
        go_wp2_with fail
        refine bodyPost_ret (v := .tuple #[.agg #[.bool lf, .slice ka kn kc, .slice va vn vc, .slice ia im ic], .int .i64 a, .int .i64 c2]) (by simp [results, Tryd.results11, go_sem, r0, r1, r2, r3]) rfl (HF.out _ _ _ _)
  · simp only [Bool.not_true] at f1
    go_enter Tryd.func11, Tryd.ntmps11
    go_wp2_with fail
    refine (HR0.out _).mono ?_
    rintro e w3 ⟨rfl, rfl⟩
    go_wp2_with fail
    rw [← hW2]
    clear hW2 HR0 HPR hd f0 f1 f2 h1
    go_loopw [7, 8, 9] (fun v7 v8 v9 wr => RrRel w (w.heap.size + 1) true L cnt v7 v8 v9 wr) (fun v7 v8 _ _ => if intOf v8 = 0 then s.size + 1 - (intOf v7).toNat else 0)
    case atStart => exact HST.out
    case round =>
      clear HST
      obtain ⟨T, hb0, hcell, hor⟩ := hrel
      have hTs := T.size
      rcases hor with ⟨q, es, rfl, rfl, rfl, hec, hq, heq, hpe, hO, hpd⟩ | ⟨a, c2, k, rfl, rfl, hc2, rfl, hk, hno⟩
      · by_cases hkl : es.length < cnt
        · have hd : decide (es.length < cnt) = true := decide_eq_true hkl
          have hdi : decide ((es.length : Int) < (cnt : Int)) = true := decide_eq_true (by omega)
          have hw : IntKind.u64.wrap ((es.length : Int) + 1) = (es.length : Int) + 1 := by rw [IntKind.wrap_u64]; omega
          have HC := Lib.hid (HRE.out q es wr hO hq (by omega))
          have HT := Lib.hid T
          have HB := Lib.hid hb0
          have HPE := Lib.hid hpe
          have HPD := Lib.hid hpd
          clear hO hpd hpe T hb0 hcell
          go_wp2_with fail
          refine HC.out.mono ?_
          rintro e w4 ⟨hbl, hor⟩
          have T4 : Tch [] w w4 := below_tch HT.out hbl (by omega)
          have hb4 : w4.heap[w.heap.size]? = some (.cells #[.bool false, .slice none 0 0, .slice none 0 0, .slice none 0 0] 25 (0, 0)) := by rw [hbl.block _ (by omega)]; exact HB.out
          rcases hor with ⟨en, m, hpn, rfl, hO4⟩ | ⟨a, c, hpn, hc, rfl, hcell4⟩
          · obtain ⟨hp1, hp2, hp3⟩ := pde_en hpn (by rw [List.length_drop]; omega)
            rw [List.length_drop] at hp3
            have HN : Hid (prd L = (match pdes true L (cnt - (es.length + 1)) (q + m) (es ++ [en]) with | none => none | some (es, p) => some (true, es, p))) := by
              show _ = _
              rw [HPD.out, pdes_next hkl hpn]
            have HR : Hid (RrRel w (w.heap.size + 1) true L cnt (.int .i64 ((q + m : Nat) : Int)) (.int .i64 0) (.int .u64 ((es.length + 1 : Nat) : Int)) w4) :=
              ⟨T4, hb4, (by obtain ⟨_, _, _, h⟩ := hO4; exact h.cells), Or.inl ⟨q + m, es ++ [en], rfl, rfl, by simp, by simp; omega, by omega, by simp; omega, fun e he => by
                rcases List.mem_append.1 he with h | h
                · exact HPE.out e h
                · simp only [List.mem_singleton] at h; subst h; exact hp1, hO4, by rw [List.length_append]; exact HN.out⟩⟩
            clear hbl T4 hb4 hpn hO4 HC hp1
            go_wp2_with fail
            go_roundw
            case rel =>
              have := HR.out
              rw [show (((es.length + 1 : Nat)) : Int) = (es.length : Int) + 1 from by omega] at this
              exact this
            case measure => simp [intOf]; omega
          · have hne : (c == 0) = false := by simpa using hc
            have HR : Hid (RrRel w (w.heap.size + 1) true L cnt (.int .i64 a) (.int .i64 c) (.int .u64 ((es.length + 1 : Nat) : Int)) w4) :=
              ⟨T4, hb4, hcell4, Or.inr ⟨a, c, es.length + 1, rfl, rfl, hc, rfl, by omega, by rw [HPD.out, pdes_fail hkl hpn]⟩⟩
            clear hbl T4 hb4 hpn hcell4 HC
            go_wp2_with fail
            go_roundw
            case rel =>
              have := HR.out
              rw [show (((es.length + 1 : Nat)) : Int) = (es.length : Int) + 1 from by omega] at this
              exact this
            case measure => simp [intOf, hc]; omega
        · have hkc : es.length = cnt := by omega
          have hd : decide (es.length < cnt) = false := decide_eq_false hkl
          have hdi : decide ((es.length : Int) < (cnt : Int)) = false := decide_eq_false (by omega)
          have hprd : prd L = some (true, es, q) := by rw [hpd, hkc, Nat.sub_self]; rfl
          obtain ⟨u, hub, hug, hun, _⟩ := hO.node (fun e he => (hpe e he).nrm) (pen_short hpe (by omega))
          have r0 := blk_cell hb0 0
          have r1 := blk_cell hb0 1
          have r2 := blk_cell hb0 2
          have r3 := blk_cell hb0 3
          have f0 := blk_free hb0 0
          have f1 := blk_free hb0 1
          have f2 := blk_free hb0 2
          have f3 := blk_free hb0 3
          have rlt := lt_of_block hb0
          have u0 := blk_cell hub 0
          have u1 := blk_cell hub 1
          have u2 := blk_cell hub 2
          have u3 := blk_cell hub 3
          have ult := lt_of_block hub
          simp only [List.getElem?_toArray, List.getElem?_cons_zero, List.getElem?_cons_succ] at r0 r1 r2 r3 u0 u1 u2 u3
          have HF : Hid (∀ a b c d, RrPost w L (.returned (.tuple #[.agg #[.bool u.leaf, .slice u.ka u.kn u.kc, .slice u.va u.vn u.vc, .slice u.ia u.im u.ic], .int .i64 (q : Nat), .int .i64 0])) ((((wr.setCell ⟨w.heap.size, 0, none⟩ a).setCell ⟨w.heap.size, 1, none⟩ b).setCell ⟨w.heap.size, 2, none⟩ c).setCell ⟨w.heap.size, 3, none⟩ d)) := fun a b c d =>
            ⟨T.set4 a b c d, Or.inl ⟨true, es, q, u, hprd, hq, rfl, hug.set4 hun (by omega) a b c d, hun.keep (L := [w.heap.size]) (((((Tch.refl _ wr).setCell (by simp) a).setCell (by simp) b).setCell (by simp) c).setCell (by simp) d) (by simp)⟩⟩
          clear hub hug hun hprd hpd hO hpe T hb0 hcell hkc
          go_wp2_with fail
          refine bodyPost_ret (v := .tuple #[.agg #[.bool u.leaf, .slice u.ka u.kn u.kc, .slice u.va u.vn u.vc, .slice u.ia u.im u.ic], .int .i64 (q : Nat), .int .i64 0]) (by simp [results, Tryd.results11, go_sem, r0, r1, r2, r3]) rfl (HF.out _ _ _ _)
      · obtain ⟨lf, ka, kn, kc, va, vn, vc, ia, im, ic, hub⟩ := hcell
        have hne : (c2 == 0) = false := by simpa using hc2
        have r0 := blk_cell hb0 0
        have r1 := blk_cell hb0 1
        have r2 := blk_cell hb0 2
        have r3 := blk_cell hb0 3
        have f0 := blk_free hb0 0
        have f1 := blk_free hb0 1
        have f2 := blk_free hb0 2
        have f3 := blk_free hb0 3
        have rlt := lt_of_block hb0
        have u0 := blk_cell hub 0
        have u1 := blk_cell hub 1
        have u2 := blk_cell hub 2
        have u3 := blk_cell hub 3
        have ult := lt_of_block hub
        simp only [List.getElem?_toArray, List.getElem?_cons_zero, List.getElem?_cons_succ] at r0 r1 r2 r3 u0 u1 u2 u3
        have HF : Hid (∀ x y z d, RrPost w L (.returned (.tuple #[.agg #[.bool lf, .slice ka kn kc, .slice va vn vc, .slice ia im ic], .int .i64 a, .int .i64 c2])) ((((wr.setCell ⟨w.heap.size, 0, none⟩ x).setCell ⟨w.heap.size, 1, none⟩ y).setCell ⟨w.heap.size, 2, none⟩ z).setCell ⟨w.heap.size, 3, none⟩ d)) := fun x y z d =>
          ⟨T.set4 x y z d, Or.inr ⟨lf, ka, kn, kc, va, vn, vc, ia, im, ic, a, c2, hno, hc2, rfl⟩⟩
        clear hub T hb0 hno
        go_wp2_with fail
        refine bodyPost_ret (v := .tuple #[.agg #[.bool lf, .slice ka kn kc, .slice va vn vc, .slice ia im ic], .int .i64 a, .int .i64 c2]) (by simp [results, Tryd.results11, go_sem, r0, r1, r2, r3]) rfl (HF.out _ _ _ _)
theorem nread_any (s : ByteArray) (w : World) (hs : s.size ≤ 1024) : Calls Tryd.prog 11 #[.string s] w (RrPost w s.data.toList) := by
  by_cases h0 : s.size = 0
  · exact nread_empty s w h0
  · have hpos : 0 < s.size := by omega
    by_cases h1 : s[0]'hpos = 1
    · exact nread_some s w true hs hpos (by rw [h1]; rfl)
    · by_cases h2 : s[0]'hpos = 2
      · exact nread_some s w false hs hpos (by rw [h2]; rfl)
      · exact nread_other s w hs hpos h1 h2
end Go.Proofs.YtlgfdfpafmopdaaDoor
