/-
  Layer 6: 'hasValues'.
-/
import Derived.Test.YtenohgogfddniaaIof
import Derived.Deep.LoopGhost
namespace Go.Proofs.Ytenohgogfddniaa
open Go.RowKit
set_option linter.unusedVariables false

/-- A row's values in memory. -/
abbrev IsVs (w : World) (a : Option Addr) (n b o : Nat) (r : List Vl) : Prop := IsR fVl 2 w a n b o r
def okAt (t : Tb) (r : List Vl) (i : Nat) : Bool := match t.cols[i]?, r[i]? with | some k, some x => okV t i k x | _, _ => false
def okUp (t : Tb) (r : List Vl) : Nat → Bool
  | 0 => true
  | i + 1 => okUp t r i && okAt t r i
theorem okUp_no (t : Tb) (r : List Vl) {i : Nat} (h : okAt t r i = false) : ∀ n, i < n → okUp t r n = false
  | 0, hn => by omega
  | n + 1, hn => by
    rw [okUp]
    by_cases e : i = n
    · subst e; rw [h, Bool.and_false]
    · rw [okUp_no t r h n (by omega), Bool.false_and]
def hasV (t : Tb) (r : List Vl) : Bool := r.length == t.cols.length && okUp t r r.length
def tcs (t : Tb) (a : Option Addr) (c : Nat) : Array Value := #[.int .u8 t.name, .slice a t.cols.length c, .int .i64 t.keys, .int .i64 t.idx]
def HvRel (w : World) (t : Tb) (a : Option Addr) (c : Nat) (r : List Vl) (n : Nat) (v15 : Value) (wr : World) : Prop :=
  ∃ i : Nat, n + i = r.length ∧ v15 = .int .i64 i ∧ wr.heap[w.heap.size]? = some (.cells (tcs t a c) 24 (0, 0)) ∧ okUp t r i = true ∧ Tch [] w wr

set_option maxRecDepth 100000 in
set_option maxHeartbeats 1000000 in
theorem hasValues_any (t : Tb) (a : Option Addr) (c b o : Nat) (r : List Vl) (ra : Option Addr) (rc rb ro : Nat) (w : World) (hk : IsKs w a t.cols.length b o t.cols) (hr : IsVs w ra r.length rb ro r) (hl : t.cols.length ≤ 1000000000) :
    Calls Try.prog 29 #[t.agg a c, .slice ra r.length rc] w fun e w' => e = .returned (.bool (hasV t r)) ∧ Tch [] w w' := by
  have HI := Lib.hid (show ∀ (W : World), Tch [] w W → ∀ (i : Nat) k x, t.cols[i]? = some k → Calls Try.prog 41 #[t.agg a c, .int .i64 i, x.agg] W fun e w' => e = .returned (.bool (okV t i k x)) ∧ Tch [] W w' from fun W T i k x hi => isOf_any t a c b o i k x W (hk.keep0 T) hi hl)
  have HCE : Hid (∀ W, Tch [] w W → ∀ i (hi : i < r.length), W.cell? ⟨rb, ro + i * 2, none⟩ = some (.int .i64 r[i].n) ∧ W.cell? ⟨rb, ro + i * 2 + 1, none⟩ = some (.string r[i].s) ∧ ra = some ⟨rb, ro, none⟩) := fun W t i hi => by
    have r2 := hr.keep0 t
    have hg : r[i]? = some r[i] := List.getElem?_eq_getElem hi
    exact ⟨r2.c0 hg rfl, r2.c hg 1 rfl, r2.some_ (by omega)⟩
  clear hk hr
  have hb0 := blk_new w (.cells (tcs t a c) 24)
  have HB := Lib.hid hb0
  have T1 := Lib.hid ((Tch.refl [] w).alloc (.cells (tcs t a c) 24))
  clear hb0
  unfold Tb.agg at *
  obtain ⟨cn, hcn⟩ : ∃ n, n = t.cols.length := ⟨_, rfl⟩
  obtain ⟨rn, hrn⟩ : ∃ n, n = r.length := ⟨_, rfl⟩
  have HN := Lib.hid hcn
  have HR := Lib.hid hrn
  by_cases he : r.length = t.cols.length
  · have heb : ((r.length : Int) != (t.cols.length : Int)) = false := by simp; omega
    have hrl : r.length ≤ 1000000000 := by omega
    have HVT := Lib.hid (show okUp t r r.length = true → hasV t r = true from fun h => by unfold hasV; rw [h]; simp [he])
    have HVF := Lib.hid (show ∀ i, i < r.length → okAt t r i = false → hasV t r = false from fun i hi h => by unfold hasV; rw [okUp_no t r h _ hi]; simp)
    have HE := Lib.hid he
    clear he
    go_enter Try.func29, Try.ntmps29
    go_wp2_with fail
    clear heb
    go_loopg [15] rn (fun n v15 wr => HvRel w t a c r n v15 wr)
    case atStart => exact ⟨0, by simp [HR.out], rfl, HB.out, rfl, T1.out⟩
    case round =>
      obtain ⟨i, hni, rfl, hbox, hok, T⟩ := hrel
      match gk, hni with
      | 0, hni =>
        have hlt : decide (i < r.length) = false := decide_eq_false (by omega)
        obtain rfl : i = r.length := by omega
        have HV := Lib.hid (HVT.out hok)
        clear hok hbox HVT HVF HI HCE
        go_wp2_with fail
        go_ret
        exact ⟨by rw [HV.out]; rfl, T⟩
      | m + 1, hni =>
        have hi' : i < r.length := by omega
        have hlt : decide (i < r.length) = true := decide_eq_true hi'
        have hi1 : (i : Int) < (r.length : Int) := by omega
        obtain ⟨s0, s1, ha⟩ := HCE.out wr T i hi'
        obtain ⟨k, hkk⟩ : ∃ k, t.cols[i]? = some k := ⟨_, List.getElem?_eq_getElem (by have := HE.out; omega)⟩
        have HXX := Lib.hid (show r[i]? = some r[i] from List.getElem?_eq_getElem hi')
        have HBX := Lib.hid hbox
        have hb0 : wr.cell? ⟨w.heap.size, 0, none⟩ = some (.int .u8 t.name) := blk_cell hbox 0
        have hb1 : wr.cell? ⟨w.heap.size, 1, none⟩ = some (.slice a t.cols.length c) := blk_cell hbox 1
        have hb2 : wr.cell? ⟨w.heap.size, 2, none⟩ = some (.int .i64 t.keys) := blk_cell hbox 2
        have hb3 : wr.cell? ⟨w.heap.size, 3, none⟩ = some (.int .i64 t.idx) := blk_cell hbox 3
        have hbl : w.heap.size < wr.heap.size := lt_of_block hbox
        subst ha
        generalize r[i] = x at *
        have HA := Lib.hid (show okAt t r i = okV t i k x from by unfold okAt; rw [hkk, HXX.out])
        have HK := Lib.hid hkk
        have HOK := Lib.hid hok
        clear hkk hbox hok HXX
        go_wp2_with fail
        refine (HI.out _ (T.alloc _) i k x HK.out).mono ?_
        rintro e W2 ⟨rfl, T2⟩
        have T3 := (T.alloc (.cells #[.int .i64 x.n, .string x.s] 58)).trans T2
        have hbox2 := (T2.keep (blk_alloc HBX.out (.cells #[.int .i64 x.n, .string x.s] 58)) (by simp))
        have HB2 := Lib.hid hbox2
        clear hbox2 T2 s0 s1 hb0 hb1 hb2 hb3
        rcases ho : okV t i k x with _ | _
        · have HV := Lib.hid (HVF.out i hi' (HA.out.trans ho))
          clear HVF HVT HI HCE
          go_wp2_with fail
          go_ret
          exact ⟨by rw [HV.out]; rfl, T3⟩
        · have HO2 := Lib.hid (show okUp t r (i + 1) = true from by rw [okUp, HOK.out, HA.out, ho]; rfl)
          clear HVF HVT HI HCE
          go_wp2_with fail
          go_roundg m
          case measure => omega
          case rel => exact ⟨i + 1, by omega, by go_num, HB2.out, HO2.out, T3⟩
  · have HV := Lib.hid (show hasV t r = false from by unfold hasV; simp [he])
    have heb : ((r.length : Int) != (t.cols.length : Int)) = true := by simp; omega
    clear he
    go_enter Try.func29, Try.ntmps29
    go_wp2_with fail
    go_ret
    exact ⟨by rw [HV.out]; rfl, T1.out⟩
end Go.Proofs.Ytenohgogfddniaa
