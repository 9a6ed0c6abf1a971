/-
  Layer 6: 'isOf'.
-/
import Derived.Test.YtenohgogfddniaaFit
import Derived.Test.YtenohgogfddniaaShelf2
namespace Go.Proofs.Ytenohgogfddniaa
open Go.RowKit
set_option linter.unusedVariables false

def hasZ (s : ByteArray) : Bool := decide (0 ≤ Lib.indexByte s.data.toList 0)
def inK (t : Tb) (i : Nat) : Bool := decide ((i : Int) < t.keys) || (i : Int) == t.idx
def okV (t : Tb) (i : Nat) (k : Int) (x : Vl) : Bool := !(inK t i && hasZ x.s) && if k == 0 then x.s.toList.isEmpty else x.n == 0

set_option maxRecDepth 100000 in
set_option maxHeartbeats 1000000 in
theorem isOf_any (t : Tb) (a : Option Addr) (c b o i : Nat) (k : Int) (x : Vl) (w : World) (hk : IsKs w a t.cols.length b o t.cols) (hi : t.cols[i]? = some k) (hl : t.cols.length ≤ 1000000000) :
    Calls Try.prog 41 #[t.agg a c, .int .i64 i, x.agg] w fun e w' => e = .returned (.bool (okV t i k x)) ∧ Tch [] w w' := by
  have hin := (List.getElem?_eq_some_iff.1 hi).1
  obtain rfl : a = some ⟨b, o, none⟩ := hk.some_ (by omega)
  have HC := Lib.hid (show ∀ (W : World), Tch [] w W → W.cell? ⟨b, o + i, none⟩ = some (.int .i64 k) from fun W T => (hk.keep0 T).one hi rfl)
  have HS := Lib.hid (fun W : World => Try.strings_Contains_one x.s 0 W)
  have hE : ∃ z, z = hasZ x.s := ⟨_, rfl⟩
  obtain ⟨z, hz⟩ := hE
  have HV := Lib.hid (show okV t i k x = (!((decide ((i : Int) < t.keys) || (i : Int) == t.idx) && z) && if k == 0 then x.s.toList.isEmpty else x.n == 0) from by rw [hz]; rfl)
  rw [HV.out]
  unfold hasZ at hz
  have HZ := Lib.hid hz
  clear hz HV hk hi
  obtain ⟨nm, cols, tk, ti⟩ := t
  obtain ⟨xn, xs⟩ := x
  unfold Tb.agg Vl.agg
  simp only at hl hin HS HZ ⊢
  generalize hnm : (nm : Int) = nmi
  generalize hcn : cols.length = cn at *
  clear hnm hcn
  have T1 := Lib.hid (((Tch.refl [] w).alloc (.cells #[.int .u8 nmi, .slice (some ⟨b, o, none⟩) cn c, .int .i64 tk, .int .i64 ti] 24)).alloc (.cells #[.int .i64 xn, .string xs] 58))
  have hcell := HC.out _ T1.out
  rcases hA : decide ((i : Int) < tk) with _ | _ <;> rcases hB : ((i : Int) == ti) with _ | _ <;> rcases z with _ | _ <;> rcases hD : (k == 0) with _ | _
  all_goals
    go_enter Try.func41, Try.ntmps41
    go_wp2_with (with_reducible refine (HS.out _).mono ?_; rw [← HZ.out]; rintro e w' ⟨rfl, rfl⟩)
    go_ret
    exact ⟨by first | rfl | simp, T1.out⟩
end Go.Proofs.Ytenohgogfddniaa
