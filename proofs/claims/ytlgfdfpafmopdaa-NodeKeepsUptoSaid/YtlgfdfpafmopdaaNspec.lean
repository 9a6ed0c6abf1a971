/-
  What each function of package node answers, as the document has it: statements that the laws' walks lean on. (Each is proved of the landed code in a text of its own.)
-/
import Derived.Test.YtlgfdfpafmopdaaNa
import Derived.Test.YtlgfdfpafmopdaaNin
namespace Go.Proofs.Ytlgfdfpafmopdaa
open Go.RowKit
set_option linter.unusedVariables false

/-- The keys rise. -/
def Rise (l : List ByteArray) : Prop := ∀ (i : Nat) a b, l[i]? = some a → l[i + 1]? = some b → slt a b = true
/-- A node that a call answers. -/
structure Nv.Good (w : World) (u : Nv) (leaf : Bool) (es : List En) : Prop where
  nv : IsNv w u
  leaf : u.leaf = leaf
  es : u.es = es
  lens : u.lens = true
  ok : u.Ok
  caps : u.caps
theorem Nv.Good.keep0 {w w' : World} {u : Nv} {leaf : Bool} {es : List En} (h : u.Good w leaf es) (t : Tch [] w w') : u.Good w' leaf es := ⟨h.nv.keep0 t, h.leaf, h.es, h.lens, h.ok, h.caps⟩
/-- The cells of a node in a row of nodes. -/
def fNv (u : Nv) : List Value := [.bool u.leaf, .slice u.ka u.kn u.kc, .slice u.va u.vn u.vc, .slice u.ia u.im u.ic]

def EncSpec : Prop := ∀ (v : Nv) (w : World), IsNv w v → v.Ok → v.caps → Calls Try.prog 10 #[.agg #[.bool v.leaf, .slice v.ka v.kn v.kc, .slice v.va v.vn v.vc, .slice v.ia v.im v.ic]] w fun e w' =>
  e = .returned (.tuple #[.string (if v.fits then ⟨(ndb v.leaf v.es).toArray⟩ else ⟨#[]⟩), .int .i64 (if v.fits then 0 else 40)]) ∧ Tch [] w w'
def WeiSpec : Prop := ∀ (v : Nv) (w : World), IsNv w v → v.Ok → v.caps → Calls Try.prog 14 #[.agg #[.bool v.leaf, .slice v.ka v.kn v.kc, .slice v.va v.vn v.vc, .slice v.ia v.im v.ic]] w fun e w' =>
  e = .returned (.int .i64 ((ndb v.leaf v.es).length : Nat)) ∧ Tch [] w w'
def SplSpec : Prop := ∀ (v : Nv) (w : World), IsNv w v → v.Ok → v.caps → Calls Try.prog 16 #[.agg #[.bool v.leaf, .slice v.ka v.kn v.kc, .slice v.va v.vn v.vc, .slice v.ia v.im v.ic]] w fun e w' =>
  Tch [] w w' ∧ ∃ (us : List Nv) (a : Option Addr) (c b o : Nat), e = .returned (.slice a us.length c) ∧ us.length ≤ c ∧ IsR fNv 4 w' a us.length b o us ∧ us.map Nv.es = splitN v.leaf v.es ∧ ∀ u ∈ us, u.Good w' v.leaf u.es
def JoiSpec : Prop := ∀ (v u : Nv) (w : World), IsNv w v → IsNv w u → v.Ok → u.Ok → v.upto 10000000 → u.upto 10000000 → v.caps → u.caps → Calls Try.prog 20 #[.agg #[.bool v.leaf, .slice v.ka v.kn v.kc, .slice v.va v.vn v.vc, .slice v.ia v.im v.ic], .agg #[.bool u.leaf, .slice u.ka u.kn u.kc, .slice u.va u.vn u.vc, .slice u.ia u.im u.ic]] w fun e w' =>
  Tch [] w w' ∧ ∃ z : Nv, e = .returned (.agg #[.bool z.leaf, .slice z.ka z.kn z.kc, .slice z.va z.vn z.vc, .slice z.ia z.im z.ic]) ∧ z.Good w' v.leaf (v.es ++ mkN v.leaf u.keys u.vals u.kids)
def PlaSpec : Prop := ∀ (v : Nv) (key : ByteArray) (w : World), IsNv w v → v.Ok → v.caps → key.size ≤ 10000000 → Rise v.keys → Calls Try.prog 22 #[.agg #[.bool v.leaf, .slice v.ka v.kn v.kc, .slice v.va v.vn v.vc, .slice v.ia v.im v.ic], .string key] w fun e w' =>
  e = .returned (.tuple #[.int .i64 (plcN v.es key : Nat), .bool (hitN v.es key)]) ∧ Tch [] w w'

/-! ### the leaf that the document fixes -/
def nv1 (p : Nat) : Nv := ⟨true, some ⟨p, 0, none⟩, 1, 1, some ⟨p + 1, 0, none⟩, 1, 1, none, 0, 0, p, 0, p + 1, 0, 0, 0, [⟨#[97]⟩], [⟨#[120]⟩], []⟩
theorem nv1_es (p : Nat) : (nv1 p).es = [⟨⟨#[97]⟩, ⟨#[120]⟩, 0⟩] := rfl
theorem nv1_bytes : ndb true [⟨⟨#[97]⟩, ⟨#[120]⟩, 0⟩] = [1, 1, 1, 97, 1, 120] := by
  have h1 : ub 1 = [1] := by rw [ub_small (by omega)]; rfl
  have s1 : (⟨#[97]⟩ : ByteArray).size = 1 := rfl
  have s2 : (⟨#[120]⟩ : ByteArray).size = 1 := rfl
  simp [ndb, enb, tx, h1, s1, s2]
theorem nv1_fits (p : Nat) : (nv1 p).fits = true := by
  unfold Nv.fits
  rw [nv1_es]
  show (_ && fitN true _) = true
  have s1 : (⟨#[97]⟩ : ByteArray).size = 1 := rfl
  have s2 : (⟨#[120]⟩ : ByteArray).size = 1 := rfl
  unfold fitN
  rw [nv1_bytes]
  simp [Nv.lens, nv1, fitFrom, fitE, s1, s2]
theorem nv1_ok (p : Nat) : (nv1 p).Ok := by
  have s1 : (⟨#[97]⟩ : ByteArray).size = 1 := rfl
  have s2 : (⟨#[120]⟩ : ByteArray).size = 1 := rfl
  refine ⟨?_, ?_, ?_, ?_, ?_, ?_, ?_⟩ <;> simp [nv1, s1, s2]
theorem nv1_caps (p : Nat) : (nv1 p).caps := by unfold Nv.caps nv1 maxLen; simp
def nv2 (p : Nat) : Nv := ⟨true, some ⟨p, 0, none⟩, 2, 2, none, 0, 0, none, 0, 0, p, 0, 0, 0, 0, 0, [⟨#[98]⟩, ⟨#[100]⟩], [], []⟩
theorem nv2_es (p : Nat) : (nv2 p).es = [⟨⟨#[98]⟩, ⟨#[]⟩, 0⟩, ⟨⟨#[100]⟩, ⟨#[]⟩, 0⟩] := rfl
theorem nv2_ok (p : Nat) : (nv2 p).Ok := by
  have s1 : (⟨#[98]⟩ : ByteArray).size = 1 := rfl
  have s2 : (⟨#[100]⟩ : ByteArray).size = 1 := rfl
  refine ⟨?_, ?_, ?_, ?_, ?_, ?_, ?_⟩ <;> simp [nv2, s1, s2]
theorem nv2_caps (p : Nat) : (nv2 p).caps := by unfold Nv.caps nv2 maxLen; simp
theorem tl1 (a : UInt8) : (⟨#[a]⟩ : ByteArray).toList = [a] := by rw [ByteArray.toList_eq]
theorem nv2_rise (p : Nat) : Rise (nv2 p).keys := by
  intro i a b h1 h2
  match i, h1, h2 with
  | 0, h1, h2 =>
    simp [nv2] at h1 h2
    subst h1 h2
    unfold slt
    rw [tl1, tl1]
    decide
  | i + 1, h1, h2 => simp [nv2] at h2
theorem nv2_place (p : Nat) : plcN (nv2 p).es ⟨#[101]⟩ = 1 ∧ hitN (nv2 p).es ⟨#[101]⟩ = false := by
  rw [nv2_es]
  have h2 : sle ⟨#[100]⟩ ⟨#[101]⟩ = true := by unfold sle slt; rw [tl1, tl1]; decide
  have hp : plcN [⟨⟨#[98]⟩, ⟨#[]⟩, 0⟩, ⟨⟨#[100]⟩, ⟨#[]⟩, 0⟩] ⟨#[101]⟩ = 1 := by simp [plcN, plcE, h2]
  refine ⟨hp, ?_⟩
  unfold hitN
  rw [hp]
  show ((⟨#[100]⟩ : ByteArray).toList == (⟨#[101]⟩ : ByteArray).toList) = false
  rw [tl1, tl1]
  decide

set_option maxRecDepth 100000 in
theorem nwakes_any (HE : EncSpec) (HP : PlaSpec) (w : World) : Calls Try.prog 13 #[] w fun e w' => e = .returned (.bool true) ∧ Tch [] w w' := by
  have T1 : Tch [] w ((w.alloc (.cells #[.string ⟨#[97]⟩] 9)).alloc (.cells #[.string ⟨#[120]⟩] 9)) := ((Tch.refl _ _).alloc _).alloc _
  have hb0 : ((w.alloc (.cells #[.string ⟨#[97]⟩] 9)).alloc (.cells #[.string ⟨#[120]⟩] 9)).heap[w.heap.size]? = some (.cells #[.string ⟨#[97]⟩] 9 (0, 0)) := blk_alloc (blk_new w _) _
  have hb1 : ((w.alloc (.cells #[.string ⟨#[97]⟩] 9)).alloc (.cells #[.string ⟨#[120]⟩] 9)).heap[w.heap.size + 1]? = some (.cells #[.string ⟨#[120]⟩] 9 (0, 0)) := by
    rw [show w.heap.size + 1 = (w.alloc (.cells #[.string ⟨#[97]⟩] 9)).heap.size from by simp]; exact blk_new _ _
  have hnv : IsNv ((w.alloc (.cells #[.string ⟨#[97]⟩] 9)).alloc (.cells #[.string ⟨#[120]⟩] 9)) (nv1 w.heap.size) := by
    refine ⟨⟨rfl, Or.inr ⟨rfl, lt_of_block hb0⟩, ?_⟩, ⟨rfl, Or.inr ⟨rfl, lt_of_block hb1⟩, ?_⟩, IsR.nil _ _ _ _⟩
    · intro k x hk j v hv
      match k, hk, j, hv with
      | 0, hk, 0, hv => simp [nv1] at hk; subst hk; simp [fStr] at hv; subst hv; exact blk_cell hb0 0
    · intro k x hk j v hv
      match k, hk, j, hv with
      | 0, hk, 0, hv => simp [nv1] at hk; subst hk; simp [fStr] at hv; subst hv; exact blk_cell hb1 0
  have HEN := Lib.hid (HE (nv1 w.heap.size) _ hnv (nv1_ok _) (nv1_caps _))
  rw [nv1_fits, if_pos rfl, if_pos rfl, nv1_es] at HEN
  have HBY : Hid ((⟨(ndb (nv1 w.heap.size).leaf [⟨⟨#[97]⟩, ⟨#[120]⟩, 0⟩]).toArray⟩ : ByteArray) = ⟨#[1, 1, 1, 97, 1, 120]⟩) := by
    show _ = _
    rw [show (nv1 w.heap.size).leaf = true from rfl, nv1_bytes]
  rw [HBY.out] at HEN
  have HPL : Hid (∀ w2 : World, Calls Try.prog 22 #[.agg #[.bool true, .slice (some ⟨w2.heap.size, 0, none⟩) 2 2, .slice none 0 0, .slice none 0 0], .string ⟨#[101]⟩] (w2.alloc (.cells #[.string ⟨#[98]⟩, .string ⟨#[100]⟩] 9)) fun e w' => e = .returned (.tuple #[.int .i64 1, .bool false]) ∧ Tch [] (w2.alloc (.cells #[.string ⟨#[98]⟩, .string ⟨#[100]⟩] 9)) w') := fun w2 => by
    have hb := blk_new w2 (.cells #[.string ⟨#[98]⟩, .string ⟨#[100]⟩] 9)
    have hn : IsNv (w2.alloc (.cells #[.string ⟨#[98]⟩, .string ⟨#[100]⟩] 9)) (nv2 w2.heap.size) := by
      refine ⟨⟨rfl, Or.inr ⟨rfl, lt_of_block hb⟩, ?_⟩, IsR.nil _ _ _ _, IsR.nil _ _ _ _⟩
      intro k x hk j v hv
      match k, hk, j, hv with
      | 0, hk, 0, hv => simp [nv2] at hk; subst hk; simp [fStr] at hv; subst hv; exact blk_cell hb 0
      | 1, hk, 0, hv => simp [nv2] at hk; subst hk; simp [fStr] at hv; subst hv; exact blk_cell hb 1
    have h := HP (nv2 w2.heap.size) ⟨#[101]⟩ _ hn (nv2_ok _) (nv2_caps _) (by have : (⟨#[101]⟩ : ByteArray).size = 1 := rfl; omega) (nv2_rise _)
    rw [(nv2_place _).1, (nv2_place _).2] at h
    exact h
  clear hb0 hb1 hnv HBY
  go_enter Try.func13, Try.ntmps13
  go_wp2_with fail
  refine HEN.out.mono ?_
  rintro e w1 ⟨rfl, t1⟩
  go_wp2_with fail
  refine (HPL.out w1).mono ?_
  rintro e w2 ⟨rfl, t2⟩
  have T2 := ((T1.trans t1).alloc (.cells #[.string ⟨#[98]⟩, .string ⟨#[100]⟩] 9)).trans t2
  go_wp2_with fail
  go_ret
  refine ⟨?_, T2⟩
  rfl
end Go.Proofs.Ytlgfdfpafmopdaa
