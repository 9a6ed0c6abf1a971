/-
  Nodes of a tree as the document has them: entries, their bytes, what bytes read as, how nodes are cut and put together. Plain functions; no condition.
-/
import Derived.Test.YtenohgogfddniaaNum
import GoSem.Op.String
namespace Go.Proofs.Ytenohgogfddniaa
set_option linter.unusedVariables false

/-- A text with its length ahead. -/
def tx (s : ByteArray) : List UInt8 := ub s.size ++ s.data.toList
/-- What bytes read as, as a text: the error, the text, how many bytes it took. -/
def rtx (L : List UInt8) : Int × ByteArray × Nat :=
  if (rdu L 0 0).1 ≠ 0 then ((rdu L 0 0).1, ⟨#[]⟩, 0)
  else if L.length - (rdu L 0 0).2.2 < (rdu L 0 0).2.1 then (20, ⟨#[]⟩, 0)
  else (0, ⟨((L.drop (rdu L 0 0).2.2).take (rdu L 0 0).2.1).toArray⟩, (rdu L 0 0).2.2 + (rdu L 0 0).2.1)

/-- An entry: a key with its value, or its kid. -/
structure En where
  key : ByteArray
  val : ByteArray
  kid : Int
def enb (leaf : Bool) (e : En) : List UInt8 := tx e.key ++ (if leaf then tx e.val else ub e.kid.toNat)
/-- A node's bytes. -/
def ndb (leaf : Bool) (es : List En) : List UInt8 := (if leaf then 1 else 2) :: (ub es.length ++ es.flatMap (enb leaf))
/-- The order of texts. -/
def slt (a b : ByteArray) : Bool := Go.Op.bytesLess a.toList b.toList
def sle (a b : ByteArray) : Bool := slt a b || a.toList == b.toList
def fitE (leaf : Bool) (e : En) : Bool := decide (1 ≤ e.key.size) && decide (e.key.size ≤ 48) && (if leaf then decide (e.val.size ≤ 200) else decide (1 ≤ e.kid) && decide (e.kid < 16384))
/-- Entries from the k-th on are fit, and their keys rise. -/
def fitFrom (leaf : Bool) : Option ByteArray → List En → Bool
  | _, [] => true
  | prev, e :: es => fitE leaf e && (match prev with | none => true | some p => !sle e.key p) && fitFrom leaf (some e.key) es
def fitN (leaf : Bool) (es : List En) : Bool := fitFrom leaf none es && decide ((ndb leaf es).length ≤ 1024) && (leaf || decide (0 < es.length))
/-- An entry out of bytes. -/
def rde (leaf : Bool) (L : List UInt8) : Option (En × Nat) :=
  if (rtx L).1 ≠ 0 then none
  else if leaf then (if (rtx (L.drop (rtx L).2.2)).1 ≠ 0 then none else some (⟨(rtx L).2.1, (rtx (L.drop (rtx L).2.2)).2.1, 0⟩, (rtx L).2.2 + (rtx (L.drop (rtx L).2.2)).2.2))
  else (if (rdu (L.drop (rtx L).2.2) 0 0).1 ≠ 0 ∨ 16384 ≤ (rdu (L.drop (rtx L).2.2) 0 0).2.1 then none else some (⟨(rtx L).2.1, ⟨#[]⟩, ((rdu (L.drop (rtx L).2.2) 0 0).2.1 : Int)⟩, (rtx L).2.2 + (rdu (L.drop (rtx L).2.2) 0 0).2.2))
/-- c entries more, from place p on. -/
def rdes (leaf : Bool) (L : List UInt8) : Nat → Nat → List En → Option (List En × Nat)
  | 0, p, es => some (es, p)
  | c + 1, p, es => match rde leaf (L.drop p) with
    | none => none
    | some (e, n) => rdes leaf L c (p + n) (es ++ [e])
/-- The node that the bytes are. -/
def ddec (L : List UInt8) : Option (Bool × List En) :=
  match L with
  | [] => none
  | b :: M =>
    if b ≠ 1 ∧ b ≠ 2 then none else if (rdu M 0 0).1 ≠ 0 then none else
    match rdes (b == 1) L (rdu M 0 0).2.1 (1 + (rdu M 0 0).2.2) [] with
    | none => none
    | some (es, p) => if nil0 (L.drop p) && fitN (b == 1) es then some (b == 1, es) else none
/-- Where a node is cut: the number of entries of its first part. -/
def cutE (leaf : Bool) (whole last : Nat) : Nat → Nat → List En → Nat
  | i, _, [] => i
  | i, sum, e :: es => if whole ≤ 2 * (sum + (enb leaf e).length) ∨ i = last then i + 1 else cutE leaf whole last (i + 1) (sum + (enb leaf e).length) es
def cutN (leaf : Bool) (es : List En) : Nat := cutE leaf (es.flatMap (enb leaf)).length (es.length - 2) 0 0 es
def splitN (leaf : Bool) (es : List En) : List (List En) := if (ndb leaf es).length ≤ 1024 ∨ es.length < 2 then [es] else [es.take (cutN leaf es), es.drop (cutN leaf es)]
/-- The number of the last entry whose key isn't above the key. -/
def plcE (key : ByteArray) : Nat → Nat → List En → Nat
  | at_, _, [] => at_
  | at_, i, e :: es => plcE key (if sle e.key key then i else at_) (i + 1) es
def plcN (es : List En) (key : ByteArray) : Nat := plcE key 0 0 es
/-- The node of these lists. -/
def mkE (leaf : Bool) (keys vals : List ByteArray) (kids : List Int) (k : Nat) (key : ByteArray) : En :=
  ⟨key, if leaf then vals.getD k ⟨#[]⟩ else ⟨#[]⟩, if leaf then 0 else kids.getD k 0⟩
def mkN (leaf : Bool) (keys vals : List ByteArray) (kids : List Int) : List En := (keys.zipIdx).map fun p => mkE leaf keys vals kids p.2 p.1

theorem rtx_len (L : List UInt8) (t : ByteArray) (n : Nat) (h : rtx L = (0, t, n)) : n ≤ L.length ∧ 0 < n := by
  unfold rtx at h
  rcases hr : rdu L 0 0 with ⟨c, v, m⟩
  rw [hr] at h
  simp only at h
  split at h
  · simp only [Prod.mk.injEq] at h; omega
  · rename_i hc
    split at h
    · simp at h
    · simp only [Prod.mk.injEq] at h
      have := rdu_bound L 0 0 c v m hr (by simp) (by omega) (by omega)
      omega
theorem mkN_len (leaf : Bool) (keys vals : List ByteArray) (kids : List Int) : (mkN leaf keys vals kids).length = keys.length := by simp [mkN]
theorem mkN_get (leaf : Bool) (keys vals : List ByteArray) (kids : List Int) (k : Nat) (key : ByteArray) (h : keys[k]? = some key) : (mkN leaf keys vals kids)[k]? = some (mkE leaf keys vals kids k key) := by
  unfold mkN
  rw [List.getElem?_map, List.getElem?_zipIdx, h]
  simp
end Go.Proofs.Ytenohgogfddniaa
