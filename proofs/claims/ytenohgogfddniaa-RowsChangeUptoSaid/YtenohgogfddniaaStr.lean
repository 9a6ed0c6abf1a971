/-
  Texts and rows of bytes.
-/
import Derived.Test.YtenohgogfddniaaRows
import Derived.Test.YtenohgogfddniaaRowsIn
import Derived.Laws.NewBlocks
import Derived.Lib.BufferWrite
import Derived.Great.Walk
import Derived.Laws.BytesString
import Derived.Deep.DeepMust
import Derived.Lib.SmallJoins
namespace Go.Proofs.Ytenohgogfddniaa
open Go.RowKit
set_option linter.unusedVariables false

theorem foldl_push (l : List UInt8) : ∀ r : ByteArray, (l.map fun b => (b.toNat : Int)).foldl (fun r n => r.push (UInt8.ofNat n.toNat)) r = ⟨(r.data.toList ++ l).toArray⟩ := by
  induction l with
  | nil => intro r; simp
  | cons b l ih =>
    intro r
    simp only [List.map_cons, List.foldl_cons]
    rw [ih]
    congr 1
    simp [ByteArray.push]
theorem ba_eta (y : ByteArray) : (⟨(([] : List UInt8) ++ y.data.toList).toArray⟩ : ByteArray) = y := by cases y; simp
set_option maxRecDepth 100000 in
theorem wpList_copy_str {P : Program} {w : World} {ops : Array Oper} {rest : List Oper} {o : Oper} {a : Act} {Q : Exit → Act → World → Prop} (hgd : o.guard = none) (d s : Operand) (dT sT : TypeId)
    (ho : o.op = .call { callee := .builtin .copy, args := #[d, s], argTypes := #[dT, sT] }) (elem : TypeId) (hu : P.underlying dT = some (.slice elem)) (hsz : (P.info? elem).map (·.size) = some 1)
    (g dLen dCap : Nat) (x : ByteArray) (hd : a.eval d = .slice (some ⟨g, 0, none⟩) dLen dCap) (hs : a.eval s = .string x)
    (cur : Array Value) (t : TypeId) (hg : w.heap[g]? = some (.cells cur t (0, 0))) (hle : x.size ≤ dLen) (hfit : x.size ≤ cur.size)
    (h : ∀ w2, Hid (w2.heap[g]? = some (.cells (Lib.byteCells x.data.toList ++ cur.toList.drop x.size).toArray t (0, 0))) → Tch [g] w w2 → wpList P ops Q rest (a.put o.dst (goInt x.size)) w2) : wpList P ops Q (o :: rest) a w := by
  refine wpList_plain hgd fun K hK => ?_
  have hrun := Lib.run_copy_row_string (P := P) w dT sT o.type elem g 0 dLen dCap x cur t hu hsz hg hle (by omega)
  unfold Oper.wp
  simp [execOp, ho, resolve, invoke, builtin, hd, hs, hrun, Result.andThen]
  refine hK _ _ (h _ ?_ ?_)
  · show _ = _
    simpa using setRow_heap w g cur (Lib.byteCells x.data.toList ++ cur.toList.drop x.size).toArray t (0, 0) hg
  · exact ⟨rfl, rfl, rfl, by simp [World.setRow], fun k _ hn => setRow_other w g k _ (fun e => hn (by simp [e]))⟩
theorem ba_ext {a b : ByteArray} (h : a.data.toList = b.data.toList) : a = b := by
  cases a; cases b; simp at h; subst h; rfl
theorem jjoin (a b : List UInt8) : (⟨a.toArray⟩ : ByteArray) ++ ⟨b.toArray⟩ = ⟨(a ++ b).toArray⟩ := by
  apply ba_ext
  rw [Joins.data_append]
/-- n zero bytes. -/
def zers (n : Nat) : ByteArray := ⟨(List.replicate n 0).toArray⟩
theorem Try.info_u8z : (Try.prog.info? 5).map (fun i => (i.zero, i.size, i.bytes)) = some (some (.int .u8 0), 1, 1) := by kernel_rfl
theorem made_bytes (n : Nat) : madeCells #[Value.int .u8 0] n = ((List.replicate n (0 : Int)).map (Value.int .u8)).toArray := by
  apply Array.ext
  · simp [madeCells]
  · intro i h1 h2
    simp [madeCells, Nat.mod_one]
theorem conv_zers (n g c : Nat) (w : World) (h : w.heap[g]? = some (.cells (madeCells #[.int .u8 0] n) 5 (0, 0))) :
    (convert 70 9 (.slice (some ⟨g, 0, none⟩) n c)).run Try.prog w = .ok (.string (zers n)) w := by
  rw [run_convert_bytes_string _ _ _ 5 _ _ _ Try.underlying70 Try.underlying5 Try.underlying9]
  rw [made_bytes] at h
  have hl := run_loadCells_list (P := Try.prog) (w := w) ⟨g, 0, none⟩ ((List.replicate n (0 : Int)).map (Value.int .u8)) (by
    intro j v hj
    rw [add_mk, blk_cell h, Nat.zero_add, List.getElem?_toArray]
    exact hj)
  rw [List.length_map, List.length_replicate] at hl
  rw [run_bytesToString _ _ n c _ hl]
  have e : (List.replicate n (0 : Int)) = (List.replicate n (0 : UInt8)).map fun b => (b.toNat : Int) := by rw [List.map_replicate]; rfl
  rw [e, foldl_push]
  rfl
end Go.Proofs.Ytenohgogfddniaa
