/-
  'padded': the text with zero bytes behind it up to 1024, for every text of at most 1024 bytes; only new memory is written.
-/
import Derived.Test.YtclnhgfionfbbaaGreatDoorRows
import Derived.Test.YtclnhgfionfbbaaGreatDoorBase
import Derived.Lib.BufferWrite
import Derived.Great.Walk
import Derived.Laws.BytesString
import Derived.Deep.DeepMust
namespace Go.Proofs.YtclnhgfionfbbaaGreatDoor
open Go.RowKit
set_option linter.unusedVariables false

/-- The text with zero bytes behind it. -/
def pad (x : ByteArray) : ByteArray := ⟨(x.data.toList ++ List.replicate (1024 - x.size) 0).toArray⟩
/-- A new array of 1024 bytes. -/
def zc : Array Value := Array.replicate 1024 (.int .u8 0)
theorem size_zc : zc.size = 1024 := by simp [zc]

theorem pad_alloc (ρ : Operand → Value) (o : Oper) (ho : o.op = .alloc 125) (w : World) :
    (execOp ρ o).run Tryz.prog w = .ok (.value (.pointer (some ⟨w.heap.size, 0, none⟩))) (w.alloc (.cells zc 125)) := by
  unfold execOp
  rw [ho]
  kernel_rfl

theorem foldl_push (l : List UInt8) : ∀ r : ByteArray, (l.map fun b => (b.toNat : Int)).foldl (fun r n => r.push (UInt8.ofNat n.toNat)) r = ⟨(r.data.toList ++ l).toArray⟩ := by
  induction l with
  | nil => intro r; simp
  | cons b l ih =>
    intro r
    simp only [List.map_cons, List.foldl_cons]
    rw [ih]
    congr 1
    simp [ByteArray.push]

theorem ba_eta (y : ByteArray) : (⟨(([] : List UInt8) ++ y.data.toList).toArray⟩ : ByteArray) = y := by cases y; simp

theorem Tryz.info_u8 : (Tryz.prog.info? 5).map (·.size) = some 1 := by kernel_rfl

set_option maxRecDepth 100000 in
theorem wpList_copy_str {P : Program} {w : World} {ops : Array Oper} {rest : List Oper} {o : Oper} {a : Act} {Q : Exit → Act → World → Prop} (hgd : o.guard = none) (d s : Operand) (dT sT : TypeId)
    (ho : o.op = .call { callee := .builtin .copy, args := #[d, s], argTypes := #[dT, sT] }) (elem : TypeId) (hu : P.underlying dT = some (.slice elem)) (hsz : (P.info? elem).map (·.size) = some 1)
    (g dLen dCap : Nat) (x : ByteArray) (hd : a.eval d = .slice (some ⟨g, 0, none⟩) dLen dCap) (hs : a.eval s = .string x)
    (cur : Array Value) (t : TypeId) (hg : w.heap[g]? = some (.cells cur t (0, 0))) (hle : x.size ≤ dLen) (hfit : x.size ≤ cur.size)
    (h : ∀ w2, Hid (w2.heap[g]? = some (.cells (Lib.byteCells x.data.toList ++ cur.toList.drop x.size).toArray t (0, 0))) → Tch [g] w w2 → wpList P ops Q rest (a.put o.dst (goInt x.size)) w2) : wpList P ops Q (o :: rest) a w := by
  refine wpList_plain hgd fun K hK => ?_
  have hrun := Lib.run_copy_row_string (P := P) w dT sT o.type elem g 0 dLen dCap x cur t hu hsz hg hle (by omega)
  unfold Oper.wp
  simp [execOp, ho, resolve, invoke, builtin, hd, hs, hrun, Result.andThen]
  refine hK _ _ (h _ ?_ ?_)
  · show _ = _
    simpa using setRow_heap w g cur (Lib.byteCells x.data.toList ++ cur.toList.drop x.size).toArray t (0, 0) hg
  · exact ⟨rfl, rfl, rfl, by simp [World.setRow], fun k _ hn => setRow_other w g k _ (fun e => hn (by simp [e]))⟩

theorem pad_len (x : ByteArray) (hx : x.size ≤ 1024) : (pad x).data.toList.length = 1024 := by
  show ((x.data.toList ++ List.replicate (1024 - x.size) 0).toArray).toList.length = 1024
  rw [List.toList_toArray, List.length_append, List.length_replicate, Array.length_toList]
  have : x.data.size = x.size := rfl
  omega
theorem pad_size (x : ByteArray) (hx : x.size ≤ 1024) : (pad x).size = 1024 := by
  have := pad_len x hx
  rwa [Array.length_toList] at this

theorem pad_cells (x : ByteArray) : Lib.byteCells x.data.toList ++ zc.toList.drop x.size = ((pad x).data.toList.map fun b => (b.toNat : Int)).map (Value.int .u8) := by
  simp only [Lib.byteCells, zc, pad, Array.toList_replicate, List.drop_replicate, List.map_append, List.map_map, List.map_replicate, Function.comp_def]
  rfl

set_option maxRecDepth 100000 in
set_option maxHeartbeats 400000 in
theorem pad_any (x : ByteArray) (hx : x.size ≤ 1024) (w : World) :
    Calls Tryz.prog 42 #[.string x] w fun e w' => e = .returned (.string (pad x)) ∧ Tch [] w w' := by
  have hcv : ∀ w2, Hid (w2.heap[w.heap.size]? = some (.cells (Lib.byteCells x.data.toList ++ zc.toList.drop x.size).toArray 125 (0, 0))) →
      (convert 104 9 (.slice (some ⟨w.heap.size, 0, none⟩) 1024 1024)).run Tryz.prog w2 = .ok (.string (pad x)) w2 := by
    intro w2 h2
    have h3 := h2.out
    rw [pad_cells x] at h3
    rw [run_convert_bytes_string w2 _ _ 5 _ _ _ Tryz.underlying104 Tryz.underlying5 Tryz.underlying9]
    have hl : ((pad x).data.toList.map fun b => (b.toNat : Int)).length = 1024 := by
      rw [List.length_map, pad_len x hx]
    have hld := run_loadCells_list (P := Tryz.prog) (w := w2) ⟨w.heap.size, 0, none⟩ (((pad x).data.toList.map fun b => (b.toNat : Int)).map (Value.int .u8)) (by
      intro j v hj
      have : (⟨w.heap.size, 0, none⟩ : Addr).add j = ⟨w.heap.size, j, none⟩ := by unfold Addr.add; split <;> simp_all
      rw [this, blk_cell h3]
      simpa using hj)
    rw [List.length_map, hl] at hld
    rw [run_bytesToString w2 _ 1024 1024 _ hld, foldl_push]
    rw [show (ByteArray.empty.data.toList) = ([] : List UInt8) from rfl, ba_eta]
  have hz := size_zc
  have hb := Lib.hid (blk_new w (.cells zc 125))
  have HX := Lib.hid hx
  go_enter Tryz.func42, Tryz.ntmps42
  go_wp2_with (first | (with_reducible refine Go.Great.wpList_allocTo rfl (some 3) rfl _ _ (pad_alloc _ _ rfl _) ?_) | (refine wpList_copy_str (o := ⟨some 6, _, _, _, _, _⟩) rfl (.tmp 4) (.tmp 5) 104 9 rfl 5 Tryz.underlying104 Tryz.info_u8 w.heap.size 1024 1024 x rfl rfl zc 125 hb.out HX.out (by rw [size_zc]; exact HX.out) ?_; intro w2 h2 t2; have q2 := hcv w2 h2; clear hcv))
  go_ret
  exact ⟨rfl, ((Tch.refl [] w).alloc _).transNew t2 (by simp)⟩
end Go.Proofs.YtclnhgfionfbbaaGreatDoor
