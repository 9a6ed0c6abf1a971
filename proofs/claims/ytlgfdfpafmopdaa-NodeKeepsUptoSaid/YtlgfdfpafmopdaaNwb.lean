/-
  The bytes that a node begins with, and a node's weight, as package node tells them. Conditions: the lists and texts are short (Nv.Ok).
-/
import Derived.Test.YtlgfdfpafmopdaaNw
import Derived.Deep.RegionWith
import Derived.Deep.RegionHeld3
namespace Go.Proofs.Ytlgfdfpafmopdaa
open Go.RowKit
set_option linter.unusedVariables false

/-- One byte as a text. -/
theorem conv_b (g c : Nat) (n : Int) (b : UInt8) (hn : n = b.toNat) (w : World) (h : w.heap[g]? = some (.cells #[.int .u8 n] 5 (0, 0))) :
    (convert 54 9 (.slice (some ⟨g, 0, none⟩) 1 c)).run Try.prog w = .ok (.string ⟨#[b]⟩) w := by
  subst hn
  rw [run_convert_bytes_string _ _ _ 5 _ _ _ Try.underlying54 Try.underlying5 Try.underlying9]
  have hl := run_loadCells_list (P := Try.prog) (w := w) ⟨g, 0, none⟩ (([(b.toNat : Int)]).map (Value.int .u8)) (by
    intro j v hj
    rw [add_mk, blk_cell h, Nat.zero_add, List.getElem?_toArray]
    exact hj)
  rw [List.length_map] at hl
  rw [run_bytesToString _ _ 1 c [(b.toNat : Int)] hl]
  rw [show [(b.toNat : Int)] = [b].map fun b => (b.toNat : Int) from rfl, foldl_push]
  rfl

/-- The bytes ahead of a node's entries. -/
def hdN (leaf : Bool) (n : Nat) : ByteArray := ⟨((if leaf then 1 else 2) :: ub n).toArray⟩

set_option maxRecDepth 100000 in
set_option maxHeartbeats 1000000 in
theorem nbeginning_any (v : Nv) (w : World) (h : IsNv w v) (ho : v.Ok) :
    Calls Try.prog 28 #[.agg #[.bool v.leaf, .slice v.ka v.kn v.kc, .slice v.va v.vn v.vc, .slice v.ia v.im v.ic]] w fun e w' => e = .returned (.string (hdN v.leaf v.keys.length)) ∧ Tch [] w w' := by
  have hl := h.rk.hlen
  have hle := ho.lk
  rw [← hl] at hle ⊢
  have HU := Lib.hid (fun w' => uint_any v.kn w' (by omega))
  have hcw : IntKind.u64.wrap (v.kn : Int) = (v.kn : Int) := by rw [IntKind.wrap_u64]; omega
  have hl9 := ub_len 9 v.kn (by simp; omega)
  have hsz : (⟨(ub v.kn).toArray⟩ : ByteArray).size = (ub v.kn).length := List.size_toArray
  have HF : Hid (hdN v.leaf v.kn = (if v.leaf then (⟨#[1]⟩ : ByteArray) else ⟨#[2]⟩) ++ ⟨(ub v.kn).toArray⟩) := by
    show _ = _
    unfold hdN
    cases v.leaf
    · exact (jjoin [2] (ub v.kn)).symm
    · exact (jjoin [1] (ub v.kn)).symm
  have hub : (⟨(ub v.kn).toArray⟩ : ByteArray).size ≤ 1000 := by rw [hsz]; omega
  clear hsz hl9
  generalize (⟨(ub v.kn).toArray⟩ : ByteArray) = u at HU hub HF
  generalize hdN v.leaf v.kn = r at HF ⊢
  generalize hkn : v.kn = kn at *
  generalize v.leaf = leaf at *
  clear ho h hl hkn
  cases leaf
  · have T0 : Tch [] w ((w.alloc (.cells #[.bool false, .slice v.ka kn v.kc, .slice v.va v.vn v.vc, .slice v.ia v.im v.ic] 25)).alloc (.cells #[.int .u8 2] 5)) := ((Tch.refl _ _).alloc _).alloc _
    have hb : ((w.alloc (.cells #[.bool false, .slice v.ka kn v.kc, .slice v.va v.vn v.vc, .slice v.ia v.im v.ic] 25)).alloc (.cells #[.int .u8 2] 5)).heap[w.heap.size]? = some _ := blk_alloc (blk_new w _) _
    have hg : ((w.alloc (.cells #[.bool false, .slice v.ka kn v.kc, .slice v.va v.vn v.vc, .slice v.ia v.im v.ic] 25)).alloc (.cells #[.int .u8 2] 5)).heap[w.heap.size + 1]? = some (.cells #[.int .u8 2] 5 (0, 0)) := by
      rw [show w.heap.size + 1 = (w.alloc (.cells #[.bool false, .slice v.ka kn v.kc, .slice v.va v.vn v.vc, .slice v.ia v.im v.ic] 25)).heap.size from by simp]; exact blk_new _ _
    obtain ⟨W2, hW2⟩ : ∃ W2, W2 = (w.alloc (.cells #[.bool false, .slice v.ka kn v.kc, .slice v.va v.vn v.vc, .slice v.ia v.im v.ic] 25)).alloc (.cells #[.int .u8 2] 5) := ⟨_, rfl⟩
    rw [← hW2] at T0 hb hg
    go_enter Try.func28, Try.ntmps28
    go_wp2_with fail
    rw [← hW2]
    clear hW2
    have HCV : Hid (∀ w', Tch [] W2 w' → (convert 54 9 (.slice (some ⟨w.heap.size + 1, 0, none⟩) 1 1)).run Try.prog w' = .ok (.string ⟨#[2]⟩) w' ∧ w'.cell? ⟨w.heap.size, 1, none⟩ = some (.slice v.ka kn v.kc)) := fun w' t => ⟨conv_b _ _ _ 2 rfl w' (t.keep hg (by simp)), blk_cell (t.keep hb (by simp)) 1⟩
    obtain ⟨k1, k2⟩ := HCV.out _ (Tch.refl [] W2).drew
    clear hb hg
    go_region_with (go_at_call 30; refine (HU.out _).mono ?_; rintro e w3 ⟨rfl, t3⟩; have T3 := T0.drew.trans t3; obtain ⟨k3, k4⟩ := HCV.out w3 ((Tch.refl [] W2).drew.trans t3); clear t3)
    all_goals
      go_wp2
      go_ret
      exact ⟨by rw [HF.out]; rfl, T3⟩
  · have T0 : Tch [] w ((w.alloc (.cells #[.bool true, .slice v.ka kn v.kc, .slice v.va v.vn v.vc, .slice v.ia v.im v.ic] 25)).alloc (.cells #[.int .u8 1] 5)) := ((Tch.refl _ _).alloc _).alloc _
    have hb : ((w.alloc (.cells #[.bool true, .slice v.ka kn v.kc, .slice v.va v.vn v.vc, .slice v.ia v.im v.ic] 25)).alloc (.cells #[.int .u8 1] 5)).heap[w.heap.size]? = some _ := blk_alloc (blk_new w _) _
    have hg : ((w.alloc (.cells #[.bool true, .slice v.ka kn v.kc, .slice v.va v.vn v.vc, .slice v.ia v.im v.ic] 25)).alloc (.cells #[.int .u8 1] 5)).heap[w.heap.size + 1]? = some (.cells #[.int .u8 1] 5 (0, 0)) := by
      rw [show w.heap.size + 1 = (w.alloc (.cells #[.bool true, .slice v.ka kn v.kc, .slice v.va v.vn v.vc, .slice v.ia v.im v.ic] 25)).heap.size from by simp]; exact blk_new _ _
    obtain ⟨W2, hW2⟩ : ∃ W2, W2 = (w.alloc (.cells #[.bool true, .slice v.ka kn v.kc, .slice v.va v.vn v.vc, .slice v.ia v.im v.ic] 25)).alloc (.cells #[.int .u8 1] 5) := ⟨_, rfl⟩
    rw [← hW2] at T0 hb hg
    go_enter Try.func28, Try.ntmps28
    go_wp2_with fail
    rw [← hW2]
    clear hW2
    have HCV : Hid (∀ w', Tch [] W2 w' → (convert 54 9 (.slice (some ⟨w.heap.size + 1, 0, none⟩) 1 1)).run Try.prog w' = .ok (.string ⟨#[1]⟩) w' ∧ w'.cell? ⟨w.heap.size, 1, none⟩ = some (.slice v.ka kn v.kc)) := fun w' t => ⟨conv_b _ _ _ 1 rfl w' (t.keep hg (by simp)), blk_cell (t.keep hb (by simp)) 1⟩
    obtain ⟨k1, k2⟩ := HCV.out _ (Tch.refl [] W2).drew
    clear hb hg
    go_region_with (go_at_call 30; refine (HU.out _).mono ?_; rintro e w3 ⟨rfl, t3⟩; have T3 := T0.drew.trans t3; obtain ⟨k3, k4⟩ := HCV.out w3 ((Tch.refl [] W2).drew.trans t3); clear t3)
    all_goals
      go_wp2
      go_ret
      exact ⟨by rw [HF.out]; rfl, T3⟩

theorem ndb_head (v : Nv) : (ndb v.leaf v.es).length = (hdN v.leaf v.keys.length).size + (v.es.flatMap (enb v.leaf)).length := by
  have : (hdN v.leaf v.keys.length).size = (ub v.keys.length).length + 1 := by
    unfold hdN
    show (List.toArray _).size = _
    rw [List.size_toArray, List.length_cons]
  rw [this, ← v.es_len]
  unfold ndb
  simp only [List.length_cons, List.length_append]
  omega
set_option maxRecDepth 100000 in
theorem weight_any : WeiSpec := by
  intro v w h ho hc
  have T0 : Tch [] w (w.alloc (.cells #[.bool v.leaf, .slice v.ka v.kn v.kc, .slice v.va v.vn v.vc, .slice v.ia v.im v.ic] 25)) := (Tch.refl _ _).alloc _
  have HN : Hid (∀ w', Tch [] w w' → Calls Try.prog 28 _ w' fun e w2 => e = .returned (.string (hdN v.leaf v.keys.length)) ∧ Tch [] w' w2) := fun w' t => nbeginning_any v w' (h.keep0 t) ho
  have HW : Hid (∀ w', Tch [] w w' → Calls Try.prog 34 _ w' fun e w2 => e = .returned (.int .i64 ((v.es.flatMap (enb v.leaf)).length : Nat)) ∧ Tch [] w' w2) := fun w' t => nweights_any v w' (h.keep0 t) ho
  have HB : Hid (∀ w', Tch [] (w.alloc (.cells #[.bool v.leaf, .slice v.ka v.kn v.kc, .slice v.va v.vn v.vc, .slice v.ia v.im v.ic] 25)) w' → _) := fun w' t => nvb_cells w v.leaf v.ka v.va v.ia v.kn v.kc v.vn v.vc v.im v.ic t
  have hsm := ndb_small (leaf := v.leaf) (Nv.fine ho) (by rw [v.es_len]; exact ho.lk)
  have hhd := ndb_head v
  have HF : Hid (((hdN v.leaf v.keys.length).size : Int) + ((v.es.flatMap (enb v.leaf)).length : Nat) = ((ndb v.leaf v.es).length : Nat)) := by show _ = _; omega
  have hb1 : ((hdN v.leaf v.keys.length).size : Int) + ((v.es.flatMap (enb v.leaf)).length : Nat) ≤ 1000000000000000000 := by omega
  generalize hdN v.leaf v.keys.length = hd at HN HF hb1
  generalize (v.es.flatMap (enb v.leaf)).length = m at HW HF hb1
  generalize (ndb v.leaf v.es).length = r at HF ⊢
  have hwr : IntKind.i64.wrap ((hd.size : Int) + (m : Int)) = (hd.size : Int) + (m : Int) := IntWalk.i64_in _ (by omega)
  clear hsm hhd h ho hc
  obtain ⟨W1, hW1⟩ : ∃ W1, W1 = w.alloc (.cells #[.bool v.leaf, .slice v.ka v.kn v.kc, .slice v.va v.vn v.vc, .slice v.ia v.im v.ic] 25) := ⟨_, rfl⟩
  rw [← hW1] at HB T0
  go_enter Try.func14, Try.ntmps14
  go_wp2_with fail
  rw [← hW1]
  clear hW1
  have HC : Hid (∀ w', Tch [] W1.drew w' → w'.cell? ⟨w.heap.size, 0, none⟩ = some (.bool v.leaf) ∧ w'.cell? ⟨w.heap.size, 1, none⟩ = some (.slice v.ka v.kn v.kc) ∧ w'.cell? ⟨w.heap.size, 2, none⟩ = some (.slice v.va v.vn v.vc) ∧ w'.cell? ⟨w.heap.size, 3, none⟩ = some (.slice v.ia v.im v.ic)) := fun w' t => by
    obtain ⟨c0, c1, c2, c3, _⟩ := HB.out w' ((Tch.refl [] W1).drew.trans t)
    exact ⟨c0, c1, c2, c3⟩
  have HT : Hid (∀ w', Tch [] W1.drew w' → Tch [] w w') := fun w' t => T0.drew.trans t
  go_region_held3 (fun w' => w'.cell? ⟨w.heap.size, 0, none⟩ = some (.bool v.leaf) ∧ w'.cell? ⟨w.heap.size, 1, none⟩ = some (.slice v.ka v.kn v.kc) ∧ w'.cell? ⟨w.heap.size, 2, none⟩ = some (.slice v.va v.vn v.vc) ∧ w'.cell? ⟨w.heap.size, 3, none⟩ = some (.slice v.ia v.im v.ic))
    (first | exact HC.out _ t8 | exact HC.out _ t7 | exact HC.out _ (Tch.refl _ _))
    (first | (go_at_call 28; (with_reducible refine (HN.out _ (HT.out _ (Tch.refl _ _))).mono ?_); rintro e w7 ⟨rfl, t7⟩) | (go_at_call 34; (with_reducible refine (HW.out _ (HT.out _ t7)).mono ?_); rintro e w8 ⟨rfl, t8a⟩; have t8 := t7.trans t8a))
  have T8 := HT.out _ t8
  go_wp2_with fail
  go_ret
  exact ⟨by rw [HF.out]; rfl, T8⟩
end Go.Proofs.Ytlgfdfpafmopdaa
