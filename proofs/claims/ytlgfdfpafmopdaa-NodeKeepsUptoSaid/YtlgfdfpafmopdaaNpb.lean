/-
  'part' of package node, walked: the entries from one number on to another, in new memory. Conditions: the node's lists and texts are short (Nv.Ok).
-/
import Derived.Test.YtlgfdfpafmopdaaNpa
namespace Go.Proofs.Ytlgfdfpafmopdaa
open Go.RowKit
set_option linter.unusedVariables false

theorem OwE.start {B nb : Nat} {leaf : Bool} {w : World} (h : w.heap[nb]? = some (.cells #[.bool leaf, .slice none 0 0, .slice none 0 0, .slice none 0 0] 25 (0, 0))) : OwE B nb leaf [] w := by
  refine ⟨_, _, _, h, World.ownsRow_nil _ _ _ _, ?_, ?_, Apart.nil _, Apart.nil _, Apart.nil _⟩
  · cases leaf <;> exact World.ownsRow_nil _ _ _ _
  · cases leaf <;> exact World.ownsRow_nil _ _ _ _
/-- What a call that answers a node leaves. -/
def NwPost (w : World) (leaf : Bool) (es : List En) (e : Ending) (w' : World) : Prop :=
  Tch [] w w' ∧ ∃ u : Nv, e = .returned (.agg #[.bool u.leaf, .slice u.ka u.kn u.kc, .slice u.va u.vn u.vc, .slice u.ia u.im u.ic]) ∧ u.Good w' leaf es ∧ NwN w.heap.size u w' ∧ u.keys = es.map En.key ∧ u.vals = (if leaf then es.map En.val else []) ∧ u.kids = (if leaf then [] else es.map En.kid)
theorem NwPost.stored {w w4 : World} {leaf : Bool} {es : List En} {q nb B : Nat} {u : Nv} (hu : u.Good w4 leaf es) (hn : NwN B u w4) (hq : w.heap.size ≤ q) (hqB : q < B) (T : Tch [] w w4) (hl : u.keys = es.map En.key ∧ u.vals = (if leaf then es.map En.val else []) ∧ u.kids = (if leaf then [] else es.map En.kid)) (a b c d : Value) :
    NwPost w leaf es (.returned (.agg #[.bool u.leaf, .slice u.ka u.kn u.kc, .slice u.va u.vn u.vc, .slice u.ia u.im u.ic])) ((((w4.setCell ⟨q, 0, none⟩ a).setCell ⟨q, 1, none⟩ b).setCell ⟨q, 2, none⟩ c).setCell ⟨q, 3, none⟩ d) := by
  have t : Tch [q] w4 ((((w4.setCell ⟨q, 0, none⟩ a).setCell ⟨q, 1, none⟩ b).setCell ⟨q, 2, none⟩ c).setCell ⟨q, 3, none⟩ d) := ((((Tch.refl [q] w4).setCell (by simp) a).setCell (by simp) b).setCell (by simp) c).setCell (by simp) d
  have hlt : ∀ {e : TypeId} {v : Value} {n : Nat} {xs : List Value}, w4.ownsRow B e 1 v n xs → ∀ k, v.ownBlock = some k → k ≠ q := fun hr k hk he => by have := (hr.lt k hk).1; omega
  refine ⟨T.transNew t (by simp; omega), u, rfl, ?_, (hn.keep t (by simp; omega)).base (by omega), hl⟩
  refine ⟨⟨hu.nv.rk.keep t (fun h0 => ?_), hu.nv.rv.keep t (fun h0 => ?_), hu.nv.ri.keep t (fun h0 => ?_)⟩, hu.leaf, hu.es, hu.lens, hu.ok, hu.caps⟩
  · have := hu.nv.rk.some_ h0
    have := hlt hn.hk u.kb (by rw [this]; rfl)
    simpa using this
  · have := hu.nv.rv.some_ h0
    have := hlt hn.hv u.vb (by rw [this]; rfl)
    simpa using this
  · have := hu.nv.ri.some_ h0
    have := hlt hn.hi u.ib (by rw [this]; rfl)
    simpa using this

set_option maxRecDepth 100000 in
set_option maxHeartbeats 1000000 in
theorem npart_any (i0 i1 : Nat) (v : Nv) (w : World) (h : IsNv w v) (ho : v.Ok) (h01 : i0 ≤ i1) (h1 : i1 ≤ v.keys.length) :
    Calls Try.prog 36 #[.agg #[.bool v.leaf, .slice v.ka v.kn v.kc, .slice v.va v.vn v.vc, .slice v.ia v.im v.ic], .int .i64 i0, .int .i64 i1] w (NwPost w v.leaf ((v.es.drop i0).take (i1 - i0))) := by
  obtain ⟨W3, hW3⟩ : ∃ W3, W3 = ((w.alloc (.cells #[.bool v.leaf, .slice v.ka v.kn v.kc, .slice v.va v.vn v.vc, .slice v.ia v.im v.ic] 25)).alloc (.cells #[.bool false, .slice none 0 0, .slice none 0 0, .slice none 0 0] 25)).alloc (.cells #[.bool v.leaf, .slice none 0 0, .slice none 0 0, .slice none 0 0] 25) := ⟨_, rfl⟩
  have T0 : Tch [] w W3 := by rw [hW3]; exact (((Tch.refl _ _).alloc _).alloc _).alloc _
  have hb0 : W3.heap[w.heap.size]? = some (.cells #[.bool v.leaf, .slice v.ka v.kn v.kc, .slice v.va v.vn v.vc, .slice v.ia v.im v.ic] 25 (0, 0)) := by rw [hW3]; exact blk_alloc (blk_alloc (blk_new _ _) _) _
  have hb1 : W3.heap[w.heap.size + 1]? = some (.cells #[.bool false, .slice none 0 0, .slice none 0 0, .slice none 0 0] 25 (0, 0)) := by
    rw [hW3, show w.heap.size + 1 = (w.alloc (.cells #[.bool v.leaf, .slice v.ka v.kn v.kc, .slice v.va v.vn v.vc, .slice v.ia v.im v.ic] 25)).heap.size from by simp]; exact blk_alloc (blk_new _ _) _
  have hb2 : W3.heap[w.heap.size + 1 + 1]? = some (.cells #[.bool v.leaf, .slice none 0 0, .slice none 0 0, .slice none 0 0] 25 (0, 0)) := by
    rw [hW3, show w.heap.size + 1 + 1 = ((w.alloc (.cells #[.bool v.leaf, .slice v.ka v.kn v.kc, .slice v.va v.vn v.vc, .slice v.ia v.im v.ic] 25)).alloc (.cells #[.bool false, .slice none 0 0, .slice none 0 0, .slice none 0 0] 25)).heap.size from by simp]; exact blk_new _ _
  have HAD := Lib.hid (nadd_any (w.heap.size + 1 + 1) (w.heap.size + 1 + 1) i0 i1 v.leaf [] v W3 (OwE.start hb2) (Nat.le_refl _) (fun w' b => h.keep0 (below_tch T0 b (by omega))) ho h01 h1 (by simp))
  have HND : Hid (∀ w4, OwE (w.heap.size + 1 + 1) (w.heap.size + 1 + 1) v.leaf ([] ++ ((mkN v.leaf v.keys v.vals v.kids).drop i0).take (i1 - i0)) w4 → _) := fun w4 hO => OwE.node hO (fun e he => mkN_nrm _ _ _ _ e (List.mem_of_mem_drop (List.mem_of_mem_take (by simpa using he)))) (by rw [List.nil_append]; exact (short_mkN v.leaf ho).part _ _)
  have HIS := Lib.hid h
  rw [show v.es = mkN v.leaf v.keys v.vals v.kids from rfl]
  generalize (mkN v.leaf v.keys v.vals v.kids).drop i0 = seg at *
  generalize seg.take (i1 - i0) = es at *
  clear ho h h1 h01 hb2
  have p0 := blk_cell hb0 0
  have plt := lt_of_block hb0
  go_enter Try.func36, Try.ntmps36
  go_wp2_with fail
  rw [← hW3]
  refine HAD.out.mono ?_
  rintro e w4 ⟨rfl, hO, hbl⟩
  obtain ⟨u, hub, hug, hun, hul⟩ := HND.out w4 hO
  rw [List.nil_append] at hug hul
  have T4 := below_tch T0 hbl (by omega)
  have hr : w4.heap[w.heap.size + 1]? = some (.cells #[.bool false, .slice none 0 0, .slice none 0 0, .slice none 0 0] 25 (0, 0)) := by rw [hbl.block _ (by omega)]; exact hb1
  have r0 := blk_cell hr 0
  have r1 := blk_cell hr 1
  have r2 := blk_cell hr 2
  have r3 := blk_cell hr 3
  have f0 := blk_free hr 0
  have f1 := blk_free hr 1
  have f2 := blk_free hr 2
  have f3 := blk_free hr 3
  have rlt := lt_of_block hr
  have u0 := blk_cell hub 0
  have u1 := blk_cell hub 1
  have u2 := blk_cell hub 2
  have u3 := blk_cell hub 3
  have ult := lt_of_block hub
  simp only [List.getElem?_toArray, List.getElem?_cons_zero, List.getElem?_cons_succ] at r0 r1 r2 r3 u0 u1 u2 u3
  have HF : Hid (∀ a b c d, NwPost w v.leaf es (.returned (.agg #[.bool u.leaf, .slice u.ka u.kn u.kc, .slice u.va u.vn u.vc, .slice u.ia u.im u.ic])) ((((w4.setCell ⟨w.heap.size + 1, 0, none⟩ a).setCell ⟨w.heap.size + 1, 1, none⟩ b).setCell ⟨w.heap.size + 1, 2, none⟩ c).setCell ⟨w.heap.size + 1, 3, none⟩ d)) := fun a b c d => NwPost.stored (nb := 0) hug hun (by omega) (by omega) T4 hul a b c d
  clear hO hbl hub hug hun hul T4 hr HND HAD HIS hb0 hb1 hW3 T0 p0 plt
  go_wp2_with fail
  refine bodyPost_ret (v := .agg #[.bool u.leaf, .slice u.ka u.kn u.kc, .slice u.va u.vn u.vc, .slice u.ia u.im u.ic]) (by simp [results, Try.results36, go_sem, r0, r1, r2, r3]) rfl (HF.out _ _ _ _)

theorem short_app {v u : Nv} (ho : v.Ok) (hu : u.Ok) (hlv : v.upto 10000000) (hlu : u.upto 10000000) : Short (v.es ++ mkN v.leaf u.keys u.vals u.kids) := by
  obtain ⟨a1, a2⟩ := mkN_sums v.leaf v.keys v.vals v.kids
  obtain ⟨b1, b2⟩ := mkN_sums v.leaf u.keys u.vals u.kids
  have h1 := hlv.1
  have h2 := hlv.2.2.2
  have h3 := hlu.1
  have h4 := hlu.2.2.2
  refine ⟨?_, ?_, fun e he => ?_⟩
  · rw [List.length_append, v.es_len, mkN_len]; omega
  · rw [ksum_app, vsum_app, show v.es = mkN v.leaf v.keys v.vals v.kids from rfl]; omega
  · rcases List.mem_append.1 he with h | h
    · exact mkN_kidb _ _ _ _ ho.is e h
    · exact mkN_kidb _ _ _ _ hu.is e h
theorem NwN.own {B nb : Nat} {leaf : Bool} {es : List En} {u : Nv} {w : World} (h : NwN B u w) (hb : w.heap[nb]? = some (.cells #[.bool leaf, .slice u.ka u.kn u.kc, .slice u.va u.vn u.vc, .slice u.ia u.im u.ic] 25 (0, 0)))
    (hl : u.keys = es.map En.key ∧ u.vals = (if leaf then es.map En.val else []) ∧ u.kids = (if leaf then [] else es.map En.kid)) : OwE B nb leaf es w := by
  refine ⟨_, _, _, hb, ?_, ?_, ?_, h.akv, h.aki, h.avi⟩
  · rw [← hl.1]; exact h.hk
  · rw [← hl.2.1]; exact h.hv
  · rw [← hl.2.2]; exact h.hi

set_option maxRecDepth 100000 in
set_option maxHeartbeats 1000000 in
theorem njoin_any (v u : Nv) (w : World) (hv : IsNv w v) (hu : IsNv w u) (hov : v.Ok) (hou : u.Ok) (hlv : v.upto 10000000) (hlu : u.upto 10000000) :
    Calls Try.prog 20 #[.agg #[.bool v.leaf, .slice v.ka v.kn v.kc, .slice v.va v.vn v.vc, .slice v.ia v.im v.ic], .agg #[.bool u.leaf, .slice u.ka u.kn u.kc, .slice u.va u.vn u.vc, .slice u.ia u.im u.ic]] w (NwPost w v.leaf (v.es ++ mkN v.leaf u.keys u.vals u.kids)) := by
  obtain ⟨W3, hW3⟩ : ∃ W3, W3 = ((w.alloc (.cells #[.bool v.leaf, .slice v.ka v.kn v.kc, .slice v.va v.vn v.vc, .slice v.ia v.im v.ic] 25)).alloc (.cells #[.bool u.leaf, .slice u.ka u.kn u.kc, .slice u.va u.vn u.vc, .slice u.ia u.im u.ic] 25)).alloc (.cells #[.bool false, .slice none 0 0, .slice none 0 0, .slice none 0 0] 25) := ⟨_, rfl⟩
  have T0 : Tch [] w W3 := by rw [hW3]; exact (((Tch.refl _ _).alloc _).alloc _).alloc _
  have hb0 : W3.heap[w.heap.size]? = some (.cells #[.bool v.leaf, .slice v.ka v.kn v.kc, .slice v.va v.vn v.vc, .slice v.ia v.im v.ic] 25 (0, 0)) := by rw [hW3]; exact blk_alloc (blk_alloc (blk_new _ _) _) _
  have hb1 : W3.heap[w.heap.size + 1]? = some (.cells #[.bool u.leaf, .slice u.ka u.kn u.kc, .slice u.va u.vn u.vc, .slice u.ia u.im u.ic] 25 (0, 0)) := by
    rw [hW3, show w.heap.size + 1 = (w.alloc (.cells #[.bool v.leaf, .slice v.ka v.kn v.kc, .slice v.va v.vn v.vc, .slice v.ia v.im v.ic] 25)).heap.size from by simp]; exact blk_alloc (blk_new _ _) _
  have hb2 : W3.heap[w.heap.size + 1 + 1]? = some (.cells #[.bool false, .slice none 0 0, .slice none 0 0, .slice none 0 0] 25 (0, 0)) := by
    rw [hW3, show w.heap.size + 1 + 1 = ((w.alloc (.cells #[.bool v.leaf, .slice v.ka v.kn v.kc, .slice v.va v.vn v.vc, .slice v.ia v.im v.ic] 25)).alloc (.cells #[.bool u.leaf, .slice u.ka u.kn u.kc, .slice u.va u.vn u.vc, .slice u.ia u.im u.ic] 25)).heap.size from by simp]; exact blk_new _ _
  have hsz : W3.heap.size = w.heap.size + 1 + 1 + 1 := by rw [hW3]; simp
  have hkl := hv.rk.hlen
  have hul := hu.rk.hlen
  have hvk := hlv.1
  have huk := hlu.1
  have HPA := Lib.hid (npart_any 0 v.keys.length v W3 (hv.keep0 T0) hov (by omega) (Nat.le_refl _))
  rw [show (v.es.drop 0).take (v.keys.length - 0) = v.es from by rw [List.drop_zero, Nat.sub_zero, ← v.es_len, List.take_length], ← hkl] at HPA
  have HAD : Hid (∀ (nb : Nat) (W5 : World), Tch [] W3 W5 → W3.heap.size ≤ nb → OwE W3.heap.size nb v.leaf v.es W5 → Calls Try.prog 38 _ W5 fun e w' => e = .returned (.tuple #[]) ∧ OwE W3.heap.size nb v.leaf (v.es ++ ((mkN v.leaf u.keys u.vals u.kids).drop 0).take (u.keys.length - 0)) w' ∧ Below W3.heap.size W5 w') := fun nb W5 t hnb hO =>
    nadd_any W3.heap.size nb 0 u.keys.length v.leaf v.es u W5 hO hnb (fun w' b => hu.keep0 (below_tch (T0.trans t) b (by omega))) hou (by omega) (Nat.le_refl _) (by rw [v.es_len]; omega)
  rw [show ((mkN v.leaf u.keys u.vals u.kids).drop 0).take (u.keys.length - 0) = mkN v.leaf u.keys u.vals u.kids from by rw [List.drop_zero, Nat.sub_zero, List.take_of_length_le (by rw [mkN_len]; exact Nat.le_refl _)], ← hul] at HAD
  have HND : Hid (∀ nb w4, OwE W3.heap.size nb v.leaf (v.es ++ mkN v.leaf u.keys u.vals u.kids) w4 → _) := fun nb w4 hO => OwE.node hO (fun e he => by
    rcases List.mem_append.1 he with h | h
    · exact mkN_nrm _ _ _ _ e h
    · exact mkN_nrm _ _ _ _ e h) (short_app hov hou hlv hlu)
  have HBK : Hid (∀ w', Below W3.heap.size W3 w' → w'.heap[w.heap.size]? = _ ∧ w'.heap[w.heap.size + 1]? = _ ∧ w'.heap[w.heap.size + 1 + 1]? = _) := fun w' b => ⟨(b.block _ (by omega)).trans hb0, (b.block _ (by omega)).trans hb1, (b.block _ (by omega)).trans hb2⟩
  generalize v.es ++ mkN v.leaf u.keys u.vals u.kids = es2 at *
  generalize v.es = es1 at *
  have hk9 : v.kn ≤ 100000000 := by omega
  have hu9 : u.kn ≤ 100000000 := by omega
  clear hv hu hov hou hlv hlu hkl hul hvk huk hb1 hb2
  have p1 := blk_cell hb0 1
  have plt := lt_of_block hb0
  go_enter Try.func20, Try.ntmps20
  go_wp2_with fail
  rw [← hW3]
  refine HPA.out.mono ?_
  rintro e w4 ⟨t4, z, rfl, hzg, hzn, hzl⟩
  have hbl4 : Below W3.heap.size W3 w4 := t4.below (Nat.le_refl _) (by simp)
  obtain ⟨hc0, hc1, hc2⟩ := HBK.out _ hbl4
  have hzb := blk_new w4 (.cells #[.bool z.leaf, .slice z.ka z.kn z.kc, .slice z.va z.vn z.vc, .slice z.ia z.im z.ic] 25)
  have hz2 : NwN W3.heap.size z (w4.alloc (.cells #[.bool z.leaf, .slice z.ka z.kn z.kc, .slice z.va z.vn z.vc, .slice z.ia z.im z.ic] 25)) := hzn.keep (L := []) ((Tch.refl [] w4).alloc _) (by simp)
  have hO5 : OwE W3.heap.size w4.heap.size v.leaf es1 (w4.alloc (.cells #[.bool z.leaf, .slice z.ka z.kn z.kc, .slice z.va z.vn z.vc, .slice z.ia z.im z.ic] 25)) := hz2.own (by rw [hzg.leaf] at hzb ⊢; exact hzb) hzl
  have HC5 := Lib.hid (HAD.out w4.heap.size _ (t4.alloc _) t4.size hO5)
  have T5 : Tch [] W3 (w4.alloc (.cells #[.bool z.leaf, .slice z.ka z.kn z.kc, .slice z.va z.vn z.vc, .slice z.ia z.im z.ic] 25)) := t4.alloc _
  obtain ⟨hd0, hd1, hd2⟩ := HBK.out _ (T5.below (Nat.le_refl _) (by simp))
  have q0 := blk_cell hd1 0
  have q1 := blk_cell hd1 1
  have q2 := blk_cell hd1 2
  have q3 := blk_cell hd1 3
  have qlt := lt_of_block hd1
  have q0' := blk_cell hc1 0
  have q1' := blk_cell hc1 1
  have q2' := blk_cell hc1 2
  have q3' := blk_cell hc1 3
  have qlt' := lt_of_block hc1
  simp only [List.getElem?_toArray, List.getElem?_cons_zero, List.getElem?_cons_succ] at q0 q1 q2 q3 q0' q1' q2' q3'
  have HB4 := Lib.hid T5
  clear hzg hzn hzl hzb hz2 hO5 hd0 hd1 hd2 hc0 hc1 hc2 hbl4 HPA HAD
  go_wp2_with fail
  refine HC5.out.mono ?_
  rintro e w6 ⟨rfl, hO6, hbl6⟩
  obtain ⟨x, hxb, hxg, hxn, hxl⟩ := HND.out _ w6 hO6
  have T6 := below_tch (T0.trans HB4.out) hbl6 (by omega)
  have hr : w6.heap[w.heap.size + 1 + 1]? = some (.cells #[.bool false, .slice none 0 0, .slice none 0 0, .slice none 0 0] 25 (0, 0)) := by
    rw [hbl6.block _ (by omega)]; exact (HBK.out _ (HB4.out.below (Nat.le_refl _) (by simp))).2.2
  have r0 := blk_cell hr 0
  have r1 := blk_cell hr 1
  have r2 := blk_cell hr 2
  have r3 := blk_cell hr 3
  have f0 := blk_free hr 0
  have f1 := blk_free hr 1
  have f2 := blk_free hr 2
  have f3 := blk_free hr 3
  have rlt := lt_of_block hr
  have x0 := blk_cell hxb 0
  have x1 := blk_cell hxb 1
  have x2 := blk_cell hxb 2
  have x3 := blk_cell hxb 3
  have xlt := lt_of_block hxb
  simp only [List.getElem?_toArray, List.getElem?_cons_zero, List.getElem?_cons_succ] at r0 r1 r2 r3 x0 x1 x2 x3
  have HF : Hid (∀ a b c d, NwPost w v.leaf es2 (.returned (.agg #[.bool x.leaf, .slice x.ka x.kn x.kc, .slice x.va x.vn x.vc, .slice x.ia x.im x.ic])) ((((w6.setCell ⟨w.heap.size + 1 + 1, 0, none⟩ a).setCell ⟨w.heap.size + 1 + 1, 1, none⟩ b).setCell ⟨w.heap.size + 1 + 1, 2, none⟩ c).setCell ⟨w.heap.size + 1 + 1, 3, none⟩ d)) := fun a b c d => NwPost.stored (nb := 0) hxg hxn (by omega) (by omega) T6 hxl a b c d
  clear hO6 hbl6 hxb hxg hxn hxl T6 hr HND HBK HC5 HB4 hb0 hW3 T0 p1 plt q0 q1 q2 q3 q0' q1' q2' q3' qlt qlt'
  go_wp2_with fail
  refine bodyPost_ret (v := .agg #[.bool x.leaf, .slice x.ka x.kn x.kc, .slice x.va x.vn x.vc, .slice x.ia x.im x.ic]) (by simp [results, Try.results20, go_sem, r0, r1, r2, r3]) rfl (HF.out _ _ _ _)
theorem join_any : JoiSpec := by
  intro v u w hv hu hov hou hlv hlu _ _
  refine (njoin_any v u w hv hu hov hou hlv hlu).mono ?_
  rintro e w' ⟨t, z, he, hg, _⟩
  exact ⟨t, z, he, hg⟩
end Go.Proofs.Ytlgfdfpafmopdaa
