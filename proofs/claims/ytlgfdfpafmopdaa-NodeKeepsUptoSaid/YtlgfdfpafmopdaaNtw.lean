/-
  The law's twin of a node: the same lists in new memory. Conditions: the lists are short (Nv.Ok), nil slices have no length (Nv.caps).
-/
import Derived.Test.YtlgfdfpafmopdaaNeq
import Derived.Laws.AppendOwnNone
namespace Go.Proofs.Ytlgfdfpafmopdaa
open Go.RowKit
set_option linter.unusedVariables false

section
variable {P : Program}
/-- 'append(nil, xs...)': the same elements, in new memory. -/
theorem run_append_row {α : Type} (g : α → Value) (hg : ∀ x, (g x).oneCell' = true) (w : World) (base : Nat) (hbase : base ≤ w.heap.size) (t ty e : TypeId) (i : TypeInfo) (z : Value) (bytes : Nat) (ht : P.underlying t = some (.slice e)) (hi : P.info? e = some i) (hz : i.zero = some z)
    (hsize : i.size = 1) (hby : i.bytes = bytes) (hzs : z.cells.size = 1) (a : Option Addr) (n c b o : Nat) (xs : List α) (h : IsR (fun x => [g x]) 1 w a n b o xs) (hn : a = none → n = 0 ∧ c = 0) (h63 : n ≤ maxLen) (hbytes : n * bytes ≤ 140737488355328) :
    ∃ x k w', (Builtin.append_ #[t, t] ty #[.slice none 0 0, .slice a n c]).run P w = .ok (.slice x n k) w' ∧ w'.ownsRow base e 1 (.slice x n k) n (xs.map g) ∧ Tch [] w w' ∧ (∀ y, (Value.slice x n k).ownBlock = some y → w.heap.size ≤ y) := by
  obtain rfl := h.hlen
  cases a with
  | none =>
    obtain ⟨h0, rfl⟩ := hn rfl
    have hx : xs = [] := List.length_eq_zero_iff.1 h0
    subst hx
    refine ⟨none, 0, w, ?_, World.ownsRow_nil _ _ _ _, Tch.refl _ _, fun y hy => by simp [Value.ownBlock] at hy⟩
    exact run_append_owned_none (P := P) (w := w) 0 t ty e i 1 ht hi (.slice none 0 0) 0 [] (World.ownsRow_nil _ _ _ _)
  | some y =>
    obtain ⟨v', w', hr, ho, hgr, _⟩ := run_append_own (P := P) w w.heap.size t ty e i z 1 bytes ht hi hz hsize hby hzs (by decide) (.slice none 0 0) 0 [] (World.ownsRow_nil _ _ _ _) y xs.length c (xs.map g) (by simp) (fun j u hu => by
      exact IsR.cells (f := fun x => [g x]) (sz := 1) (fun _ => rfl) h j u (by rw [fl_one g]; exact hu)) (fun u hu => by obtain ⟨x, _, rfl⟩ := List.mem_map.1 hu; exact hg x) (by rw [Nat.zero_add]; exact h63) (by rw [Nat.zero_add]; exact hbytes) (Nat.le_refl _)
    obtain ⟨x, k, rfl⟩ := own_slice ho
    rw [Nat.zero_add, List.nil_append] at ho
    rw [Nat.zero_add] at hr
    refine ⟨x, k, w', hr, own_base ho hbase, ?_, fun q hq => (ho.lt q hq).1⟩
    exact (Tch.refl [] w).grown hgr (fun k hk => by simp [Value.ownBlock] at hk)
/-- .. as a step of a region that draws its order. -/
theorem step_append_row {α : Type} (g : α → Value) (hg : ∀ x, (g x).oneCell' = true) {ops : Array Oper} {oo : Oper} {ac : Act} {w : World} {K : Act → World → Prop} {Q : Exit → Act → World → Prop} {E : Prop} (hgd : oo.guard = none) (s y : Operand) (t : TypeId)
    (hop : oo.op = .call { callee := .builtin .append, args := #[s, y], argTypes := #[t, t] }) (hs : ac.eval s = .slice none 0 0) (base : Nat) (hbase : base ≤ w.heap.size)
    (e : TypeId) (i : TypeInfo) (z : Value) (bytes : Nat) (ht : P.underlying t = some (.slice e)) (hi : P.info? e = some i) (hz : i.zero = some z)
    (hsize : i.size = 1) (hby : i.bytes = bytes) (hzs : z.cells.size = 1) (a : Option Addr) (n c b o : Nat) (xs : List α) (hy : ac.eval y = .slice a n c) (h : IsR (fun x => [g x]) 1 w a n b o xs) (hn : a = none → n = 0 ∧ c = 0) (h63 : n ≤ maxLen) (hbytes : n * bytes ≤ 140737488355328)
    (hK : ∀ x k w', w'.ownsRow base e 1 (.slice x n k) n (xs.map g) → Tch [] w w' → (∀ y, (Value.slice x n k).ownBlock = some y → w.heap.size ≤ y) → K (ac.put oo.dst (.slice x n k)) w') :
    if Region.wanted oo (yielded ops ac.tmps) = true then Oper.wp P oo ac w K Q else E := by
  have hw : Region.wanted oo (yielded ops ac.tmps) = true := by simp [Region.wanted, hgd]
  rw [if_pos hw]
  obtain ⟨x, k, w', hr, ho, t', hq⟩ := run_append_row (P := P) g hg w base hbase t oo.type e i z bytes ht hi hz hsize hby hzs a n c b o xs h hn h63 hbytes
  unfold Oper.wp execOp
  simp only [hop, resolve, invoke, builtin, Sem.run_bind, Sem.run_pure, Result.andThen_ok, List.map_toArray, List.map_cons, List.map_nil, hs, hy, hr]
  exact hK x k w' ho t' hq
end

/-- Its rows lie in blocks from B on. -/
def FreshNv (B : Nat) (u : Nv) : Prop := (0 < u.kn → B ≤ u.kb) ∧ (0 < u.vn → B ≤ u.vb) ∧ (0 < u.im → B ≤ u.ib)
/-- What the twin is: a node of the same lists in new memory. -/
def TwPost (w : World) (v : Nv) (e : Ending) (w' : World) : Prop :=
  Tch [] w w' ∧ ∃ u : Nv, e = .returned (.agg #[.bool u.leaf, .slice u.ka u.kn u.kc, .slice u.va u.vn u.vc, .slice u.ia u.im u.ic]) ∧ IsNv w' u ∧ u.leaf = v.leaf ∧ u.keys = v.keys ∧ u.vals = v.vals ∧ u.kids = v.kids ∧ u.caps ∧ FreshNv w.heap.size u

set_option maxRecDepth 100000 in
set_option maxHeartbeats 4000000 in
theorem ntwin_any (v : Nv) (w : World) (h : IsNv w v) (ho : v.Ok) (hc : v.caps) :
    Calls Try.prog 24 #[.agg #[.bool v.leaf, .slice v.ka v.kn v.kc, .slice v.va v.vn v.vc, .slice v.ia v.im v.ic]] w (TwPost w v) := by
  obtain ⟨i0s, his, hzs0, hzs1, hzs2⟩ := info_parts Try.info_nstr
  obtain ⟨i0i, hii, hzi0, hzi1, hzi2⟩ := info_parts Try.info_nint
  obtain ⟨W1, hW1⟩ : ∃ W1, W1 = (w.alloc (.cells #[.bool v.leaf, .slice v.ka v.kn v.kc, .slice v.va v.vn v.vc, .slice v.ia v.im v.ic] 25)).alloc (.cells #[.bool false, .slice none 0 0, .slice none 0 0, .slice none 0 0] 25) := ⟨_, rfl⟩
  have T0 : Tch [] w W1 := by rw [hW1]; exact ((Tch.refl _ _).alloc _).alloc _
  have hb0 : W1.heap[w.heap.size]? = some (.cells #[.bool v.leaf, .slice v.ka v.kn v.kc, .slice v.va v.vn v.vc, .slice v.ia v.im v.ic] 25 (0, 0)) := by rw [hW1]; exact blk_alloc (blk_new _ _) _
  have hb1 : W1.heap[w.heap.size + 1]? = some (.cells #[.bool false, .slice none 0 0, .slice none 0 0, .slice none 0 0] 25 (0, 0)) := by
    rw [hW1, show w.heap.size + 1 = (w.alloc (.cells #[.bool v.leaf, .slice v.ka v.kn v.kc, .slice v.va v.vn v.vc, .slice v.ia v.im v.ic] 25)).heap.size from by simp]; exact blk_new _ _
  have hsz : W1.heap.size = w.heap.size + 1 + 1 := by rw [hW1]; simp
  have lk : v.kn ≤ 100000000 := by have := h.rk.hlen; have := ho.lk; omega
  have lv : v.vn ≤ 100000000 := by have := h.rv.hlen; have := ho.lv; omega
  have li : v.im ≤ 100000000 := by have := h.ri.hlen; have := ho.li; omega
  have mk : v.kn ≤ maxLen := by unfold maxLen; omega
  have mv : v.vn ≤ maxLen := by unfold maxLen; omega
  have mi : v.im ≤ maxLen := by unfold maxLen; omega
  have HC : Hid (∀ w', Tch [] W1.drew w' → w'.cell? ⟨w.heap.size, 0, none⟩ = some (.bool v.leaf) ∧ w'.cell? ⟨w.heap.size, 1, none⟩ = some (.slice v.ka v.kn v.kc) ∧ w'.cell? ⟨w.heap.size, 2, none⟩ = some (.slice v.va v.vn v.vc) ∧ w'.cell? ⟨w.heap.size, 3, none⟩ = some (.slice v.ia v.im v.ic)) := fun w' t => by
    have h1 := t.keep (show W1.drew.heap[w.heap.size]? = _ from hb0) (by simp)
    exact ⟨blk_cell h1 0, blk_cell h1 1, blk_cell h1 2, blk_cell h1 3⟩
  have HZ : Hid (∀ w', Tch [] W1.drew w' → w'.heap[w.heap.size + 1]? = some (.cells #[.bool false, .slice none 0 0, .slice none 0 0, .slice none 0 0] 25 (0, 0))) := fun w' t => t.keep (show W1.drew.heap[w.heap.size + 1]? = _ from hb1) (by simp)
  have HSS : Hid (∀ w', Tch [] W1.drew w' → ∀ a b c d, ((((w'.setCell ⟨w.heap.size + 1, 0, none⟩ a).setCell ⟨w.heap.size + 1, 1, none⟩ b).setCell ⟨w.heap.size + 1, 2, none⟩ c).setCell ⟨w.heap.size + 1, 3, none⟩ d).cell? ⟨w.heap.size, 0, none⟩ = some (.bool v.leaf) ∧ ((((w'.setCell ⟨w.heap.size + 1, 0, none⟩ a).setCell ⟨w.heap.size + 1, 1, none⟩ b).setCell ⟨w.heap.size + 1, 2, none⟩ c).setCell ⟨w.heap.size + 1, 3, none⟩ d).cell? ⟨w.heap.size, 1, none⟩ = some (.slice v.ka v.kn v.kc) ∧ ((((w'.setCell ⟨w.heap.size + 1, 0, none⟩ a).setCell ⟨w.heap.size + 1, 1, none⟩ b).setCell ⟨w.heap.size + 1, 2, none⟩ c).setCell ⟨w.heap.size + 1, 3, none⟩ d).cell? ⟨w.heap.size, 2, none⟩ = some (.slice v.va v.vn v.vc) ∧ ((((w'.setCell ⟨w.heap.size + 1, 0, none⟩ a).setCell ⟨w.heap.size + 1, 1, none⟩ b).setCell ⟨w.heap.size + 1, 2, none⟩ c).setCell ⟨w.heap.size + 1, 3, none⟩ d).cell? ⟨w.heap.size, 3, none⟩ = some (.slice v.ia v.im v.ic)) := fun w' t a b c d => by
    have h1 := t.keep (show W1.drew.heap[w.heap.size]? = _ from hb0) (by simp)
    have h := blk_other (blk_other (blk_other (blk_other h1 (show w.heap.size ≠ w.heap.size + 1 by omega) 0 a) (show w.heap.size ≠ w.heap.size + 1 by omega) 1 b) (show w.heap.size ≠ w.heap.size + 1 by omega) 2 c) (show w.heap.size ≠ w.heap.size + 1 by omega) 3 d
    exact ⟨blk_cell h 0, blk_cell h 1, blk_cell h 2, blk_cell h 3⟩
  have HR : Hid (∀ w', Tch [] W1.drew w' → IsNv w' v) := fun w' t => (h.keep0 T0).keep0 ((Tch.refl [] W1).drew.trans t)
  have hcap := Lib.hid hc
  have HLL : Hid (v.kn = v.keys.length ∧ v.vn = v.vals.length ∧ v.im = v.kids.length) := ⟨h.rk.hlen, h.rv.hlen, h.ri.hlen⟩
  clear h ho hc
  go_enter Try.func24, Try.ntmps24
  go_wp2_with fail
  rw [← hW1]
  clear hW1
  go_region_held3 (fun w' => w'.cell? ⟨w.heap.size, 0, none⟩ = some (.bool v.leaf) ∧ w'.cell? ⟨w.heap.size, 1, none⟩ = some (.slice v.ka v.kn v.kc) ∧ w'.cell? ⟨w.heap.size, 2, none⟩ = some (.slice v.va v.vn v.vc) ∧ w'.cell? ⟨w.heap.size, 3, none⟩ = some (.slice v.ia v.im v.ic))
    (first | with_reducible exact HC.out _ (Tch.refl _ _) | with_reducible exact HC.out _ t3 | with_reducible exact HC.out _ t4 | with_reducible exact HC.out _ t5 | with_reducible exact hs5 _ _ _ _)
    (first
      | ((refine step_append_row Value.string (fun _ => rfl) (by rfl) _ _ 22 (by rfl) (by rfl) 0 (Nat.zero_le _) 9 i0s (.string ⟨#[]⟩) 16 Try.underlying22 his hzs0 hzs1 hzs2 rfl v.ka v.kn v.kc v.kb v.ko v.keys (by rfl) (HR.out _ (Tch.refl _ _)).rk hcap.out.1.2.2 mk (by omega) ?_); intro xk ck w3 hok t3 hqk)
      | ((refine step_append_row Value.string (fun _ => rfl) (by rfl) _ _ 22 (by rfl) (by rfl) 0 (Nat.zero_le _) 9 i0s (.string ⟨#[]⟩) 16 Try.underlying22 his hzs0 hzs1 hzs2 rfl v.va v.vn v.vc v.vb v.vo v.vals (by rfl) (HR.out _ t3).rv hcap.out.2.1.2.2 mv (by omega) ?_); intro xv cv w4 hov t4a hqv; have t4 := t3.trans t4a)
      | ((refine step_append_row (Value.int .i64) (fun _ => rfl) (by rfl) _ _ 23 (by rfl) (by rfl) 0 (Nat.zero_le _) 3 i0i (.int .i64 0) 8 Try.underlying23 hii hzi0 hzi1 hzi2 rfl v.ia v.im v.ic v.ib v.io v.kids (by rfl) (HR.out _ t4).ri hcap.out.2.2.2.2 mi (by omega) ?_); intro xi ci w5 hoi t5a hqi; have t5 := t4.trans t5a; have hz5 := HZ.out _ t5; have hs5 := HSS.out w5 t5; have r0 := blk_cell hz5 0; have r1 := blk_cell hz5 1; have r2 := blk_cell hz5 2; have r3 := blk_cell hz5 3; have f0 := blk_free hz5 0; have f1 := blk_free hz5 1; have f2 := blk_free hz5 2; have f3 := blk_free hz5 3; have rlt := lt_of_block hz5; simp only [List.getElem?_toArray, List.getElem?_cons_zero, List.getElem?_cons_succ] at r0 r1 r2 r3))
  have HF : Hid (∀ a b c d, TwPost w v (.returned (.agg #[.bool v.leaf, .slice xk v.kn ck, .slice xv v.vn cv, .slice xi v.im ci])) ((((w5.setCell ⟨w.heap.size + 1, 0, none⟩ a).setCell ⟨w.heap.size + 1, 1, none⟩ b).setCell ⟨w.heap.size + 1, 2, none⟩ c).setCell ⟨w.heap.size + 1, 3, none⟩ d)) := fun a b c d => by
    have tq : Tch [w.heap.size + 1] w5 ((((w5.setCell ⟨w.heap.size + 1, 0, none⟩ a).setCell ⟨w.heap.size + 1, 1, none⟩ b).setCell ⟨w.heap.size + 1, 2, none⟩ c).setCell ⟨w.heap.size + 1, 3, none⟩ d) := ((((Tch.refl _ w5).setCell (by simp) a).setCell (by simp) b).setCell (by simp) c).setCell (by simp) d
    have T5 : Tch [] w w5 := (T0.drew).trans t5
    have s3 := t3.size
    have s4 := t4.size
    have sd : W1.drew.heap.size = W1.heap.size := rfl
    obtain ⟨bk, rk, _, _⟩ := IsR.own (f := fStr) (sz := 1) (xs := v.keys) (fun _ => rfl) (by rw [show v.keys.flatMap fStr = v.keys.map Value.string from fl_one _ _]; exact hok) HLL.out.1
    obtain ⟨bv, rv, _, _⟩ := IsR.own (f := fStr) (sz := 1) (xs := v.vals) (fun _ => rfl) (by rw [show v.vals.flatMap fStr = v.vals.map Value.string from fl_one _ _]; exact hov) HLL.out.2.1
    obtain ⟨bi, ri, _, _⟩ := IsR.own (f := fInt) (sz := 1) (xs := v.kids) (fun _ => rfl) (by rw [show v.kids.flatMap fInt = v.kids.map (Value.int .i64) from fl_one _ _]; exact hoi) HLL.out.2.2
    obtain ⟨_, k2, k3, k4⟩ := own_caps hok
    obtain ⟨_, v2, v3, v4⟩ := own_caps hov
    obtain ⟨_, i2, i3, i4⟩ := own_caps hoi
    refine ⟨T5.transNew tq (by simp), ⟨v.leaf, xk, v.kn, ck, xv, v.vn, cv, xi, v.im, ci, bk, 0, bv, 0, bi, 0, v.keys, v.vals, v.kids⟩, rfl, ⟨?_, ?_, ?_⟩, rfl, rfl, rfl, rfl, ⟨⟨k2, k3, k4⟩, ⟨v2, v3, v4⟩, ⟨i2, i3, i4⟩⟩, ⟨fun h0 => ?_, fun h0 => ?_, fun h0 => ?_⟩⟩
    · refine ((rk.keep0 t4a).keep0 t5a).keep tq (fun h0 => ?_)
      have := hqk bk (by rw [rk.some_ h0]; rfl)
      simp; omega
    · refine (rv.keep0 t5a).keep tq (fun h0 => ?_)
      have := hqv bv (by rw [rv.some_ h0]; rfl)
      simp; omega
    · refine ri.keep tq (fun h0 => ?_)
      have := hqi bi (by rw [ri.some_ h0]; rfl)
      simp; omega
    · have := hqk bk (by rw [rk.some_ h0]; rfl)
      show w.heap.size ≤ bk
      omega
    · have := hqv bv (by rw [rv.some_ h0]; rfl)
      show w.heap.size ≤ bv
      omega
    · have := hqi bi (by rw [ri.some_ h0]; rfl)
      show w.heap.size ≤ bi
      omega
  clear hok hov hoi hqk hqv hqi t3 t4a t4 t5a t5 hs5 hz5 HC HZ HSS HR hcap T0 hb0 hb1
  go_wp2_with fail
  refine bodyPost_ret (v := .agg #[.bool v.leaf, .slice xk v.kn ck, .slice xv v.vn cv, .slice xi v.im ci]) (by simp [results, Try.results24, go_sem, r0, r1, r2, r3]) rfl (HF.out _ _ _ _)
end Go.Proofs.Ytlgfdfpafmopdaa
