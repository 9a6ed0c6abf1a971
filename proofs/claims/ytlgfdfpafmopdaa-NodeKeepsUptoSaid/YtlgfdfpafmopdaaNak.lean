/-
  'add' of package node: the entries of another node behind those of a node of the caller's own (DOC). Conditions: the other node's lists and texts are short.
-/
import Derived.Test.YtlgfdfpafmopdaaNo
namespace Go.Proofs.Ytlgfdfpafmopdaa
open Go.RowKit
set_option linter.unusedVariables false

set_option maxRecDepth 100000 in
set_option maxHeartbeats 4000000 in
theorem nadd_kids (B nb i0 i1 : Nat) (es : List En) (v : Nv) (w : World) (h : OwE B nb false es w) (hB : B ≤ nb) (hv : ∀ w', Below B w w' → IsNv w' v) (ho : v.Ok) (h01 : i0 ≤ i1) (h1 : i1 ≤ v.keys.length) (hes : es.length ≤ 500000000) :
    Calls Try.prog 38 #[.pointer (some ⟨nb, 0, none⟩), .agg #[.bool v.leaf, .slice v.ka v.kn v.kc, .slice v.va v.vn v.vc, .slice v.ia v.im v.ic], .int .i64 i0, .int .i64 i1] w fun e w' =>
      e = .returned (.tuple #[]) ∧ OwE B nb false (es ++ ((mkN false v.keys v.vals v.kids).drop i0).take (i1 - i0)) w' ∧ Below B w w' := by
  obtain ⟨i0s, his, hzs0, hzs1, hzs2⟩ := info_parts Try.info_nstr
  obtain ⟨i0i, hii, hzi0, hzi1, hzi2⟩ := info_parts Try.info_nint
  have hnlt : nb < w.heap.size := by obtain ⟨kv, vv, iv, hO⟩ := h; exact lt_of_block hO.hb
  have T0 : Tch [] w (w.alloc (.cells #[.bool v.leaf, .slice v.ka v.kn v.kc, .slice v.va v.vn v.vc, .slice v.ia v.im v.ic] 25)) := (Tch.refl _ _).alloc _
  have HIS : Hid (∀ w', Below B w w' → IsNv w' v) := hv
  have HVO : Hid (∀ (k : Nat) w', Below B w w' → k ≤ 1000000000 → Calls Try.prog 49 _ w' fun e w2 => e = .returned (.int .i64 (v.kids.getD k 0)) ∧ Tch [] w' w2) := fun k w' b hk => nkidOf_any v k w' (hv w' b) ho hk
  have HCL : Hid (∀ (s : ByteArray) w', s.size ≤ 100000000 → Calls Try.prog 47 #[.string s] w' fun e w2 => e = .returned (.string s) ∧ Tch [] w' w2) := fun s w' hs => clone_any s w' (by omega)
  have HKS := Lib.hid ho.ks
  have HGD := Lib.hid (getd_small ho)
  have hk8 := ho.lk
  have hkn : v.kn = v.keys.length := (hv w (Below.refl B w)).rk.hlen
  have HKN := Lib.hid hkn
  have h1n : i1 ≤ v.kn := by omega
  have hk9 : v.kn ≤ 100000000 := by omega
  have HSEG : Hid (∀ (j : Nat) key, v.keys[j]? = some key → i0 ≤ j → ((mkN false v.keys v.vals v.kids).drop i0).take (j + 1 - i0) = ((mkN false v.keys v.vals v.kids).drop i0).take (j - i0) ++ [mkE false v.keys v.vals v.kids j key]) := fun j key hk hj => by
    rw [show j + 1 - i0 = (j - i0) + 1 from by omega, List.take_add_one, List.getElem?_drop, show i0 + (j - i0) = j from by omega, mkN_get _ _ _ _ _ _ hk]
    rfl
  have HME : Hid (∀ (j : Nat) key, (mkE false v.keys v.vals v.kids j key).key = key ∧ (mkE false v.keys v.vals v.kids j key).kid = v.kids.getD j 0) := fun j key => ⟨rfl, rfl⟩
  have HSL : Hid (∀ j : Nat, ((((mkN false v.keys v.vals v.kids).drop i0).take j)).length ≤ 100000000) := fun j => by
    rw [List.length_take, List.length_drop, mkN_len]; omega
  have HTR : Hid (∀ (a b : World), Below B w a → Below B a b → Below B w b) := fun a b h1 h2 => ⟨h2.os.trans h1.os, h2.tape.trans h1.tape, h2.output.trans h1.output, Nat.le_trans h1.size h2.size, fun k hk => (h2.block k hk).trans (h1.block k hk)⟩
  have hb5 := blk_new w (.cells #[.bool v.leaf, .slice v.ka v.kn v.kc, .slice v.va v.vn v.vc, .slice v.ia v.im v.ic] 25)
  have hOW := h.keep T0
  have hBW : Below B w (w.alloc (.cells #[.bool v.leaf, .slice v.ka v.kn v.kc, .slice v.va v.vn v.vc, .slice v.ia v.im v.ic] 25)) := T0.below (by omega) (by simp)
  generalize (mkN false v.keys v.vals v.kids).drop i0 = seg at *
  generalize mkE false v.keys v.vals v.kids = mk at *
  generalize hka : v.ka = ka at *
  generalize hkn2 : v.kn = kn at *
  clear ho hv h h1 hk8 hkn
  go_enter Try.func38, Try.ntmps38
  go_wp2_with fail
  generalize w.alloc (.cells #[.bool v.leaf, .slice ka kn v.kc, .slice v.va v.vn v.vc, .slice v.ia v.im v.ic] 25) = W1 at T0 hb5 hOW hBW ⊢
  go_loopw [8] (fun v8 wr => ∃ j : Nat, i0 ≤ j ∧ j ≤ i1 ∧ v8 = .int .i64 j ∧ OwE B nb false (es ++ seg.take (j - i0)) wr ∧ Below B w wr ∧ wr.heap[w.heap.size]? = some (.cells #[.bool v.leaf, .slice ka kn v.kc, .slice v.va v.vn v.vc, .slice v.ia v.im v.ic] 25 (0, 0))) (fun v8 _ => i1 - (intOf v8).toNat)
  case atStart => exact ⟨i0, by omega, h01, rfl, by rw [Nat.sub_self, List.take_zero, List.append_nil]; exact hOW, hBW, hb5⟩
  case round =>
    clear hb5 hOW hBW
    obtain ⟨j, hj0, hj1, rfl, hOE, hBw, hb5⟩ := hrel
    by_cases hjl : j < i1
    · obtain ⟨kv, vv, iv, hO⟩ := hOE
      have hjk : j < v.keys.length := by have := HKN.out; omega
      have hget := List.getElem?_eq_getElem hjk
      have hnv := HIS.out wr hBw
      have ha : ka = some ⟨v.kb, v.ko, none⟩ := by rw [← hka]; exact hnv.rk.some_ (by omega)
      have x0 := hnv.rk.one hget (v := .string v.keys[j]) rfl
      have hbl := hnv.rk.lt (by omega)
      have hks := HKS.out _ (List.getElem_mem hjk)
      have HSG := Lib.hid (HSEG.out j _ hget hj0)
      have HMJ := Lib.hid (HME.out j v.keys[j])
      have hln := HSL.out (j - i0)
      subst ha
      have HGT := Lib.hid hget
      generalize v.keys[j] = key at x0 hks HSG HMJ HGT
      have hI : (j : Int) < (kn : Int) := by omega
      have hI0 : (0 : Int) ≤ (j : Int) := by omega
      have hd : decide (j < i1) = true := decide_eq_true hjl
      have hdi : decide ((j : Int) < (i1 : Int)) = true := decide_eq_true (by omega)
      have p0 := blk_cell hO.hb 0
      have p1 := blk_cell hO.hb 1
      have plt := lt_of_block hO.hb
      have q0 := blk_cell hb5 0
      have q1 := blk_cell hb5 1
      have q2 := blk_cell hb5 2
      have q3 := blk_cell hb5 3
      have qlt := lt_of_block hb5
      simp only [List.getElem?_toArray, List.getElem?_cons_zero, List.getElem?_cons_succ] at p0 p1 q0 q1 q2 q3
      have HO := Lib.hid hO
      have HBw := Lib.hid hBw
      have HB5 := Lib.hid hb5
      have HLN : Hid ((es ++ seg.take (j - i0)).length ≤ 600000000) := by show _ ≤ _; rw [List.length_append]; omega
      obtain ⟨xs, hxs⟩ : ∃ xs, es ++ seg.take (j - i0) = xs := ⟨_, rfl⟩
      rw [hxs] at HO HLN
      have HXS := Lib.hid hxs
      have HCK := Lib.hid (HCL.out key wr.drew hks)
      have HP1 : Hid (∀ w', Tch [] wr.drew w' → w'.cell? ⟨nb, 1, none⟩ = some kv ∧ nb < w'.heap.size) := fun w' t => ⟨(t.cell plt (by simp)).trans p1, Nat.lt_of_lt_of_le plt t.size⟩
      have HKA : Hid (∀ w', Tch [] wr.drew w' → w'.ownsRow B 9 1 kv (xs.map En.key).length ((xs.map En.key).map Value.string) ∧ B ≤ w'.heap.size) := fun w' t => ⟨(HO.out.keep ((Tch.refl [] wr).drew.trans t)).hk, by have := t.size; have : wr.drew.heap.size = wr.heap.size := rfl; omega⟩
      have hap1 : (xs.map En.key).length + 1 ≤ maxLen := by unfold maxLen; have := HLN.out; simp; omega
      have hap2 : ((xs.map En.key).length + 1) * 16 ≤ 140737488355328 := by have := HLN.out; simp; omega
      have HS4 : Hid (∀ (wa w2 : World), Tch [] wr.drew wa → wa.grownBy w2 kv.ownBlock → w2.frozen? ⟨nb, 1, none⟩ = false ∧ nb < w2.heap.size ∧ w2.cell? ⟨nb, 1, none⟩ = some kv) := fun wa w2 ta hg => by
        have ha := HO.out.keep ((Tch.refl [] wr).drew.trans ta)
        have hb2 : w2.heap[nb]? = wa.heap[nb]? := hg.block nb (lt_of_block ha.hb) (fun e => ha.nk.1 e.symm)
        rw [ha.hb] at hb2
        exact ⟨blk_free hb2 1, lt_of_block hb2, blk_cell hb2 1⟩
      clear hO hb5 hBw hget hnv hln hxs
      go_upto_region 4 with fail
      go_cut [] from 10 to 58 (fun wx => ∃ x2 c2, OwV B nb false (.slice x2 (xs.length + 1) c2) vv iv (xs.map En.key ++ [key]) (if false then xs.map En.val else []) (if false then [] else xs.map En.kid) wx ∧ Below B w wx ∧ wx.heap[w.heap.size]? = some (.cells #[.bool v.leaf, .slice (some ⟨v.kb, v.ko, none⟩) kn v.kc, .slice v.va v.vn v.vc, .slice v.ia v.im v.ic] 25 (0, 0)))
      case first =>
        go_region_law (first
          | ((refine step_append_apart (by rfl) _ _ 22 (by rfl) B 9 i0s (.string ⟨#[]⟩) 1 16 Try.underlying22 his hzs0 hzs1 hzs2 rfl (by decide) kv (xs.map En.key).length ((xs.map En.key).map Value.string) (by rfl) (HKA.out _ (t3.alloc _)).1 ⟨w3.heap.size, 0, none⟩ 1 1 [.string key] (by rfl) rfl (cells_one _ _ _) (fun x hx => by simp only [List.mem_singleton] at hx; subst hx; rfl) (by omega) hap1 hap2 (HKA.out _ (t3.alloc _)).2 ?_); intro v' w4 hown4 hg4 hp4; obtain ⟨hf4, hl4, hc4⟩ := HS4.out _ w4 (t3.alloc _) hg4; obtain ⟨x2, c2, rfl⟩ := own_slice hown4)
          | (go_simp; go_at_call 47; (with_reducible refine HCK.out.mono ?_); rintro e w3 ⟨rfl, t3⟩; obtain ⟨p3, l3⟩ := HP1.out _ t3))
        all_goals
          obtain ⟨_, hO5, hb5w, hnq5⟩ := HO.out.addK hB (((Tch.refl [] wr).drew.trans t3).alloc (.cells #[.string key] 9)) key hown4 hg4 hp4
          have hBw5 : Below B w (w4.setCell ⟨nb, 1, none⟩ (.slice x2 ((xs.map En.key).length + 1) c2)) := HTR.out _ _ HBw.out hb5w
          have hq5 := hnq5 _ _ (by omega) HB5.out
          rw [List.length_map] at hO5 hBw5 hq5
          have HM1 := Lib.hid hO5
          have HM2 := Lib.hid hBw5
          have HM3 := Lib.hid hq5
          clear hO5 hBw5 hq5 hg4 hp4 hown4 hf4 hl4 hc4 hnq5 hb5w
          go_wp2_with fail
          go_meet
          exact ⟨x2, c2, HM1.out, HM2.out, HM3.out⟩
      case rest =>
        obtain ⟨x2, c2, hO5, hBw5, hq5⟩ := hcut
        clear p0 p1 plt q0 q1 q2 q3 qlt x0
        have p0 := blk_cell hO5.hb 0
        have pX := blk_cell hO5.hb 3
        have plt := lt_of_block hO5.hb
        have q0 := blk_cell hq5 0
        have q1 := blk_cell hq5 1
        have q2 := blk_cell hq5 2
        have q3 := blk_cell hq5 3
        have qlt := lt_of_block hq5
        simp only [List.getElem?_toArray, List.getElem?_cons_zero, List.getElem?_cons_succ] at p0 pX q0 q1 q2 q3
        simp only [if_false, Bool.false_eq_true] at hO5
        have HO5 := Lib.hid hO5
        have HBw5 := Lib.hid hBw5
        have HQ5 := Lib.hid hq5
        have HPX : Hid (∀ w', Tch [] wc.drew w' → w'.cell? ⟨nb, 3, none⟩ = some iv ∧ nb < w'.heap.size) := fun w' t => ⟨(t.cell plt (by simp)).trans pX, Nat.lt_of_lt_of_le plt t.size⟩
        have HKA5 : Hid (∀ w', Tch [] wc.drew w' → w'.ownsRow B 3 1 iv xs.length ((xs.map En.kid).map (Value.int .i64)) ∧ B ≤ w'.heap.size) := fun w' t => ⟨by have := (HO5.out.keep ((Tch.refl [] wc).drew.trans t)).hi; rw [List.length_map] at this; exact this, by have := t.size; have : wc.drew.heap.size = wc.heap.size := rfl; omega⟩
        have HS6 : Hid (∀ (wa w2 : World), Tch [] wc.drew wa → wa.grownBy w2 iv.ownBlock → w2.frozen? ⟨nb, 3, none⟩ = false ∧ nb < w2.heap.size ∧ w2.cell? ⟨nb, 3, none⟩ = some iv) := fun wa w2 ta hg => by
          have ha := HO5.out.keep ((Tch.refl [] wc).drew.trans ta)
          have hb2 : w2.heap[nb]? = wa.heap[nb]? := hg.block nb (lt_of_block ha.hb) (fun e => ha.nk.2.2 e.symm)
          rw [ha.hb] at hb2
          exact ⟨blk_free hb2 3, lt_of_block hb2, blk_cell hb2 3⟩
        have HVC := Lib.hid (HVO.out j wc.drew (HTR.out _ _ hBw5 ((Tch.refl [] wc).drew.below (by omega) (by simp))) (by omega))
        have hap3 : xs.length + 1 ≤ maxLen := by unfold maxLen; have := HLN.out; omega
        have hap4 : (xs.length + 1) * 8 ≤ 140737488355328 := by have := HLN.out; omega
        generalize v.kids.getD j 0 = kd at *
        clear hO5 hBw5 hq5 hap1 hap2 HS4 HKA HP1 HO HBw HB5 HCK
        go_upto_region 7 with fail
        go_region_law (first
          | ((refine step_append_apart (by rfl) _ _ 23 (by rfl) B 3 i0i (.int .i64 0) 1 8 Try.underlying23 hii hzi0 hzi1 hzi2 rfl (by decide) iv xs.length ((xs.map En.kid).map (Value.int .i64)) (by rfl) (HKA5.out _ (t6.alloc _)).1 ⟨w6.heap.size, 0, none⟩ 1 1 [.int .i64 kd] (by rfl) rfl (cells_one _ _ _) (fun x hx => by simp only [List.mem_singleton] at hx; subst hx; rfl) (by omega) hap3 hap4 (HKA5.out _ (t6.alloc _)).2 ?_); intro v' w8 hown8 hg8 hp8; obtain ⟨hf8, hl8, hc8⟩ := HS6.out _ w8 (t6.alloc _) hg8; obtain ⟨x4, c4, rfl⟩ := own_slice hown8)
          | (go_simp; go_at_call 49; (with_reducible refine HVC.out.mono ?_); rintro e w6 ⟨rfl, t6⟩; obtain ⟨p6, l6⟩ := HPX.out _ t6))
        all_goals
          obtain ⟨_, hO9, hb9w, hnq9⟩ := HO5.out.addI hB (((Tch.refl [] wc).drew.trans t6).alloc (.cells #[.int .i64 kd] 3)) kd (by rw [List.length_map]; exact hown8) hg8 hp8
          have hBw9 : Below B w (w8.setCell ⟨nb, 3, none⟩ (.slice x4 (xs.length + 1) c4)) := HTR.out _ _ HBw5.out hb9w
          have hq9 := hnq9 _ _ (by omega) HQ5.out
          have HR9 : Hid (OwE B nb false (es ++ seg.take (j + 1 - i0)) (w8.setCell ⟨nb, 3, none⟩ (.slice x4 (xs.length + 1) c4)) ∧ Below B w (w8.setCell ⟨nb, 3, none⟩ (.slice x4 (xs.length + 1) c4)) ∧ _) := ⟨by
            rw [HSG.out, ← List.append_assoc, HXS.out]
            refine ⟨.slice x2 (xs.length + 1) c2, vv, .slice x4 (xs.length + 1) c4, ?_⟩
            simp only [if_false, Bool.false_eq_true, List.map_append, List.map_cons, List.map_nil, HMJ.out.1, HMJ.out.2]
            exact hO9, hBw9, hq9⟩
          clear hO9 hb9w hnq9 hBw9 hq9 hown8 hg8 hp8 HO5 HKA5 HS6 HVC hf8 hl8 hc8
          go_wp2
          go_roundw
          case rel => exact ⟨j + 1, by omega, by omega, by go_num, HR9.out.1, HR9.out.2.1, HR9.out.2.2⟩
          case measure => simp [intOf]; omega
    · obtain rfl : j = i1 := by omega
      have HF : Hid (OwE B nb false (es ++ seg.take (j - i0)) wr ∧ Below B w wr) := ⟨hOE, hBw⟩
      clear hOE hBw hb5
      go_wp2_with fail
      go_end0
      exact ⟨rfl, HF.out.1, HF.out.2⟩
end Go.Proofs.Ytlgfdfpafmopdaa
