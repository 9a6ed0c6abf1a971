/-
  Decode of package node answers the document's node, or refuses. Condition: the text is shorter than 10^7 bytes.
-/
import Derived.Test.YtlgfdfpafmopdaaDoorNrr
import Derived.Test.YtlgfdfpafmopdaaDoorShelf
namespace Go.Proofs.YtlgfdfpafmopdaaDoor
open Go.RowKit
set_option linter.unusedVariables false

theorem cut_str (s : ByteArray) (m : Nat) (hm : m ≤ s.size) (w : World) : (Instr.slice 9 (.string s) none (some (.int .i64 (m : Int))) none).run Tryd.prog w = .ok (.string (s.extract 0 m)) w := by
  rw [run_slice_string_to_if _ _ _ _ _ Tryd.underlying9, if_pos (by omega), Int.toNat_natCast]
theorem from_str (s : ByteArray) (q : Nat) (hq : q ≤ s.size) (w : World) : (Instr.slice 9 (.string s) (some (.int .i64 (q : Int))) none none).run Tryd.prog w = .ok (.string (s.extract q s.size)) w := by
  rw [run_slice_string_from_if _ _ _ _ _ Tryd.underlying9, if_pos (by omega), Int.toNat_natCast]
/-- No node. -/
def nvZ : Nv := ⟨false, none, 0, 0, none, 0, 0, none, 0, 0, 0, 0, 0, 0, 0, 0, [], [], []⟩
def DcPost (w : World) (L : List UInt8) (e : Ending) (w' : World) : Prop :=
  Tch [] w w' ∧ ((pdec L = none ∧ ∃ u : Nv, e = .returned (.tuple #[.agg #[.bool u.leaf, .slice u.ka u.kn u.kc, .slice u.va u.vn u.vc, .slice u.ia u.im u.ic], .int .i64 40]) ∧ u.leaf = false ∧ u.kn = 0 ∧ u.vn = 0 ∧ u.im = 0) ∨
    ∃ leaf es, ∃ u : Nv, pdec L = some (leaf, es) ∧ e = .returned (.tuple #[.agg #[.bool u.leaf, .slice u.ka u.kn u.kc, .slice u.va u.vn u.vc, .slice u.ia u.im u.ic], .int .i64 0]) ∧ u.Good w' leaf es)
theorem DcPost.no {w w1 : World} {L : List UInt8} (h : pdec L = none) (T : Tch [] w w1) (a b c d : Value) : DcPost w L (.returned (.tuple #[.agg #[.bool false, .slice none 0 0, .slice none 0 0, .slice none 0 0], .int .i64 40])) ((((w1.setCell ⟨w.heap.size, 0, none⟩ a).setCell ⟨w.heap.size, 1, none⟩ b).setCell ⟨w.heap.size, 2, none⟩ c).setCell ⟨w.heap.size, 3, none⟩ d) :=
  ⟨T.set4 a b c d, Or.inl ⟨h, nvZ, rfl, rfl, rfl, rfl, rfl⟩⟩
set_option maxRecDepth 100000 in
set_option maxHeartbeats 1000000 in
theorem ndecode_any (s : ByteArray) (w : World) (hs : s.size ≤ 10000000) : Calls Tryd.prog 5 #[.string s] w (DcPost w s.data.toList) := by
  have hcut : ∀ w', (Instr.slice 9 (.string s) none (some (.int .i64 ((min s.size 1024 : Nat) : Int))) none).run Tryd.prog w' = .ok (.string (s.extract 0 (min s.size 1024))) w' := cut_str s (min s.size 1024) (by omega)
  have hmin : min (s.size : Int) 1024 = ((min s.size 1024 : Nat) : Int) := by omega
  have hex : (s.extract 0 (min s.size 1024)).data.toList = s.data.toList.take 1024 := by
    rw [Lib.extract_data, List.drop_zero, Nat.sub_zero]
    rcases Nat.le_total s.size 1024 with h | h
    · rw [Nat.min_eq_left h, List.take_of_length_le (by rw [← Lib.size_eq]; exact Nat.le_refl _), List.take_of_length_le (by rw [← Lib.size_eq]; exact h)]
    · rw [Nat.min_eq_right h]
  have hexs : (s.extract 0 (min s.size 1024)).size ≤ 1024 := by rw [Lib.size_eq, hex, List.length_take]; omega
  have HR : Hid (∀ w', Calls Tryd.prog 11 #[.string (s.extract 0 (min s.size 1024))] w' (RrPost w' (s.data.toList.take 1024))) := fun w' => by
    have := nread_any (s.extract 0 (min s.size 1024)) w' hexs
    rw [hex] at this
    exact this
  generalize s.extract 0 (min s.size 1024) = x at hcut HR
  generalize hm : min s.size 1024 = m at hcut hmin
  have hr : (w.alloc (.cells #[.bool false, .slice none 0 0, .slice none 0 0, .slice none 0 0] 25)).heap[w.heap.size]? = some _ := blk_new _ _
  have T0 : Tch [] w (w.alloc (.cells #[.bool false, .slice none 0 0, .slice none 0 0, .slice none 0 0] 25)) := (Tch.refl _ _).alloc _
  have HTR : Hid (∀ q w', q ≤ s.size → Calls Tryd.prog 13 #[.string (s.extract q s.size), .string ⟨#[0]⟩] w' fun e w2 => e = .returned (.string ⟨(Lib.trimB (s.data.toList.drop q) 0).toArray⟩) ∧ Tch [] w' w2) := fun q w' hq => by
    have hsz : (s.extract q s.size).size ≤ 9223372036854775807 := by rw [Lib.size_eq, Lib.extract_data, List.length_take, List.length_drop, ← Lib.size_eq]; omega
    have h := Tryd.strings_Trim_one (s.extract q s.size) 0 (by decide) w' hsz
    rw [Lib.extract_data, List.take_of_length_le (by rw [List.length_drop, ← Lib.size_eq]; exact Nat.le_refl _)] at h
    refine h.mono ?_
    rintro e w2 ⟨he, hw⟩
    refine ⟨he, ?_⟩
    rcases hw with rfl | rfl
    · exact Tch.refl _ _
    · exact (Tch.refl _ _).drew
  have HPD : Hid (pdec s.data.toList = match prd (s.data.toList.take 1024) with | none => none | some (leaf, es, q) => if fitN leaf es && nil0 (s.data.toList.drop q) then some (leaf, es) else none) := rfl
  have hL : s.data.toList.length = s.size := (Lib.size_eq s).symm
  generalize s.data.toList = L at *
  clear hex hexs
  go_enter Tryd.func5, Tryd.ntmps5
  go_wp2_with fail
  refine (HR.out _).mono ?_
  rintro e w2 ⟨t2, hor⟩
  have T2 := T0.trans t2
  have hr2 := t2.keep hr (by simp)
  clear HR t2 hr T0
  rcases hor with ⟨leaf, es, q, u, hprd, hq, rfl, hug, hun⟩ | ⟨lf, ka, kn, kc, va, vn, vc, ia, im, ic, a, c, hno, hc, rfl⟩
  · rw [List.length_take] at hq
    have hq2 : q ≤ s.size := by omega
    have hfr := from_str s q hq2
    have tA : Tch [] w2 (w2.alloc (.cells #[.bool u.leaf, .slice u.ka u.kn u.kc, .slice u.va u.vn u.vc, .slice u.ia u.im u.ic] 25)) := (Tch.refl _ _).alloc _
    have hub : (w2.alloc (.cells #[.bool u.leaf, .slice u.ka u.kn u.kc, .slice u.va u.vn u.vc, .slice u.ia u.im u.ic] 25)).heap[w2.heap.size]? = some _ := blk_new _ _
    have hrA := tA.keep hr2 (by simp)
    have hug2 := hug.keep0 tA
    have HFI := Lib.hid (nisFit_any u _ hug2.nv hug2.ok hug2.caps)
    have HT3 := Lib.hid (T2.trans tA)
    have hfit : u.fits = fitN leaf es := by
      unfold Nv.fits
      rw [hug.lens, hug.leaf, hug.es]
      rfl
    rw [hfit] at HFI
    have HTQ := Lib.hid (fun w' => HTR.out q w' hq2)
    have HPQ : Hid (pdec L = if fitN leaf es && nil0 (L.drop q) then some (leaf, es) else none) := by
      show _ = _
      rw [HPD.out, hprd]
    have HK : Hid (∀ w', Tch [] (w2.alloc (.cells #[.bool u.leaf, .slice u.ka u.kn u.kc, .slice u.va u.vn u.vc, .slice u.ia u.im u.ic] 25)) w' → w'.heap[w2.heap.size]? = some (.cells #[.bool u.leaf, .slice u.ka u.kn u.kc, .slice u.va u.vn u.vc, .slice u.ia u.im u.ic] 25 (0, 0)) ∧ w'.heap[w.heap.size]? = some (.cells #[.bool false, .slice none 0 0, .slice none 0 0, .slice none 0 0] 25 (0, 0)) ∧ u.Good w' leaf es ∧ Tch [] w w' ∧ NwN (w.heap.size + 1) u w') := fun w' t =>
      ⟨t.keep hub (by simp), t.keep hrA (by simp), hug2.keep0 t, HT3.out.trans t, ((hun.keep (L := []) tA (by simp)).keep (L := []) t (by simp)).base (by simp)⟩
    clear hug hug2 hun tA hub hrA hr2 T2 hfit HTR HPD hprd hq
    go_wp2_with fail
    refine HFI.out.mono ?_
    rintro e w3 ⟨rfl, t3⟩
    cases hf : fitN leaf es
    · obtain ⟨hub, hrb, _, T3, _⟩ := HK.out w3 t3
      have r0 := blk_cell hrb 0
      have r1 := blk_cell hrb 1
      have r2 := blk_cell hrb 2
      have r3 := blk_cell hrb 3
      have f0 := blk_free hrb 0
      have f1 := blk_free hrb 1
      have f2 := blk_free hrb 2
      have f3 := blk_free hrb 3
      have rlt := lt_of_block hrb
      simp only [List.getElem?_toArray, List.getElem?_cons_zero, List.getElem?_cons_succ] at r0 r1 r2 r3
      have HF : Hid (∀ a b c d, DcPost w L _ ((((w3.setCell ⟨w.heap.size, 0, none⟩ a).setCell ⟨w.heap.size, 1, none⟩ b).setCell ⟨w.heap.size, 2, none⟩ c).setCell ⟨w.heap.size, 3, none⟩ d)) := fun a b c d => DcPost.no (by rw [HPQ.out, hf]; simp) T3 a b c d
      clear hub hrb T3 t3 hf HK HT3 HPQ HTQ
      go_wp2_with fail
      refine bodyPost_ret (v := .tuple #[.agg #[.bool false, .slice none 0 0, .slice none 0 0, .slice none 0 0], .int .i64 40]) (by simp [results, Tryd.results5, go_sem, r0, r1, r2, r3]) rfl (HF.out _ _ _ _)
    · have HT4 := Lib.hid (HTQ.out w3)
      have HTT := Lib.hid t3
      clear t3
      go_wp2_with fail
      refine HT4.out.mono ?_
      rintro e w4 ⟨rfl, t4⟩
      obtain ⟨hub, hrb, hug, T4, hun⟩ := HK.out w4 (HTT.out.trans t4)
      have r0 := blk_cell hrb 0
      have r1 := blk_cell hrb 1
      have r2 := blk_cell hrb 2
      have r3 := blk_cell hrb 3
      have f0 := blk_free hrb 0
      have f1 := blk_free hrb 1
      have f2 := blk_free hrb 2
      have f3 := blk_free hrb 3
      have rlt := lt_of_block hrb
      have u0 := blk_cell hub 0
      have u1 := blk_cell hub 1
      have u2 := blk_cell hub 2
      have u3 := blk_cell hub 3
      have ult := lt_of_block hub
      simp only [List.getElem?_toArray, List.getElem?_cons_zero, List.getElem?_cons_succ] at r0 r1 r2 r3 u0 u1 u2 u3
      cases hn : nil0 (L.drop q)
      · have htr : (⟨(Lib.trimB (L.drop q) 0).toArray⟩ : ByteArray).toList.isEmpty = false := by
          rw [ByteArray.toList_eq]
          have := ntrim_some hn
          rcases hl : Lib.trimB (L.drop q) 0 with _ | ⟨x, l⟩
          · exact absurd hl this
          · rfl
        have HF : Hid (∀ a b c d, DcPost w L _ ((((w4.setCell ⟨w.heap.size, 0, none⟩ a).setCell ⟨w.heap.size, 1, none⟩ b).setCell ⟨w.heap.size, 2, none⟩ c).setCell ⟨w.heap.size, 3, none⟩ d)) := fun a b c d => DcPost.no (by rw [HPQ.out, hf, hn]; simp) T4 a b c d
        generalize (⟨(Lib.trimB (L.drop q) 0).toArray⟩ : ByteArray) = tr at htr ⊢
        clear hub hrb hug hun T4 t4 hf hn HK HT3 HPQ HTQ HT4 HTT u0 u1 u2 u3
        go_wp2_with fail
        refine bodyPost_ret (v := .tuple #[.agg #[.bool false, .slice none 0 0, .slice none 0 0, .slice none 0 0], .int .i64 40]) (by simp [results, Tryd.results5, go_sem, r0, r1, r2, r3]) rfl (HF.out _ _ _ _)
      · have htr : (⟨(Lib.trimB (L.drop q) 0).toArray⟩ : ByteArray).toList.isEmpty = true := by
          rw [ntrim_nil hn, ByteArray.toList_eq]
          rfl
        have HF : Hid (∀ a b c d, DcPost w L (.returned (.tuple #[.agg #[.bool u.leaf, .slice u.ka u.kn u.kc, .slice u.va u.vn u.vc, .slice u.ia u.im u.ic], .int .i64 0])) ((((w4.setCell ⟨w.heap.size, 0, none⟩ a).setCell ⟨w.heap.size, 1, none⟩ b).setCell ⟨w.heap.size, 2, none⟩ c).setCell ⟨w.heap.size, 3, none⟩ d)) := fun a b c d =>
          ⟨T4.set4 a b c d, Or.inr ⟨leaf, es, u, by rw [HPQ.out, hf, hn]; simp, rfl, hug.set4 hun (by omega) a b c d⟩⟩
        generalize (⟨(Lib.trimB (L.drop q) 0).toArray⟩ : ByteArray) = tr at htr ⊢
        clear hub hrb hug hun T4 t4 hf hn HK HT3 HPQ HTQ HT4 HTT
        go_wp2_with fail
        refine bodyPost_ret (v := .tuple #[.agg #[.bool u.leaf, .slice u.ka u.kn u.kc, .slice u.va u.vn u.vc, .slice u.ia u.im u.ic], .int .i64 0]) (by simp [results, Tryd.results5, go_sem, r0, r1, r2, r3]) rfl (HF.out _ _ _ _)
  · have hne : (c != 0) = true := by simpa using hc
    have r0 := blk_cell hr2 0
    have r1 := blk_cell hr2 1
    have r2 := blk_cell hr2 2
    have r3 := blk_cell hr2 3
    have f0 := blk_free hr2 0
    have f1 := blk_free hr2 1
    have f2 := blk_free hr2 2
    have f3 := blk_free hr2 3
    have rlt := lt_of_block hr2
    simp only [List.getElem?_toArray, List.getElem?_cons_zero, List.getElem?_cons_succ] at r0 r1 r2 r3
    have HF : Hid (∀ x y z d o, DcPost w L (.returned (.tuple #[.agg #[.bool false, .slice none 0 0, .slice none 0 0, .slice none 0 0], .int .i64 40])) (((((w2.setCell ⟨w.heap.size, 0, none⟩ x).setCell ⟨w.heap.size, 1, none⟩ y).setCell ⟨w.heap.size, 2, none⟩ z).setCell ⟨w.heap.size, 3, none⟩ d).alloc o)) := fun x y z d o =>
      ⟨(T2.set4 x y z d).alloc o, Or.inl ⟨by rw [HPD.out, hno], nvZ, rfl, rfl, rfl, rfl, rfl⟩⟩
    clear hr2 T2 hno hc HPD HTR
    go_wp2_with fail
    refine bodyPost_ret (v := .tuple #[.agg #[.bool false, .slice none 0 0, .slice none 0 0, .slice none 0 0], .int .i64 40]) (by simp [results, Tryd.results5, go_sem, r0, r1, r2, r3, rlt]) rfl (HF.out _ _ _ _ _)
theorem decode_any : DecSpec := by
  intro s w hs
  refine (ndecode_any s w hs).mono ?_
  rintro e w' ⟨t, h⟩
  rw [← pdec_ddec]
  exact ⟨t, h⟩
end Go.Proofs.YtlgfdfpafmopdaaDoor
