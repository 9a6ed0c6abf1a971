/-
  'alike' of the law: a bus and the document's that hold the same are told to be alike. Conditions: none but that the bus is as one made by the package's own calls.
-/
import Derived.Test.YtgdfbpgnknnkpaaBrh
import Derived.Laws.StructEq
import Derived.Deep.RegionHeld3
namespace Go.Proofs.Ytgdfbpgnknnkpaa
open Go.RowKit
set_option linter.unusedVariables false

set_option maxRecDepth 100000 in
theorem neq_rlt (i0 i1 i2 i3 i4 i5 i6 : Int) (s : ByteArray) (w : World) : (binOp .neq 38 (.agg #[.int .i64 i0, .int .i64 i1, .int .i64 i2, .int .i64 i3, .int .i64 i4, .int .i64 i5, .int .i64 i6, .string s]) (.agg #[.int .i64 i0, .int .i64 i1, .int .i64 i2, .int .i64 i3, .int .i64 i4, .int .i64 i5, .int .i64 i6, .string s])).run Try.prog w = .ok (.bool false) w := by
  rw [run_neq_struct, run_equalIn_struct _ _ _ _ _ (by kernel_rfl) (by kernel_rfl)]
  unfold Program.fieldsOf
  rw [Try.underlying38]
  have p0 : ∀ w, (part 3 #[.int .i64 i0, .int .i64 i1, .int .i64 i2, .int .i64 i3, .int .i64 i4, .int .i64 i5, .int .i64 i6, .string s] 0).run Try.prog w = .ok (.int .i64 i0) w := fun w => by kernel_rfl
  have p1 : ∀ w, (part 3 #[.int .i64 i0, .int .i64 i1, .int .i64 i2, .int .i64 i3, .int .i64 i4, .int .i64 i5, .int .i64 i6, .string s] 1).run Try.prog w = .ok (.int .i64 i1) w := fun w => by kernel_rfl
  have p2 : ∀ w, (part 3 #[.int .i64 i0, .int .i64 i1, .int .i64 i2, .int .i64 i3, .int .i64 i4, .int .i64 i5, .int .i64 i6, .string s] 2).run Try.prog w = .ok (.int .i64 i2) w := fun w => by kernel_rfl
  have p3 : ∀ w, (part 3 #[.int .i64 i0, .int .i64 i1, .int .i64 i2, .int .i64 i3, .int .i64 i4, .int .i64 i5, .int .i64 i6, .string s] 3).run Try.prog w = .ok (.int .i64 i3) w := fun w => by kernel_rfl
  have p4 : ∀ w, (part 3 #[.int .i64 i0, .int .i64 i1, .int .i64 i2, .int .i64 i3, .int .i64 i4, .int .i64 i5, .int .i64 i6, .string s] 4).run Try.prog w = .ok (.int .i64 i4) w := fun w => by kernel_rfl
  have p5 : ∀ w, (part 3 #[.int .i64 i0, .int .i64 i1, .int .i64 i2, .int .i64 i3, .int .i64 i4, .int .i64 i5, .int .i64 i6, .string s] 5).run Try.prog w = .ok (.int .i64 i5) w := fun w => by kernel_rfl
  have p6 : ∀ w, (part 3 #[.int .i64 i0, .int .i64 i1, .int .i64 i2, .int .i64 i3, .int .i64 i4, .int .i64 i5, .int .i64 i6, .string s] 6).run Try.prog w = .ok (.int .i64 i6) w := fun w => by kernel_rfl
  have p7 : ∀ w, (part 9 #[.int .i64 i0, .int .i64 i1, .int .i64 i2, .int .i64 i3, .int .i64 i4, .int .i64 i5, .int .i64 i6, .string s] 7).run Try.prog w = .ok (.string s) w := fun w => by kernel_rfl
  have q0 : ∀ s w, (Op.equalIn 9999 9 (.string s) (.string s)).run Try.prog w = .ok true w := fun s w => by rw [run_equalIn_string w 9998 _ _ _ Try.underlying9]; simp
  have q1 : ∀ (i : Int) w, (Op.equalIn 9999 3 (.int .i64 i) (.int .i64 i)).run Try.prog w = .ok true w := fun i w => by rw [run_equalIn_int w 9998 _ _ _ _ _ Try.underlying3]; simp
  simp [Op.eqFields, p0, p1, p2, p3, p4, p5, p6, p7, q0, q1, Result.andThen]

def TchPost (w : World) (e : Ending) (w' : World) : Prop := e = .returned (.bool true) ∧ Tch [] w w'
def CntRel (w0 : World) (n : Nat) (v38 : Value) (wr : World) : Prop := ∃ k : Nat, k ≤ n ∧ v38 = .int .i64 k ∧ Tch [] w0 wr

set_option maxRecDepth 100000 in
set_option maxHeartbeats 2000000 in
theorem balike_yes (bb rb : Nat) (v rv : Value) (b : Bs) (w : World) (h : PBus w bb v b) (k : RBus w rb rv b) (hg : b.Good) :
    Calls Try.prog 15 #[.pointer (some ⟨bb, 0, none⟩), .pointer (some ⟨rb, 0, none⟩)] w (TchPost w) := by
  have HL := Lib.hid (blist_any bb v b w h hg)
  have hlen := hg.len
  have HLEN : Hid (∀ W, Tch [] w W → ∀ q, Calls Try.prog 19 #[.pointer (some ⟨bb, 0, none⟩)] (W.drewN q) fun e w' => e = .returned (.int .i64 (b.list.length : Nat)) ∧ W.drewN q = w') := fun W t q => blen_any bb v b _ (h.keep0 (tdrewN t q))
  have HNXT : Hid (∀ W, Tch [] w W → ∀ q, Calls Try.prog 20 #[.pointer (some ⟨bb, 0, none⟩)] (W.drewN q) fun e w' => e = .returned (.int .i64 b.next) ∧ W.drewN q = w') := fun W t q => bnext_any bb v b _ (h.keep0 (tdrewN t q))
  obtain ⟨y, c, xb, xo, hv, hr, _⟩ := k.row
  have HK : Hid (∀ W, Tch [] w W → W.cell? ⟨rb, 0, none⟩ = some (.slice y b.list.length c) ∧ W.cell? ⟨rb, 1, none⟩ = some (.int .i64 b.next) ∧ rb < W.heap.size ∧ IsR fLt 8 W y b.list.length xb xo b.list) := fun W t => by
    have k2 := k.keep0 t
    exact ⟨by rw [← hv]; exact k2.c0, k2.c1, lt_of_block k2.blk, hr.keep0 t⟩
  have HF : Hid (∀ W, Tch [] w W → TchPost w (.returned (.bool true)) W) := fun W t => ⟨rfl, t⟩
  generalize hQ : TchPost w = Q at HF ⊢
  clear h k hg hv hr hQ
  go_enter Try.func15, Try.ntmps15
  go_wp2_with fail
  refine HL.out.mono ?_
  rintro e w2 ⟨v2, rfl, ⟨g1, g2⟩⟩
  obtain ⟨x2, c2, rfl⟩ := own_slice g1
  obtain ⟨lb, hlr, hn, _⟩ := IsR.own fLt_len g1 rfl
  clear hn
  obtain ⟨lo, hlo⟩ : ∃ lo, lo = 0 := ⟨_, rfl⟩
  rw [← hlo] at hlr
  have HR : Hid (∀ W, Tch [] w2 W → IsR fLt 8 W x2 b.list.length lb lo b.list) := fun W t => hlr.keep0 t
  have HT2 := Lib.hid g2
  obtain ⟨c0, c1, hrb, _⟩ := HK.out w2 g2
  have HL1 := Lib.hid (HLEN.out w2 g2)
  have HN1 := Lib.hid (HNXT.out w2 g2)
  generalize b.list = l at *
  generalize b.next = nx at *
  clear g1 g2 hlr hlo HL HLEN HNXT
  have hlI : (l.length : Int) ≤ 4096 := by omega
  have e1 : (l.length == l.length) = true := by simp
  have e2 : ((l.length : Int) == (l.length : Int)) = true := by simp
  have e3 : (nx == nx) = true := by simp
  have e4 : ((l.length : Int) != (l.length : Int)) = false := by simp
  have e5 : (nx != nx) = false := by simp
  go_wp2_with fail
  go_quiet (first | (go_at_call 19; exact quietSame' (HL1.out _)) | (go_at_call 20; exact quietSame' (HN1.out _)))
  clear e1 e2 e3 e4 e5 c0 c1
  go_wp2_with fail
  go_loopw [38] (fun v38 wr => CntRel w2 l.length v38 wr) (fun v38 _ => l.length - (intOf v38).toNat)
  case atStart => exact ⟨0, by omega, rfl, tdrewN (Tch.refl _ _) _⟩
  case round =>
    obtain ⟨k, hk, rfl, T⟩ := hrel
    by_cases hkl : k < l.length
    · have hd : decide (k < l.length) = true := decide_eq_true hkl
      have hget := List.getElem?_eq_getElem hkl
      have hrw := HR.out wr T
      have ha := hrw.some_ (by omega)
      obtain ⟨_, _, _, hkw⟩ := HK.out wr (HT2.out.trans T)
      have hb := hkw.some_ (by omega)
      subst ha hb
      have HS : Hid (∀ W, Tch [] wr W → (W.cell? ⟨rb, 0, none⟩ = some (.slice (some ⟨xb, xo, none⟩) l.length c) ∧ W.cell? ⟨lb, lo + k * 8, none⟩ = some (.int .i64 l[k].id) ∧ W.cell? ⟨lb, lo + k * 8 + 1, none⟩ = some (.int .i64 l[k].dst) ∧ W.cell? ⟨lb, lo + k * 8 + 2, none⟩ = some (.int .i64 l[k].ord) ∧ W.cell? ⟨lb, lo + k * 8 + 3, none⟩ = some (.int .i64 l[k].step) ∧
          W.cell? ⟨lb, lo + k * 8 + 4, none⟩ = some (.int .i64 l[k].tr) ∧ W.cell? ⟨lb, lo + k * 8 + 5, none⟩ = some (.int .i64 l[k].kind) ∧ W.cell? ⟨lb, lo + k * 8 + 6, none⟩ = some (.int .i64 l[k].code) ∧ W.cell? ⟨lb, lo + k * 8 + 7, none⟩ = some (.string l[k].verb) ∧
          W.cell? ⟨xb, xo + k * 8, none⟩ = some (.int .i64 l[k].id) ∧ W.cell? ⟨xb, xo + k * 8 + 1, none⟩ = some (.int .i64 l[k].dst) ∧ W.cell? ⟨xb, xo + k * 8 + 2, none⟩ = some (.int .i64 l[k].ord) ∧ W.cell? ⟨xb, xo + k * 8 + 3, none⟩ = some (.int .i64 l[k].step) ∧
          W.cell? ⟨xb, xo + k * 8 + 4, none⟩ = some (.int .i64 l[k].tr) ∧ W.cell? ⟨xb, xo + k * 8 + 5, none⟩ = some (.int .i64 l[k].kind) ∧ W.cell? ⟨xb, xo + k * 8 + 6, none⟩ = some (.int .i64 l[k].code) ∧ W.cell? ⟨xb, xo + k * 8 + 7, none⟩ = some (.string l[k].verb))) := fun W t => by
        obtain ⟨q0, _, _, q3⟩ := HK.out W (HT2.out.trans (T.trans t))
        obtain ⟨a0, a1, a2, a3, a4, a5, a6, a7⟩ := lt_cells (HR.out W (T.trans t)) hget
        obtain ⟨b0, b1, b2, b3, b4, b5, b6, b7⟩ := lt_cells q3 hget
        exact ⟨q0, a0, a1, a2, a3, a4, a5, a6, a7, b0, b1, b2, b3, b4, b5, b6, b7⟩
      have HREF : Hid (∀ W, Calls Try.prog 13 #[.agg #[.int .i64 l[k].id, .int .i64 l[k].dst, .int .i64 l[k].ord, .int .i64 l[k].step, .int .i64 l[k].tr, .int .i64 l[k].kind, .int .i64 l[k].code, .string l[k].verb]] W fun e w' => e = .returned (.agg #[.int .i64 l[k].id, .int .i64 l[k].dst, .int .i64 l[k].ord, .int .i64 l[k].step, .int .i64 l[k].tr, .int .i64 l[k].kind, .int .i64 l[k].code, .string l[k].verb]) ∧ Tch [] W w') := fun W => bref_any l[k] W
      have hneq := fun W => neq_rlt l[k].id l[k].dst l[k].ord l[k].step l[k].tr l[k].kind l[k].code l[k].verb W
      generalize l[k] = x at *
      generalize x.id = xid at *
      generalize x.dst = xdst at *
      generalize x.ord = xord at *
      generalize x.step = xstep at *
      generalize x.tr = xtr at *
      generalize x.kind = xkind at *
      generalize x.code = xcode at *
      generalize x.verb = xverb at *
      have HT := Lib.hid T
      have td : Tch [] wr wr.drew := (Tch.refl _ _).drew
      have hk0 : (0 : Int) ≤ (k : Int) := by omega
      have hk1 : (k : Int) < (l.length : Int) := by omega
      clear hget hrw hkw T
      go_wp2_with fail
      go_region_held3 (fun W => W.cell? ⟨rb, 0, none⟩ = some (.slice (some ⟨xb, xo, none⟩) l.length c) ∧ W.cell? ⟨lb, lo + k * 8, none⟩ = some (.int .i64 xid) ∧ W.cell? ⟨lb, lo + k * 8 + 1, none⟩ = some (.int .i64 xdst) ∧ W.cell? ⟨lb, lo + k * 8 + 2, none⟩ = some (.int .i64 xord) ∧ W.cell? ⟨lb, lo + k * 8 + 3, none⟩ = some (.int .i64 xstep) ∧
          W.cell? ⟨lb, lo + k * 8 + 4, none⟩ = some (.int .i64 xtr) ∧ W.cell? ⟨lb, lo + k * 8 + 5, none⟩ = some (.int .i64 xkind) ∧ W.cell? ⟨lb, lo + k * 8 + 6, none⟩ = some (.int .i64 xcode) ∧ W.cell? ⟨lb, lo + k * 8 + 7, none⟩ = some (.string xverb) ∧
          W.cell? ⟨xb, xo + k * 8, none⟩ = some (.int .i64 xid) ∧ W.cell? ⟨xb, xo + k * 8 + 1, none⟩ = some (.int .i64 xdst) ∧ W.cell? ⟨xb, xo + k * 8 + 2, none⟩ = some (.int .i64 xord) ∧ W.cell? ⟨xb, xo + k * 8 + 3, none⟩ = some (.int .i64 xstep) ∧
          W.cell? ⟨xb, xo + k * 8 + 4, none⟩ = some (.int .i64 xtr) ∧ W.cell? ⟨xb, xo + k * 8 + 5, none⟩ = some (.int .i64 xkind) ∧ W.cell? ⟨xb, xo + k * 8 + 6, none⟩ = some (.int .i64 xcode) ∧ W.cell? ⟨xb, xo + k * 8 + 7, none⟩ = some (.string xverb))
        (first | exact HS.out _ td | exact HS.out _ (td.trans t5))
        (first | (go_at_call 13; (with_reducible refine (HREF.out _).mono ?_); rintro e w5 ⟨rfl, t5⟩))
      have HG : Hid (CntRel w2 l.length (.int .i64 ((k + 1 : Nat) : Int)) w5) := ⟨k + 1, by omega, rfl, (HT.out.trans td).trans t5⟩
      clear hneq HREF HS t5 td
      go_wp2_with fail
      go_roundw
      case rel => exact HG.out
      case measure => simp [intOf]; omega
    · have hd : decide (k < l.length) = false := decide_eq_false hkl
      have HE := Lib.hid (HF.out wr (HT2.out.trans T))
      clear HF T HR HK HT2 HL1 HN1
      go_wp2_with fail
      first | exact HE.out | (go_ret; exact HE.out)
end Go.Proofs.Ytgdfbpgnknnkpaa
