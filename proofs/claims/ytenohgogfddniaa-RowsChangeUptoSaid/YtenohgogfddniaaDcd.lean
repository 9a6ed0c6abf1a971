/-
  Layer 6: 'Decode'. What is read has values that are fit for 'pairsOf'.
-/
import Derived.Test.YtenohgogfddniaaRrw
import Derived.Test.YtenohgogfddniaaPof
import Derived.Laws.StructEq
namespace Go.Proofs.Ytenohgogfddniaa
open Go.RowKit
set_option linter.unusedVariables false

theorem lt_of_cellR {W : World} {b o : Nat} {v : Value} (q0 : W.cell? ⟨b, o, none⟩ = some v) : b < W.heap.size := by
  unfold World.cell? at q0
  rcases h : W.heap[b]? with _ | x
  · simp [h] at q0
  · exact (Array.getElem?_eq_some_iff.1 h).1
set_option maxRecDepth 100000 in
theorem neq_pair (a b c d : ByteArray) (w : World) : (binOp .neq 28 (.agg #[.string a, .string b]) (.agg #[.string c, .string d])).run Try.prog w = .ok (.bool (!(a.data.toList == c.data.toList && b.data.toList == d.data.toList))) w := by
  rw [run_neq_struct, run_equalIn_struct _ _ _ _ _ (by kernel_rfl) (by kernel_rfl)]
  unfold Program.fieldsOf
  rw [Try.underlying28]
  have p0 : ∀ (a b : ByteArray) w, (part 9 #[.string a, .string b] 0).run Try.prog w = .ok (.string a) w := fun a b w => by kernel_rfl
  have p1 : ∀ (a b : ByteArray) w, (part 9 #[.string a, .string b] 1).run Try.prog w = .ok (.string b) w := fun a b w => by kernel_rfl
  have q0 : ∀ (s t : ByteArray) w, (Op.equalIn 9999 9 (.string s) (.string t)).run Try.prog w = .ok (s.data.toList == t.data.toList) w := fun s t w => by rw [run_equalIn_string w 9998 _ _ _ Try.underlying9, ByteArray.toList_eq, ByteArray.toList_eq]
  rcases h1 : (a.data.toList == c.data.toList) with _ | _
  · simp [Op.eqFields, p0, q0, h1, Result.andThen, -beq_iff_eq, -beq_eq_false_iff_ne]
  · rcases h2 : (b.data.toList == d.data.toList) with _ | _
    · simp [Op.eqFields, p0, p1, q0, h1, h2, Result.andThen, -beq_iff_eq, -beq_eq_false_iff_ne]
    · simp [Op.eqFields, p0, p1, q0, h1, h2, Result.andThen, -beq_iff_eq, -beq_eq_false_iff_ne]

theorem rtx_sizeR {L : List UInt8} {t : ByteArray} {n : Nat} (h : rtx L = (0, t, n)) : t.size ≤ L.length := by
  unfold rtx at h
  rcases hr : rdu L 0 0 with ⟨c, v, m⟩
  rw [hr] at h
  simp only at h
  split at h
  · simp only [Prod.mk.injEq] at h; omega
  · split at h
    · simp at h
    · simp only [Prod.mk.injEq] at h
      rw [← h.2.1]
      show (List.toArray _).size ≤ _
      rw [List.size_toArray, List.length_take, List.length_drop]
      omega
theorem rdKey_ok (k : Int) (L : List UInt8) (hL : L.length ≤ 1000000000) (h : (rdKey k L).1 = 0) : (rdKey k L).2.1.Ok := by
  unfold rdKey at h ⊢
  by_cases hk : k = 0
  · rw [if_pos hk] at h ⊢
    by_cases h8 : L.length < 8
    · rw [if_pos h8] at h; simp at h
    · rw [if_neg h8]
      have := beN_lt 8 (L.take 8) (by rw [List.length_take]; omega)
      have e : 256 ^ 8 = 18446744073709551616 := by decide
      rw [e] at this
      refine ⟨?_, ?_, by show (0 : Nat) ≤ _; omega⟩ <;> simp only [unord] <;> omega
  · rw [if_neg hk] at h ⊢
    by_cases hc : (Lib.cut L [0]).2.2 = true
    · rw [if_pos hc]
      have := cut_len L
      refine ⟨by simp only; omega, by simp only; omega, ?_⟩
      show (List.toArray _).size ≤ _
      rw [List.size_toArray]; omega
    · rw [if_neg hc] at h; simp at h
theorem rdField_ok (k : Int) (L : List UInt8) (hL : L.length ≤ 1000000000) (h : (rdField k L).1 = 0) : (rdField k L).2.1.Ok := by
  unfold rdField at h ⊢
  by_cases hk : k = 0
  · rw [if_pos hk] at h ⊢
    rcases hr : rdu L 0 0 with ⟨c, u, n⟩
    rw [hr] at h
    by_cases hc : c = 0
    · rw [if_pos hc]
      obtain ⟨h1, _⟩ := rdu_bound L 0 0 c u n hr (by decide) (by decide) hc
      obtain ⟨h2, h3⟩ := unzz_in h1
      exact ⟨h2, h3, by show (0 : Nat) ≤ _; omega⟩
    · rw [if_neg hc] at h; exact (hc h).elim
  · rw [if_neg hk] at h ⊢
    rcases hr : rtx L with ⟨c, s, n⟩
    rw [hr] at h
    simp only at h
    subst h
    have := rtx_sizeR hr
    exact ⟨by simp only; omega, by simp only; omega, by simp only; omega⟩
theorem rdAcc_ok (F : Int → List UInt8 → Int × Vl × Nat) (hF : ∀ k L, L.length ≤ 1000000000 → (F k L).1 = 0 → (F k L).2.1.Ok) (L : List UInt8) (hL : L.length ≤ 1000000000) : ∀ (ks : List Int) (p : Nat) (acc l : List Vl), (∀ x ∈ acc, x.Ok) → rdAcc F L ks p acc = some l → ∀ x ∈ l, x.Ok
  | [], p, acc, l, ha, h => by rw [rdAcc] at h; cases h; exact ha
  | k :: ks, p, acc, l, ha, h => by
    rw [rdAcc] at h
    split at h
    · rename_i h0
      refine rdAcc_ok F hF L hL ks _ _ l (fun x hx => ?_) h
      rcases List.mem_append.1 hx with hx | hx
      · exact ha x hx
      · rw [List.mem_singleton.1 hx]
        exact hF k _ (by rw [List.length_drop]; omega) h0
    · cases h
theorem rrowF_ok {t : Tb} {K V : List UInt8} {l : List Vl} (hK : K.length ≤ 1000000000) (hV : V.length ≤ 1000000000) (h : rrowF t K V = some l) : ∀ x ∈ l, x.Ok := by
  unfold rrowF at h
  split at h
  · split at h
    · cases h
    · rename_i ks hks
      rcases hv : rdAcc rdField V (t.cols.drop t.keys.toNat) 0 [] with _ | vs
      · rw [hv] at h; cases h
      · rw [hv] at h
        simp only [Option.map_some, Option.some.injEq] at h
        subst h
        intro x hx
        rcases List.mem_append.1 hx with hx | hx
        · exact rdAcc_ok rdKey rdKey_ok K hK _ _ _ _ (by simp) hks x hx
        · exact rdAcc_ok rdField rdField_ok V hV _ _ _ _ (by simp) hv x hx
  · cases h

/-- The row whose pair this is. -/
def decF (t : Tb) (K V : List UInt8) : Option (List Vl) :=
  match rrowF t K V with
  | none => none
  | some l => match pairsF t l with
    | none => none
    | some (k, v, _) => if k = K ∧ v = V then some l else none
def DcdPost (w : World) (res : Option (List Vl)) (e : Ending) (w' : World) : Prop :=
  match res with
  | none => e = .returned (.tuple #[.slice none 0 0, .int .i64 60]) ∧ Tch [] w w'
  | some l => ∃ x c, e = .returned (.tuple #[.slice x l.length c, .int .i64 0]) ∧ w'.ownsRow w.heap.size 58 2 (.slice x l.length c) l.length (l.flatMap fVl) ∧ Tch [] w w'

set_option maxRecDepth 100000 in
set_option maxHeartbeats 4000000 in
theorem decodeR_any (t : Tb) (a : Option Addr) (c b o : Nat) (K V : ByteArray) (w : World) (hk : IsKs w a t.cols.length b o t.cols) (hc : t.cols.length ≤ c) (hl : t.cols.length ≤ 1000000000) (hn : t.name < 256) (hK : K.size ≤ 1000000000) (hV : V.size ≤ 1000000000) (hm : MaxL w) :
    Calls Try.prog 12 #[t.agg a c, .agg #[.string K, .string V]] w (DcdPost w (decF t K.data.toList V.data.toList)) := by
  obtain ⟨W0, hW0⟩ : ∃ W0, W0 = (w.alloc (.cells #[.int .u8 t.name, .slice a t.cols.length c, .int .i64 t.keys, .int .i64 t.idx] 24)).alloc (.cells #[.string K, .string V] 28) := ⟨_, rfl⟩
  have T0 : Tch [] w W0 := by rw [hW0]; exact ((Tch.refl [] w).alloc _).alloc _
  have hb1 : W0.heap[w.heap.size]? = some (.cells #[.int .u8 t.name, .slice a t.cols.length c, .int .i64 t.keys, .int .i64 t.idx] 24 (0, 0)) := by rw [hW0]; exact blk_alloc (blk_new w _) _
  have hb2 : W0.heap[w.heap.size + 1]? = some (.cells #[.string K, .string V] 28 (0, 0)) := by
    have h := blk_new (w.alloc (.cells #[.int .u8 t.name, .slice a t.cols.length c, .int .i64 t.keys, .int .i64 t.idx] 24)) (.cells #[.string K, .string V] 28)
    rw [show (w.alloc (.cells #[.int .u8 t.name, .slice a t.cols.length c, .int .i64 t.keys, .int .i64 t.idx] 24)).heap.size = w.heap.size + 1 from Array.size_push _] at h
    rw [hW0]; exact h
  have HX : Hid (∀ W, Tch [] W0 W → W.cell? ⟨w.heap.size, 0, none⟩ = some (.int .u8 t.name) ∧ W.cell? ⟨w.heap.size, 1, none⟩ = some (.slice a t.cols.length c) ∧ W.cell? ⟨w.heap.size, 2, none⟩ = some (.int .i64 t.keys) ∧ W.cell? ⟨w.heap.size, 3, none⟩ = some (.int .i64 t.idx) ∧
      W.cell? ⟨w.heap.size + 1, 0, none⟩ = some (.string K) ∧ W.cell? ⟨w.heap.size + 1, 1, none⟩ = some (.string V)) := fun W t3 => by
    have h1 := t3.keep hb1 (by simp)
    have h2 := t3.keep hb2 (by simp)
    exact ⟨by rw [blk_cell h1]; rfl, by rw [blk_cell h1]; rfl, by rw [blk_cell h1]; rfl, by rw [blk_cell h1]; rfl, by rw [blk_cell h2]; rfl, by rw [blk_cell h2]; rfl⟩
  have HRR := Lib.hid (readRow_any t a c b o K V W0 (hk.keep0 T0) hc hl hn hK hV (hm.keep T0))
  have HOK : Hid (∀ l, rrowF t K.data.toList V.data.toList = some l → ∀ x ∈ l, x.Ok) := fun l h => rrowF_ok (by rw [← Lib.size_eq]; exact hK) (by rw [← Lib.size_eq]; exact hV) h
  have HOF : Hid (∀ W l x cc, (∀ x ∈ l, Vl.Ok x) → Tch [] w W → W.ownsRow W0.heap.size 58 2 (.slice x l.length cc) l.length (l.flatMap fVl) → Calls Try.prog 17 #[t.agg a c, .slice x l.length cc] W (PofPost W t l)) := fun W l x cc hok t3 ho => by
    obtain ⟨rb, hr, _, _⟩ := IsR.own (f := fVl) (sz := 2) (fun _ => rfl) ho rfl
    exact pairsOf_any t a c b o l x cc rb 0 W (hk.keep0 t3) hr hc (own_cap ho) hl hn hok
  have HDF : Hid (decF t K.data.toList V.data.toList = match rrowF t K.data.toList V.data.toList with
    | none => none
    | some l => match pairsF t l with
      | none => none
      | some (k, v, _) => if k = K.data.toList ∧ v = V.data.toList then some l else none) := rfl
  have HNO : Hid (∀ W, decF t K.data.toList V.data.toList = none → Tch [] w W → DcdPost w (decF t K.data.toList V.data.toList) (.returned (.tuple #[.slice none 0 0, .int .i64 60])) W) := fun W h t => by
    rw [h]; exact ⟨rfl, t⟩
  have HYES : Hid (∀ W x c' l, decF t K.data.toList V.data.toList = some l → W.ownsRow w.heap.size 58 2 (.slice x l.length c') l.length (l.flatMap fVl) → Tch [] w W → DcdPost w (decF t K.data.toList V.data.toList) (.returned (.tuple #[.slice x l.length c', .int .i64 0])) W) := fun W x c' l h ho t => by
    rw [h]; exact ⟨x, c', rfl, ho, t⟩
  generalize hQ : DcdPost w (decF t K.data.toList V.data.toList) = Q at HNO HYES ⊢
  generalize decF t K.data.toList V.data.toList = DF at *
  generalize rrowF t K.data.toList V.data.toList = RF at *
  have HT0 := Lib.hid T0
  clear hb1 hb2 T0 hQ hk hm
  unfold Tb.agg at *
  go_enter Try.func12, Try.ntmps12
  go_upto_region 1 with fail
  rw [← hW0]
  clear hW0
  obtain ⟨x0, x1, x2, x3, x4, x5⟩ := HX.out W0 (Tch.refl _ _)
  cases RF with
  | none =>
    go_wp2_with fail
    refine HRR.out.mono ?_
    rintro e w1 ⟨⟨x, n, c', rfl⟩, t1⟩
    clear x0 x1 x2 x3 x4 x5 HRR HX HOK HOF
    have HE := Lib.hid (HNO.out w1 (by rw [HDF.out]) (HT0.out.trans t1))
    clear HNO HYES t1 HDF
    go_wp2_with fail
    first | exact HE.out | (go_ret2; exact HE.out)
  | some l =>
    go_wp2_with fail
    refine HRR.out.mono ?_
    rintro e w1 ⟨x, c', rfl, ho, t1⟩
    clear x0 x1 x2 x3 x4 x5 HRR
    have HO := Lib.hid ho
    have HC := Lib.hid (HOF.out w1 l x c' (HOK.out l rfl) (HT0.out.trans t1) ho)
    obtain ⟨x0, x1, x2, x3, x4, x5⟩ := HX.out w1 t1
    have HT1 := Lib.hid t1
    clear ho t1 HOK HOF
    go_wp2_with fail
    refine HC.out.mono ?_
    rintro e w2 ⟨rfl, t2⟩
    clear x0 x1 x2 x3 x4 x5 HC
    obtain ⟨x0, x1, x2, x3, x4, x5⟩ := HX.out w2 (HT1.out.trans t2)
    have T2 := Lib.hid ((HT0.out.trans HT1.out).trans t2)
    have hg2 : w.heap.size + 1 < w2.heap.size := lt_of_cellR x5
    have HO2 := Lib.hid (own_base (own_keep HO.out t2 (fun _ _ => by simp)) (show w.heap.size ≤ W0.heap.size from HT0.out.size))
    clear HO HT1 t2 HX
    rcases hp : pairsF t l with _ | ⟨k, v, y⟩
    · simp only [pofE, vPrs]
      have HE := Lib.hid (HNO.out (w2.alloc (.cells #[.string ⟨#[]⟩, .string ⟨#[]⟩, .string ⟨#[]⟩, .string ⟨#[]⟩] 61)) (by rw [HDF.out]; simp only [hp]) (T2.out.alloc _))
      clear HNO HYES HDF hp T2 HO2
      go_wp2_with fail
      first | exact HE.out | (go_ret2; exact HE.out)
    · simp only [pofE, vPrs]
      have HNE : ∀ W, (binOp .neq 28 (.agg #[.string ⟨k.toArray⟩, .string ⟨v.toArray⟩]) (.agg #[.string K, .string V])).run Try.prog W = .ok (.bool (!(k == K.data.toList && v == V.data.toList))) W := fun W => by
        have := neq_pair ⟨k.toArray⟩ ⟨v.toArray⟩ K V W
        simpa only [List.toList_toArray] using this
      obtain ⟨W3, hW3⟩ : ∃ W3, W3 = w2.alloc (.cells #[.string ⟨k.toArray⟩, .string ⟨v.toArray⟩, .string ⟨y.toArray⟩, .string ⟨#[]⟩] 61) := ⟨_, rfl⟩
      rcases hq : (k == K.data.toList && v == V.data.toList) with _ | _
      · rw [hq] at HNE
        have HE := Lib.hid (HNO.out (w2.alloc (.cells #[.string ⟨k.toArray⟩, .string ⟨v.toArray⟩, .string ⟨y.toArray⟩, .string ⟨#[]⟩] 61)) (by
          rw [HDF.out]; simp only [hp]
          rw [if_neg]
          rintro ⟨rfl, rfl⟩
          simp at hq) (T2.out.alloc _))
        clear HNO HYES HDF hp T2 HO2 hq hW3
        go_wp2_with fail
        first | exact HE.out | (go_ret2; exact HE.out)
      · rw [hq] at HNE
        have HE := Lib.hid (HYES.out (w2.alloc (.cells #[.string ⟨k.toArray⟩, .string ⟨v.toArray⟩, .string ⟨y.toArray⟩, .string ⟨#[]⟩] 61)) x c' l (by
          rw [HDF.out]; simp only [hp]
          simp only [Bool.and_eq_true, beq_iff_eq] at hq
          rw [if_pos hq]) (own_keep HO2.out ((Tch.refl [] w2).alloc _) (fun _ _ => by simp)) (T2.out.alloc _))
        clear HNO HYES HDF hp T2 HO2 hq hW3
        go_wp2_with fail
        first | exact HE.out | (go_ret2; exact HE.out)
end Go.Proofs.Ytenohgogfddniaa
