/-
  What a row's pair is read as: the row.
-/
import Derived.Test.YtenohgogfddniaaRdl
namespace Go.Proofs.Ytenohgogfddniaa
open Go.RowKit
set_option linter.unusedVariables false

theorem ib_front : ∀ (s rest : List UInt8), (0 : UInt8) ∉ s → Lib.indexByte (s ++ 0 :: rest) 0 = s.length
  | [], rest, _ => by simp [Lib.indexByte]
  | a :: s, rest, h => by
    have h1 : ¬ a = 0 := fun e => h (by rw [e]; simp)
    have h2 := ib_front s rest (fun e => h (by simp [e]))
    rw [List.cons_append, Lib.indexByte, h2]
    rw [show (a == 0) = false from beq_false_of_ne h1]
    have h3 : ((s.length : Int) == -1) = false := by apply beq_false_of_ne; omega
    rw [h3]
    simp
theorem cut_front (s rest : List UInt8) (h : (0 : UInt8) ∉ s) : (Lib.cut (s ++ 0 :: rest) [0]).1 = s ∧ (Lib.cut (s ++ 0 :: rest) [0]).2.2 = true := by
  have hi : Lib.index (s ++ 0 :: rest) [0] = s.length := by rw [Lib.index_one]; exact ib_front s rest h
  unfold Lib.cut
  rw [hi, if_pos (by omega)]
  simp
theorem rtx_txR (s : ByteArray) (r : List UInt8) (hs : s.size ≤ 1000000000) : rtx (tx s ++ r) = (0, s, (tx s).length) := by
  unfold rtx tx
  rw [List.append_assoc, rdu_ub64 _ (by omega)]
  simp only [ne_eq, not_true_eq_false, if_false]
  rw [if_neg (by rw [List.length_append, List.length_append, ← Lib.size_eq]; omega), List.drop_left]
  rw [Lib.size_eq, List.take_left, List.length_append]
theorem empty_of {s : ByteArray} (h : s.toList.isEmpty = true) : s = ⟨#[]⟩ := by
  apply ba_ext
  rw [ByteArray.toList_eq] at h
  simpa using h
/-- Is the value as those of a column of that kind (in a key: without zero bytes). -/
def fitV (key : Bool) (k : Int) (x : Vl) : Prop := x.Ok ∧ ((k = 0 ∧ x.s = ⟨#[]⟩) ∨ (k = 1 ∧ x.n = 0 ∧ (key = true → (0 : UInt8) ∉ x.s.data.toList)))
theorem rdKey_form {k : Int} {x : Vl} (h : fitV true k x) (rest : List UInt8) : rdKey k (kform k x ++ rest) = (0, x, (kform k x).length) := by
  obtain ⟨⟨h1, h2, h3⟩, ⟨rfl, hs⟩ | ⟨rfl, hn, hz⟩⟩ := h
  · unfold rdKey kform
    rw [if_pos rfl, if_pos rfl, if_neg (by rw [List.length_append, ord_len]; omega)]
    have e : (ord x.n ++ rest).take 8 = ord x.n := by
      have := List.take_left (l₁ := ord x.n) (l₂ := rest)
      rwa [ord_len] at this
    rw [e, unord_ord h1 h2, ord_len, ← hs]
  · have e : kform 1 x = x.s.data.toList ++ [0] := by unfold kform; rw [if_neg (by decide)]
    rw [e, List.append_assoc, List.singleton_append]
    obtain ⟨c1, c2⟩ := cut_front x.s.data.toList rest (hz rfl)
    unfold rdKey
    rw [if_neg (show ¬ (1 : Int) = 0 by decide), if_pos c2, c1, byt_self, List.length_append, ← hn]
    rfl
theorem rdField_form {k : Int} {x : Vl} (h : fitV false k x) (rest : List UInt8) : rdField k (fform k x ++ rest) = (0, x, (fform k x).length) := by
  obtain ⟨⟨h1, h2, h3⟩, ⟨rfl, hs⟩ | ⟨rfl, hn, hz⟩⟩ := h
  · unfold rdField fform
    rw [if_pos rfl, if_pos rfl, rdu_ub64 _ (zz_lt h1 h2)]
    simp only [if_true]
    rw [unzz_zz, ← hs]
  · unfold rdField fform
    rw [if_neg (by decide), if_neg (by decide), rtx_txR _ _ h3]
    simp only
    rw [← hn]
theorem rd_joined (F : Int → List UInt8 → Int × Vl × Nat) (G : Int → Vl → List UInt8) (P : Int → Vl → Prop) (hF : ∀ k x rest, P k x → F k (G k x ++ rest) = (0, x, (G k x).length)) :
    ∀ (ks : List Int) (xs : List Vl) (pre post : List UInt8) (acc : List Vl), ks.length = xs.length → (∀ (i : Nat) k x, ks[i]? = some k → xs[i]? = some x → P k x) → rdAcc F (pre ++ (joinF G ks xs ++ post)) ks pre.length acc = some (acc ++ xs)
  | [], [], pre, post, acc, _, _ => by simp [rdAcc]
  | [], _ :: _, _, _, _, h, _ => by simp at h
  | _ :: _, [], _, _, _, h, _ => by simp at h
  | k :: ks, x :: xs, pre, post, acc, h, hp => by
    have h1 := hF k x (joinF G ks xs ++ post) (hp 0 k x rfl rfl)
    rw [rdAcc, joinF, List.drop_left, List.append_assoc, h1]
    simp only [if_true]
    have h2 := rd_joined F G P hF ks xs (pre ++ G k x) post (acc ++ [x]) (by simpa using h) (fun i k' x' a b => hp (i + 1) k' x' (by simpa using a) (by simpa using b))
    rw [List.length_append, List.append_assoc, List.append_assoc] at h2
    rw [h2]; simp
theorem hasV_at {t : Tb} {r : List Vl} (h : hasV t r = true) {i : Nat} {k : Int} {x : Vl} (hk : t.cols[i]? = some k) (hx : r[i]? = some x) : okV t i k x = true := by
  rcases ho : okV t i k x with _ | _
  · have := hasV_bad hk hx ho
    rw [h] at this; cases this
  · rfl
theorem fitV_of {t : Tb} {i : Nat} {k : Int} {x : Vl} {key : Bool} (hk : k = 0 ∨ k = 1) (hx : x.Ok) (ho : okV t i k x = true) (hin : key = true → inK t i = true) : fitV key k x := by
  refine ⟨hx, ?_⟩
  unfold okV at ho
  simp only [Bool.and_eq_true] at ho
  obtain ⟨h1, h2⟩ := ho
  rcases hk with rfl | rfl
  · left
    refine ⟨rfl, empty_of ?_⟩
    simpa using h2
  · right
    refine ⟨rfl, by simpa using h2, fun hkk => ?_⟩
    rw [hin hkk] at h1
    refine zero_notR ?_
    simpa using h1
theorem read_back {t : Tb} {r : List Vl} {k v x : List UInt8} (h : pairsF t r = some (k, v, x)) (hok : ∀ y ∈ r, y.Ok) : decF t k v = some r := by
  have hp := h
  have hfit := (pairsF_fit h).1
  have hv := (pairsF_fit h).2
  have hlen := pairsF_len h
  obtain ⟨k1, k2, _, _⟩ := tfit_keys hfit
  unfold pairsF at h
  split at h
  · simp only [Option.some.injEq, Prod.mk.injEq] at h
    obtain ⟨hk, hvv, _⟩ := h
    have e1 : rdAcc rdKey k (t.cols.take t.keys.toNat) 2 [] = some (r.take t.keys.toNat) := by
      have := rd_joined rdKey kform (fitV true) (fun _ _ rest h => rdKey_form h rest) (t.cols.take t.keys.toNat) (r.take t.keys.toNat) (tbegin t 0) [] [] (by rw [List.length_take, List.length_take, hlen]) (fun i kk y a b => by
        rw [List.getElem?_take] at a b
        split at a
        · rename_i hi
          rw [if_pos hi] at b
          exact fitV_of (tfit_kind hfit a) (hok y (List.mem_of_getElem? b)) (hasV_at hv a b) (fun _ => by unfold inK; rw [decide_eq_true (show (i : Int) < t.keys by omega)]; rfl)
        · cases a)
      rw [List.append_nil, List.nil_append] at this
      rw [← hk]; exact this
    have e2 : rdAcc rdField v (t.cols.drop t.keys.toNat) 0 [] = some (r.drop t.keys.toNat) := by
      have := rd_joined rdField fform (fitV false) (fun _ _ rest h => rdField_form h rest) (t.cols.drop t.keys.toNat) (r.drop t.keys.toNat) [] [] [] (by rw [List.length_drop, List.length_drop, hlen]) (fun i kk y a b => by
        rw [List.getElem?_drop] at a b
        exact fitV_of (tfit_kind hfit a) (hok y (List.mem_of_getElem? b)) (hasV_at hv a b) (fun h => by cases h))
      rw [List.append_nil, List.nil_append, List.nil_append] at this
      rw [← hvv]; exact this
    have e3 : (tfit t && Lib.hasPrefix k (tbegin t 0)) = true := by
      rw [hfit, Bool.true_and]
      unfold Lib.hasPrefix
      rw [← hk]
      exact List.isPrefixOf_iff_prefix.2 (List.prefix_append _ _)
    unfold decF rrowF
    rw [if_pos e3, e1, e2]
    simp only [Option.map_some, List.take_append_drop]
    rw [hp]
    simp
  · cases h
end Go.Proofs.Ytenohgogfddniaa
