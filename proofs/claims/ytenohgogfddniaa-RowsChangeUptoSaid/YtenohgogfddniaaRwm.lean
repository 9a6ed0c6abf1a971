/-
  Plain notions of layer 6 (rows), of no program: numbers with a sign as bytes ('zz', 'ord'), a table, a value, the forms of values and a row's pair.
-/
import Derived.Test.YtenohgogfddniaaTo
namespace Go.Proofs.Ytenohgogfddniaa
set_option linter.unusedVariables false

/-- A number with a sign as one without. -/
def zz (v : Int) : Nat := if v < 0 then (-2 * v - 1).toNat else (2 * v).toNat
theorem zz_lt {v : Int} (h1 : -9223372036854775808 ≤ v) (h2 : v < 9223372036854775808) : zz v < 18446744073709551616 := by unfold zz; split <;> omega
theorem zz_inj {u v : Int} (h : zz u = zz v) : u = v := by unfold zz at h; split at h <;> split at h <;> omega
/-- The last k bytes of a number, the greatest ahead. -/
def beb : Nat → Nat → List UInt8
  | 0, _ => []
  | k + 1, u => beb k (u / 256) ++ [UInt8.ofNat (u % 256)]
theorem beb_len : ∀ (k u : Nat), (beb k u).length = k
  | 0, _ => rfl
  | k + 1, u => by rw [beb, List.length_append, beb_len]; rfl
/-- The ordered form. -/
def ordN (v : Int) : Nat := (v + 9223372036854775808).toNat
def ord (v : Int) : List UInt8 := beb 8 (ordN v)
theorem ord_len (v : Int) : (ord v).length = 8 := beb_len 8 _
theorem bl_cons (a b : UInt8) (x y : List UInt8) : Go.Op.bytesLess (a :: x) (b :: y) = (decide (a < b) || (decide (a = b) && Go.Op.bytesLess x y)) := by
  rw [Go.Op.bytesLess]
  by_cases h : a < b
  · simp [h]
  · by_cases h2 : b < a
    · have : a ≠ b := fun e => by subst e; exact h h2
      simp [h, this]
    · have : a = b := by
        apply UInt8.toNat_inj.1
        have h3 : ¬ a.toNat < b.toNat := h
        have h4 : ¬ b.toNat < a.toNat := h2
        omega
      subst this
      simp [h]
theorem bl_same : ∀ (x y z : List UInt8), Go.Op.bytesLess (x ++ y) (x ++ z) = Go.Op.bytesLess y z
  | [], _, _ => rfl
  | a :: x, y, z => by
    rw [List.cons_append, List.cons_append, bl_cons, bl_same x]
    have : ¬ a < a := by intro h; have h2 : a.toNat < a.toNat := h; omega
    simp [this]
theorem bl_fore : ∀ (a b x y : List UInt8), a.length = b.length → a ≠ b → Go.Op.bytesLess (a ++ x) (b ++ y) = Go.Op.bytesLess a b
  | [], [], _, _, _, h => (h rfl).elim
  | [], _ :: _, _, _, h, _ => by simp at h
  | _ :: _, [], _, _, h, _ => by simp at h
  | a :: l, b :: m, x, y, h, h2 => by
    rw [List.cons_append, List.cons_append, bl_cons, bl_cons]
    by_cases e : a = b
    · subst e
      rw [bl_fore l m x y (by simpa using h) (fun e => h2 (by rw [e]))]
    · simp [e]
theorem beb_inj : ∀ (k u v : Nat), u < 256 ^ k → v < 256 ^ k → beb k u = beb k v → u = v
  | 0, u, v, hu, hv, _ => by simp at hu hv; omega
  | k + 1, u, v, hu, hv, h => by
    rw [beb, beb] at h
    have h1 := List.append_inj h (by rw [beb_len, beb_len])
    rw [Nat.pow_succ] at hu hv
    have h2 := beb_inj k (u / 256) (v / 256) (by omega) (by omega) h1.1
    have h3 : (UInt8.ofNat (u % 256)).toNat = (UInt8.ofNat (v % 256)).toNat := by rw [List.singleton_inj.1 h1.2]
    simp at h3
    omega
theorem beb_bl : ∀ (k u v : Nat), u < 256 ^ k → v < 256 ^ k → Go.Op.bytesLess (beb k u) (beb k v) = decide (u < v)
  | 0, u, v, hu, hv => by simp at hu hv; subst hu hv; rfl
  | k + 1, u, v, hu, hv => by
    rw [beb, beb]
    rw [Nat.pow_succ] at hu hv
    by_cases e : u / 256 = v / 256
    · rw [e, bl_same, bl_cons]
      have h1 : decide (UInt8.ofNat (u % 256) < UInt8.ofNat (v % 256)) = decide (u % 256 < v % 256) := by
        apply decide_eq_decide.2
        rw [UInt8.lt_iff_toNat_lt]
        simp
      rw [h1]
      have h2 : Go.Op.bytesLess [] [] = false := rfl
      rw [h2, Bool.and_false, Bool.or_false]
      apply decide_eq_decide.2
      omega
    · rw [bl_fore _ _ _ _ (by rw [beb_len, beb_len]) (fun h => e (beb_inj k _ _ (by omega) (by omega) h)), beb_bl k _ _ (by omega) (by omega)]
      apply decide_eq_decide.2
      omega
theorem ordN_lt {v : Int} (h1 : -9223372036854775808 ≤ v) (h2 : v < 9223372036854775808) : ordN v < 256 ^ 8 := by
  have : (256 : Nat) ^ 8 = 18446744073709551616 := by decide
  unfold ordN; omega
/-- The ordered forms are in order as the numbers are, whatever stands behind them. -/
theorem ord_bl {u v : Int} (x y : List UInt8) (hu1 : -9223372036854775808 ≤ u) (hu2 : u < 9223372036854775808) (hv1 : -9223372036854775808 ≤ v) (hv2 : v < 9223372036854775808) :
    Go.Op.bytesLess (ord u ++ x) (ord v ++ y) = (decide (u < v) || (decide (u = v) && Go.Op.bytesLess x y)) := by
  by_cases e : u = v
  · subst e
    rw [bl_same]
    simp
  · have hn : ordN u ≠ ordN v := by unfold ordN; omega
    rw [ord, ord, bl_fore _ _ _ _ (by rw [beb_len, beb_len]) (fun h => hn (beb_inj 8 _ _ (ordN_lt hu1 hu2) (ordN_lt hv1 hv2) h)), beb_bl 8 _ _ (ordN_lt hu1 hu2) (ordN_lt hv1 hv2)]
    simp only [e, decide_false, Bool.false_and, Bool.or_false]
    apply decide_eq_decide.2
    unfold ordN; omega
theorem ord_inj {u v : Int} (hu1 : -9223372036854775808 ≤ u) (hu2 : u < 9223372036854775808) (hv1 : -9223372036854775808 ≤ v) (hv2 : v < 9223372036854775808) (h : ord u = ord v) : u = v := by
  have := beb_inj 8 _ _ (ordN_lt hu1 hu2) (ordN_lt hv1 hv2) h
  unfold ordN at this; omega
/-- Texts without a zero byte, each with one behind it: the order is that of the texts. -/
theorem bl_ends : ∀ (x y a b : List UInt8), (0 : UInt8) ∉ x → (0 : UInt8) ∉ y → Go.Op.bytesLess (x ++ 0 :: a) (y ++ 0 :: b) = (Go.Op.bytesLess x y || (decide (x = y) && Go.Op.bytesLess a b))
  | [], [], a, b, _, _ => by
    rw [List.nil_append, List.nil_append, bl_cons]
    have h1 : Go.Op.bytesLess [] [] = false := rfl
    simp [h1]
  | [], c :: y, a, b, _, hy => by
    have hc : c ≠ 0 := fun e => hy (by simp [e])
    have h0 : (0 : UInt8) < c := by
      rw [UInt8.lt_iff_toNat_lt]
      have : c.toNat ≠ 0 := fun e => hc (UInt8.toNat_inj.1 (by simpa using e))
      have e0 : (0 : UInt8).toNat = 0 := rfl
      omega
    rw [List.nil_append, List.cons_append, bl_cons]
    have h1 : Go.Op.bytesLess [] (c :: y) = true := rfl
    rw [h1, decide_eq_true h0]; rfl
  | c :: x, [], a, b, hx, _ => by
    have hc : c ≠ 0 := fun e => hx (by simp [e])
    have h0 : ¬ c < (0 : UInt8) := by
      rw [UInt8.lt_iff_toNat_lt]
      have e0 : (0 : UInt8).toNat = 0 := rfl
      omega
    rw [List.nil_append, List.cons_append, bl_cons]
    have h1 : Go.Op.bytesLess (c :: x) [] = false := rfl
    rw [h1, decide_eq_false h0, decide_eq_false hc]; simp
  | c :: x, d :: y, a, b, hx, hy => by
    rw [List.cons_append, List.cons_append, bl_cons, bl_cons, bl_ends x y a b (fun h => hx (List.mem_cons_of_mem _ h)) (fun h => hy (List.mem_cons_of_mem _ h))]
    by_cases e : c = d
    · subst e
      have h2 : ¬ c < c := by intro h; have h2 : c.toNat < c.toNat := h; omega
      simp [h2]
    · simp [e]
end Go.Proofs.Ytenohgogfddniaa
