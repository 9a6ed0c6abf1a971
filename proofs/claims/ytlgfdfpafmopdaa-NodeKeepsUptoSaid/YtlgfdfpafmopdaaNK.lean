/-
  The law NodeBack, walked: it answers true and turns nothing that was there, if package node answers as the document has it. Condition: lists and texts of fewer than 10^8 parts.
-/
import Derived.Test.YtlgfdfpafmopdaaNB
import Derived.Test.YtlgfdfpafmopdaaNq
namespace Go.Proofs.Ytlgfdfpafmopdaa
open Go.RowKit
set_option linter.unusedVariables false

theorem nil0_zers (n : Nat) : nil0 (List.replicate n 0) = true := by unfold nil0; rw [List.all_replicate]; simp
theorem nil0_one (l : List UInt8) : nil0 (l ++ [1]) = false := by unfold nil0; rw [List.all_append]; simp
theorem ba_app (a b : ByteArray) : (a ++ b).data.toList = a.data.toList ++ b.data.toList := Joins.data_append a b
theorem Nv.back {v : Nv} (ho : v.Ok) (hfit : v.fits = true) (z : List UInt8) : ddec (ndb v.leaf v.es ++ z) = if nil0 z then some (v.leaf, v.es) else none := by
  have hf := Nv.fine ho
  have hn := Nv.norm hfit
  refine ddec_ndb v.leaf v.es z (by rw [Nv.es_len]; have := ho.lk; omega) (fun e he => ⟨(hf e he).1, (hf e he).2.1, hn e he⟩) ?_
  unfold Nv.fits at hfit
  rw [Bool.and_eq_true] at hfit
  exact hfit.2
theorem Nv.short {v : Nv} (hfit : v.fits = true) : (ndb v.leaf v.es).length ≤ 1024 := by
  unfold Nv.fits fitN at hfit
  rw [Bool.and_eq_true, Bool.and_eq_true, Bool.and_eq_true] at hfit
  exact of_decide_eq_true hfit.2.1.2

end Go.Proofs.Ytlgfdfpafmopdaa
