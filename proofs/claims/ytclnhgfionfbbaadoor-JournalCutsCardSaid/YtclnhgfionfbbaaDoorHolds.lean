/-
  'holds' of chandlerlaw03: has the journal just these sectors? Conditions: the journal is one that Open makes, over a disk with the power on; the texts are at most 1024 bytes.
-/
import Derived.Test.YtclnhgfionfbbaaDoorRooms
import Derived.Test.YtclnhgfionfbbaaDoorRowsIn
namespace Go.Proofs.YtclnhgfionfbbaaDoor
open Go.RowKit
set_option linter.unusedVariables false

theorem pad_tail (x : ByteArray) (hx : x.size ≤ 1024) (j : Nat) (hj : x.size ≤ j) (h : j < (pad x).size) : (pad x)[j]'h = 0 := by
  have h2 : j < 1024 := by rw [pad_size x hx] at h; exact h
  have e : (pad x).data.toList[j]? = some 0 := by
    show ((x.data.toList ++ List.replicate (1024 - x.size) 0).toArray).toList[j]? = some 0
    rw [List.toList_toArray, List.getElem?_append_right (by rw [← Lib.size_eq]; exact hj), ← Lib.size_eq, List.getElem?_replicate, if_pos (by omega)]
  have e2 := (List.getElem?_eq_some_iff.1 e).2
  rw [← e2, Array.getElem_toList]
  rfl

/-- Block g is a row of texts. -/
def IsTx (w : World) (g : Nat) (ws : List ByteArray) : Prop := w.heap[g]? = some (.cells (ws.map Value.string).toArray 9 (0, 0))
theorem IsTx.keep {w w' : World} {g : Nat} {ws : List ByteArray} {L : List Nat} (h : IsTx w g ws) (t : Tch L w w') (hn : g ∉ L) : IsTx w' g ws := t.keep h hn
theorem IsTx.at_ {w : World} {g : Nat} {ws : List ByteArray} (h : IsTx w g ws) (k : Nat) (hk : k < ws.length) : w.cell? ⟨g, k, none⟩ = some (.string (ws.getD k ⟨#[]⟩)) := by
  rw [blk_cell h k, List.getD_eq_getElem?_getD, List.getElem?_eq_getElem hk]
  simp [hk]
theorem IsTx.lt {w : World} {g : Nat} {ws : List ByteArray} (h : IsTx w g ws) : g < w.heap.size := lt_of_block h
/-- Has the disk just these sectors? -/
def HasS (D : Ds) (room : Nat) (ws : List ByteArray) : Prop := ∀ i, i < ws.length → pad (D.texts.getD (room + 1 + i) ⟨#[]⟩) = pad (ws.getD i ⟨#[]⟩)
noncomputable def holdsB (D : Ds) (room : Nat) (ws : List ByteArray) : Bool := @decide (HasS D room ws) (Classical.propDecidable _)
theorem holdsB_yes {D : Ds} {room : Nat} {ws : List ByteArray} (h : HasS D room ws) : holdsB D room ws = true := by unfold holdsB; simp [h]
theorem holdsB_no {D : Ds} {room : Nat} {ws : List ByteArray} (h : ¬ HasS D room ws) : holdsB D room ws = false := by unfold holdsB; simp [h]

/-- A text that begins with t, zero bytes behind, of 1024 bytes, is t with zero bytes behind. -/
theorem pad_eq {x t : ByteArray} (hx : x.size = 1024) (ht : t.size ≤ 1024) (h1 : x.extract 0 t.size = t) (h2 : ∀ j (h : j < x.size), t.size ≤ j → x[j]'h = 0) : x = pad t := by
  have hl : x.data.toList.length = 1024 := by rw [← Lib.size_eq]; exact hx
  apply ba_ext
  show _ = (t.data.toList ++ List.replicate (1024 - t.size) 0).toArray.toList
  rw [List.toList_toArray]
  have e1 : x.data.toList.take t.size = t.data.toList := by
    have := congrArg (fun y : ByteArray => y.data.toList) h1
    simp only [Lib.extract_data, List.drop_zero, Nat.sub_zero] at this
    exact this
  conv => lhs; rw [← List.take_append_drop t.size x.data.toList, e1]
  congr 1
  apply List.ext_getElem
  · rw [List.length_drop, hl, List.length_replicate]
  · intro i h3 h4
    rw [List.getElem_drop, List.getElem_replicate]
    rw [List.length_drop, hl] at h3
    exact h2 (t.size + i) (by omega) (by omega)

def HoRel (w : World) (b bs room : Nat) (D : Ds) (ws : List ByteArray) (v12 : Value) (wr : World) : Prop :=
  ∃ k : Nat, k ≤ ws.length ∧ v12 = .int .i64 k ∧ IsDs wr b bs D ∧ (∀ i, i < k → pad (D.texts.getD (room + 1 + i) ⟨#[]⟩) = pad (ws.getD i ⟨#[]⟩)) ∧ Tch [b] w wr

set_option maxRecDepth 100000 in
set_option maxHeartbeats 2000000 in
theorem holds_any (jb b bs room g cap : Nat) (D : Ds) (ws : List ByteArray) (w : World) (h : IsJn w jb b room) (hd0 : IsDs w b bs D) (hj : jb ≠ b ∧ jb ≠ bs) (hr : room ≤ 500) (hon : D.on = true) (hg : IsTx w g ws) (hgb : g ≠ b) (hlen : room + 1 + ws.length ≤ D.texts.length) (hsz : ∀ i, (ws.getD i ⟨#[]⟩).size ≤ 1024) :
    Calls Tryd.prog 17 #[.pointer (some ⟨jb, 0, none⟩), .slice (some ⟨g, 0, none⟩) ws.length cap] w fun e w' => e = .returned (.bool (holdsB D room ws)) ∧ (IsDs w' b bs D ∧ Tch [b] w w') := by
  have hl6 := hd0.len
  have hlt := hd0.lt
  have HJN : Hid (∀ wr, Tch [b] w wr → IsJn wr jb b room) := fun wr t => h.keep t (by simp; exact hj.1)
  have HTX : Hid (∀ wr, Tch [b] w wr → IsTx wr g ws) := fun wr t => hg.keep t (by simp; exact hgb)
  have HSZ := Lib.hid hsz
  have HON := Lib.hid hon
  clear hsz hon h hg
  go_enter Tryd.func17, Tryd.ntmps17
  go_wp2_with fail
  go_loopw [12] (fun v12 wr => HoRel w b bs room D ws v12 wr) (fun v12 _ => ws.length - (intOf v12).toNat)
  case atStart => exact ⟨0, by omega, rfl, hd0, fun i hi => by omega, Tch.refl _ _⟩
  case round =>
    obtain ⟨k, hk, rfl, hd, heq, T⟩ := hrel
    by_cases hkl : k < ws.length
    · have hck := (HTX.out wr T).at_ k hkl
      have hts := HSZ.out k
      have hps := pad_size _ (seen_size hd (room + 1 + k))
      have hja : Hid (jrtext room D k = pad (D.texts.getD (room + 1 + k) ⟨#[]⟩) ∧ jrcode room D k = 0) := by
        have hjl : k < jlen D room := by unfold jlen; omega
        constructor
        · unfold jrtext
          rw [if_neg (by omega), (rd_in (D := D) (i := (room : Int) + 1 + (k : Int)) HON.out (by omega) (by omega)).2, show ((room : Int) + 1 + (k : Int)).toNat = room + 1 + k from by omega]
        · unfold jrcode
          rw [if_neg (by omega), (rd_in (D := D) (i := (room : Int) + 1 + (k : Int)) HON.out (by omega) (by omega)).1]
      have HR := Lib.hid (jread_any jb b bs room D k wr (HJN.out wr T) hd hr)
      rw [hja.out.1, hja.out.2] at HR
      clear hja
      by_cases hpe : pad (D.texts.getD (room + 1 + k) ⟨#[]⟩) = pad (ws.getD k ⟨#[]⟩)
      · have HEQ : Hid (∀ i, i < k + 1 → pad (D.texts.getD (room + 1 + i) ⟨#[]⟩) = pad (ws.getD i ⟨#[]⟩)) := fun i hi => by
          by_cases hik : i = k
          · subst hik; exact hpe
          · exact heq i (by omega)
        rw [hpe] at HR hps
        have hpc := pad_cut _ hts
        have HPT := Lib.hid (fun j (hj : (ws.getD k ⟨#[]⟩).size ≤ j) h => pad_tail (ws.getD k ⟨#[]⟩) hts j hj h)
        clear hpe heq hd
        generalize ws.getD k ⟨#[]⟩ = t at hck hts HR hps hpc HPT
        generalize pad t = x at HR hps hpc HPT
        go_wp2_with fail
        refine HR.out.mono ?_
        rintro e w5 ⟨rfl, hd5, t5⟩
        go_wp2
        go_loop [9] (fun v9 => ∃ j : Nat, t.size ≤ j ∧ j ≤ 1024 ∧ v9 = .int .i64 j) (fun v9 => 1024 - (intOf v9).toNat)
        case atStart => exact ⟨t.size, Nat.le_refl _, hts, rfl⟩
        case round =>
          obtain ⟨j, hj1, hj2, rfl⟩ := hrel
          by_cases hj : j < 1024
          · have hpt : ∀ h, ((x[j]'h).toNat : Int) = 0 := fun h => by rw [HPT.out j hj1 h]; rfl
            go_wp2
            go_round
            case rel => exact ⟨j + 1, by omega, by omega, by go_num⟩
            case measure => simp [intOf]; omega
          · go_wp2
            go_roundw
            case rel => exact ⟨k + 1, by omega, by go_num, hd5, HEQ.out, T.trans t5⟩
            case measure => simp [intOf]; omega
      · have HF : Hid (holdsB D room ws = false) := holdsB_no (fun hh => hpe (hh k hkl))
        clear heq hd
        generalize ws.getD k ⟨#[]⟩ = t at hck hts HR hpe
        generalize hx : pad (D.texts.getD (room + 1 + k) ⟨#[]⟩) = x at HR hps hpe
        have HX := Lib.hid hx
        clear hx
        by_cases hcut : x.extract 0 t.size = t
        · have HNZ : Hid (¬ ∀ j (h : j < x.size), t.size ≤ j → x[j]'h = 0) := fun hall => hpe (pad_eq hps hts hcut hall)
          clear hpe
          go_wp2_with fail
          refine HR.out.mono ?_
          rintro e w5 ⟨rfl, hd5, t5⟩
          go_wp2
          go_loop [9] (fun v9 => ∃ j : Nat, t.size ≤ j ∧ j ≤ 1024 ∧ v9 = .int .i64 j ∧ Hid (∀ i (h : i < x.size), t.size ≤ i → i < j → x[i]'h = 0)) (fun v9 => 1024 - (intOf v9).toNat)
          case atStart => exact ⟨t.size, Nat.le_refl _, hts, rfl, fun i h h1 h2 => by omega⟩
          case round =>
            obtain ⟨j, hj1, hj2, rfl, HZ⟩ := hrel
            by_cases hj : j < 1024
            · have hjx : j < x.size := by omega
              by_cases hz : x[j]'hjx = 0
              · have hpt : (((x[j]'hjx).toNat : Int) != 0) = false := by rw [hz]; rfl
                have HZ2 : Hid (∀ i (h : i < x.size), t.size ≤ i → i < j + 1 → x[i]'h = 0) := fun i h h1 h2 => by
                  by_cases hij : i = j
                  · subst hij; exact hz
                  · exact HZ.out i h h1 (by omega)
                clear hz
                go_wp2
                go_round
                case rel => exact ⟨j + 1, by omega, by omega, by go_num, HZ2⟩
                case measure => simp [intOf]; omega
              · have hpt : (((x[j]'hjx).toNat : Int) != 0) = true := by
                  simp only [bne_iff_ne, ne_eq]
                  intro h0
                  apply hz
                  apply UInt8.toNat_inj.1
                  simpa using h0
                clear hz
                go_wp2
                go_ret
                refine ⟨?_, hd5, T.trans t5⟩
                rw [HF.out]
                rfl
            · exfalso
              exact HNZ.out (fun i h h1 => HZ.out i h h1 (by omega))
        · have HCUT := Lib.hid hcut
          have hce : ((x.extract 0 t.size).toList == t.toList) = false := by
            rw [beq_eq_false_iff_ne]
            intro h0
            rw [ByteArray.toList_eq, ByteArray.toList_eq] at h0
            exact hcut (ba_ext h0)
          clear hpe hcut
          go_wp2_with fail
          refine HR.out.mono ?_
          rintro e w5 ⟨rfl, hd5, t5⟩
          go_wp2
          go_ret
          refine ⟨?_, hd5, T.trans t5⟩
          rw [HF.out]
          rfl
    · obtain rfl : k = ws.length := by omega
      have HF : Hid (holdsB D room ws = true) := holdsB_yes heq
      clear heq
      go_wp2
      go_ret
      refine ⟨?_, hd, T⟩
      rw [HF.out]
      rfl
end Go.Proofs.YtclnhgfionfbbaaDoor
