/-
  Parts of the proof: Wka.
-/
import Derived.Test.YtlkgnljdpakkcaaGreatDoorM28
import Derived.Laws.StructEq
set_option linter.unusedVariables false
set_option linter.unusedSimpArgs false
/-
 'wakes' of the laws of layer 5.
-/
namespace Go.Proofs.YtlkgnljdpakkcaaGreatDoor
open Go.RowKit
theorem isr_all {α:Type} {f:α→List Value} {sz:Nat} {W:World} {b:Nat} {T:TypeId} {z:Nat × Nat} (xs:List α) (hf:∀ x,(f x).length=sz) (h:W.heap[b]?=some (.cells (xs.flatMap f).toArray T z)):IsR f sz W (some ⟨b,0,none⟩) xs.length b 0 xs:=by
 refine ⟨rfl,Or.inr ⟨rfl,lt_of_block h⟩,fun k x hk j v hv=>?_⟩
 rw [Nat.zero_add,blk_cell h,List.getElem?_toArray]
 exact fm_at hf xs k x hk j v hv
theorem wk_from:(fromL wkF ⟨#[]⟩).take 9=wkF:=by
 have e:∀ k:ByteArray,slt k ⟨#[]⟩=false:=fun k=>by
  unfold slt
  have:(⟨#[]⟩:ByteArray).toList=[]:=by rw [ByteArray.toList_eq]
  rw [this]
  cases k.toList <;> rfl
 have:fromL wkF ⟨#[]⟩=wkF:=by
  unfold fromL
  rw [List.filter_eq_self]
  intro a _
  rw [e]; rfl
 rw [this]; rfl
theorem eql_pair (k x:ByteArray) (w:World):(binOp .eql 67 (.agg #[.string k,.string x]) (.agg #[.string k,.string x])).run Tryz.prog w=.ok (.bool true) w:=by
 rw [run_eql_struct,run_equalIn_struct _ _ _ _ _ (by kernel_rfl) (by kernel_rfl)]
 unfold Program.fieldsOf
 rw [Tryz.underlying67]
 have p0:∀ w,(part 9 #[.string k,.string x] 0).run Tryz.prog w=.ok (.string k) w:=fun w=>by kernel_rfl
 have p1:∀ w,(part 9 #[.string k,.string x] 1).run Tryz.prog w=.ok (.string x) w:=fun w=>by kernel_rfl
 have q0:∀ s w,(Op.equalIn 9999 9 (.string s) (.string s)).run Tryz.prog w=.ok true w:=fun s w=>by rw [run_equalIn_string w 9998 _ _ _ Tryz.underlying9]; simp
 simp [Op.eqFields,p0,p1,q0,Result.andThen]
set_option maxRecDepth 100000 in
set_option maxHeartbeats 4000000 in
theorem twakes_any (w:World):Calls Tryz.prog 14 #[] w fun e w'=>e=.returned (.bool true)∧Tch [] w w':=by
 have HN:=Lib.hid (dnew 100 w (by omega) (by omega))
 rw [show many 100=100 from rfl] at HN
 have HO:Hid (∀ W,IsDs W (w.heap.size+1) w.heap.size (freshD 100)→Tch [] w W→Calls Tryz.prog 12 #[.pointer (some ⟨w.heap.size+1,0,none⟩),.int .i64 40] W (NewPost w W (w.heap.size+1) w.heap.size 40 59)):=fun W h1 t=>open_new w W (w.heap.size+1) w.heap.size 100 40 h1 t (by omega) (by omega) (by omega) (by omega) (by omega)
 have hq:=fun W=>eql_pair ⟨#[97]⟩ ⟨#[49]⟩ W
 go_enter Tryz.func14,Tryz.ntmps14
 go_wp2_with fail
 refine HN.out.mono ?_
 rintro e w1 ⟨rfl,hd1,t1⟩
 have HC:=Lib.hid (HO.out w1 hd1 t1)
 clear HN HO hd1
 go_wp2_with fail
 refine HC.out.mono ?_
 rintro e w2 ⟨tb,T,rfl,c2,hdn,hrm,hb,hbs,hsz,t2⟩
 obtain ⟨W3,hW3⟩:∃ W3,W3=w2.alloc (.cells #[.string ⟨#[98]⟩,.string ⟨#[50]⟩,.bool false,.string ⟨#[97]⟩,.string ⟨#[49]⟩,.bool false] 62):=⟨_,rfl⟩
 have u3:Tch [] w2 W3:=by rw [hW3]; exact (Tch.refl _ _).alloc _
 have hnow:(List.replicate 59 (⟨#[]⟩:ByteArray)).length=59:=by simp
 have HA:=Lib.hid ((c2.keep u3).apply (Nat.le_trans hsz u3.size) wkC (some ⟨w2.heap.size,0,none⟩) 2 2 w2.heap.size 0 (by simp [wkC]) (isr_all (f:=fChg) wkC (fun _=>rfl) (by rw [hW3]; exact blk_new _ _)) (fun h=>by cases h) (by omega) (by rw [hnow]; simp [wkC]) (by right; rw [wk_alts,wk_bys,hrm]; exact ⟨wk_chk,by omega⟩))
 have hnw:=c2.new
 have T3:=t2.trans u3
 have htz:=T3.size
 have HSZ:=Lib.hid hsz
 have HSS:=Lib.hid u3.size
 clear HC c2 t1 hsz t2 u3
 go_wp2_with fail
 rw [← hW3]
 clear hW3
 refine HA.out.mono ?_
 rintro e w4 (⟨h0,_⟩ | ⟨h0,rfl,T',now',h',S',e1,e2,e3,e4,e5,e6,e7,c4,t4⟩)
 · exact absurd wk_chk h0
 · have T4:=T3.upTo t4 (by simp only [List.mem_cons,List.not_mem_nil,or_false]; omega)
   rw [wk_alts] at c4
   have hal:=c4.hand.std.tr.alone (by simp [wkF]) (by rw [wk_bys]; omega)
   have HLN:=Lib.hid c4.len
   rw [show wkF.length=2 from rfl] at HLN
   have hB4:w1.heap.size≤w4.heap.size:=Nat.le_trans HSZ.out (Nat.le_trans HSS.out t4.size)
   have HAG:Hid (∀ W,Tch [] w4 W→Calls Tryz.prog 12 #[.pointer (some ⟨w.heap.size+1,0,none⟩),.int .i64 40] W (AgnPost W w.heap.size T'.b T'.bs T'.room T'.D.done now' h' wkF S')):=fun W t=>by
    have:=(c4.keep t).again (Nat.le_trans hB4 t.size) (Nat.le_trans (Nat.le_trans (Nat.le_of_lt (by have:=hnw.2.2.1; have:=c4.tr.ds.lt.1; rw [e2] at this; omega)) (Nat.le_refl _)) t.size) (by omega)
    rw [e2,hb] at this
    rw [e4,hrm] at this
    rw [e2,hb,e4,hrm]
    exact this
   have hnw4:=c4.new
   clear HA t4 e1 e5 e6 e7 c4 hnw htz HSZ HSS e3 h0 hnow
   have HE2:=Lib.hid e2
   have HE4:=Lib.hid e4
   have HHB:=Lib.hid hb
   have HHBS:=Lib.hid hbs
   have HHR:=Lib.hid hrm
   have HHD:=Lib.hid hdn
   have HAL:=Lib.hid hal
   clear e2 e4 hb hbs hrm hdn hal
   go_wp2_with fail
   refine HLN.out.mono ?_
   rintro e w5 ⟨rfl,t5⟩
   have HC5:=Lib.hid (HAG.out w5 t5)
   have T5:=T4.trans t5
   clear HLN HAG T4 t5
   go_wp2_with fail
   refine HC5.out.mono ?_
   rintro e w6 ⟨tb2,T2,rfl,c6,_,_,g2,g3,t6⟩
   have T6:=T5.upTo t6 (by simp only [List.mem_cons,List.not_mem_nil,or_false]; omega)
   have HSC:=Lib.hid (c6.scan ⟨#[]⟩ (by show 0≤_; omega) 9)
   rw [show ((9:Int)).toNat=9 from rfl,wk_from] at HSC
   have HSE:Hid (∀ W,Tch [] w6 W→Calls Tryz.prog 31 #[.pointer (some ⟨tb2,0,none⟩)] W (IntPost 2 W)):=fun W t=>by
    have:=(c6.keep t).sectors
    rw [HAL.out] at this
    exact this
   clear HC5 T5 c6 t6 g2 g3
   go_wp2_with fail
   refine HSC.out.mono ?_
   rintro e w7 ⟨v,rfl,hrow,t7⟩
   rw [show wkF.length=2 from rfl] at hrow
   obtain ⟨x,cc,rfl⟩:=own_slice hrow
   obtain ⟨bb,hR,_,_⟩:=IsR.own (f:=fPr) (xs:=wkF) (fun _=>rfl) hrow rfl
   obtain rfl:=hR.some_ (by omega)
   have s0:w7.cell? ⟨bb,0,none⟩=some (.string ⟨#[97]⟩):=hR.c0 (k:=0) rfl rfl
   have s1:w7.cell? ⟨bb,1,none⟩=some (.string ⟨#[49]⟩):=hR.c (k:=0) rfl 1 rfl
   have HC7:=Lib.hid (HSE.out w7 t7)
   have T7:=T6.trans t7
   clear HSC HSE hrow hR t7 T6
   go_wp2_with fail
   refine HC7.out.mono ?_
   rintro e w8 ⟨rfl,t8⟩
   have HF:Hid (Tch [] w w8):=T7.trans t8
   clear HC7 t8 T7
   go_wp2_with fail
   first | exact ⟨rfl,HF.out⟩ | (go_ret; exact ⟨rfl,HF.out⟩)
end Go.Proofs.YtlkgnljdpakkcaaGreatDoor
