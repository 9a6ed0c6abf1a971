/-
  Parts of the proof: Alt, Bel, Low, Get.
-/
import Derived.Test.YtlkgnljdpakkcaaGreatDoorM13
import Derived.Test.YtlkgnljdpakkcaaGreatDoorM15
import Derived.BigQuiet
import Derived.Deep.CutRange
import Derived.Deep.RegionLaw
import Derived.Test.YtlkgnljdpakkcaaGreatDoorM11
import Derived.Test.YtlkgnljdpakkcaaGreatDoorM12
import Derived.Deep.LoopGhost
set_option linter.unusedVariables false
set_option linter.unusedSimpArgs false
/-
 'altered': the leaf as a change leaves it. Conditions: the leaf's keys rise,its entries and the changed ones are short.
-/
namespace Go.Proofs.YtlkgnljdpakkcaaGreatDoor
open Go.RowKit
theorem rise_srt {v:Nv} (h:Srt v.es):Rise v.keys:=fun i a b ha hb=>by
 rw [← v.keysE] at ha hb
 rw [List.getElem?_map] at ha hb
 rcases h1:v.es[i]? with _ | x <;> rw [h1] at ha
 · cases ha
 rcases h2:v.es[i+1]? with _ | y <;> rw [h2] at hb
 · cases hb
 cases ha; cases hb
 obtain ⟨l1,e1⟩:=List.getElem?_eq_some_iff.1 h1
 obtain ⟨l2,e2⟩:=List.getElem?_eq_some_iff.1 h2
 have:=List.pairwise_iff_getElem.1 h i (i+1) l1 l2 (by omega)
 rw [e1,e2] at this
 exact this
def altI (es:List En) (key:ByteArray):Nat:=if hitE es key=true then plcN es key else if 0 < es.length∧slt (es.getD (plcN es key) en0).key key=true then plcN es key+1 else plcN es key
def altJ (es:List En) (key:ByteArray):Nat:=if hitE es key=true then plcN es key+1 else if 0 < es.length∧slt (es.getD (plcN es key) en0).key key=true then plcN es key+1 else plcN es key
theorem altE_ij (es:List En) (c:Ch):altE es c=es.take (altI es c.key)++newE c++es.drop (altJ es c.key):=by
 unfold altE altI altJ
 by_cases h1:hitE es c.key=true
 · rw [if_pos h1,if_pos h1,if_pos h1]
 · rw [if_neg h1,if_neg h1,if_neg h1]
   by_cases h2:0 < es.length∧slt (es.getD (plcN es c.key) en0).key c.key=true
   · simp only [if_pos h2]
   · simp only [if_neg h2]
theorem plcE_lt (key:ByteArray):∀ (l:List En) (at_ i:Nat),at_≤i→(plcE key at_ i l=at_∨i≤plcE key at_ i l∧plcE key at_ i l < i+l.length)
 | [],at_,i,h=>Or.inl rfl
 | e :: l,at_,i,h=>by
  unfold plcE
  have:=plcE_lt key l (if sle e.key key then i else at_) (i+1) (by split <;> omega)
  rw [List.length_cons]
  cases hs:sle e.key key <;> rw [hs] at this <;> simp only [if_true,if_false,Bool.false_eq_true] at this ⊢ <;> omega
theorem plcN_lt (es:List En) (key:ByteArray) (h:0 < es.length):plcN es key < es.length:=by
 have:=plcE_lt key es 0 0 (Nat.le_refl _)
 unfold plcN
 omega
theorem plcN_nil (key:ByteArray):plcN [] key=0:=rfl
theorem alt_le (es:List En) (key:ByteArray):altI es key≤altJ es key∧altJ es key≤es.length:=by
 unfold altI altJ
 rcases Nat.eq_zero_or_pos es.length with h0 | h0
 · obtain rfl:=List.eq_nil_of_length_eq_zero h0
   have:hitE [] key=false:=rfl
   simp [this,plcN,plcE]
 · have:=plcN_lt es key h0
   split
   · omega
   · split <;> omega
theorem blk_newE {w:World} {x:Obj} {b:Nat} (h:b=w.heap.size):(w.alloc x).heap[b]?=some x:=by rw [h]; exact blk_new _ _
theorem isr_one {w:World} {b:Nat} {s:ByteArray} (h:w.heap[b]?=some (.cells #[.string s] 9 (0,0))):IsR fStr 1 w (some ⟨b,0,none⟩) 1 b 0 [s]:=by
 refine ⟨rfl,Or.inr ⟨rfl,lt_of_block h⟩,fun k x hk j v hv=>?_⟩
 match k,hk with
 | 0,hk =>
  cases hk
  match j,hv with
  | 0,hv=>cases hv; rw [blk_cell h]; rfl
set_option maxRecDepth 100000 in
set_option maxHeartbeats 1000000 in
theorem altered_any (v:Nv) (ck cv:ByteArray) (cg:Bool) (w:World) (hv:Gd w v) (hleaf:v.leaf=true) (hsrt:Srt v.es) (hl:v.es.length≤2000) (hk:ck.size≤10000) (hcv:cv.size≤10000) (hfit:∀ e ∈ altE v.es ⟨ck,cv,cg⟩,fitA true e) :
 Calls Tryz.prog 137 #[vNv v,.agg #[.string ck,.string cv,.bool cg]] w (NodePost w ⟨true,altE v.es ⟨ck,cv,cg⟩⟩):=by
 obtain ⟨W0,hW0⟩:∃ W0,W0=((w.alloc (.cells #[.bool v.leaf,.slice v.ka v.kn v.kc,.slice v.va v.vn v.vc,.slice v.ia v.im v.ic] 138)).alloc (.cells #[.string ck,.string cv,.bool cg] 62)).alloc (.cells #[.bool false,.slice none 0 0,.slice none 0 0,.slice none 0 0] 138):=⟨_,rfl⟩
 have T0:Tch [] w W0:=by rw [hW0]; exact (((Tch.refl _ _).alloc _).alloc _).alloc _
 have hbN:W0.heap[w.heap.size]?=some (.cells #[.bool v.leaf,.slice v.ka v.kn v.kc,.slice v.va v.vn v.vc,.slice v.ia v.im v.ic] 138 (0,0)):=by rw [hW0]; exact blk_alloc (blk_alloc (blk_new _ _) _) _
 have hbC:W0.heap[w.heap.size+1]?=some (.cells #[.string ck,.string cv,.bool cg] 62 (0,0)):=by
  rw [hW0,show w.heap.size+1=(w.alloc (.cells #[.bool v.leaf,.slice v.ka v.kn v.kc,.slice v.va v.vn v.vc,.slice v.ia v.im v.ic] 138)).heap.size from by simp]; exact blk_alloc (blk_new _ _) _
 have hbR:W0.heap[w.heap.size+1+1]?=some (.cells #[.bool false,.slice none 0 0,.slice none 0 0,.slice none 0 0] 138 (0,0)):=by
  rw [hW0,show w.heap.size+1+1=((w.alloc (.cells #[.bool v.leaf,.slice v.ka v.kn v.kc,.slice v.va v.vn v.vc,.slice v.ia v.im v.ic] 138)).alloc (.cells #[.string ck,.string cv,.bool cg] 62)).heap.size from by simp]; exact blk_new _ _
 have HC:Hid (∀ W,Tch [] W0 W→W.cell? ⟨w.heap.size,0,none⟩=some (.bool v.leaf)∧W.cell? ⟨w.heap.size,1,none⟩=some (.slice v.ka v.kn v.kc)∧W.cell? ⟨w.heap.size,2,none⟩=some (.slice v.va v.vn v.vc)∧W.cell? ⟨w.heap.size,3,none⟩=some (.slice v.ia v.im v.ic)∧W.cell? ⟨w.heap.size+1,0,none⟩=some (.string ck)∧W.cell? ⟨w.heap.size+1,1,none⟩=some (.string cv)∧W.cell? ⟨w.heap.size+1,2,none⟩=some (.bool cg)):=fun W t=>by
  have h1:=t.keep hbN (by simp)
  have h2:=t.keep hbC (by simp)
  exact ⟨by rw [blk_cell h1]; rfl,by rw [blk_cell h1]; rfl,by rw [blk_cell h1]; rfl,by rw [blk_cell h1]; rfl,by rw [blk_cell h2]; rfl,by rw [blk_cell h2]; rfl,by rw [blk_cell h2]; rfl⟩
 have HR:Hid (∀ W,Tch [] W0 W→W.heap[w.heap.size+1+1]?=some (.cells #[.bool false,.slice none 0 0,.slice none 0 0,.slice none 0 0] 138 (0,0))):=fun W t=>t.keep hbR (by simp)
 have HP:Hid (∀ W,Tch [] W0 W→Calls Tryz.prog 49 #[.agg #[.bool v.leaf,.slice v.ka v.kn v.kc,.slice v.va v.vn v.vc,.slice v.ia v.im v.ic],.string ck] W fun e w'=>e=.returned (.tuple #[.int .i64 (plcN v.es ck:Nat),.bool (hitE v.es ck)])∧Tch [] W w'):=fun W t=>place_any v ck W (hv.keep0 (T0.trans t)).nv hv.ok hv.caps (by omega) (rise_srt hsrt)
 have HCL:Hid (∀ (s:ByteArray) W,s.size≤10000→Calls Tryz.prog 50 #[.string s] W fun e w'=>e=.returned (.string s)∧Tch [] W w'):=fun s W h=>clone_any s W (by omega)
 have hkn:=hv.kn
 have hkv:=v.es_len
 have hR:Hid (∀ (k:Nat) W,Tch [] W0 W→k < v.es.length→W.cell? ⟨v.kb,v.ko+k,none⟩=some (.string (v.es.getD k en0).key)∧v.ka=some ⟨v.kb,v.ko,none⟩):=fun k W t hk=>by
  have r:=(hv.keep0 (T0.trans t)).nv.rk
  refine ⟨r.one (k:=k) (x:=(v.es.getD k en0).key) ?_ rfl,r.some_ (by omega)⟩
  rw [← v.keysE,List.getElem?_map,List.getElem?_eq_getElem hk,List.getD_eq_getElem?_getD,List.getElem?_eq_getElem hk]
  rfl
 have HBN:=Lib.hid hbN
 have HV:=Lib.hid hv
 have HLF:=Lib.hid hleaf
 have HFIT:=Lib.hid hfit
 have HIJ:=Lib.hid (alt_le v.es ck)
 have HI:Hid (altI v.es ck=if hitE v.es ck=true then plcN v.es ck else if 0 < v.es.length∧slt (v.es.getD (plcN v.es ck) en0).key ck=true then plcN v.es ck+1 else plcN v.es ck):=rfl
 have HJ:Hid (altJ v.es ck=if hitE v.es ck=true then plcN v.es ck+1 else if 0 < v.es.length∧slt (v.es.getD (plcN v.es ck) en0).key ck=true then plcN v.es ck+1 else plcN v.es ck):=rfl
 have HPL:Hid (0 < v.es.length→plcN v.es ck < v.es.length):=plcN_lt v.es ck
 have HE:=Lib.hid (altE_ij v.es ⟨ck,cv,cg⟩)
 have HPB:Hid (plcN v.es ck≤v.es.length):=by
  show _
  rcases Nat.eq_zero_or_pos v.es.length with h0 | h0
  · rw [List.eq_nil_of_length_eq_zero h0,plcN_nil]; exact Nat.zero_le _
  · exact Nat.le_of_lt (plcN_lt _ _ h0)
 have HKN:=Lib.hid hkn
 clear hv hleaf hfit hbN hbC hbR hkn hkv
 generalize altI v.es ck=I at *
 generalize altJ v.es ck=J at *
 generalize plcN v.es ck=P at *
 generalize hitE v.es ck=hit at *
 have hc0:=(HC.out W0 (Tch.refl _ _))
 obtain ⟨n0,n1,n2,n3,c0,c1,c2⟩:=hc0
 unfold vNv
 go_enter Tryz.func137,Tryz.ntmps137
 go_wp2_with (fail)
 rw [← hW0]
 clear hW0
 go_upto_if 18 with (first | (refine (HP.out W0 (Tch.refl _ _)).mono ?_; rintro e w5 ⟨rfl,t5⟩))
 go_cut [5,7] from 10 to 62 (fun v5 v7 wx=>v5=.int .i64 (I:Nat)∧v7=.int .i64 (J:Nat)∧Tch [] W0 wx)
 case first =>
  have hc5:=HC.out w5 t5
  obtain ⟨m0,m1,m2,m3,e0,e1,e2⟩:=hc5
  have hP0:(0:Int)≤(P:Int):=by omega
  cases hit
  · rw [if_neg (by decide)] at HI HJ
    rcases Nat.eq_zero_or_pos v.es.length with h0 | h0
    · have hk0:v.kn=0:=by rw [HKN.out]; exact h0
      have hd:decide ((0:Int) < (v.kn:Int))=false:=by rw [hk0]; rfl
      rw [if_neg (by omega)] at HI HJ
      rw [hk0] at m1
      go_wp2_with fail
      go_quiet (fail)
      go_wp2_with fail
      go_meet
      exact ⟨by rw [HI.out],by rw [HJ.out],tdrewN t5 _⟩
    · have hP1:(P:Int) < (v.kn:Int):=by have:=HPL.out h0; have:=HKN.out; omega
      have hPb:P≤2000:=by have:=HPL.out h0; omega
      have hd:decide (0 < v.kn)=true:=decide_eq_true (by have:=HKN.out; omega)
      obtain ⟨q1,q2⟩:=hR.out P w5 t5 (HPL.out h0)
      rw [q2] at m1
      generalize (v.es.getD P en0).key=x at *
      have HS:Hid (slt x ck=Go.Op.bytesLess x.toList ck.toList):=rfl
      cases hb:Go.Op.bytesLess x.toList ck.toList
      · rw [if_neg (by rw [HS.out,hb]; simp)] at HI HJ
        go_wp2_with fail
        go_quiet (fail)
        go_wp2_with fail
        go_meet
        exact ⟨by rw [HI.out],by rw [HJ.out],tdrewN t5 _⟩
      · rw [if_pos ⟨h0,by rw [HS.out,hb]⟩] at HI HJ
        go_wp2_with fail
        go_quiet (fail)
        go_wp2_with fail
        go_meet
        exact ⟨by rw [HI.out]; go_num,by rw [HJ.out]; go_num,tdrewN t5 _⟩
  · rw [if_pos rfl] at HI HJ
    have hPb:P≤2000:=by have:=HPB.out; omega
    go_wp2_with fail
    go_meet
    exact ⟨by rw [HI.out],by rw [HJ.out]; go_num,t5⟩
 case rest =>
  obtain ⟨rfl,rfl,t1⟩:=hcut
  obtain ⟨m0,m1,m2,m3,e0,e1,e2⟩:=HC.out wc t1
  go_upto_if 41 with (fail)
  go_cut [8,9] from 10 to 62 (fun v8 v9 wx=>∃ (a8 a9:Option Addr) (n8 c8 b8 n9 c9 b9:Nat),v8=.slice a8 n8 c8∧v9=.slice a9 n9 c9∧IsR fStr 1 wx a8 n8 b8 0 ((newE ⟨ck,cv,cg⟩).map En.key)∧IsR fStr 1 wx a9 n9 b9 0 ((newE ⟨ck,cv,cg⟩).map En.val)∧(a8=none→n8=0∧c8=0)∧(a9=none→n9=0∧c9=0)∧Tch [] W0 wx)
  case first =>
   cases cg
   rotate_left
   · go_wp2_with fail
     go_meet
     have hne:newE ⟨ck,cv,true⟩=[]:=rfl
     rw [hne]
     exact ⟨none,none,0,0,0,0,0,0,rfl,rfl,IsR.nil _ _ _ _,IsR.nil _ _ _ _,fun _=>⟨rfl,rfl⟩,fun _=>⟨rfl,rfl⟩,t1⟩
   · have td:Tch [] wc wc.drew:=(Tch.refl [] wc).drew
     have HS:Hid (∀ W,Tch [] wc W→W.cell? ⟨w.heap.size+1,0,none⟩=some (.string ck)∧W.cell? ⟨w.heap.size+1,1,none⟩=some (.string cv)):=fun W t=>by
      obtain ⟨_,_,_,_,h1,h2,_⟩:=HC.out W (t1.trans t)
      exact ⟨h1,h2⟩
     go_wp2_with fail
     go_region_held3 (fun w'=>w'.cell? ⟨w.heap.size+1,0,none⟩=some (.string ck)∧w'.cell? ⟨w.heap.size+1,1,none⟩=some (.string cv))
      (((with_reducible refine HS.out _ ?_); repeat (first | with_reducible exact td | with_reducible refine Tch.alloc ?_ _ | with_reducible refine Tch.trans ?_ t7 | with_reducible refine Tch.trans ?_ t6)))
      (first | (go_at_call 50; refine (HCL.out ck _ hk).mono ?_; rintro e w6 ⟨rfl,t6⟩) | (go_at_call 50; refine (HCL.out cv _ hcv).mono ?_; rintro e w7 ⟨rfl,t7⟩))
     all_goals
      go_wp2_with fail
      go_meet
      refine ⟨some ⟨_,0,none⟩,some ⟨_,0,none⟩,1,1,_,1,1,_,rfl,rfl,isr_one ?_,isr_one ?_,(fun h=>by cases h),(fun h=>by cases h),t1.trans ?_⟩
      · repeat (first | with_reducible exact blk_new _ _ | ((with_reducible refine blk_newE ?_); (first | rfl | focus (simp; done))) | with_reducible refine blk_alloc ?_ _ | with_reducible refine Tch.keep t7 ?_ (by simp) | with_reducible refine Tch.keep t6 ?_ (by simp))
      · repeat (first | with_reducible exact blk_new _ _ | ((with_reducible refine blk_newE ?_); (first | rfl | focus (simp; done))) | with_reducible refine blk_alloc ?_ _ | with_reducible refine Tch.keep t7 ?_ (by simp) | with_reducible refine Tch.keep t6 ?_ (by simp))
      · repeat (first | with_reducible exact td | with_reducible refine Tch.alloc ?_ _ | with_reducible refine Tch.trans ?_ t7 | with_reducible refine Tch.trans ?_ t6)
  case rest =>
   obtain ⟨a8,a9,n8,c8,b8,n9,c9,b9,rfl,rfl,r8,r9,z8,z9,t2⟩:=hcut
   have td:Tch [] wc wc.drew:=(Tch.refl [] wc).drew
   have hv:=HV.out
   have TW:=T0.trans t2
   obtain ⟨es,hes⟩:∃ es,es=altE v.es ⟨ck,cv,cg⟩:=⟨_,rfl⟩
   have hvl:=Nv.valsE hv.lens HLF.out
   have hkl:=v.es_len
   have hvn:v.vals.length=v.es.length:=by rw [← hvl]; simp
   have hE5:es.map En.key=v.keys.take I++(newE ⟨ck,cv,cg⟩).map En.key++v.keys.drop J:=by rw [hes,HE.out,List.map_append,List.map_append,List.map_take,List.map_drop,Nv.keysE]
   have hE6:es.map En.val=v.vals.take I++(newE ⟨ck,cv,cg⟩).map En.val++v.vals.drop J:=by rw [hes,HE.out,List.map_append,List.map_append,List.map_take,List.map_drop,hvl]
   have k1:=hv.nv.rk.hlen
   have k3:=hv.nv.rv.hlen
   have hn1:(newE ⟨ck,cv,cg⟩).length≤1:=by unfold newE; cases cg <;> simp
   have k8:=r8.hlen
   have k9:=r9.hlen
   rw [List.length_map] at k8 k9
   have hij:=HIJ.out
   have HFIN:Hid (∀ e ∈ es,Nrm true e):=fun e he=>by
    rw [hes,HE.out] at he
    have hnv:∀ e ∈ v.es,Nrm true e:=by have:=v.nrm; rw [HLF.out] at this; exact this
    rcases List.mem_append.1 he with he | he
    · rcases List.mem_append.1 he with he | he
      · exact hnv e (List.mem_of_mem_take he)
      · unfold newE at he
        cases cg
        · simp at he; subst he; rfl
        · simp at he
    · exact hnv e (List.mem_of_mem_drop he)
   have HSH:Hid (Short es):=by
    show _
    have hlen:es.length≤10000:=by rw [hes,HE.out]; simp only [List.length_append,List.length_take,List.length_drop]; omega
    rw [hes] at hlen ⊢
    exact short_fit (leaf:=true) hlen HFIT.out (fun h=>by cases h)
   have HRK:Hid (∀ W,Tch [] wc W→Calls Tryz.prog 168 #[.slice v.ka v.kn v.kc,.int .i64 I,.int .i64 J,.slice a8 n8 c8] W (CatPostS W (es.map En.key))):=fun W t'=>by
    have g:=hv.keep0 (TW.trans t')
    rw [hE5]
    obtain ⟨b1,o1,r1,y1⟩:=own_ptr g.row.hk g.nv.rk
    exact replS_any I J v.ka a8 v.kn v.kc b1 o1 n8 c8 b8 0 v.keys _ W r1 (r8.keep0 t') g.caps.1.1 y1 g.caps.1.2.2 z8 hij.1 (by omega) (by omega) (by omega)
   have HRV:Hid (∀ W,Tch [] wc W→Calls Tryz.prog 168 #[.slice v.va v.vn v.vc,.int .i64 I,.int .i64 J,.slice a9 n9 c9] W (CatPostS W (es.map En.val))):=fun W t'=>by
    have g:=hv.keep0 (TW.trans t')
    rw [hE6]
    obtain ⟨b1,o1,r1,y1⟩:=own_ptr g.row.hv g.nv.rv
    exact replS_any I J v.va a9 v.vn v.vc b1 o1 n9 c9 b9 0 v.vals _ W r1 (r9.keep0 t') g.caps.2.1.1 y1 g.caps.2.1.2.2 z9 hij.1 (by omega) (by omega) (by omega)
   have HS:Hid (∀ W,Tch [w.heap.size+1+1] wc W→W.cell? ⟨w.heap.size,1,none⟩=some (.slice v.ka v.kn v.kc)∧W.cell? ⟨w.heap.size,2,none⟩=some (.slice v.va v.vn v.vc)):=fun W t'=>by
    have h:=t'.keep (t2.keep HBN.out (by simp)) (by simp; omega)
    exact ⟨by rw [blk_cell h]; rfl,by rw [blk_cell h]; rfl⟩
   have HB2:Hid (∀ W,Tch [] wc W→W.heap[w.heap.size+1+1]?=some (.cells #[.bool false,.slice none 0 0,.slice none 0 0,.slice none 0 0] 138 (0,0))):=fun W t'=>HR.out W (t2.trans t')
   have HTR:Hid (w.heap.size+1+1 < wc.heap.size):=lt_of_block (HR.out wc t2)
   have HXW:Hid (w.heap.size≤w.heap.size+1+1):=by show _≤_; omega
   have HTW:=Lib.hid TW
   have HES:=Lib.hid hes
   clear hes hE5 hE6 hvl hkl hvn k1 k3 hn1 k8 k9 hij r8 r9 z8 z9 hv TW t2
   clear m0 m1 m2 m3 e0 e1 e2 n0 n1 n2 n3 c0 c1 c2 t1 HC HP HCL hR HI HJ HPL HPB HKN HIJ HE HV HLF HFIT HBN
   generalize hX:w.heap.size=X at *
   have HX:=Lib.hid hX
   clear hX
   go_wp2_with fail
   go_region_held3 (fun w'=>w'.cell? ⟨X,1,none⟩=some (.slice v.ka v.kn v.kc)∧w'.cell? ⟨X,2,none⟩=some (.slice v.va v.vn v.vc))
    (first | exact HS.out _ (td.mono (by simp)) | exact HS.out _ ((td.trans t5).mono (by simp)) | exact HS.out _ ((td.trans (t5.trans t6)).mono (by simp)) | exact HS.out _ (((td.trans (t5.trans t6)).mono (by simp)).put4 (by simp) _ _ _ _))
    (first | (go_at_call 168; (with_reducible refine (HRK.out _ td).mono ?_); rintro e w5 ⟨v5,rfl,o5,t5⟩; obtain ⟨x5,c5,rfl⟩:=own_slice o5) | (go_at_call 168; (with_reducible refine (HRV.out _ (td.trans t5)).mono ?_); rintro e w6 ⟨v6,rfl,o6,t6⟩; obtain ⟨x6,c6,rfl⟩:=own_slice o6; have hR:=HB2.out _ (td.trans (t5.trans t6)); have r0:=blk_cell hR 0; have r1:=blk_cell hR 1; have r2:=blk_cell hR 2; have r3:=blk_cell hR 3; simp only [gA,gZ,gS] at r0 r1 r2 r3; have f0:=blk_free hR 0; have f1:=blk_free hR 1; have f2:=blk_free hR 2; have f3:=blk_free hR 3))
   have T6:=td.trans (t5.trans t6)
   have hR:=blk_put4 (HB2.out _ T6) (.bool true) (.slice x5 (es.map En.key).length c5) (.slice x6 (es.map En.val).length c6) (.slice none 0 0)
   simp only [List.length_map] at hR o5 o6
   have T7:=(T6.mono (L':=[X+1+1]) (by simp)).put4 (b:=X+1+1) (by simp) (.bool true) (.slice x5 es.length c5) (.slice x6 es.length c6) (.slice none 0 0)
   have t7:=(Tch.refl [X+1+1] w6).put4 (b:=X+1+1) (by simp) (.bool true) (.slice x5 es.length c5) (.slice x6 es.length c6) (.slice none 0 0)
   generalize ((((w6.setCell ⟨X+1+1,0,none⟩ (.bool true)).setCell ⟨X+1+1,1,none⟩ (.slice x5 es.length c5)).setCell ⟨X+1+1,2,none⟩ (.slice x6 es.length c6)).setCell ⟨X+1+1,3,none⟩ (.slice none 0 0))=W at hR T7 t7 ⊢
   have q0:=blk_cell hR 0
   have q1:=blk_cell hR 1
   have q2:=blk_cell hR 2
   have q3:=blk_cell hR 3
   simp only [gA,gZ,gS] at q0 q1 q2 q3
   have hbase:wc.drew.heap.size≤w5.heap.size:=t5.size
   have hB:w.heap.size≤wc.drew.heap.size:=HTW.out.size
   have p5:W.ownsRow w.heap.size 9 1 (.slice x5 es.length c5) es.length ((es.map En.key).map Value.string):=own_base (own_keep (own_keep o5 t6 (fun _ _=>by simp)) t7 (fun k hk hm=>by
    have h1:=(o5.lt k hk).1
    have h2:=HTR.out
    have h3:wc.drew.heap.size=wc.heap.size:=rfl
    simp at hm
    omega)) hB
   have p6:W.ownsRow w.heap.size 9 1 (.slice x6 es.length c6) es.length ((es.map En.val).map Value.string):=own_base (own_keep o6 t7 (fun k hk hm=>by
    have h1:=(o6.lt k hk).1
    have h2:=HTR.out
    have h3:wc.drew.heap.size=wc.heap.size:=rfl
    simp at hm
    omega)) (Nat.le_trans hB hbase)
   obtain ⟨u,hu,hg,hun,hnw⟩:=node_own (leaf:=true) (es:=es) (w:=W) (iv:=.slice none 0 0) p5 (by simp only [if_true,List.length_map]; exact p6) (World.ownsRow_nil _ _ _ _) (own_apart o5 o6 (Nat.le_refl _)) (Apart.symm (Apart.nil _)) (Apart.symm (Apart.nil _)) HFIN.out HSH.out
   have HP:Hid (NodePost w ⟨true,altE v.es ⟨ck,cv,cg⟩⟩ (.returned (vNv u)) W):=⟨u,rfl,hg,by rw [hun,HES.out],hnw,HTW.out.transNew T7 (fun m hm=>Or.inr (by simp at hm; rw [hm,← HX.out]; omega))⟩
   rw [hu] at HP
   clear o5 o6 p5 p6 hg hun hnw hu T7 t7 T6 hR
   go_wp2_with fail
   refine bodyPost_ret (v:=.agg #[.bool true,.slice x5 es.length c5,.slice x6 es.length c6,.slice none 0 0]) (by simp [results,Tryz.results137,go_sem,q0,q1,q2,q3]) rfl HP.out
end Go.Proofs.YtlkgnljdpakkcaaGreatDoor
/-
 'alterBelow' of a draft: a change comes about in a node or below it. Conditions: those of the tree's shape.
-/
namespace Go.Proofs.YtlkgnljdpakkcaaGreatDoor
open Go.RowKit
def BelowOk (T:Tv) (c:Ch) (db H0 h:Nat):Prop:=∀ (d:Dv) (a:Int) (w:World),IsDr w db d H0→(∀ W,Tch [db,d.mb] w W→IsTr W d.tb T)→H0≤w.heap.size→0≤a∧a < topN→Sh (d.ov.m (mN T.f)) h a→Srt (flat (d.ov.m (mN T.f)) h a) →
 (∀ x,(nums (d.ov.m (mN T.f)) h a).count x≤1)→(∀ x ∈ nums (d.ov.m (mN T.f)) h a,x < d.ov.nx)→(1≤h→2≤(d.ov.m (mN T.f) a).es.length)→d.fresh+2 * (h+1) < 199999990 →
 Calls Tryz.prog 138 #[.pointer (some ⟨db,0,none⟩),.int .i64 a,.agg #[.string c.key,.string c.val,.bool c.gone]] w (SetPost w db H0 d (altB (mN T.f) h d.ov a c))
theorem at_leaf (d:Dv) (T:Tv) (x:Int):(d.at_ T x).leaf=(d.ov.m (mN T.f) x).leaf:=by rw [← at_nod]; rfl
theorem at_es (d:Dv) (T:Tv) (x:Int):(d.at_ T x).es=(d.ov.m (mN T.f) x).es:=by rw [← at_nod]; rfl
theorem SetPost.before {w w0:World} {db H0:Nat} {d:Dv} {s:Ov × List Int} {e:Ending} {w':World} (t:Tch [db,d.mb] w w0) (h:SetPost w0 db H0 d s e w'):SetPost w db H0 d s e w':=by
 obtain ⟨d2,v,h1,h2,h3,h4,h5,h6,h7,h8⟩:=h
 exact ⟨d2,v,h1,own_base h2 t.size,h3,h4,h5,h6,h7,t.trans h8⟩
set_option maxRecDepth 100000 in
set_option maxHeartbeats 4000000 in
theorem below_leaf (T:Tv) (ck cv:ByteArray) (cg:Bool) (db H0:Nat) (hc:(⟨ck,cv,cg⟩:Ch).ok):BelowOk T ⟨ck,cv,cg⟩ db H0 0:=by
 intro d a w hd hT h0 ha hs hsr _ _ _ hfr
 have ht:=hT w (Tch.refl _ _)
 have hlf:(d.at_ T a).leaf=true:=by rw [at_leaf]; exact hs.1.1
 have hlen:(d.at_ T a).es.length≤400:=by rw [at_es]; exact es_len hs.fit hs.2.2
 have hsrt:Srt (d.at_ T a).es:=by rw [at_es]; exact hsr
 have HND:Hid (∀ W,Tch [] w W→Calls Tryz.prog 100 #[.pointer (some ⟨db,0,none⟩),.int .i64 a] W fun e w'=>e=.returned (vNv (d.at_ T a))∧Tch [] W w'):=fun W t=>node_any db H0 d T _ W (hd.keep0 t) (ht.keep0 t) ha
 have hfit:∀ e ∈ altE (d.at_ T a).es ⟨ck,cv,cg⟩,fitA true e:=fun e he=>by
  rw [altE_is _ _ hsrt] at he
  unfold fitA; rw [if_pos rfl]
  rcases altL_mem.1 he with h1 | h1
  · have h2:=h1.1
    rw [at_es] at h2
    exact hs.1.2 e h2
  · exact newE_fit hc e h1
 have HAL:Hid (∀ W,Tch [] w W→Calls Tryz.prog 137 #[vNv (d.at_ T a),.agg #[.string ck,.string cv,.bool cg]] W fun e w'=>∃ u:Nv,e=.returned (vNv u)∧Gd w' u∧u.nod=⟨true,altE (d.at_ T a).es ⟨ck,cv,cg⟩⟩∧Tch [] W w'):=fun W t=>by
  refine (altered_any (d.at_ T a) ck cv cg W (at_gd (hd.keep0 t) (ht.keep0 t) a) hlf hsrt (by omega) (by have:=hc.k2; simp only at this; omega) (by have:=hc.v; simp only at this; omega) hfit).mono ?_
  rintro e w' ⟨u,h1,h2,h3,h4,h5⟩
  exact ⟨u,h1,h2,h3,h5⟩
 have HST:Hid (∀ W u,Tch [] w W→Gd W u→u.nod=⟨true,altE (d.at_ T a).es ⟨ck,cv,cg⟩⟩→Calls Tryz.prog 169 #[.pointer (some ⟨db,0,none⟩),.int .i64 a,vNv u] W fun e w'=>∃ x,e=.returned x∧SetPost w db H0 d (altB (mN T.f) 0 d.ov a ⟨ck,cv,cg⟩) e w'):=fun W u t h1 h2=>by
  refine (settle_any db H0 d u a W (hd.keep0 t) (Nat.le_trans h0 t.size) h1 ha (by omega)).mono fun e w' h=>?_
  rw [h2,at_es] at h
  obtain ⟨d2,x,e1,_⟩:=id h
  exact ⟨x,e1,h.before (t.mono (by simp))⟩
 clear hd hT ht hs hsr hsrt hfit hc
 generalize SetPost w db H0 d (altB (mN T.f) 0 d.ov a ⟨ck,cv,cg⟩)=Q at *
 generalize altE (d.at_ T a).es ⟨ck,cv,cg⟩=es at *
 generalize d.at_ T a=v at *
 obtain ⟨W0,hW0⟩:∃ W0,W0=w.alloc (.cells #[.string ck,.string cv,.bool cg] 62):=⟨_,rfl⟩
 have T0:Tch [] w W0:=by rw [hW0]; exact (Tch.refl _ _).alloc _
 have hbC:W0.heap[w.heap.size]?=some (.cells #[.string ck,.string cv,.bool cg] 62 (0,0)):=by rw [hW0]; exact blk_new _ _
 have HC:Hid (∀ W,Tch [] W0 W→W.cell? ⟨w.heap.size,0,none⟩=some (.string ck)∧W.cell? ⟨w.heap.size,1,none⟩=some (.string cv)∧W.cell? ⟨w.heap.size,2,none⟩=some (.bool cg)):=fun W t=>by
  have h:=t.keep hbC (by simp)
  exact ⟨by rw [blk_cell h]; rfl,by rw [blk_cell h]; rfl,by rw [blk_cell h]; rfl⟩
 have HHL:=Lib.hid hlf
 clear hbC hlf hlen
 unfold vNv at HND HAL HST
 generalize v.leaf=vleaf at *
 generalize v.ka=vka at *
 generalize v.kn=vkn at *
 generalize v.kc=vkc at *
 generalize v.va=vva at *
 generalize v.vn=vvn at *
 generalize v.vc=vvc at *
 generalize v.ia=via at *
 generalize v.im=vim at *
 generalize v.ic=vic at *
 have hlf:=HHL.out
 subst hlf
 go_enter Tryz.func138,Tryz.ntmps138
 go_upto_region 1 with fail
 rw [← hW0]
 clear hW0
 go_upto_if 14 with (go_at_call 100; (with_reducible refine (HND.out _ T0).mono ?_); rintro e w3 ⟨rfl,t3⟩)
 obtain ⟨W4,hW4⟩:∃ W4,W4=w3.alloc (.cells #[.bool true,.slice vka vkn vkc,.slice vva vvn vvc,.slice via vim vic] 138):=⟨_,rfl⟩
 rw [← hW4]
 have t4:Tch [] w3 W4:=by rw [hW4]; exact (Tch.refl _ _).alloc _
 have hb4:W4.heap[w3.heap.size]?=some (.cells #[.bool true,.slice vka vkn vkc,.slice vva vvn vvc,.slice via vim vic] 138 (0,0)):=by rw [hW4]; exact blk_new _ _
 have T4:=T0.trans (t3.trans t4)
 obtain ⟨c0,c1,c2⟩:=HC.out W4 (t3.trans t4)
 have n0:=blk_cell hb4 0
 have n1:=blk_cell hb4 1
 have n2:=blk_cell hb4 2
 have n3:=blk_cell hb4 3
 simp only [gA,gZ,gS] at n0 n1 n2 n3
 clear hW4 hb4
 go_wp2_with (first | (go_at_call 137; (with_reducible refine (HAL.out _ T4).mono ?_); rintro e w5 ⟨u,rfl,hg5,hu5,t5⟩) | (go_at_call 169; (with_reducible refine (HST.out _ u (T4.trans t5) hg5 hu5).mono ?_); rintro e w6 ⟨x,rfl,hq⟩))
 exact hq
theorem IsDr.node4 {w w':World} {db H0 X:Nat} {d:Dv} {cs:Array Value} (h:IsDr w db d H0) (hb:w.heap[X]?=some (.cells cs 138 (0,0))) (t:Tch [X] w w'):IsDr w' db d H0 :=
 h.keepR t (fun e=>by subst e; rw [h.blk] at hb; simp at hb) (h.ns.mp.ne hb) (fun x v hv=>(h.ns.gd x v hv).offk (fun cs=>by rw [hb]; exact ⟨by simp,by simp⟩))
theorem Gd.node4 {w w':World} {X:Nat} {v:Nv} {cs:Array Value} (h:Gd w v) (hb:w.heap[X]?=some (.cells cs 138 (0,0))) (t:Tch [X] w w'):Gd w' v:=h.kept t (fun b hm cs=>by
 simp only [List.mem_singleton] at hm
 subst hm
 rw [hb]; exact ⟨by simp,by simp⟩)
theorem altB_succ {B:Int→Nod} {h:Nat} {s:Ov} {a k:Int} {c:Ch} {es es1:List En} {i:Nat} {r:Ov × List Int} (h1:es=(s.m B a).es) (h2:i=plcN es c.key) (h3:k=kidAt es (plcN es c.key)) (h4:r=altB B h s k c) (h5:es1=withKids B r.1 es i (i+1) r.2) :
 altB B (h+1) s a c=settle (mended B r.1 es1 i).1 a ⟨false,(mended B r.1 es1 i).2⟩:=by subst h5 h4 h3 h2 h1; rfl
set_option maxRecDepth 100000 in
set_option maxHeartbeats 8000000 in
theorem below_step (T:Tv) (ck cv:ByteArray) (cg:Bool) (db H0 h:Nat) (hc:(⟨ck,cv,cg⟩:Ch).ok) (ih:BelowOk T ⟨ck,cv,cg⟩ db H0 h):BelowOk T ⟨ck,cv,cg⟩ db H0 (h+1):=by
 intro d a w hd hT h0 ha hs hsr hn hlt h2 hfr
 have ht:=hT w (Tch.refl _ _)
 have htop:16384+(d.ov.fresh:Int)+2 * (((h+1:Nat):Int)+1)≤(topN:Int):=by
  have e:(topN:Int)=268435456:=rfl
  have e2:d.ov.fresh=d.fresh:=rfl
  rw [e,e2]; omega
 have st:=step_ok hc h d.ov a hs hsr hn hlt (h2 (by omega)) htop
 obtain ⟨M,hM⟩:∃ M,M=mN T.f:=⟨_,rfl⟩
 rw [← hM] at st hs
 have hlf:(d.at_ T a).leaf=false:=by rw [at_leaf,← hM]; exact st.leaf
 have hes:=at_es d T a
 rw [← hM] at hes
 obtain ⟨s1,s2,s3,s4,s5,s6,s7,s8,s9,s10,s11,s12,s13,s14,s15,s16,s17,s18,s19,s20,s21⟩:=st
 rw [← hes] at s2 s3 s4 s5 s6 s7 s8 s9 s10 s11 s12 s13 s14 s15 s16 s17 s18 s19 s20 s21
 obtain ⟨k,hk⟩:∃ k,k=kidAt (d.at_ T a).es (plcN (d.at_ T a).es ck):=⟨_,rfl⟩
 obtain ⟨i,hi⟩:∃ i,i=plcN (d.at_ T a).es ck:=⟨_,rfl⟩
 simp only at s2 s3 s4 s5 s6 s7 s8 s9 s10 s11 s12 s13 s14 s15 s16 s17 s18 s19 s20 s21
 rw [← hk] at s4 s7 s8 s9 s10 s11 s12 s13 s14 s15 s16 s17 s18 s19 s20 s21
 rw [← hi] at s6 s15 s16 s17 s18 s19 s20
 obtain ⟨r,hr⟩:∃ r,r=altB M h d.ov k ⟨ck,cv,cg⟩:=⟨_,rfl⟩
 rw [← hr] at s12 s13 s14 s15 s16 s17 s18 s19 s20 s21
 obtain ⟨es1,he1⟩:∃ es1,es1=withKids M r.1 (d.at_ T a).es i (i+1) r.2:=⟨_,rfl⟩
 rw [← he1] at s15 s16 s17 s18 s19 s20
 have hdef:=altB_succ (B:=M) (s:=d.ov) (c:=⟨ck,cv,cg⟩) hes hi hk hr he1
 have hv:∀ W,Tch [db,d.mb] w W→Gd W (d.at_ T a):=fun W t=>gd_over (at_gd hd ht a) hd t
 have hl1:es1.length≤1000:=by
  have:=withKids_len M r.1 (d.at_ T a).es i (i+1) r.2
  rw [he1]; omega
 have hval1:∀ e ∈ es1,e.val=⟨#[]⟩:=fun e he=>(s15 e he).2.1
 have hkN:0≤k∧k < (topN:Int):=⟨by omega,s4.2⟩
 have HND:Hid (∀ W,Tch [] w W→Calls Tryz.prog 100 #[.pointer (some ⟨db,0,none⟩),.int .i64 a] W fun e w'=>e=.returned (vNv (d.at_ T a))∧Tch [] W w'):=fun W t=>node_any db H0 d T _ W (hd.keep0 t) (ht.keep0 t) ha
 have HPL:Hid (∀ W,Tch [] w W→Calls Tryz.prog 49 #[vNv (d.at_ T a),.string ck] W fun e w'=>∃ b:Bool,e=.returned (.tuple #[.int .i64 (i:Nat),.bool b])∧Tch [] W w'):=fun W t=>by
  have g:=hv W (t.mono (by simp))
  refine (place_any (d.at_ T a) ck W g.nv g.ok g.caps (by have:=hc.k2; simp only at this; omega) (rise_srt s3)).mono ?_
  rintro e w' ⟨he,t'⟩
  exact ⟨_,by rw [hi]; exact he,t'⟩
 have IHC:Hid (∀ W,Tch [] w W→Calls Tryz.prog 138 #[.pointer (some ⟨db,0,none⟩),.int .i64 k,.agg #[.string ck,.string cv,.bool cg]] W fun e w'=>∃ (d1:Dv) (x:Option Addr) (c1:Nat),e=.returned (.slice x r.2.length c1)∧w'.ownsRow W.heap.size 3 1 (.slice x r.2.length c1) r.2.length (r.2.map (Value.int .i64))∧IsDr w' db d1 H0∧d1.ov=r.1∧d1.root=d.root∧d1.tb=d.tb∧d1.mb=d.mb∧Tch [db,d.mb] W w'):=fun W t=>by
  refine (ih d k W (hd.keep0 t) (fun W' t'=>hT W' ((t.mono (by simp)).trans t')) (Nat.le_trans h0 t.size) hkN (by rw [← hM]; exact s7) (by rw [← hM]; exact s8) (by rw [← hM]; exact s9) (by rw [← hM]; exact s10) (by rw [← hM]; exact s11) (by omega)).mono ?_
  rintro e w' ⟨d1,x,rfl,hx,hd1,ho,e1,e2,e3,t1⟩
  rw [← hM,← hr] at ho hx
  obtain ⟨y,c1,rfl⟩:=own_slice hx
  exact ⟨d1,y,c1,rfl,hx,hd1,ho,e1,e2,e3,t1⟩
 have HWK:Hid (∀ W (d1:Dv) (x:Option Addr) (c1 B:Nat),Tch [db,d.mb] w W→IsDr W db d1 H0→d1.tb=d.tb→d1.ov=r.1→W.ownsRow B 3 1 (.slice x r.2.length c1) r.2.length (r.2.map (Value.int .i64))→Calls Tryz.prog 140 #[.pointer (some ⟨db,0,none⟩),vNv (d.at_ T a),.int .i64 (i:Nat),.int .i64 ((i:Int)+1),.slice x r.2.length c1] W fun e w'=>∃ u1:Nv,e=.returned (.agg #[.bool u1.leaf,.slice u1.ka u1.kn u1.kc,.slice u1.va u1.vn u1.vc,.slice u1.ia u1.im u1.ic])∧Gd w' u1∧u1.nod=⟨false,es1⟩∧Tch [] W w'):=fun W d1 x c1 B t h1 h2 h3 h5=>by
  have hcap:=own_caps h5
  obtain ⟨b,hb,_⟩:=IsR.own (f:=fInt) (sz:=1) (fun _=>rfl) (show W.ownsRow B 3 1 (.slice x r.2.length c1) r.2.length (r.2.flatMap fInt) from by rw [show r.2.flatMap fInt=r.2.map (Value.int .i64) from fl_one _ _]; exact h5) rfl
  rw [show ((i:Int)+1)=((i+1:Nat):Int) from by omega]
  refine (withKids_any db H0 d1 T (d.at_ T a) i (i+1) x r.2.length c1 b 0 r.2 W h1 (by rw [h2]; exact hT W t) (hv W t) hlf (by omega) (by omega) hb hcap.2.2.2 (fun k hk=>?_) (by omega) (by omega) ?_ s2).mono ?_
  · have:=s13 k hk
    rw [h3,← hM]
    exact ⟨by omega,this.2.2,this.1.ne⟩
  · rw [h3,← hM,← he1]; exact fun e he=>kid_fit (s15 e he)
  · rintro e w' ⟨u1,g1,g2,g3,g4,g5⟩
    rw [h3,← hM,← he1] at g3
    exact ⟨u1,g1,g2,g3,g5⟩
 have HME:Hid (∀ W (d1:Dv) (u1:Nv),Tch [db,d.mb] w W→IsDr W db d1 H0→d1.root=d.root→d1.tb=d.tb→d1.mb=d.mb→d1.ov=r.1→Gd W u1→u1.nod=⟨false,es1⟩→Calls Tryz.prog 170 #[.pointer (some ⟨db,0,none⟩),.agg #[.bool u1.leaf,.slice u1.ka u1.kn u1.kc,.slice u1.va u1.vn u1.vc,.slice u1.ia u1.im u1.ic],.int .i64 (i:Nat)] W fun e w'=>∃ (d2:Dv) (u2:Nv),e=.returned (.agg #[.bool u2.leaf,.slice u2.ka u2.kn u2.kc,.slice u2.va u2.vn u2.vc,.slice u2.ia u2.im u2.ic])∧Gd w' u2∧u2.nod=⟨false,(mended M r.1 es1 i).2⟩∧IsDr w' db d2 H0∧d2.ov=(mended M r.1 es1 i).1∧d2.root=d.root∧d2.tb=d.tb∧d2.mb=d.mb∧Tch [db,d.mb] W w'):=fun W d1 u1 t h1 h2 h3 h4 h5 h6 h7=>by
  have e1:u1.es=es1:=by have:=congrArg Nod.es h7; exact this
  have e2:u1.leaf=false:=by have:=congrArg Nod.leaf h7; exact this
  have e3:d1.fresh=r.1.fresh:=by rw [← h5]; rfl
  have e4:d.ov.fresh=d.fresh:=rfl
  have:=mended_any db H0 h d1 T u1 i W h1 (fun W' t'=>by rw [h3]; exact hT W' (t.trans (by rw [h4] at t'; exact t'))) (Nat.le_trans h0 t.size) h6 e2 (by rw [e1]; exact hl1) (by omega)
   (by rw [e1,h5,← hM]; exact s15) (by rw [e1]; exact s16) (by rw [e1]; exact s17) (by rw [e1,h5,← hM]; exact s18) (by rw [e1,h5,← hM]; exact s19) (by rw [e1,h5,← hM]; exact s20)
  refine this.mono ?_
  rintro e w' ⟨d2,u2,g1,g2,g3,g4,g5,g6,g7,g8,g9⟩
  rw [e1,h5,← hM] at g3 g5
  rw [h4] at g9
  exact ⟨d2,u2,g1,g2,g3,g4,g5,g6.trans h2,g7.trans h3,g8.trans h4,g9⟩
 have hmf:(mended M r.1 es1 i).1.fresh≤r.1.fresh+1:=(mended_ok s15 s16 s17 s18 s19 s20 (by have e:(topN:Int)=268435456:=rfl; have e4:d.ov.fresh=d.fresh:=rfl; omega)).fr1
 have HSE:Hid (∀ W (d2:Dv) (u2:Nv),Tch [db,d.mb] w W→IsDr W db d2 H0→d2.root=d.root→d2.tb=d.tb→d2.mb=d.mb→d2.ov=(mended M r.1 es1 i).1→Gd W u2→u2.nod=⟨false,(mended M r.1 es1 i).2⟩→Calls Tryz.prog 169 #[.pointer (some ⟨db,0,none⟩),.int .i64 a,.agg #[.bool u2.leaf,.slice u2.ka u2.kn u2.kc,.slice u2.va u2.vn u2.vc,.slice u2.ia u2.im u2.ic]] W fun e w'=>∃ x,e=.returned x∧SetPost w db H0 d (altB (mN T.f) (h+1) d.ov a ⟨ck,cv,cg⟩) e w'):=fun W d2 u2 t h1 h2 h3 h4 h5 h6 h7=>by
  have e3:d2.fresh=(mended M r.1 es1 i).1.fresh:=by rw [← h5]; rfl
  have e4:d.ov.fresh=d.fresh:=rfl
  refine (settle_any db H0 d2 u2 a W h1 (Nat.le_trans h0 t.size) h6 ha (by omega)).mono ?_
  rintro e w' ⟨d3,x,g1,g2,g3,g4,g5,g6,g7,g8⟩
  rw [h5,h7,← hdef] at g2 g4
  rw [h4] at g8
  rw [← hM]
  exact ⟨x,g1,d3,x,g1,own_base g2 t.size,g3,g4,g5.trans h2,g6.trans h3,g7.trans h4,t.trans g8⟩
 have hki:=kidAt_is (hv w (Tch.refl _ _)).lens hlf i s6
 have hkk:k=kidAt (d.at_ T a).es i:=by rw [hi]; exact hk
 have HK:Hid (∀ W,Tch [] w W→W.cell? ⟨(d.at_ T a).ib,(d.at_ T a).io+i,none⟩=some (.int .i64 k)):=fun W t=>by
  rw [hkk]
  exact (hv W (t.mono (by simp))).nv.ri.one hki rfl
 have hia:(d.at_ T a).ia=some ⟨(d.at_ T a).ib,(d.at_ T a).io,none⟩:=(hv w (Tch.refl _ _)).nv.ri.some_ (by have:=(hv w (Tch.refl _ _)).nv.ri.hlen; have:=(List.getElem?_eq_some_iff.1 hki).1; omega)
 have hin:(i:Int) < ((d.at_ T a).im:Int):=by rw [(hv w (Tch.refl _ _)).im,hlf]; simp; omega
 have hi0:(0:Int)≤(i:Int):=by omega
 have hi4:(i:Int)≤400:=by omega
 have hne:d.mb≠db:=hd.ns.mp.ne hd.blk
 have hl0:=lt_of_block hd.blk
 have hmbl:d.mb < w.heap.size:=by obtain ⟨D,⟨es,clock,hb,_⟩,_⟩:=hd.ns.mp; exact lt_of_block hb
 obtain ⟨W0,hW0⟩:∃ W0,W0=w.alloc (.cells #[.string ck,.string cv,.bool cg] 62):=⟨_,rfl⟩
 have T0:Tch [] w W0:=by rw [hW0]; exact (Tch.refl _ _).alloc _
 have hbC:W0.heap[w.heap.size]?=some (.cells #[.string ck,.string cv,.bool cg] 62 (0,0)):=by rw [hW0]; exact blk_new _ _
 have hXW:w.heap.size < W0.heap.size:=lt_of_block hbC
 have HC:Hid (∀ W,Tch [db,d.mb] W0 W→W.cell? ⟨w.heap.size,0,none⟩=some (.string ck)∧W.cell? ⟨w.heap.size,1,none⟩=some (.string cv)∧W.cell? ⟨w.heap.size,2,none⟩=some (.bool cg)):=fun W t=>by
  have h:=t.keep hbC (by simp; omega)
  exact ⟨by rw [blk_cell h]; rfl,by rw [blk_cell h]; rfl,by rw [blk_cell h]; rfl⟩
 clear hd hT h0 hs hsr hn hlt h2 hfr ht htop hM hes s1 s2 s3 s5 s7 s8 s9 s10 s11 s13 s12 s21 s14 s15 s16 s17 s18 s19 s20 hk hi hr he1 hv hl1 hval1 hki hkk hbC s4 s6 hmf ih hc
 generalize SetPost w db H0 d (altB (mN T.f) (h+1) d.ov a ⟨ck,cv,cg⟩)=Q at *
 generalize mended M r.1 es1 i=mm at *
 generalize hvv:d.at_ T a=v at *
 clear hvv hdef
 unfold vNv at HND HPL HWK
 have HIA:=Lib.hid hia
 have HLF:=Lib.hid hlf
 clear hia hlf
 generalize v.ib=vib at *
 generalize v.io=vio at *
 generalize v.leaf=vleaf at *
 generalize v.ka=vka at *
 generalize v.kn=vkn at *
 generalize v.kc=vkc at *
 generalize v.va=vva at *
 generalize v.vn=vvn at *
 generalize v.vc=vvc at *
 generalize v.ia=via at *
 generalize v.im=vim at *
 generalize v.ic=vic at *
 have hia:=HIA.out
 subst hia
 have hlf:=HLF.out
 subst hlf
 generalize r.2.length=rn at *
 go_enter Tryz.func138,Tryz.ntmps138
 go_upto_region 1 with fail
 rw [← hW0]
 clear hW0
 go_upto_if 14 with (go_at_call 100; (with_reducible refine (HND.out _ T0).mono ?_); rintro e w3 ⟨rfl,t3⟩)
 obtain ⟨W4,hW4⟩:∃ W4,W4=w3.alloc (.cells #[.bool false,.slice vka vkn vkc,.slice vva vvn vvc,.slice (some ⟨vib,vio,none⟩) vim vic] 138):=⟨_,rfl⟩
 rw [← hW4]
 have t4:Tch [] w3 W4:=by rw [hW4]; exact (Tch.refl _ _).alloc _
 have hb4:W4.heap[w3.heap.size]?=some (.cells #[.bool false,.slice vka vkn vkc,.slice vva vvn vvc,.slice (some ⟨vib,vio,none⟩) vim vic] 138 (0,0)):=by rw [hW4]; exact blk_new _ _
 have T4:=T0.trans (t3.trans t4)
 have hX1:w.heap.size < w3.heap.size:=Nat.lt_of_lt_of_le hXW t3.size
 have HX:Hid (∀ W,Tch [db,d.mb] W4 W→W.heap[w3.heap.size]?=some (.cells #[.bool false,.slice vka vkn vkc,.slice vva vvn vvc,.slice (some ⟨vib,vio,none⟩) vim vic] 138 (0,0))∧(W.cell? ⟨w3.heap.size,0,none⟩=some (.bool false)∧W.cell? ⟨w3.heap.size,1,none⟩=some (.slice vka vkn vkc)∧W.cell? ⟨w3.heap.size,2,none⟩=some (.slice vva vvn vvc)∧W.cell? ⟨w3.heap.size,3,none⟩=some (.slice (some ⟨vib,vio,none⟩) vim vic))):=fun W t=>by
  have h:=t.keep hb4 (by simp; omega)
  exact ⟨h,by rw [blk_cell h]; rfl,by rw [blk_cell h]; rfl,by rw [blk_cell h]; rfl,by rw [blk_cell h]; rfl⟩
 have HC4:Hid (∀ W,Tch [db,d.mb] W4 W→W.cell? ⟨w.heap.size,0,none⟩=some (.string ck)∧W.cell? ⟨w.heap.size,1,none⟩=some (.string cv)∧W.cell? ⟨w.heap.size,2,none⟩=some (.bool cg)):=fun W t=>HC.out W (((t3.trans t4).mono (by simp)).trans t)
 clear hW4 hb4
 obtain ⟨_,n0,n1,n2,n3⟩:=HX.out W4 (Tch.refl _ _)
 obtain ⟨c0,c1,c2⟩:=HC4.out W4 (Tch.refl _ _)
 go_upto_region 5 with (go_at_call 49; (with_reducible refine (HPL.out _ T4).mono ?_); rintro e w5 ⟨hit,rfl,t5⟩)
 have T5:=T4.trans t5
 have T5d:Tch [] w w5.drew:=T5.drew
 have t5m:Tch [db,d.mb] W4 w5.drew:=(t5.mono (by simp)).drew
 have hk5:=HK.out w5 T5
 obtain ⟨_,n0,n1,n2,n3⟩:=HX.out w5 (t5.mono (by simp))
 obtain ⟨c0,c1,c2⟩:=HC4.out w5 (t5.mono (by simp))
 have HIH:=Lib.hid (IHC.out w5.drew T5d)
 have T5m:Tch [db,d.mb] w w5.drew:=T5d.mono (by simp)
 go_cut [] from 10 to 48 (fun wx=>∃ (d1:Dv) (u1:Nv),IsDr wx db d1 H0∧d1.root=d.root∧d1.tb=d.tb∧d1.mb=d.mb∧d1.ov=r.1∧Gd wx u1∧u1.nod=⟨false,es1⟩∧wx.heap[w3.heap.size]?=some (.cells #[.bool u1.leaf,.slice u1.ka u1.kn u1.kc,.slice u1.va u1.vn u1.vc,.slice u1.ia u1.im u1.ic] 138 (0,0))∧Tch [db,d.mb] w wx)
 case first =>
  have hwf1:IntKind.i64.wrap ((i:Int)+1)=(i:Int)+1:=IntWalk.i64_in _ (by omega)
  clear HND HPL IHC HME HSE HC T0 t3 t4 T4 HK hi4 T5 t5 HC4
  go_region_law (first
   | (go_simp; go_at_call 138; (with_reducible refine HIH.out.mono ?_); rintro e w6 ⟨d1,x,c3,rfl,hx,hd1,ho,e1,e2,e3,t6⟩; obtain ⟨hX6,m0,m1,m2,m3⟩:=HX.out w6 (t5m.trans t6))
   | (go_simp; go_at_call 140; (with_reducible refine (HWK.out w6 d1 x c3 _ (T5m.trans t6) hd1 e2 ho hx).mono ?_); rintro e w7 ⟨u1,rfl,hg7,hun7,t7⟩; have hX7:=t7.keep hX6 (by simp); have r0:=blk_cell hX7 0; have r1:=blk_cell hX7 1; have r2:=blk_cell hX7 2; have r3:=blk_cell hX7 3; simp only [gA,gZ,gS] at r0 r1 r2 r3; have f0:=blk_free hX7 0; have f1:=blk_free hX7 1; have f2:=blk_free hX7 2; have f3:=blk_free hX7 3))
  all_goals
   have hW:=blk_put4 hX7 (.bool u1.leaf) (.slice u1.ka u1.kn u1.kc) (.slice u1.va u1.vn u1.vc) (.slice u1.ia u1.im u1.ic)
   have T8:=(Tch.refl [w3.heap.size] w7).put4 (b:=w3.heap.size) (by simp) (.bool u1.leaf) (.slice u1.ka u1.kn u1.kc) (.slice u1.va u1.vn u1.vc) (.slice u1.ia u1.im u1.ic)
   have HE:=Lib.hid ((hd1.keep0 t7).node4 hX7 T8)
   have HE2:=Lib.hid (hg7.node4 hX7 T8)
   have HE3:=Lib.hid (((T5m.trans t6).trans (t7.mono (by simp))).transNew T8 (fun m hm=>Or.inr (by simp at hm; omega)))
   have HW:=Lib.hid hW
   clear hW T8 hg7
   go_wp2_with fail
   go_meet
   exact ⟨d1,u1,HE.out,e1,e2,e3,ho,HE2.out,hun7,HW.out,HE3.out⟩
 case rest =>
  obtain ⟨d1,u1,hd1,e1,e2,e3,ho,hg,hun,hb,tc⟩:=hcut
  have p0:=blk_cell hb 0
  have p1:=blk_cell hb 1
  have p2:=blk_cell hb 2
  have p3:=blk_cell hb 3
  simp only [gA,gZ,gS] at p0 p1 p2 p3
  have HM1:=Lib.hid (HME.out wc d1 u1 tc hd1 e1 e2 e3 ho hg hun)
  clear n0 n1 n2 n3 c0 c1 c2 hk5 hd1 ho hg hun hb
  go_wp2_with (first | (go_at_call 170; (with_reducible refine HM1.out.mono ?_); rintro e w6 ⟨d2,u2,rfl,hg6,hun6,hd6,ho6,g1,g2,g3,t6⟩) | (go_at_call 169; (with_reducible refine (HSE.out w6 d2 u2 (tc.trans t6) hd6 g1 g2 g3 ho6 hg6 hun6).mono ?_); rintro e w7 ⟨x,rfl,hq⟩))
  exact hq
theorem below_any (T:Tv) (ck cv:ByteArray) (cg:Bool) (db H0:Nat) (hc:(⟨ck,cv,cg⟩:Ch).ok):∀ h,BelowOk T ⟨ck,cv,cg⟩ db H0 h
 | 0=>below_leaf T ck cv cg db H0 hc
 | h+1=>below_step T ck cv cg db H0 h hc (below_any T ck cv cg db H0 hc h)
end Go.Proofs.YtlkgnljdpakkcaaGreatDoor
/-
 'lowered' of a draft: a root with one kid gives its place to it. Conditions: the root's number is one of a node.
-/
namespace Go.Proofs.YtlkgnljdpakkcaaGreatDoor
open Go.RowKit
def LowPost (w:World) (db H0:Nat) (d:Dv) (s:Ov × Int) (e:Ending) (w':World):Prop :=
 ∃ d2:Dv,e=.returned (.int .i64 s.2)∧IsDr w' db d2 H0∧d2.ov=s.1∧d2.root=d.root∧d2.tb=d.tb∧d2.mb=d.mb∧Tch [db,d.mb] w w'
set_option maxRecDepth 100000 in
set_option maxHeartbeats 4000000 in
theorem lowered_any (db H0:Nat) (d:Dv) (T:Tv) (x:Int) (w:World) (hd:IsDr w db d H0) (ht:IsTr w d.tb T) (hx:0≤x∧x < (topN:Int)) :
 Calls Tryz.prog 139 #[.pointer (some ⟨db,0,none⟩),.int .i64 x] w (LowPost w db H0 d (lowered (mN T.f) d.ov x)):=by
 have HND:Hid (∀ W,Tch [] w W→Calls Tryz.prog 100 #[.pointer (some ⟨db,0,none⟩),.int .i64 x] W fun e w'=>e=.returned (vNv (d.at_ T x))∧Tch [] W w'):=fun W t=>node_any db H0 d T _ W (hd.keep0 t) (ht.keep0 t) hx
 have HDR:Hid (∀ W,Tch [] w W→Calls Tryz.prog 171 #[.pointer (some ⟨db,0,none⟩),.int .i64 x] W fun e w'=>e=.returned (.tuple #[])∧(IsDr w' db { d with f:=updN d.f x (some nvz) } H0∧Tch [d.mb] W w')):=fun W t=>drop_any db H0 d x W (hd.keep0 t) hx
 have hg:=at_gd hd ht x
 have him:=hg.im
 have hmbl:d.mb < w.heap.size:=by obtain ⟨D,⟨es,clock,hb,_⟩,_⟩:=hd.ns.mp; exact lt_of_block hb
 by_cases hc:(d.at_ T x).leaf=false∧(d.at_ T x).es.length=1
 · have hl:lowered (mN T.f) d.ov x=(d.ov.set x nod0,kidAt (d.at_ T x).es 0):=by
    unfold lowered
    rw [← at_leaf,← at_es,if_pos hc]
   have hi1:(d.at_ T x).im=1:=by rw [him,hc.1]; simpa using hc.2
   have hki:=kidAt_is hg.lens hc.1 0 (by omega)
   have hia:(d.at_ T x).ia=some ⟨(d.at_ T x).ib,(d.at_ T x).io,none⟩:=hg.nv.ri.some_ (by omega)
   have HK:Hid (∀ W,Tch [db,d.mb] w W→W.cell? ⟨(d.at_ T x).ib,(d.at_ T x).io,none⟩=some (.int .i64 (kidAt (d.at_ T x).es 0))):=fun W t=>by
    have:=(gd_over hg hd t).nv.ri.one hki (v:=.int .i64 (kidAt (d.at_ T x).es 0)) rfl
    simpa using this
   have HF:Hid (∀ W w',Tch [] w W→IsDr w' db { d with f:=updN d.f x (some nvz) } H0→Tch [d.mb] W w'→LowPost w db H0 d (lowered (mN T.f) d.ov x) (.returned (.int .i64 (kidAt (d.at_ T x).es 0))) w'):=fun W w' t h1 t1=>by
    rw [hl]
    exact ⟨_,rfl,h1,by rw [ov_put,nvz_nod],rfl,rfl,rfl,(t.mono (by simp)).trans (t1.mono (by simp))⟩
   clear hd ht hx hg him hl hki hc
   generalize LowPost w db H0 d (lowered (mN T.f) d.ov x)=Q at *
   generalize kidAt (d.at_ T x).es 0=k at *
   generalize d.at_ T x=v at *
   generalize v.ib=vib at *
   generalize v.io=vio at *
   unfold vNv at HND
   generalize v.leaf=vleaf at *
   generalize v.ka=vka at *
   generalize v.kn=vkn at *
   generalize v.kc=vkc at *
   generalize v.va=vva at *
   generalize v.vn=vvn at *
   generalize v.vc=vvc at *
   generalize v.ia=via at *
   generalize v.im=vim at *
   generalize v.ic=vic at *
   subst hia
   subst hi1
   go_enter Tryz.func139,Tryz.ntmps139
   go_upto_if 12 with (go_at_call 100; (with_reducible refine (HND.out _ (Tch.refl _ _)).mono ?_); rintro e w3 ⟨rfl,t3⟩)
   obtain ⟨W4,hW4⟩:∃ W4,W4=w3.alloc (.cells #[.bool vleaf,.slice vka vkn vkc,.slice vva vvn vvc,.slice (some ⟨vib,vio,none⟩) 1 vic] 138):=⟨_,rfl⟩
   rw [← hW4]
   have t4:Tch [] w3 W4:=by rw [hW4]; exact (Tch.refl _ _).alloc _
   have hb4:W4.heap[w3.heap.size]?=some (.cells #[.bool vleaf,.slice vka vkn vkc,.slice vva vvn vvc,.slice (some ⟨vib,vio,none⟩) 1 vic] 138 (0,0)):=by rw [hW4]; exact blk_new _ _
   have hlt:=t3.size
   clear hW4
   go_wp2_with (go_at_call 171; (with_reducible refine (HDR.out _ (t3.trans t4)).mono ?_); rintro e w5 ⟨rfl,hdr,t5⟩; have hb5:=t5.keep hb4 (by simp; omega); have n3:=blk_cell hb5 3; simp only [gA,gZ,gS] at n3; have k0:=HK.out w5 (((t3.trans t4).mono (by simp)).trans (t5.mono (by simp))))
   exact HF.out _ _ (t3.trans t4) hdr t5
 · have hl:lowered (mN T.f) d.ov x=(d.ov,x):=by
    unfold lowered
    rw [← at_leaf,← at_es,if_neg hc]
   have hi1:¬ (((d.at_ T x).im:Nat):Int)=1:=by
    rw [him]
    intro e
    cases hlf:(d.at_ T x).leaf
    · rw [hlf] at e
      exact hc ⟨hlf,by simpa using (by omega:(if false=true then 0 else (d.at_ T x).es.length)=1)⟩
    · rw [hlf] at e; simp at e
   have HF:Hid (∀ W,Tch [] w W→LowPost w db H0 d (lowered (mN T.f) d.ov x) (.returned (.int .i64 x)) W):=fun W t=>by
    rw [hl]
    exact ⟨d,rfl,hd.keep0 t,rfl,rfl,rfl,rfl,t.mono (by simp)⟩
   clear hd ht hx hg him hl hc
   generalize LowPost w db H0 d (lowered (mN T.f) d.ov x)=Q at *
   generalize d.at_ T x=v at *
   unfold vNv at HND
   generalize v.leaf=vleaf at *
   generalize v.ka=vka at *
   generalize v.kn=vkn at *
   generalize v.kc=vkc at *
   generalize v.va=vva at *
   generalize v.vn=vvn at *
   generalize v.vc=vvc at *
   generalize v.ia=via at *
   generalize v.im=vim at *
   generalize v.ic=vic at *
   have hb:((vim:Int) == 1)=false:=by simp; omega
   go_enter Tryz.func139,Tryz.ntmps139
   go_wp2_with (go_at_call 100; (with_reducible refine (HND.out _ (Tch.refl _ _)).mono ?_); rintro e w3 ⟨rfl,t3⟩)
   exact HF.out _ (t3.alloc _)
end Go.Proofs.YtlkgnljdpakkcaaGreatDoor
/-
 'Get' of a tree: the value of a key. Conditions: the tree's nodes have the shape of one.
-/
namespace Go.Proofs.YtlkgnljdpakkcaaGreatDoor
open Go.RowKit
def Tv.nd (T:Tv) (x:Int):Nv:=(T.f x).getD nvz
theorem Tv.nd_nod (T:Tv) (x:Int):(T.nd x).nod=mN T.f x:=by
 unfold Tv.nd mN; cases T.f x <;> rfl
theorem Tv.nd_es (T:Tv) (x:Int):(T.nd x).es=(mN T.f x).es:=by rw [← T.nd_nod]; rfl
theorem Tv.nd_leaf (T:Tv) (x:Int):(T.nd x).leaf=(mN T.f x).leaf:=by rw [← T.nd_nod]; rfl
theorem Tv.nd_gd {w:World} {tb:Nat} {T:Tv} (h:IsTr w tb T) (x:Int):Gd w (T.nd x):=by
 unfold Tv.nd
 cases hx:T.f x with
 | some v=>exact h.ns.gd x v hx
 | none=>exact gdz w
def Stands (M:Int→Nod) (h:Nat) (x:Int):Prop:=(Sh M h x∧Srt (flat M h x))∨(h=0∧(M x).es=[])
theorem Stands.srt {M:Int→Nod} {h:Nat} {x:Int} (s:Stands M h x):Srt (M x).es:=by
 rcases s with ⟨h1,h2⟩ | ⟨_,h1⟩
 · cases h with
   | zero=>exact h2
   | succ h=>exact kids_srt (fun e he=>⟨(h1.1.2 e he).1,(h1.1.2 e he).2.1⟩) (by rw [flat_body] at h2; exact h2)
 · rw [h1]; simp [Srt]
theorem Stands.down {M:Int→Nod} {h:Nat} {x:Int} (s:Stands M (h+1) x) (key:ByteArray):Stands M h (kidAt (M x).es (plcN (M x).es key))∧0≤kidAt (M x).es (plcN (M x).es key)∧kidAt (M x).es (plcN (M x).es key) < (topN:Int)∧plcN (M x).es key < (M x).es.length∧(M x).leaf=false:=by
 rcases s with ⟨h1,h2⟩ | ⟨h1,_⟩
 · have hne:=h1.ne
   have hpos:0 < (M x).es.length:=List.length_pos_iff.2 hne
   have hlt:=plcN_lt (M x).es key hpos
   have hm:kidAt (M x).es (plcN (M x).es key)=(M x).es[plcN (M x).es key].kid:=by unfold kidAt; rw [List.getD_eq_getElem?_getD,List.getElem?_eq_getElem hlt]; rfl
   obtain ⟨k1,k2,_⟩:=h1.1.2 _ (List.getElem_mem hlt)
   rw [flat_body] at h2
   obtain ⟨A,e,C,hsp,hp,_,_⟩:=kid_place key (fun e he=>⟨(h1.1.2 e he).1,(h1.1.2 e he).2.1⟩) h2 hne
   have hke:kidAt (M x).es (plcN (M x).es key)=e.kid:=by rw [hp,hsp,kidAt_at]
   rw [hsp,bflat_app,bflat_app,show bflat M (h+1) [e]=flat M h e.kid from by simp [bflat]] at h2
   refine ⟨Or.inl ⟨by rw [hm]; exact k1,by rw [hke]; exact (Srt.app.1 (Srt.app.1 h2).1).2.1⟩,by rw [hm]; have:=k2.2.1; omega,by rw [hm]; exact k2.2.2.1,hlt,h1.1.1⟩
 · cases h1
def getV (o:Option ByteArray):Value:=match o with
 | some v=>.tuple #[.string v,.bool true]
 | none=>.tuple #[.string ⟨#[]⟩,.bool false]
def GetRel (w:World) (T:Tv) (key:ByteArray) (X:Nat) (o:Option ByteArray) (n:Nat) (v7 v8:Value) (wr:World):Prop :=
 ∃ (x:Int) (v:Nv),v=T.nd x∧Stands (mN T.f) n x∧getT (mN T.f) n x key=o∧v7=.int .i64 (plcN (T.nd x).es key:Nat)∧v8=.bool (hitE (T.nd x).es key) ∧
  wr.heap[X]?=some (.cells #[.bool v.leaf,.slice v.ka v.kn v.kc,.slice v.va v.vn v.vc,.slice v.ia v.im v.ic] 138 (0,0))∧Tch [] w wr
set_option maxRecDepth 100000 in
set_option maxHeartbeats 4000000 in
theorem get_nil (key:ByteArray) (w:World):Calls Tryz.prog 17 #[.pointer none,.string key] w fun e w'=>e=.returned (getV none)∧w'=w:=by
 unfold getV
 simp only
 go_enter Tryz.func17,Tryz.ntmps17
 go_wp2_with fail
 exact bodyPost_ret (v:=.tuple #[.string ⟨#[]⟩,.bool false]) (by simp [results,Tryz.results17,go_sem]) rfl ⟨rfl,rfl⟩
set_option maxRecDepth 100000 in
set_option maxHeartbeats 4000000 in
theorem get_any (tb h:Nat) (T:Tv) (key:ByteArray) (w:World) (ht:IsTr w tb T) (s:Stands (mN T.f) h T.root) (hr:0≤T.root∧T.root < (topN:Int)) (hk:key.size≤10000000) :
 Calls Tryz.prog 17 #[.pointer (some ⟨tb,0,none⟩),.string key] w fun e w'=>e=.returned (getV (getT (mN T.f) h T.root key))∧Tch [] w w':=by
 have HLK:Hid (∀ (x:Int) W,Tch [] w W→0≤x∧x < (topN:Int)→(Instr.lookup 124 (.map (some T.mb)) (.int .i64 x) false).run Tryz.prog W=.ok (vNv (T.nd x)) W):=fun x W t hx=>by
  have:=(ht.ns.mp.keep t (by simp)).look Tryz.underlying124 (zeroNd _) (x:=x) (wfI (by omega) (by unfold topN at hx; omega))
  rw [this]
  have e:((fun x=>(T.f x).map vNv) x).getD (vNv nvz)=vNv (T.nd x):=by unfold Tv.nd; simp only; cases T.f x <;> rfl
  rw [← e]
 have HTC:Hid (∀ W,Tch [] w W→W.cell? ⟨tb,0,none⟩=some (.int .i64 T.root)∧W.cell? ⟨tb,2,none⟩=some (.map (some T.mb))):=fun W t=>by
  have h:=t.keep ht.blk (by simp)
  exact ⟨by rw [blk_cell h]; rfl,by rw [blk_cell h]; rfl⟩
 have HPL:Hid (∀ (x:Int) (n:Nat) W,Tch [] w W→Stands (mN T.f) n x→Calls Tryz.prog 49 #[vNv (T.nd x),.string key] W fun e w'=>e=.returned (.tuple #[.int .i64 (plcN (T.nd x).es key:Nat),.bool (hitE (T.nd x).es key)])∧Tch [] W w'):=fun x n W t s=>by
  have g:=T.nd_gd (ht.keep0 t) x
  exact place_any (T.nd x) key W g.nv g.ok g.caps (by omega) (rise_srt (by rw [T.nd_es]; exact s.srt))
 have HGD:Hid (∀ (x:Int) W,Tch [] w W→Gd W (T.nd x)):=fun x W t=>T.nd_gd (ht.keep0 t) x
 have htb:=lt_of_block ht.blk
 have hl0:=HLK.out T.root w.drew (Tch.refl _ _).drew hr
 obtain ⟨b0,b2⟩:=HTC.out w (Tch.refl _ _)
 clear ht
 go_enter Tryz.func17,Tryz.ntmps17
 go_upto_region 3 with fail
 go_cut [6] from 9 to 54 (fun v6 wx=>∃ X,v6=.pointer (some ⟨X,0,none⟩)∧w.heap.size≤X∧(∃ v:Nv,v=T.nd T.root∧wx.heap[X]?=some (.cells #[.bool v.leaf,.slice v.ka v.kn v.kc,.slice v.va v.vn v.vc,.slice v.ia v.im v.ic] 138 (0,0)))∧Tch [] w wx)
 case first =>
  have HL:Hid (∀ W,Tch [] w W→W.cell? ⟨tb,0,none⟩=some (.int .i64 T.root)∧W.cell? ⟨tb,2,none⟩=some (.map (some T.mb))∧(Instr.lookup 124 (.map (some T.mb)) (.int .i64 T.root) false).run Tryz.prog W=.ok (vNv (T.nd T.root)) W):=fun W t=>⟨(HTC.out W t).1,(HTC.out W t).2,HLK.out _ W t hr⟩
  clear HLK HTC HPL HGD hl0 b0 b2 s hr htb
  generalize T.nd T.root=v at *
  unfold vNv at HL
  generalize T.root=rt at *
  generalize T.mb=mb at *
  have td:Tch [] w w.drew:=(Tch.refl _ _).drew
  go_region_held3 (fun w'=>w'.cell? ⟨tb,0,none⟩=some (.int .i64 rt)∧w'.cell? ⟨tb,2,none⟩=some (.map (some mb))∧(Instr.lookup 124 (.map (some mb)) (.int .i64 rt) false).run Tryz.prog w'=.ok (.agg #[.bool v.leaf,.slice v.ka v.kn v.kc,.slice v.va v.vn v.vc,.slice v.ia v.im v.ic]) w')
   (((with_reducible refine HL.out _ ?_); repeat (first | with_reducible exact Tch.refl _ _ | with_reducible refine Tch.drew ?_ | with_reducible refine Tch.alloc ?_ _ | with_reducible refine Tch.setNew ?_ (Nat.le_refl _) _)))
   (first | (go_at_call 49; fail))
  all_goals
   go_wp2_with fail
   go_meet
   exact ⟨w.heap.size,rfl,Nat.le_refl _,⟨v,rfl,blk_new _ _⟩,((Tch.refl _ _).alloc _).drew⟩
 case rest =>
  obtain ⟨X,rfl,hX,⟨v,hv,hb⟩,t1⟩:=hcut
  have n0:=blk_cell hb 0
  have n1:=blk_cell hb 1
  have n2:=blk_cell hb 2
  have n3:=blk_cell hb 3
  simp only [gA,gZ,gS] at n0 n1 n2 n3
  have hp:=HPL.out T.root h wc t1 s
  rw [← hv] at hp
  have HP:=Lib.hid hp
  clear hp hl0 b0 b2
  unfold vNv at HP
  have hvr:=Lib.hid hv
  clear hv
  go_wp2_with (go_at_call 49; (with_reducible refine HP.out.mono ?_); rintro e w5 ⟨rfl,t5⟩)
  have hb5:=t5.keep hb (by simp)
  have T5:=t1.trans t5
  clear n0 n1 n2 n3 hb
  go_loopg [7,8] h (fun n v7 v8 wr=>GetRel w T key X (getT (mN T.f) h T.root key) n v7 v8 wr)
  case atStart=>exact ⟨T.root,v,hvr.out,s,rfl,by rw [← hvr.out],by rw [← hvr.out],hb5,T5⟩
  case round =>
   obtain ⟨x,u,hu,s2,ho,rfl,rfl,hbu,t⟩:=hrel
   clear hb5 T5 t5 t1 HP hvr
   have g:=HGD.out x wr t
   rw [← hu] at g
   have eE:(mN T.f x).es=u.es:=by rw [hu,T.nd_es]
   have eL:(mN T.f x).leaf=u.leaf:=by rw [hu,T.nd_leaf]
   rw [← hu]
   have m0:=blk_cell hbu 0
   have m1:=blk_cell hbu 1
   have m2:=blk_cell hbu 2
   have m3:=blk_cell hbu 3
   simp only [gA,gZ,gS] at m0 m1 m2 m3
   have him:=g.im
   match gk,s2,ho with
   | 0,s2,ho =>
    have him0:u.im=0:=by
     rw [him]
     rcases s2 with ⟨h1,_⟩ | ⟨_,h1⟩
     · rw [← eL,h1.1.1]; rfl
     · rw [← eE,h1]; split <;> rfl
    rw [him0] at m3
    have ho2:(if hitE u.es key=true then some ((u.es.getD (plcN u.es key) en0).val) else none)=getT (mN T.f) h T.root key:=by rw [← ho,← eE]; rfl
    cases hhit:hitE u.es key
    · rw [hhit,if_neg (by simp)] at ho2
      have HO:=Lib.hid ho2
      clear him him0 ho ho2 s2 g eE eL s hr HLK HTC HPL HGD hu
      go_wp2_with fail
      exact bodyPost_ret (v:=.tuple #[.string ⟨#[]⟩,.bool false]) (by simp [results,Tryz.results17,go_sem]) rfl ⟨by rw [← HO.out]; rfl,t⟩
    · rw [hhit,if_pos rfl] at ho2
      have HO:=Lib.hid ho2
      have hP:plcN u.es key < u.es.length:=by
       have hh:=hhit
       unfold hitE at hh
       cases hq:u.es[plcN u.es key]? with
       | none=>rw [hq] at hh; cases hh
       | some e=>exact (List.getElem?_eq_some_iff.1 hq).1
      have hleaf:u.leaf=true:=by
       rcases s2 with ⟨h1,_⟩ | ⟨_,h1⟩
       · rw [← eL]; exact h1.1.1
       · rw [eE] at h1; rw [h1] at hP; simp at hP
      have hval:u.vals[plcN u.es key]?=some (u.es.getD (plcN u.es key) en0).val:=by
       rw [← Nv.valsE g.lens hleaf,List.getElem?_map,List.getD_eq_getElem?_getD,List.getElem?_eq_getElem hP]; rfl
      have hvl:=(List.getElem?_eq_some_iff.1 hval).1
      have hvn:u.vn=u.vals.length:=g.nv.rv.hlen
      have hvk:=g.nv.rv.one hval rfl
      have hva:=g.nv.rv.some_ (by omega)
      have hvs:(u.es.getD (plcN u.es key) en0).val.size≤1000000000:=by
       have h1:=map_sum_mem u.vals _ (List.mem_of_getElem? hval)
       have h2:=g.ok.tot
       omega
      have HCL:=Lib.hid (clone_any (u.es.getD (plcN u.es key) en0).val wr hvs)
      have hP0:(0:Int)≤(plcN u.es key:Int):=by omega
      have hP1:((plcN u.es key:Nat):Int) < (u.vn:Int):=by omega
      rw [hva] at m2
      generalize (u.es.getD (plcN u.es key) en0).val=val at *
      clear him him0 ho ho2 s2 g eE eL s hr HLK HTC HPL HGD hu hvs hva hvn hvl hval hleaf hP
      generalize plcN u.es key=P at *
      go_wp2_with (go_at_call 50; (with_reducible refine HCL.out.mono ?_); rintro e w6 ⟨rfl,t6⟩)
      exact bodyPost_ret (v:=.tuple #[.string val,.bool true]) (by simp [results,Tryz.results17,go_sem]) rfl ⟨by rw [← HO.out]; rfl,t.trans t6⟩
   | n+1,s2,ho =>
    obtain ⟨s3,k0,k1,k2,k3⟩:=s2.down key
    rw [eE] at s3 k0 k1 k2
    rw [eL] at k3
    have ho3:getT (mN T.f) n (kidAt u.es (plcN u.es key)) key=getT (mN T.f) h T.root key:=by rw [← ho,← eE]; rfl
    have him1:u.im=u.es.length:=by rw [him,k3]; rfl
    have hki:=kidAt_is g.lens k3 (plcN u.es key) k2
    have hia:=g.nv.ri.some_ (by omega)
    have hkc:=g.nv.ri.one hki rfl
    have hP0:(0:Int)≤(plcN u.es key:Int):=by omega
    have hP1:((plcN u.es key:Nat):Int) < (u.im:Int):=by omega
    have hd:decide (0 < u.im)=true:=decide_eq_true (by omega)
    obtain ⟨b0,b2⟩:=HTC.out wr t
    have hlk:=HLK.out (kidAt u.es (plcN u.es key)) wr.drew t.drew ⟨k0,k1⟩
    have HPX:=Lib.hid (fun W t=>HPL.out (kidAt u.es (plcN u.es key)) n W t s3)
    have HS3:=Lib.hid s3
    have HO3:=Lib.hid ho3
    rw [hia] at m3
    generalize hk:kidAt u.es (plcN u.es key)=k at *
    obtain ⟨v2,hv2⟩:∃ v2,v2=T.nd k:=⟨_,rfl⟩
    rw [← hv2] at hlk HPX
    unfold vNv at hlk HPX
    have HV2:=Lib.hid hv2
    have HB:=Lib.hid hbu
    clear him ho s2 s3 ho3 g eE eL s hr HLK HPL HGD hu hk hv2 k0 k1 k2 k3 hki hia him1 hbu
    generalize plcN u.es key=P at *
    have f0:=blk_free HB.out 0
    have f1:=blk_free HB.out 1
    have f2:=blk_free HB.out 2
    have f3:=blk_free HB.out 3
    go_upto_region 6 with fail
    go_region
    all_goals
     have hb7:((((wr.setCell ⟨X,0,none⟩ (.bool v2.leaf)).setCell ⟨X,1,none⟩ (.slice v2.ka v2.kn v2.kc)).setCell ⟨X,2,none⟩ (.slice v2.va v2.vn v2.vc)).setCell ⟨X,3,none⟩ (.slice v2.ia v2.im v2.ic)).drew.heap[X]?=_:=blk_put4 HB.out (.bool v2.leaf) (.slice v2.ka v2.kn v2.kc) (.slice v2.va v2.vn v2.vc) (.slice v2.ia v2.im v2.ic)
     have t7:=((Tch.refl [X] wr).put4 (b:=X) (by simp) (.bool v2.leaf) (.slice v2.ka v2.kn v2.kc) (.slice v2.va v2.vn v2.vc) (.slice v2.ia v2.im v2.ic)).drew
     generalize ((((wr.setCell ⟨X,0,none⟩ (.bool v2.leaf)).setCell ⟨X,1,none⟩ (.slice v2.ka v2.kn v2.kc)).setCell ⟨X,2,none⟩ (.slice v2.va v2.vn v2.vc)).setCell ⟨X,3,none⟩ (.slice v2.ia v2.im v2.ic)).drew=W7 at hb7 t7 ⊢
     have T7:Tch [] w W7:=t.transNew t7 (fun m hm=>Or.inr (by simp at hm; omega))
     have p0:=blk_cell hb7 0
     have p1:=blk_cell hb7 1
     have p2:=blk_cell hb7 2
     have p3:=blk_cell hb7 3
     simp only [gA,gZ,gS] at p0 p1 p2 p3
     have HP7:=Lib.hid (HPX.out W7 T7)
     have HB7:=Lib.hid hb7
     clear hlk m0 m1 m2 m3 f0 f1 f2 f3 hkc hd hb7
     go_wp2_with (go_at_call 49; (with_reducible refine HP7.out.mono ?_); rintro e w8 ⟨rfl,t8⟩)
     go_roundg n
     case measure=>omega
     case rel=>exact ⟨k,v2,HV2.out,HS3.out,HO3.out,by rw [HV2.out],by rw [HV2.out],t8.keep HB7.out (by simp),T7.trans t8⟩
end Go.Proofs.YtlkgnljdpakkcaaGreatDoor
