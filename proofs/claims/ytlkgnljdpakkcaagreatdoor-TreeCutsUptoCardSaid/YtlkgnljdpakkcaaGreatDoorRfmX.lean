/-
  Parts of the proof: Rfm.
-/
import Derived.Test.YtlkgnljdpakkcaaGreatDoorRfnX
import Derived.Test.YtlkgnljdpakkcaaGreatDoorM29
import Derived.Test.YtlkgnljdpakkcaaGreatDoorWkaX
set_option linter.unusedVariables false
set_option linter.unusedSimpArgs false
/-
 The document's Check of changes; 'same' of the laws at whatever lists; 'holds'.
-/
namespace Go.Proofs.YtlkgnljdpakkcaaGreatDoor
open Go.RowKit
theorem from_all (F:List En):fromL F ⟨#[]⟩=F:=by
 have e:∀ k:ByteArray,slt k ⟨#[]⟩=false:=fun k=>by
  unfold slt
  have:(⟨#[]⟩:ByteArray).toList=[]:=by rw [ByteArray.toList_eq]
  rw [this]
  cases k.toList <;> rfl
 unfold fromL
 rw [List.filter_eq_self]
 intro a _
 rw [e]; rfl
def RckRel (w:World) (cs:List Ch) (n:Nat) (v3:Value) (wr:World):Prop:=∃ i:Nat,n+i=cs.length∧v3=.int .i64 (i:Nat)∧chk cs []=chk (cs.drop i) ((cs.take i).map Ch.key)∧Tch [] w wr
def RckIn (w0:World) (cs:List Ch) (i:Nat) (key:ByteArray) (n:Nat) (v5:Value) (wr:World):Prop:=∃ k:Nat,n+k=i∧v5=.int .i64 (k:Nat)∧((cs.take k).map Ch.key).any (fun x=>decide (x=key))=false∧Tch [] w0 wr
theorem any_snoc {cs:List Ch} {k:Nat} (hk:k < cs.length) (key:ByteArray):((cs.take (k+1)).map Ch.key).any (fun x=>decide (x=key))=(((cs.take k).map Ch.key).any (fun x=>decide (x=key)) || decide (cs[k].key=key)):=by
 rw [List.take_succ_eq_append_getElem hk,List.map_append,List.any_append]; simp
theorem any_mono {cs:List Ch} {k i:Nat} (hk:k < i) (hi:i≤cs.length) {key:ByteArray} (h:decide (cs[k].key=key)=true):((cs.take i).map Ch.key).any (fun x=>decide (x=key))=true:=by
 rw [List.any_eq_true]
 refine ⟨cs[k].key,List.mem_map.2 ⟨cs[k],?_,rfl⟩,h⟩
 rw [List.mem_take_iff_getElem]
 exact ⟨k,by omega,rfl⟩
set_option maxRecDepth 100000 in
set_option maxHeartbeats 1000000 in
theorem rtcheck_any (cs:List Ch) (a:Option Addr) (n c b o:Nat) (w:World) (hr:IsR fChg 3 w a n b o cs) (hlen:cs.length≤900000000) :
 Calls Tryz.prog 25 #[.slice a n c] w fun e w'=>e=.returned (.int .i64 (chk cs []))∧Tch [] w w':=by
 obtain rfl:=hr.hlen
 have HCE:Hid (∀ W,Tch [] w W→∀ k (hk:k < cs.length),W.cell? ⟨b,o+k * 3,none⟩=some (.string cs[k].key)∧W.cell? ⟨b,o+k * 3+1,none⟩=some (.string cs[k].val)∧W.cell? ⟨b,o+k * 3+2,none⟩=some (.bool cs[k].gone)∧a=some ⟨b,o,none⟩):=fun W t k hk=>by
  have r:=hr.keep0 t
  have hg:cs[k]?=some cs[k]:=List.getElem?_eq_getElem hk
  exact ⟨r.c0 hg rfl,r.c hg 1 rfl,r.c hg 2 rfl,r.some_ (by omega)⟩
 have HF:Hid (∀ x W,chk cs []=x→Tch [] w W→(fun (e:Ending) (w':World)=>e=.returned (.int .i64 (chk cs []))∧Tch [] w w') (.returned (.int .i64 x)) W):=fun x W h t=>by subst h; exact ⟨rfl,t⟩
 have HST:Hid (RckRel w cs cs.length (.int .i64 0) w):=⟨0,by simp,rfl,by simp,Tch.refl _ _⟩
 have HLN:=Lib.hid hlen
 clear hr hlen
 generalize (fun (e:Ending) (w':World)=>e=.returned (.int .i64 (chk cs []))∧Tch [] w w')=Q at *
 go_enter Tryz.func25,Tryz.ntmps25
 go_wp2_with fail
 go_loopg [3] cs.length (fun n v3 wr=>RckRel w cs n v3 wr)
 case atStart=>exact HST.out
 case round =>
  obtain ⟨i,hni,rfl,hck,t⟩:=hrel
  have hln:=HLN.out
  match gk,hni with
  | 0,hni =>
   have hlt:decide (i < cs.length)=false:=decide_eq_false (by omega)
   rw [List.drop_of_length_le (by omega),chk] at hck
   have HE:=Lib.hid (HF.out _ wr hck t)
   clear hck
   go_wp2_with fail
   first | exact HE.out | (go_ret; exact HE.out)
  | g+1,hni =>
   have hi':i < cs.length:=by omega
   have hlt:decide (i < cs.length)=true:=decide_eq_true hi'
   have hi0:(0:Int)≤(i:Int):=by omega
   have hi1:(i:Int) < (cs.length:Int):=by omega
   obtain ⟨s0,s1,s2,ha⟩:=HCE.out wr t i hi'
   subst ha
   have HCK:Hid (chk cs []=chk (cs[i] :: cs.drop (i+1)) ((cs.take i).map Ch.key)):=by
    show _=_
    rw [← List.drop_eq_getElem_cons hi']; exact hck
   have HNX:Hid ((cs.take (i+1)).map Ch.key=(cs.take i).map Ch.key++[cs[i].key]):=by
    show _=_
    rw [List.take_succ_eq_append_getElem hi',List.map_append]; rfl
   clear hck
   obtain ⟨ci,hci⟩:∃ ci,ci=cs[i]:=⟨_,rfl⟩
   rw [← hci] at s0 s1 s2 HCK HNX
   clear hci
   obtain ⟨key,val,gone⟩:=ci
   simp only at s0 s1 s2 HNX
   obtain ⟨W1,hW1⟩:∃ W1,W1=wr.alloc (.cells #[.string key,.string val,.bool gone] 157):=⟨_,rfl⟩
   have u1:Tch [] wr W1:=by rw [hW1]; exact (Tch.refl _ _).alloc _
   have hb1:W1.heap[wr.heap.size]?=some (.cells #[.string key,.string val,.bool gone] 157 (0,0)):=by rw [hW1]; exact blk_new _ _
   have HBX:Hid (∀ W,Tch [] W1 W→W.cell? ⟨wr.heap.size,0,none⟩=some (.string key)):=fun W tt=>by
    rw [blk_cell (tt.keep hb1 (by simp))]; rfl
   have k0:=blk_cell hb1 0
   have k1:=blk_cell hb1 1
   simp only [gA,gZ,gS] at k0 k1
   have T1:=Lib.hid (t.trans u1)
   clear hb1 t u1
   by_cases h1:key.size < 1
   · have hd:decide (((key.size:Nat):Int) < 1)=true:=decide_eq_true (by omega)
     have hdi:((key.size:Nat):Int) < 1:=by omega
     have HE:=Lib.hid (HF.out 50 W1 (by rw [HCK.out,chk,if_pos (Or.inl h1)]) T1.out)
     go_upto_region 5 with fail
     rw [← hW1]
     clear hW1
     go_wp2_with fail
     first | exact HE.out | (go_ret; exact HE.out)
   have hd:decide (((key.size:Nat):Int) < 1)=false:=decide_eq_false (by omega)
   have hdi:1≤((key.size:Nat):Int):=by omega
   by_cases h2:48 < key.size
   · have hd2:decide (48 < ((key.size:Nat):Int))=true:=decide_eq_true (by omega)
     have hd2i:48 < ((key.size:Nat):Int):=by omega
     have HE:=Lib.hid (HF.out 50 W1 (by rw [HCK.out,chk,if_pos (Or.inr h2)]) T1.out)
     go_upto_region 5 with fail
     rw [← hW1]
     clear hW1
     go_wp2_with fail
     first | exact HE.out | (go_ret; exact HE.out)
   have hd2:decide (48 < ((key.size:Nat):Int))=false:=decide_eq_false (by omega)
   have hd2i:((key.size:Nat):Int)≤48:=by omega
   by_cases h3:200 < val.size
   · have hd3:decide (200 < ((val.size:Nat):Int))=true:=decide_eq_true (by omega)
     have hd3i:200 < ((val.size:Nat):Int):=by omega
     have HE:=Lib.hid (HF.out 51 W1 (by rw [HCK.out,chk,if_neg (by show ¬ (key.size < 1∨48 < key.size); omega),if_pos h3]) T1.out)
     go_upto_region 5 with fail
     rw [← hW1]
     clear hW1
     go_wp2_with fail
     first | exact HE.out | (go_ret; exact HE.out)
   have hd3:decide (200 < ((val.size:Nat):Int))=false:=decide_eq_false (by omega)
   have hd3i:((val.size:Nat):Int)≤200:=by omega
   have HC2:Hid (chk cs []=if ((cs.take i).map Ch.key).any (fun k=>decide (k=key))=true then 30 else chk (cs.drop (i+1)) ((cs.take i).map Ch.key++[key])):=by
    show _=_
    rw [HCK.out,chk,if_neg (by show ¬ (key.size < 1∨48 < key.size); omega),if_neg h3]
   have HS2:Hid (RckIn W1 cs i key i (.int .i64 0) W1):=⟨0,by omega,rfl,by simp,Tch.refl _ _⟩
   clear HCK h1 h2 h3
   go_upto_region 5 with fail
   rw [← hW1]
   clear hW1
   go_wp2_with fail
   obtain ⟨wo,hwo⟩:∃ wo:World,wo=W1:=⟨_,rfl⟩
   rw [← hwo] at HS2 HBX T1 ⊢
   clear hwo
   go_loopg [5] i (fun n v5 wr=>RckIn wo cs i key n v5 wr)
   case atStart=>exact HS2.out
   case round =>
    obtain ⟨k,hnk,rfl,hany,t⟩:=hrel
    have TT:=T1.out.trans t
    match gk,hnk with
    | 0,hnk =>
     have hlt2:decide (k < i)=false:=decide_eq_false (by omega)
     obtain rfl:k=i:=by omega
     have HG:Hid (RckRel w cs g (.int .i64 ((k:Int)+1)) wr):=⟨k+1,by omega,by simp,by rw [HC2.out,if_neg (by rw [hany]; simp),HNX.out],TT⟩
     clear hany
     go_wp2_with fail
     go_roundg g
     case measure=>omega
     case rel=>exact HG.out
    | g2+1,hnk =>
     have hk:k < i:=by omega
     have hlt2:decide (k < i)=true:=decide_eq_true hk
     have hk0:(0:Int)≤(k:Int):=by omega
     have hk1:(k:Int) < (cs.length:Int):=by omega
     obtain ⟨z0,_,_,_⟩:=HCE.out wr TT k (by omega)
     have x0:=HBX.out wr t
     have hb:=key_same (cs[k]'(by omega)).key key
     have hsn:=any_snoc (show k < cs.length by omega) key
     have HMO:Hid (decide ((cs[k]'(by omega)).key=key)=true→chk cs []=30):=fun h=>by rw [HC2.out,if_pos (any_mono hk (by omega) h)]
     rw [hany,Bool.false_or] at hsn
     cases hdk:decide ((cs[k]'(by omega)).key=key)
     · rw [hdk] at hb hsn
       have HG:Hid (∀ q,RckIn wo cs i key g2 (.int .i64 ((k:Int)+1)) (wr.drewN q)):=fun q=>⟨k+1,by omega,by simp,hsn,tdrewN t q⟩
       clear hany hsn hdk HMO TT t
       generalize (cs[k]'(by omega)).key=ky at z0 hb
       go_wp2_with fail
       go_quiet (fail)
       go_wp2_with fail
       go_roundg g2
       case measure=>omega
       case rel=>exact HG.out _
     · rw [hdk] at hb
       have HE:=Lib.hid (fun q=>HF.out 30 (wr.drewN q) (HMO.out hdk) (tdrewN TT q))
       clear hany hsn hdk HMO TT t
       generalize (cs[k]'(by omega)).key=ky at z0 hb
       go_wp2_with fail
       go_quiet (fail)
       go_wp2_with fail
       first | exact HE.out _ | (go_ret; exact HE.out _)
/-! ### same,at whatever lists -/
def SamPost (w:World) (P:Prop) (e:Ending) (w':World):Prop:=∃ r:Bool,e=.returned (.bool r)∧(P→r=true)∧Tch [] w w'
set_option maxRecDepth 100000 in
set_option maxHeartbeats 1000000 in
theorem tsame_any (l l2:List En) (a:Option Addr) (c b o:Nat) (v:Value) (w:World) (hr:IsR fPr 2 w a l.length b o l) (hl:IsL w v l2) (hlen:l.length≤900000000) (hlen2:l2.length≤900000000) :
 Calls Tryz.prog 19 #[.slice a l.length c,v] w (SamPost w False):=by
 obtain ⟨a2,c2,b2,o2,rfl,hr2,_⟩:=hl
 have HCE:Hid (∀ W,Tch [] w W→∀ k (hk:k < l.length),W.cell? ⟨b,o+k * 2,none⟩=some (.string l[k].key)∧W.cell? ⟨b,o+k * 2+1,none⟩=some (.string l[k].val)∧a=some ⟨b,o,none⟩):=fun W t k hk=>by
  have r:=hr.keep0 t
  have hg:l[k]?=some l[k]:=List.getElem?_eq_getElem hk
  exact ⟨r.c0 hg rfl,r.c hg 1 rfl,r.some_ (by omega)⟩
 have HCE2:Hid (∀ W,Tch [] w W→∀ k (hk:k < l2.length),W.cell? ⟨b2,o2+k * 2,none⟩=some (.string l2[k].key)∧W.cell? ⟨b2,o2+k * 2+1,none⟩=some (.string l2[k].val)∧a2=some ⟨b2,o2,none⟩):=fun W t k hk=>by
  have r:=hr2.keep0 t
  have hg:l2[k]?=some l2[k]:=List.getElem?_eq_getElem hk
  exact ⟨r.c0 hg rfl,r.c hg 1 rfl,r.some_ (by omega)⟩
 have HF:Hid (∀ r W,Tch [] w W→SamPost w False (.returned (.bool r)) W):=fun r W t=>⟨r,rfl,fun h=>h.elim,t⟩
 have HST:Hid (SamRel w l l.length (.int .i64 0) w):=⟨0,by simp,rfl,Tch.refl _ _⟩
 have HLN:=Lib.hid hlen
 have HLN2:=Lib.hid hlen2
 clear hr hr2 hlen hlen2
 generalize SamPost w False=Q at *
 by_cases hll:l.length=l2.length
 · have hne:(((l.length:Nat):Int) != ((l2.length:Nat):Int))=false:=by rw [hll]; simp
   have HLL:=Lib.hid hll
   clear hll
   go_enter Tryz.func19,Tryz.ntmps19
   go_wp2_with fail
   go_loopg [13] l.length (fun n v13 wr=>SamRel w l n v13 wr)
   case atStart=>exact HST.out
   case round =>
    obtain ⟨k,hnk,rfl,t⟩:=hrel
    have hln:=HLN.out
    match gk,hnk with
    | 0,hnk =>
     have hlt:decide (k < l.length)=false:=decide_eq_false (by omega)
     have HE:=Lib.hid (HF.out true wr t)
     go_wp2_with fail
     first | exact HE.out | (go_ret; exact HE.out)
    | g+1,hnk =>
     have hk:k < l.length:=by omega
     have hk2:k < l2.length:=by have:=HLL.out; omega
     have hlt:decide (k < l.length)=true:=decide_eq_true hk
     have hk0:(0:Int)≤(k:Int):=by omega
     have hk1:(k:Int) < (l.length:Int):=by omega
     have hk3:(k:Int) < (l2.length:Int):=by omega
     obtain ⟨s0,s1,ha⟩:=HCE.out wr t k hk
     obtain ⟨z0,z1,ha2⟩:=HCE2.out wr t k hk2
     subst ha ha2
     generalize l[k]=en at s0 s1
     generalize l2[k]=en2 at z0 z1
     have HG:Hid (∀ q,SamRel w l g (.int .i64 ((k:Int)+1)) (wr.drewN q)):=fun q=>⟨k+1,by omega,by simp,tdrewN t q⟩
     have HE:=Lib.hid (fun q=>HF.out false (wr.drewN q) (tdrewN t q))
     clear t
     cases hb0:(en.key.toList == en2.key.toList)
     · go_wp2_with fail
       go_quiet (fail)
       go_wp2_with fail
       first | exact HE.out _ | (go_ret; exact HE.out _)
     · cases hb1:(en.val.toList == en2.val.toList)
       · go_wp2_with fail
         go_quiet (fail)
         go_wp2_with fail
         first | exact HE.out _ | (go_ret; exact HE.out _)
       · go_wp2_with fail
         go_quiet (fail)
         go_wp2_with fail
         go_roundg g
         case measure=>omega
         case rel=>exact HG.out _
 · have hne:(((l.length:Nat):Int) != ((l2.length:Nat):Int))=true:=by simp; omega
   have HE:=Lib.hid (HF.out false w (Tch.refl _ _))
   clear hll
   go_enter Tryz.func19,Tryz.ntmps19
   go_wp2_with fail
   first | exact HE.out | (go_ret; exact HE.out)
/-! ### holds -/
set_option maxRecDepth 100000 in
set_option maxHeartbeats 1000000 in
theorem holds_yes {w:World} {A tb B h:Nat} {T:Tv} {now:List ByteArray} {F:List En} {S:List Int} (c:Calm w A tb B T now h F S) (v:Value) (hl:IsL w v F) :
 Calls Tryz.prog 22 #[.pointer (some ⟨tb,0,none⟩),v] w fun e w'=>e=.returned (.bool true)∧Tch [] w w':=by
 have hsm:=c.small
 have hfew:=c.few
 have hft:=c.hand.std.tr.fitL
 have hbl:=bys_le' hft
 have HL:=Lib.hid c.len
 have HS:Hid (∀ W,Tch [] w W→Calls Tryz.prog 20 #[.pointer (some ⟨tb,0,none⟩),.string ⟨#[]⟩,.int .i64 ((F.length:Int)+1)] W (ScnPost W F)):=fun W t=>by
  have:=(c.keep t).scan ⟨#[]⟩ (by decide) ((F.length:Int)+1)
  rw [from_all,show ((F.length:Int)+1).toNat=F.length+1 from by omega,List.take_of_length_le (by omega)] at this
  exact this
 have HE:Hid (∀ W,Tch [] w W→Calls Tryz.prog 31 #[.pointer (some ⟨tb,0,none⟩)] W (IntPost (1+S.length) W)):=fun W t=>(c.keep t).sectors
 have HY:Hid (∀ W,Tch [] w W→Calls Tryz.prog 52 #[v] W (IntPost (bys F) W)):=fun W t=>rtbytes_any F v W (hl.keep0 t) (by omega) hft
 have HLL:=Lib.hid hl
 obtain ⟨a,c2,b,o,rfl,hr,_⟩:=hl
 have HSA:Hid (∀ W x cc bb,Tch [] w W→IsR fPr 2 W x F.length bb 0 F→Calls Tryz.prog 19 #[.slice x F.length cc,.slice a F.length c2] W fun e w'=>e=.returned (.bool true)∧Tch [] W w'):=fun W x cc bb t h=>tsame_yes F x cc bb 0 _ W h (HLL.out.keep0 t) (by omega)
 have hFb:(F.length:Int)≤6553200:=by omega
 have hbb:(bys F:Int)≤252 * 6553200:=by omega
 have hle:decide (((1+S.length:Nat):Int)≤3+(bys F:Int) / 100)=true:=decide_eq_true (by omega)
 have hle2:((1+S.length:Nat):Int)≤3+(bys F:Int) / 100:=by omega
 have hee:(((F.length:Nat):Int) == ((F.length:Nat):Int))=true:=by simp
 obtain ⟨sl,hsl⟩:∃ sl:Nat,sl=1+S.length:=⟨_,rfl⟩
 rw [← hsl] at HE hle hle2
 clear c hr hsm hfew hft hbl HLL hsl
 generalize bys F=by_ at *
 go_enter Tryz.func22,Tryz.ntmps22
 go_wp2_with fail
 refine HL.out.mono ?_
 rintro e w1 ⟨rfl,t1⟩
 have HC:=Lib.hid (HS.out w1 t1)
 have HT1:=Lib.hid t1
 clear HL HS t1
 go_wp2_with fail
 refine HC.out.mono ?_
 rintro e w2 ⟨v2,rfl,hrow,t2⟩
 obtain ⟨x2,cc2,rfl⟩:=own_slice hrow
 obtain ⟨b2,hr2,_,_⟩:=IsR.own (f:=fPr) (fun _=>rfl) hrow rfl
 have HT2:=Lib.hid (HT1.out.trans t2)
 have HC2:=Lib.hid (HSA.out w2 x2 cc2 b2 HT2.out hr2)
 clear HC HSA hrow hr2 t2 HT1
 go_wp2_with fail
 refine HC2.out.mono ?_
 rintro e w3 ⟨rfl,t3⟩
 have HT3:=Lib.hid (HT2.out.trans t3)
 have HC3:=Lib.hid (HE.out w3 HT3.out)
 clear HC2 HE t3 HT2
 go_wp2_with fail
 refine HC3.out.mono ?_
 rintro e w4 ⟨rfl,t4⟩
 have HT4:=Lib.hid (HT3.out.trans t4)
 have HC4:=Lib.hid (HY.out w4 HT4.out)
 clear HC3 HY t4 HT3
 go_wp2_with fail
 refine HC4.out.mono ?_
 rintro e w5 ⟨rfl,t5⟩
 have HT5:=Lib.hid (HT4.out.trans t5)
 clear HC4 t5 HT4
 go_wp2_with fail
 first | exact ⟨rfl,HT5.out⟩ | (go_ret; exact ⟨rfl,HT5.out⟩)
end Go.Proofs.YtlkgnljdpakkcaaGreatDoor
