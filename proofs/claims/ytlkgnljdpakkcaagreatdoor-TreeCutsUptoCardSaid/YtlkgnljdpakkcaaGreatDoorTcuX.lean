/-
  Parts of the proof: Tcu.
-/
import Derived.Test.YtlkgnljdpakkcaaGreatDoorTciX
import Derived.Test.YtlkgnljdpakkcaaGreatDoorWkaX
import Derived.Deep.LoopGhost
set_option linter.unusedVariables false
set_option linter.unusedSimpArgs false
/-
 The law TreeCuts,walked.
-/
namespace Go.Proofs.YtlkgnljdpakkcaaGreatDoor
open Go.RowKit
structure TBat where
 a:Option Addr
 len:Nat
 cap:Nat
 b:Nat
 o:Nat
 cs:List Ch
def fBat (x:TBat):List Value:=[.slice x.a x.len x.cap]
structure TBat.Ok (W:World) (x:TBat):Prop where
 row:IsR fChg 3 W x.a x.len x.b x.o x.cs
 nil:x.a=none→x.len=0∧x.cap=0
 len:x.len≤1048576
def CuRel (W0:World) (bats:List TBat) (tb B n:Nat) (v6 v7 v39:Value) (wr:World):Prop :=
 ∃ (k h:Nat) (T:Tv) (now:List ByteArray) (F:List En) (S:List Int) (vv:Value),vv=v7∧n+k=bats.length∧v39=.int .i64 (k:Nat)∧IsL wr v6 F∧F.length≤320∧Live wr W0.heap.size tb B T now h F S∧B≤wr.heap.size∧T.b=W0.heap.size+1∧T.bs=W0.heap.size∧T.room=500∧now.length=1499∧T.D.done≤1002 * k∧Tch [] W0 wr
structure CuEnd (W0:World) (F1 F2:List En) (D:Ds) (v6 v7:Value) (wr:World):Prop where
 ds:IsDs wr (W0.heap.size+1) W0.heap.size D
 says:DsSays D F1 F2
 l1:IsL wr v6 F1
 l2:F1=F2∨IsL wr v7 F2
 t:Tch [] W0 wr
def Cu2Rel (W0:World) (F1 F2:List En) (v6 v7:Value) (K:Int) (m n:Nat) (v11:Value) (wr:World):Prop :=
 ∃ (i:Nat) (D:Ds),n+i=m∧v11=.int .i64 (i:Nat)∧CuEnd W0 F1 F2 D v6 v7 wr∧D.done≤K+501 * i
set_option maxRecDepth 100000 in
set_option maxHeartbeats 1000000 in
theorem cuts_walk5 (ba ga:Option Addr) (bn bc bb bo gn gc gb go_:Nat) (at_:Int) (bats:List TBat) (ags:List Int) (w:World) (hb0:IsR fBat 1 w ba bn bb bo bats) (hbk:∀ x ∈ bats,x.Ok w) (hbn:bn≤1048576) (hg0:IsR fInt 1 w ga gn gb go_ ags) (hga:∀ x ∈ ags,-9223372036854775808≤x∧x≤9223372036854775807) (hgn:gn≤1048576) (hat : -9223372036854775808≤at_∧at_≤9223372036854775807) :
 Calls Tryz.prog 4 #[.agg #[.slice ba bn bc,.int .i64 at_,.slice ga gn gc]] w fun e w'=>e=.returned (.bool true)∧Tch [] w w':=by
 obtain rfl:=hb0.hlen
 obtain rfl:=hg0.hlen
 obtain ⟨W0,hW0⟩:∃ W0,W0=w.alloc (.cells #[.slice ba bats.length bc,.int .i64 at_,.slice ga ags.length gc] 52):=⟨_,rfl⟩
 have T0:Tch [] w W0:=by rw [hW0]; exact (Tch.refl _ _).alloc _
 have hbx:W0.heap[w.heap.size]?=some (.cells #[.slice ba bats.length bc,.int .i64 at_,.slice ga ags.length gc] 52 (0,0)):=by rw [hW0]; exact blk_new _ _
 have HBX:Hid (∀ W,Tch [] W0 W→W.cell? ⟨w.heap.size,0,none⟩=some (.slice ba bats.length bc)∧W.cell? ⟨w.heap.size,1,none⟩=some (.int .i64 at_)∧W.cell? ⟨w.heap.size,2,none⟩=some (.slice ga ags.length gc)):=fun W tt=>by
  have hh:=tt.keep hbx (by simp)
  exact ⟨by rw [blk_cell hh]; rfl,by rw [blk_cell hh]; rfl,by rw [blk_cell hh]; rfl⟩
 have HBE:Hid (∀ W,Tch [] W0 W→∀ k (hk:k < bats.length),W.cell? ⟨bb,bo+k,none⟩=some (.slice bats[k].a bats[k].len bats[k].cap)∧ba=some ⟨bb,bo,none⟩∧bats[k].Ok w):=fun W t k hk=>by
  have q:=hb0.keep0 (T0.trans t)
  exact ⟨q.one (List.getElem?_eq_getElem hk) rfl,q.some_ (by omega),hbk _ (List.getElem_mem hk)⟩
 have HGE:Hid (∀ W,Tch [] W0 W→∀ k (hk:k < ags.length),W.cell? ⟨gb,go_+k,none⟩=some (.int .i64 ags[k])∧ga=some ⟨gb,go_,none⟩ ∧ -9223372036854775808≤ags[k]∧ags[k]≤9223372036854775807):=fun W t k hk=>by
  have q:=hg0.keep0 (T0.trans t)
  exact ⟨q.one (List.getElem?_eq_getElem hk) rfl,q.some_ (by omega),hga _ (List.getElem_mem hk)⟩
 have HF:Hid (∀ W,Tch [] W0 W→Tch [] w W):=fun W t=>T0.trans t
 have HT0:=Lib.hid T0
 have HN:=Lib.hid (dnew 2000 W0 (by omega) (by omega))
 rw [show many 2000=2000 from rfl] at HN
 have HO:Hid (∀ W,IsDs W (W0.heap.size+1) W0.heap.size (freshD 2000)→Tch [] W0 W→Calls Tryz.prog 12 #[.pointer (some ⟨W0.heap.size+1,0,none⟩),.int .i64 500] W (NewPost W0 W (W0.heap.size+1) W0.heap.size 500 1499)):=fun W h1 t=>open_new W0 W (W0.heap.size+1) W0.heap.size 2000 500 h1 t (by omega) (by omega) (by omega) (by omega) (by omega)
 have HBN:=Lib.hid hbn
 have hbl:(bats.length:Int)≤1048576:=by omega
 have hgl:(ags.length:Int)≤1048576:=by omega
 have hmx:(0:Int)≤max 0 at_:=by omega
 have hmx2:max 0 at_≤9223372036854775807:=by omega
 have hmm:max (max 0 at_) 0=max 0 at_:=by omega
 have HMM:=Lib.hid hmm
 clear hb0 hbk hbn hg0 hga hgn hbx T0 hmm
 go_enter Tryz.func4,Tryz.ntmps4
 go_upto_region 1 with fail
 rw [← hW0]
 clear hW0
 go_wp2_with fail
 refine HN.out.mono ?_
 rintro e w1 ⟨rfl,hd1,t1⟩
 have HC1:=Lib.hid (HO.out w1 hd1 t1)
 clear HN HO hd1 t1
 go_wp2_with fail
 refine HC1.out.mono ?_
 rintro e w2 ⟨tb,T,rfl,c2,hdn,hrm,hb,hbs,hsz,t2⟩
 have HC2:=Lib.hid (twakes_any w2)
 have HCM:=Lib.hid c2
 have HTT:=Lib.hid (And.intro hdn (And.intro hrm (And.intro hb hbs)))
 have HT2:=Lib.hid t2
 clear HC1 c2 hdn hrm hb hbs t2
 go_wp2_with fail
 refine HC2.out.mono ?_
 rintro e w3 ⟨rfl,t3⟩
 have HT3:=Lib.hid (HT2.out.trans t3)
 obtain ⟨x0,x1,x2⟩:=HBX.out w3 HT3.out
 have HC3:Hid (Calls Tryz.prog 23 #[.pointer (some ⟨W0.heap.size+1,0,none⟩),.int .i64 (max 0 at_)] w3 fun e w'=>e=.returned (.tuple #[])∧∃ T4:Tv,Live w' W0.heap.size tb w1.heap.size T4 (List.replicate 1499 ⟨#[]⟩) 0 [] []∧T4.D.done=0∧T4.room=500∧T4.b=W0.heap.size+1∧T4.bs=W0.heap.size∧Tch [] W0 w'∧w1.heap.size≤w'.heap.size):=by
  obtain ⟨p1,p2,p3,p4⟩:=HTT.out
  have c3:=HCM.out.keep t3
  have:=dcut T.b T.bs T.D (max 0 at_) w3 c3.tr.ds (by omega) hmx2
  rw [p3] at this
  refine this.mono ?_
  rintro e w' ⟨rfl,hd,t⟩
  refine ⟨rfl,{ T with D:={ T.D with left:=max (max 0 at_) 0 } },⟨?_,c3.hand.redisk c3.hand.on rfl,c3.ful,c3.lost,c3.lo,c3.hig,c3.new⟩,p1,p2,p3,p4,HT3.out.upTo t (by simp),Nat.le_trans hsz (Nat.le_trans t3.size t.size)⟩
  exact c3.tr.commit (by rw [p3,p4] at *; exact hd) (by rw [p3]; exact t.mono (by simp)) c3.lo c3.hig
 clear HC2 HCM HTT HT2 HT3 t3 hsz
 go_wp2_with fail
 refine HC3.out.mono ?_
 rintro e w4 ⟨rfl,T4,c4,hdn,hrm,hb,hbs,t4,hB4⟩
 obtain ⟨y0,y1,y2⟩:=HBX.out w4 t4
 have HST:Hid (CuRel W0 bats tb w1.heap.size bats.length (.slice none 0 0) (.slice none 0 0) (.int .i64 0) w4):=⟨0,0,T4,_,[],[],_,rfl,by simp,rfl,IsL.nil _,by simp,c4,hB4,hb,hbs,hrm,by simp,by omega,t4⟩
 clear HC3 c4 hdn hrm hb hbs t4 hB4 x0 x1 x2
 generalize w1.heap.size=B at HST
 go_wp2_with fail
 go_loopg [6,7,39] bats.length (fun n v6 v7 v39 wr=>CuRel W0 bats tb B n v6 v7 v39 wr)
 case atStart=>exact HST.out
 case round =>
  obtain ⟨k,h,T,now,F,S,v7,rfl,hnk,rfl,⟨la,lc,lb,lo,rfl,hlr,hlk⟩,hF3,hlv,hBw,hb,hbs,hrm,hnl,hdn,t⟩:=hrel
  clear HST y0 y1 y2
  have hL:IsL wr (.slice la F.length lc) F:=⟨la,lc,lb,lo,rfl,hlr,hlk⟩
  clear hlr hlk
  match gk,hnk with
  | 0,hnk =>
   have hlt:decide (k < bats.length)=false:=decide_eq_false (by omega)
   have hkb:k≤1048576:=by have:=HBN.out; omega
   obtain ⟨v6,hv6⟩:∃ v6,v6=Value.slice la F.length lc:=⟨_,rfl⟩
   rw [← hv6] at hL ⊢
   clear hv6
   have HEND:Hid (CuEnd W0 F F T.D v6 v7 wr):=⟨by have:=hlv.tr.ds; rw [hb,hbs] at this; exact this,hlv.says hrm hnl F,hL,Or.inl rfl,t⟩
   have HFIT:Hid ((∀ e ∈ F,fitL e)∧F.length≤100000):=⟨hlv.hand.std.tr.fitL,by omega⟩
   have HDN:Hid (T.D.done≤2000000000):=by show T.D.done≤_; omega
   obtain ⟨F2,hF2⟩:∃ F2,F2=F:=⟨_,rfl⟩
   have HEND2:Hid (CuEnd W0 F F2 T.D v6 v7 wr):=by rw [hF2]; exact HEND.out
   obtain ⟨D,hD⟩:∃ D,D=T.D:=⟨_,rfl⟩
   rw [← hD] at HEND2 HDN
   clear hlv hBw hb hbs hrm hnl hdn t hL HEND hF2 hD hF3 hkb
   go_wp2_with fail
   obtain ⟨m,hm⟩:∃ m:Nat,m=min ags.length 20:=⟨_,rfl⟩
   have hm20:m≤20:=by omega
   have hma:m≤ags.length:=by omega
   have HM:Hid (∀ i:Nat,i=m→(i < ags.length→¬ ((i:Nat):Int) < 20)):=fun i hi h1 h2=>by omega
   have HM2:Hid (∀ i:Nat,i < m→((i:Nat):Int) < 20):=fun i hi=>by omega
   have HS2:Hid (Cu2Rel W0 F F2 v6 v7 D.done m m (.int .i64 0) wr):=⟨0,D,by omega,rfl,HEND2.out,by omega⟩
   clear HEND2 hm
   obtain ⟨wz,hwz⟩:∃ wz:World,wz=wr:=⟨_,rfl⟩
   rw [← hwz] at HS2 ⊢
   clear hwz
   go_loopg [11] m (fun n v11 wr=>Cu2Rel W0 F F2 v6 v7 D.done m n v11 wr)
   case atStart=>exact HS2.out
   case round =>
    obtain ⟨i,D2,hni,rfl,hend,hd2⟩:=hrel
    clear HS2
    obtain ⟨y0,y1,y2⟩:=HBX.out _ hend.t
    have hdn:=HDN.out
    have hlt9:=hend.ds.lt
    have HE2:=Lib.hid hend
    have HST2:Hid (∀ W,IsDs W (W0.heap.size+1) W0.heap.size D2→Calls Tryz.prog 29 #[.pointer (some ⟨W0.heap.size+1,0,none⟩)] W fun e w'=>e=.returned (.tuple #[])∧(IsDs w' (W0.heap.size+1) W0.heap.size { D2 with left := -1,on:=true }∧Tch [W0.heap.size+1] W w')):=fun W hd=>dstart _ _ D2 W hd
    have HC1:=Lib.hid (HST2.out _ hend.ds)
    clear HST2
    match gk,hni with
    | 0,hni =>
     obtain rfl:i=m:=by omega
     have him:i=i:=rfl
     clear hni
     have hcond:(decide (i < ags.length) && decide (((i:Nat):Int) < 20))=false:=by
      by_cases h1:i < ags.length
      · have:=HM.out i him h1
        rw [decide_eq_false this,Bool.and_false]
      · rw [decide_eq_false h1,Bool.false_and]
     have HOL:Hid (∀ W,IsDs W (W0.heap.size+1) W0.heap.size { D2 with left := -1,on:=true }→Tch [] W0 W→Calls Tryz.prog 12 #[.pointer (some ⟨W0.heap.size+1,0,none⟩),.int .i64 500] W (OlPost W0 W F F2)):=fun W hd tt=>olast_any hd rfl rfl (hend.says.keep rfl) (by show D2.done+502 < _; omega) tt (by omega)
     clear hend
     by_cases h1:i < ags.length
     · have d1:decide (i < ags.length)=true:=decide_eq_true h1
       have hi20:=HM.out i him h1
       have d2:decide (((i:Nat):Int) < 20)=false:=decide_eq_false hi20
       have d3:(20:Int)≤((i:Nat):Int):=by omega
       clear hcond
       go_wp2_with fail
       refine HC1.out.mono ?_
       rintro e w31 ⟨rfl,hd31,t31⟩
       have HO31:=Lib.hid (HOL.out w31 hd31 (HE2.out.t.upTo t31 (by simp)))
       have HL31:Hid (∀ v l,IsL wr v l→IsL w31 v l):=fun v l h9=>h9.disk HE2.out.ds t31 (by simp)
       clear HC1 HOL hd31 t31
       go_wp2_with fail
       refine HO31.out.mono ?_
       rintro e w32 ⟨ub,UB,uh,U,unow,FX,US,rfl,uc,hor,t32,k32⟩
       have HL1:=Lib.hid (k32 _ _ (HL31.out _ _ HE2.out.l1))
       have HL2:Hid (F=F2∨IsL w32 v7 F2):=by
        rcases HE2.out.l2 with h9 | h9
        · exact Or.inl h9
        · exact Or.inr (k32 _ _ (HL31.out _ _ h9))
       have HUC:=Lib.hid uc
       have HT32:=Lib.hid t32
       have hor2:FX=F∨FX=F2∧IsL w32 v7 F2:=by
        rcases hor with h9 | h9
        · exact Or.inl h9
        · rcases HL2.out with h8 | h8
          · exact Or.inl (h9.trans h8.symm)
          · exact Or.inr ⟨h9,h8⟩
       clear HO31 HL31 uc hor t32 k32 HL2
       rcases hor2 with rfl | ⟨rfl,hl7⟩
       · have HH:=Lib.hid (holds_yes HUC.out v6 HL1.out)
         clear HL1 HUC
         go_wp2_with fail
         refine HH.out.mono ?_
         rintro e w33 ⟨rfl,t33⟩
         have HX:=Lib.hid (HF.out _ (HT32.out.trans t33))
         clear HH t33
         go_wp2_with fail
         first | exact ⟨rfl,HX.out⟩ | (go_ret; exact ⟨rfl,HX.out⟩)
       · have HH:=Lib.hid (holds_any HUC.out v6 F HL1.out HFIT.out.1 HFIT.out.2)
         have HH2:Hid (∀ W,Tch [] w32 W→Calls Tryz.prog 22 #[.pointer (some ⟨ub,0,none⟩),v7] W fun e w'=>e=.returned (.bool true)∧Tch [] W w'):=fun W tt=>holds_yes (HUC.out.keep tt) v7 (hl7.keep0 tt)
         clear HL1 HUC hl7
         go_wp2_with fail
         refine HH.out.mono ?_
         rintro e w33 ⟨r,rfl,_,t33⟩
         have HT33:=Lib.hid t33
         clear HH t33
         cases r
         · have HH3:=Lib.hid (HH2.out w33 HT33.out)
           clear HH2
           go_wp2_with fail
           refine HH3.out.mono ?_
           rintro e w34 ⟨rfl,t34⟩
           have HX:=Lib.hid (HF.out _ (HT32.out.trans (HT33.out.trans t34)))
           clear HH3 t34
           go_wp2_with fail
           first | exact ⟨rfl,HX.out⟩ | (go_ret; exact ⟨rfl,HX.out⟩)
         · have HX:=Lib.hid (HF.out _ (HT32.out.trans HT33.out))
           clear HH2
           go_wp2_with fail
           first | exact ⟨rfl,HX.out⟩ | (go_ret; exact ⟨rfl,HX.out⟩)
     · have d1:decide (i < ags.length)=false:=decide_eq_false h1
       clear hcond
       go_wp2_with fail
       refine HC1.out.mono ?_
       rintro e w31 ⟨rfl,hd31,t31⟩
       have HO31:=Lib.hid (HOL.out w31 hd31 (HE2.out.t.upTo t31 (by simp)))
       have HL31:Hid (∀ v l,IsL wr v l→IsL w31 v l):=fun v l h9=>h9.disk HE2.out.ds t31 (by simp)
       clear HC1 HOL hd31 t31
       go_wp2_with fail
       refine HO31.out.mono ?_
       rintro e w32 ⟨ub,UB,uh,U,unow,FX,US,rfl,uc,hor,t32,k32⟩
       have HL1:=Lib.hid (k32 _ _ (HL31.out _ _ HE2.out.l1))
       have HL2:Hid (F=F2∨IsL w32 v7 F2):=by
        rcases HE2.out.l2 with h9 | h9
        · exact Or.inl h9
        · exact Or.inr (k32 _ _ (HL31.out _ _ h9))
       have HUC:=Lib.hid uc
       have HT32:=Lib.hid t32
       have hor2:FX=F∨FX=F2∧IsL w32 v7 F2:=by
        rcases hor with h9 | h9
        · exact Or.inl h9
        · rcases HL2.out with h8 | h8
          · exact Or.inl (h9.trans h8.symm)
          · exact Or.inr ⟨h9,h8⟩
       clear HO31 HL31 uc hor t32 k32 HL2
       rcases hor2 with rfl | ⟨rfl,hl7⟩
       · have HH:=Lib.hid (holds_yes HUC.out v6 HL1.out)
         clear HL1 HUC
         go_wp2_with fail
         refine HH.out.mono ?_
         rintro e w33 ⟨rfl,t33⟩
         have HX:=Lib.hid (HF.out _ (HT32.out.trans t33))
         clear HH t33
         go_wp2_with fail
         first | exact ⟨rfl,HX.out⟩ | (go_ret; exact ⟨rfl,HX.out⟩)
       · have HH:=Lib.hid (holds_any HUC.out v6 F HL1.out HFIT.out.1 HFIT.out.2)
         have HH2:Hid (∀ W,Tch [] w32 W→Calls Tryz.prog 22 #[.pointer (some ⟨ub,0,none⟩),v7] W fun e w'=>e=.returned (.bool true)∧Tch [] W w'):=fun W tt=>holds_yes (HUC.out.keep tt) v7 (hl7.keep0 tt)
         clear HL1 HUC hl7
         go_wp2_with fail
         refine HH.out.mono ?_
         rintro e w33 ⟨r,rfl,_,t33⟩
         have HT33:=Lib.hid t33
         clear HH t33
         cases r
         · have HH3:=Lib.hid (HH2.out w33 HT33.out)
           clear HH2
           go_wp2_with fail
           refine HH3.out.mono ?_
           rintro e w34 ⟨rfl,t34⟩
           have HX:=Lib.hid (HF.out _ (HT32.out.trans (HT33.out.trans t34)))
           clear HH3 t34
           go_wp2_with fail
           first | exact ⟨rfl,HX.out⟩ | (go_ret; exact ⟨rfl,HX.out⟩)
         · have HX:=Lib.hid (HF.out _ (HT32.out.trans HT33.out))
           clear HH2
           go_wp2_with fail
           first | exact ⟨rfl,HX.out⟩ | (go_ret; exact ⟨rfl,HX.out⟩)
    | g2+1,hni =>
     have him:i < m:=by omega
     have h1:i < ags.length:=by omega
     have d1:decide (i < ags.length)=true:=decide_eq_true h1
     have hi20:=HM2.out i him
     have d2:decide (((i:Nat):Int) < 20)=true:=decide_eq_true hi20
     have hi0:(0:Int)≤(i:Int):=by omega
     have hi1:(i:Int) < (ags.length:Int):=by omega
     have hxL:=hend.l1
     clear hend
     go_wp2_with fail
     refine HC1.out.mono ?_
     rintro e w21 ⟨rfl,hd21,t21⟩
     have T21:=HE2.out.t.upTo t21 (by simp)
     obtain ⟨z0,z1,z2⟩:=HBX.out w21 T21
     obtain ⟨a0,hga,a1,a2⟩:=HGE.out w21 T21 i h1
     subst hga
     generalize ags[i]=ag at a0 a1 a2
     have hmx9:max 0 ag≤9223372036854775807:=by omega
     have hmx8:(0:Int)≤max 0 ag:=by omega
     have HCU:=Lib.hid (dcut (W0.heap.size+1) W0.heap.size { D2 with left := -1,on:=true } (max 0 ag) w21 hd21 (by omega) hmx9)
     have HL21:Hid (∀ v l,IsL wr v l→IsL w21 v l):=fun v l h9=>h9.disk HE2.out.ds t21 (by simp)
     have HD21:=Lib.hid hd21
     have HT21:=Lib.hid T21
     clear HC1 hd21 t21 T21
     go_wp2_with fail
     refine HCU.out.mono ?_
     rintro e w22 ⟨rfl,hd22,t22⟩
     have HT22:=Lib.hid (HT21.out.upTo t22 (by simp))
     have HL22:Hid (∀ v l,IsL wr v l→IsL w22 v l):=fun v l h9=>(HL21.out v l h9).disk HD21.out t22 (by simp)
     have HOC:=Lib.hid (ocut_any (w0:=W0) (F1:=F) (F2:=F2) hd22 rfl (HE2.out.says.keep rfl) (by show D2.done+502 < _; omega) HT22.out (by omega))
     clear HCU HD21 HL21 HT21 hd22 t22
     go_wp2_with fail
     refine HOC.out.mono ?_
     rintro e w23 ⟨D3,k1,k2,k3,k4,k5,⟨k6,ub,rfl⟩ | ⟨k6,rfl⟩⟩
     all_goals
      have HOD:Hid (Calls Tryz.prog 28 #[.pointer (some ⟨W0.heap.size+1,0,none⟩)] w23 fun e w'=>e=.returned (.bool D3.on)∧w23=w'):=don _ _ D3 w23 k1
      rw [k6] at HOD
      have HG:Hid (Cu2Rel W0 F F2 v6 v7 D.done m g2 (.int .i64 ((i:Int)+1)) w23):=by
       refine ⟨i+1,D3,by omega,by simp,⟨k1,k2,k5 _ _ (HL22.out _ _ HE2.out.l1),?_,k4⟩,?_⟩
       · rcases HE2.out.l2 with h9 | h9
         · exact Or.inl h9
         · exact Or.inr (k5 _ _ (HL22.out _ _ h9))
       · have:({ ({ D2 with left := -1,on:=true }:Ds) with left:=max (max 0 ag) 0 }:Ds).done=D2.done:=rfl
         rw [this] at k3
         omega
      clear HOC k1 k2 k3 k4 k5 k6 HL22 HT22
      go_wp2_with fail
      refine HOD.out.mono ?_
      rintro e w24 ⟨rfl,rfl⟩
      clear HOD
      go_wp2_with fail
      go_roundg g2
      case measure=>omega
      case rel=>exact HG.out
  | g+1,hnk =>
   obtain ⟨v6,hv6⟩:∃ v6,v6=Value.slice la F.length lc:=⟨_,rfl⟩
   rw [← hv6] at hL
   have hk:k < bats.length:=by omega
   have hlt:decide (k < bats.length)=true:=decide_eq_true hk
   have hk0:(0:Int)≤(k:Int):=by omega
   have hk1:(k:Int) < (bats.length:Int):=by omega
   have hkb:k≤1048576:=by have:=HBN.out; omega
   obtain ⟨s0,hba,hox⟩:=HBE.out wr t k hk
   subst hba
   generalize bats[k]=x at s0 hox
   obtain ⟨xa,xl,xc,xb,xo,cs⟩:=x
   simp only at s0
   obtain ⟨xr,xz,xln⟩:=hox
   simp only at xr xz xln
   obtain rfl:=xr.hlen
   have hcl:(cs.length:Int)≤1048576:=by omega
   have hFi:(F.length:Int)≤320:=by omega
   have HGO:Hid (∀ W v7',Tch [] wr W→CuRel W0 bats tb B g v6 v7' (.int .i64 ((k:Int)+1)) W):=fun W v7' tt=>⟨k+1,h,T,now,F,S,v7',rfl,by omega,by simp,hL.keep0 tt,hF3,hlv.keep tt,Nat.le_trans hBw tt.size,hb,hbs,hrm,hnl,by omega,t.trans tt⟩
   by_cases q1:20 < cs.length
   · have d1:decide (20 < (cs.length:Int))=true:=decide_eq_true (by omega)
     have d2:20 < (cs.length:Int):=by omega
     have HG:=Lib.hid (fun v7'=>HGO.out wr v7' (Tch.refl _ _))
     rw [hv6] at HG
     clear hlv hBw hb hbs hrm hnl hdn t hL xr xz HGO hF3 hv6
     go_wp2_with fail
     go_roundg g
     case measure=>omega
     case rel=>exact HG.out _
   have d1:decide (20 < (cs.length:Int))=false:=decide_eq_false (by omega)
   have d1i:(cs.length:Int)≤20:=by omega
   by_cases q2:300 < F.length
   · have d2:decide (300 < (F.length:Int))=true:=decide_eq_true (by omega)
     have d3:300 < (F.length:Int):=by omega
     have HG:=Lib.hid (fun v7'=>HGO.out wr v7' (Tch.refl _ _))
     rw [hv6] at HG
     clear hlv hBw hb hbs hrm hnl hdn t hL xr xz HGO hF3 hv6
     go_wp2_with fail
     go_roundg g
     case measure=>omega
     case rel=>exact HG.out _
   have d2:decide (300 < (F.length:Int))=false:=decide_eq_false (by omega)
   have d2i:(F.length:Int)≤300:=by omega
   have hF300:F.length≤300:=by omega
   have HA:=Lib.hid (hlv.apply hBw cs xa cs.length xc xb xo (by omega) (xr.keep0 (HF.out _ t)) xz (by omega) hF300 hrm hnl)
   have hxA:0 < cs.length→xb < W0.heap.size:=fun hp=>Nat.lt_of_lt_of_le (xr.lt hp) HT0.out.size
   have hnw:=hlv.new
   have htz:=t.size
   have hm:∀ q ∈ [tb,T.mb,T.b,T.bs],W0.heap.size≤q:=by simp only [List.mem_cons,List.not_mem_nil,or_false]; omega
   have HCH:Hid (∀ W,Tch [tb,T.mb,T.b,T.bs] wr W→IsR fChg 3 W xa cs.length xb xo cs):=fun W tt=>(xr.keep0 (HF.out _ t)).keep tt (fun hp=>by have:=hxA hp; intro hmem; have:=hm _ hmem; omega)
   have HLK:Hid (∀ W,Tch [tb,T.mb,T.b,T.bs] wr W→IsL W v6 F):=fun W tt=>hL.apply hlv.tr tt
   have HTW:Hid (∀ W,Tch [tb,T.mb,T.b,T.bs] wr W→Tch [] W0 W):=fun W tt=>t.upTo tt hm
   have HSR:=Lib.hid hlv.hand.std.tr.srt
   have HFT:=Lib.hid hlv.hand.std.tr.fitL
   have HEQ:=Lib.hid (And.intro hb (And.intro hbs (And.intro hrm (And.intro hnl hdn))))
   have hal:=altsL_len cs F hlv.hand.std.tr.srt
   have HBW:=Lib.hid hBw
   clear hlv hBw hb hbs hrm hnl hdn t hL xr xz HGO hF3 hxA hnw htz hm q1 q2
   subst hv6
   go_wp2_with fail
   refine HA.out.mono ?_
   rintro e w5 (⟨kk,T',now',h',S',hkk,rfl,c5,e1,e2,e3,e4,e5,e6,t5⟩ | ⟨hch,rfl,T',tr5,lo5,on5,e1,e2,e3,ds5,t5⟩)
   · have HX5:=Lib.hid (And.intro e1 (And.intro e2 (And.intro e3 (And.intro e5 e6))))
     have HC5:=Lib.hid c5
     have HT5:=Lib.hid t5
     have HRF:=Lib.hid (tref_any xa cs.length xc xb xo cs w5 (HCH.out w5 t5) (by omega))
     clear HA e1 e2 e3 e4 e5 e6 c5 t5
     go_wp2_with fail
     refine HRF.out.mono ?_
     rintro e w6 ⟨x6,c6,b6,rfl,hR6,t6⟩
     have HCK:=Lib.hid (rtcheck_any cs x6 cs.length c6 b6 0 w6 hR6 (by omega))
     have HT6:=Lib.hid t6
     clear HRF hR6 t6
     go_wp2_with fail
     refine HCK.out.mono ?_
     rintro e w7 ⟨rfl,t7⟩
     have HT7:=Lib.hid (HT6.out.trans t7)
     clear HCK HT6 t7
     have HON:Hid (∀ W,Tch [] w5 W→Calls Tryz.prog 28 #[.pointer (some ⟨W0.heap.size+1,0,none⟩)] W fun e w'=>e=.returned (.bool true)∧W=w'):=fun W tt=>by
      have c:=HC5.out.keep tt
      have:=don T'.b T'.bs T'.D W c.tr.ds
      obtain ⟨p1,_⟩:=HX5.out
      obtain ⟨g1,_⟩:=HEQ.out
      rw [p1,g1,c.hand.on] at this
      exact this
     have HREL:Hid (∀ W v7',Tch [] w5 W→IsL W v7' (if chk cs []=0 then altsL F cs else F)→CuRel W0 bats tb B g v7' v7' (.int .i64 ((k:Int)+1)) W):=fun W v7' tt hl=>by
      obtain ⟨p1,p2,p3,p4,p5⟩:=HX5.out
      obtain ⟨g1,g2,g3,g4,g5⟩:=HEQ.out
      refine ⟨k+1,h',T',now',_,S',v7',rfl,by omega,by simp,hl,?_,HC5.out.keep tt,Nat.le_trans HBW.out (Nat.le_trans HT5.out.size tt.size),by omega,by omega,by omega,by omega,by omega,(HTW.out w5 HT5.out).trans tt⟩
      split <;> omega
     by_cases hc0:chk cs []=0
     · rw [if_pos hc0] at HREL
       rw [hc0] at hkk
       subst hkk
       rw [hc0]
       have HCC:=Lib.hid hc0
       have HRF:=Lib.hid (tref_any xa cs.length xc xb xo cs w7 ((HCH.out w5 HT5.out).keep0 HT7.out) (by omega))
       clear hc0
       go_wp2_with fail
       refine HRF.out.mono ?_
       rintro e w8 ⟨x8,c8,b8,rfl,hR8,t8⟩
       have HRA:=Lib.hid (rtapply_any F cs _ x8 cs.length c8 b8 0 w8 ((HLK.out w5 HT5.out).keep0 (HT7.out.trans t8)) HSR.out hR8 (by omega))
       have HT8:=Lib.hid (HT7.out.trans t8)
       clear HRF hR8 t8 HT7
       go_wp2_with fail
       refine HRA.out.mono ?_
       rintro e w9 ⟨v9,rfl,h9,t9⟩
       have HT9:=Lib.hid (HT8.out.trans t9)
       have HC9:=Lib.hid (HON.out w9 HT9.out)
       have HL9:=Lib.hid h9
       clear HRA HON h9 t9 HT8
       go_wp2_with fail
       refine HC9.out.mono ?_
       rintro e w10 ⟨rfl,rfl⟩
       have HRF:=Lib.hid (tref_any xa cs.length xc xb xo cs w9 ((HCH.out w5 HT5.out).keep0 HT9.out) (by omega))
       clear HC9
       go_wp2_with fail
       refine HRF.out.mono ?_
       rintro e w11 ⟨x11,c11,b11,rfl,hR11,t11⟩
       have HCK:=Lib.hid (rtcheck_any cs x11 cs.length c11 b11 0 w11 hR11 (by omega))
       rw [HCC.out] at HCK
       have HT11:=Lib.hid t11
       clear HRF hR11 t11
       go_wp2_with fail
       refine HCK.out.mono ?_
       rintro e w12 ⟨rfl,t12⟩
       have HG:=Lib.hid (HREL.out w12 v9 (HT9.out.trans (HT11.out.trans t12)) (HL9.out.keep0 (HT11.out.trans t12)))
       clear HCK HREL HT11 t12 HL9
       go_wp2_with fail
       go_roundg g
       case measure=>omega
       case rel=>exact HG.out
     · rw [if_neg hc0] at HREL
       have hb0:(chk cs [] == 0)=false:=by simpa using hc0
       subst hkk
       have HC9:=Lib.hid (HON.out w7 HT7.out)
       have HRF:=Lib.hid (tref_any xa cs.length xc xb xo cs w7 ((HCH.out w5 HT5.out).keep0 HT7.out) (by omega))
       have HCQ:Hid (∀ W x c b,IsR fChg 3 W x cs.length b 0 cs→Calls Tryz.prog 25 #[.slice x cs.length c] W fun e w'=>e=.returned (.int .i64 (chk cs []))∧Tch [] W w'):=fun W x c b hR=>rtcheck_any cs x cs.length c b 0 W hR (by omega)
       clear hc0 HON
       generalize chk cs []=kk at *
       have hnn:(kk != kk)=false:=by simp
       go_wp2_with fail
       refine HC9.out.mono ?_
       rintro e w10 ⟨rfl,rfl⟩
       clear HC9
       go_wp2_with fail
       refine HRF.out.mono ?_
       rintro e w11 ⟨x11,c11,b11,rfl,hR11,t11⟩
       have HCK:=Lib.hid (HCQ.out w11 x11 c11 b11 hR11)
       have HT11:=Lib.hid t11
       clear HRF hR11 t11 HCQ
       go_wp2_with fail
       refine HCK.out.mono ?_
       rintro e w12 ⟨rfl,t12⟩
       have HG:=Lib.hid (HREL.out w12 _ (HT7.out.trans (HT11.out.trans t12)) ((HLK.out w5 HT5.out).keep0 (HT7.out.trans (HT11.out.trans t12))))
       clear HCK HREL HT11 t12
       go_wp2_with fail
       go_roundg g
       case measure=>omega
       case rel=>exact HG.out
   · have HX5:=Lib.hid (And.intro e1 (And.intro e2 e3))
     have HTR:=Lib.hid tr5
     have HDS:=Lib.hid ds5
     have HT5:=Lib.hid t5
     have HCC:=Lib.hid hch
     have HLO:=Lib.hid lo5
     have HONO:=Lib.hid on5
     have HRF:=Lib.hid (tref_any xa cs.length xc xb xo cs w5 (HCH.out w5 t5) (by omega))
     clear HA e1 e2 e3 tr5 lo5 on5 ds5 t5 hch
     go_wp2_with fail
     refine HRF.out.mono ?_
     rintro e w6 ⟨x6,c6,b6,rfl,hR6,t6⟩
     have HCK:=Lib.hid (rtcheck_any cs x6 cs.length c6 b6 0 w6 hR6 (by omega))
     rw [HCC.out] at HCK
     have HT6:=Lib.hid t6
     clear HRF hR6 t6
     go_wp2_with fail
     refine HCK.out.mono ?_
     rintro e w7 ⟨rfl,t7⟩
     have HT7:=Lib.hid (HT6.out.trans t7)
     clear HCK HT6 t7
     have HRF:=Lib.hid (tref_any xa cs.length xc xb xo cs w7 ((HCH.out w5 HT5.out).keep0 HT7.out) (by omega))
     go_wp2_with fail
     refine HRF.out.mono ?_
     rintro e w8 ⟨x8,c8,b8,rfl,hR8,t8⟩
     have HRA:=Lib.hid (rtapply_any F cs _ x8 cs.length c8 b8 0 w8 ((HLK.out w5 HT5.out).keep0 (HT7.out.trans t8)) HSR.out hR8 (by omega))
     have HT8:=Lib.hid (HT7.out.trans t8)
     clear HRF hR8 t8 HT7
     go_wp2_with fail
     refine HRA.out.mono ?_
     rintro e w9 ⟨v7,rfl,h9,t9⟩
     have HT9:=Lib.hid (HT8.out.trans t9)
     have HC9:Hid (Calls Tryz.prog 28 #[.pointer (some ⟨W0.heap.size+1,0,none⟩)] w9 fun e w'=>e=.returned (.bool false)∧w9=w'):=by
      have:=don T'.b T'.bs T'.D w9 (HTR.out.keep0 HT9.out).ds
      obtain ⟨p1,_⟩:=HX5.out
      obtain ⟨g1,_⟩:=HEQ.out
      rw [p1,g1,HONO.out] at this
      exact this
     have HAL:=Lib.hid (apply_lost tb T' xa cs.length xc w9 (HTR.out.keep0 HT9.out) HLO.out)
     have HEND2:Hid (CuEnd W0 F (altsL F cs) T'.D (.slice la F.length lc) v7 w9):=by
      obtain ⟨p1,p2,p3⟩:=HX5.out
      obtain ⟨g1,g2,g3,g4,g5⟩:=HEQ.out
      refine ⟨?_,HDS.out,(HLK.out w5 HT5.out).keep0 HT9.out,Or.inr h9,(HTW.out w5 HT5.out).trans HT9.out⟩
      have:=(HTR.out.keep0 HT9.out).ds
      rw [p1,p2,g1,g2] at this
      exact this
     have HFIT:Hid ((∀ e ∈ F,fitL e)∧F.length≤100000):=⟨HFT.out,by omega⟩
     have HDN:Hid (T'.D.done≤2000000000):=by
      obtain ⟨p1,p2,p3⟩:=HX5.out
      obtain ⟨g1,g2,g3,g4,g5⟩:=HEQ.out
      show T'.D.done≤_; omega
     obtain ⟨F2,hF2⟩:∃ F2,F2=altsL F cs:=⟨_,rfl⟩
     obtain ⟨D,hD⟩:∃ D,D=T'.D:=⟨_,rfl⟩
     rw [← hD,← hF2] at HEND2
     rw [← hD] at HDN
     clear HRA h9 t9 HT8 HX5 HTR HDS HT5 HCC HLO HONO HEQ HCH HLK HTW HSR HFT hF2 hD hal
     go_wp2_with fail
     refine HC9.out.mono ?_
     rintro e w10 ⟨rfl,rfl⟩
     clear HC9
     go_wp2_with fail
     refine HAL.out.mono ?_
     rintro e w10 ⟨rfl,rfl⟩
     clear HAL
     obtain ⟨wr,hwr⟩:∃ wr:World,wr=w9:=⟨_,rfl⟩
     rw [← hwr] at HEND2 ⊢
     clear hwr
     obtain ⟨v6,hv6⟩:∃ v6,v6=Value.slice la F.length lc:=⟨_,rfl⟩
     rw [← hv6] at HEND2 ⊢
     clear hv6
     go_wp2_with fail
     obtain ⟨m,hm⟩:∃ m:Nat,m=min ags.length 20:=⟨_,rfl⟩
     have hm20:m≤20:=by omega
     have hma:m≤ags.length:=by omega
     have HM:Hid (∀ i:Nat,i=m→(i < ags.length→¬ ((i:Nat):Int) < 20)):=fun i hi h1 h2=>by omega
     have HM2:Hid (∀ i:Nat,i < m→((i:Nat):Int) < 20):=fun i hi=>by omega
     have HS2:Hid (Cu2Rel W0 F F2 v6 v7 D.done m m (.int .i64 0) wr):=⟨0,D,by omega,rfl,HEND2.out,by omega⟩
     clear HEND2 hm
     obtain ⟨wz,hwz⟩:∃ wz:World,wz=wr:=⟨_,rfl⟩
     rw [← hwz] at HS2 ⊢
     clear hwz
     go_loopg [11] m (fun n v11 wr=>Cu2Rel W0 F F2 v6 v7 D.done m n v11 wr)
     case atStart=>exact HS2.out
     case round =>
      obtain ⟨i,D2,hni,rfl,hend,hd2⟩:=hrel
      clear HS2
      obtain ⟨y0,y1,y2⟩:=HBX.out _ hend.t
      have hdn:=HDN.out
      have hlt9:=hend.ds.lt
      have HE2:=Lib.hid hend
      have HST2:Hid (∀ W,IsDs W (W0.heap.size+1) W0.heap.size D2→Calls Tryz.prog 29 #[.pointer (some ⟨W0.heap.size+1,0,none⟩)] W fun e w'=>e=.returned (.tuple #[])∧(IsDs w' (W0.heap.size+1) W0.heap.size { D2 with left := -1,on:=true }∧Tch [W0.heap.size+1] W w')):=fun W hd=>dstart _ _ D2 W hd
      have HC1:=Lib.hid (HST2.out _ hend.ds)
      clear HST2
      match gk,hni with
      | 0,hni =>
       obtain rfl:i=m:=by omega
       have him:i=i:=rfl
       clear hni
       have hcond:(decide (i < ags.length) && decide (((i:Nat):Int) < 20))=false:=by
        by_cases h1:i < ags.length
        · have:=HM.out i him h1
          rw [decide_eq_false this,Bool.and_false]
        · rw [decide_eq_false h1,Bool.false_and]
       have HOL:Hid (∀ W,IsDs W (W0.heap.size+1) W0.heap.size { D2 with left := -1,on:=true }→Tch [] W0 W→Calls Tryz.prog 12 #[.pointer (some ⟨W0.heap.size+1,0,none⟩),.int .i64 500] W (OlPost W0 W F F2)):=fun W hd tt=>olast_any hd rfl rfl (hend.says.keep rfl) (by show D2.done+502 < _; omega) tt (by omega)
       clear hend
       by_cases h1:i < ags.length
       · have d1:decide (i < ags.length)=true:=decide_eq_true h1
         have hi20:=HM.out i him h1
         have d2:decide (((i:Nat):Int) < 20)=false:=decide_eq_false hi20
         have d3:(20:Int)≤((i:Nat):Int):=by omega
         clear hcond
         go_wp2_with fail
         refine HC1.out.mono ?_
         rintro e w31 ⟨rfl,hd31,t31⟩
         have HO31:=Lib.hid (HOL.out w31 hd31 (HE2.out.t.upTo t31 (by simp)))
         have HL31:Hid (∀ v l,IsL wr v l→IsL w31 v l):=fun v l h9=>h9.disk HE2.out.ds t31 (by simp)
         clear HC1 HOL hd31 t31
         go_wp2_with fail
         refine HO31.out.mono ?_
         rintro e w32 ⟨ub,UB,uh,U,unow,FX,US,rfl,uc,hor,t32,k32⟩
         have HL1:=Lib.hid (k32 _ _ (HL31.out _ _ HE2.out.l1))
         have HL2:Hid (F=F2∨IsL w32 v7 F2):=by
          rcases HE2.out.l2 with h9 | h9
          · exact Or.inl h9
          · exact Or.inr (k32 _ _ (HL31.out _ _ h9))
         have HUC:=Lib.hid uc
         have HT32:=Lib.hid t32
         have hor2:FX=F∨FX=F2∧IsL w32 v7 F2:=by
          rcases hor with h9 | h9
          · exact Or.inl h9
          · rcases HL2.out with h8 | h8
            · exact Or.inl (h9.trans h8.symm)
            · exact Or.inr ⟨h9,h8⟩
         clear HO31 HL31 uc hor t32 k32 HL2
         rcases hor2 with rfl | ⟨rfl,hl7⟩
         · have HH:=Lib.hid (holds_yes HUC.out v6 HL1.out)
           clear HL1 HUC
           go_wp2_with fail
           refine HH.out.mono ?_
           rintro e w33 ⟨rfl,t33⟩
           have HX:=Lib.hid (HF.out _ (HT32.out.trans t33))
           clear HH t33
           go_wp2_with fail
           first | exact ⟨rfl,HX.out⟩ | (go_ret; exact ⟨rfl,HX.out⟩)
         · have HH:=Lib.hid (holds_any HUC.out v6 F HL1.out HFIT.out.1 HFIT.out.2)
           have HH2:Hid (∀ W,Tch [] w32 W→Calls Tryz.prog 22 #[.pointer (some ⟨ub,0,none⟩),v7] W fun e w'=>e=.returned (.bool true)∧Tch [] W w'):=fun W tt=>holds_yes (HUC.out.keep tt) v7 (hl7.keep0 tt)
           clear HL1 HUC hl7
           go_wp2_with fail
           refine HH.out.mono ?_
           rintro e w33 ⟨r,rfl,_,t33⟩
           have HT33:=Lib.hid t33
           clear HH t33
           cases r
           · have HH3:=Lib.hid (HH2.out w33 HT33.out)
             clear HH2
             go_wp2_with fail
             refine HH3.out.mono ?_
             rintro e w34 ⟨rfl,t34⟩
             have HX:=Lib.hid (HF.out _ (HT32.out.trans (HT33.out.trans t34)))
             clear HH3 t34
             go_wp2_with fail
             first | exact ⟨rfl,HX.out⟩ | (go_ret; exact ⟨rfl,HX.out⟩)
           · have HX:=Lib.hid (HF.out _ (HT32.out.trans HT33.out))
             clear HH2
             go_wp2_with fail
             first | exact ⟨rfl,HX.out⟩ | (go_ret; exact ⟨rfl,HX.out⟩)
       · have d1:decide (i < ags.length)=false:=decide_eq_false h1
         clear hcond
         go_wp2_with fail
         refine HC1.out.mono ?_
         rintro e w31 ⟨rfl,hd31,t31⟩
         have HO31:=Lib.hid (HOL.out w31 hd31 (HE2.out.t.upTo t31 (by simp)))
         have HL31:Hid (∀ v l,IsL wr v l→IsL w31 v l):=fun v l h9=>h9.disk HE2.out.ds t31 (by simp)
         clear HC1 HOL hd31 t31
         go_wp2_with fail
         refine HO31.out.mono ?_
         rintro e w32 ⟨ub,UB,uh,U,unow,FX,US,rfl,uc,hor,t32,k32⟩
         have HL1:=Lib.hid (k32 _ _ (HL31.out _ _ HE2.out.l1))
         have HL2:Hid (F=F2∨IsL w32 v7 F2):=by
          rcases HE2.out.l2 with h9 | h9
          · exact Or.inl h9
          · exact Or.inr (k32 _ _ (HL31.out _ _ h9))
         have HUC:=Lib.hid uc
         have HT32:=Lib.hid t32
         have hor2:FX=F∨FX=F2∧IsL w32 v7 F2:=by
          rcases hor with h9 | h9
          · exact Or.inl h9
          · rcases HL2.out with h8 | h8
            · exact Or.inl (h9.trans h8.symm)
            · exact Or.inr ⟨h9,h8⟩
         clear HO31 HL31 uc hor t32 k32 HL2
         rcases hor2 with rfl | ⟨rfl,hl7⟩
         · have HH:=Lib.hid (holds_yes HUC.out v6 HL1.out)
           clear HL1 HUC
           go_wp2_with fail
           refine HH.out.mono ?_
           rintro e w33 ⟨rfl,t33⟩
           have HX:=Lib.hid (HF.out _ (HT32.out.trans t33))
           clear HH t33
           go_wp2_with fail
           first | exact ⟨rfl,HX.out⟩ | (go_ret; exact ⟨rfl,HX.out⟩)
         · have HH:=Lib.hid (holds_any HUC.out v6 F HL1.out HFIT.out.1 HFIT.out.2)
           have HH2:Hid (∀ W,Tch [] w32 W→Calls Tryz.prog 22 #[.pointer (some ⟨ub,0,none⟩),v7] W fun e w'=>e=.returned (.bool true)∧Tch [] W w'):=fun W tt=>holds_yes (HUC.out.keep tt) v7 (hl7.keep0 tt)
           clear HL1 HUC hl7
           go_wp2_with fail
           refine HH.out.mono ?_
           rintro e w33 ⟨r,rfl,_,t33⟩
           have HT33:=Lib.hid t33
           clear HH t33
           cases r
           · have HH3:=Lib.hid (HH2.out w33 HT33.out)
             clear HH2
             go_wp2_with fail
             refine HH3.out.mono ?_
             rintro e w34 ⟨rfl,t34⟩
             have HX:=Lib.hid (HF.out _ (HT32.out.trans (HT33.out.trans t34)))
             clear HH3 t34
             go_wp2_with fail
             first | exact ⟨rfl,HX.out⟩ | (go_ret; exact ⟨rfl,HX.out⟩)
           · have HX:=Lib.hid (HF.out _ (HT32.out.trans HT33.out))
             clear HH2
             go_wp2_with fail
             first | exact ⟨rfl,HX.out⟩ | (go_ret; exact ⟨rfl,HX.out⟩)
      | g2+1,hni =>
       have him:i < m:=by omega
       have h1:i < ags.length:=by omega
       have d1:decide (i < ags.length)=true:=decide_eq_true h1
       have hi20:=HM2.out i him
       have d2:decide (((i:Nat):Int) < 20)=true:=decide_eq_true hi20
       have hi0:(0:Int)≤(i:Int):=by omega
       have hi1:(i:Int) < (ags.length:Int):=by omega
       have hxL:=hend.l1
       clear hend
       go_wp2_with fail
       refine HC1.out.mono ?_
       rintro e w21 ⟨rfl,hd21,t21⟩
       have T21:=HE2.out.t.upTo t21 (by simp)
       obtain ⟨z0,z1,z2⟩:=HBX.out w21 T21
       obtain ⟨a0,hga,a1,a2⟩:=HGE.out w21 T21 i h1
       subst hga
       generalize ags[i]=ag at a0 a1 a2
       have hmx9:max 0 ag≤9223372036854775807:=by omega
       have hmx8:(0:Int)≤max 0 ag:=by omega
       have HCU:=Lib.hid (dcut (W0.heap.size+1) W0.heap.size { D2 with left := -1,on:=true } (max 0 ag) w21 hd21 (by omega) hmx9)
       have HL21:Hid (∀ v l,IsL wr v l→IsL w21 v l):=fun v l h9=>h9.disk HE2.out.ds t21 (by simp)
       have HD21:=Lib.hid hd21
       have HT21:=Lib.hid T21
       clear HC1 hd21 t21 T21
       go_wp2_with fail
       refine HCU.out.mono ?_
       rintro e w22 ⟨rfl,hd22,t22⟩
       have HT22:=Lib.hid (HT21.out.upTo t22 (by simp))
       have HL22:Hid (∀ v l,IsL wr v l→IsL w22 v l):=fun v l h9=>(HL21.out v l h9).disk HD21.out t22 (by simp)
       have HOC:=Lib.hid (ocut_any (w0:=W0) (F1:=F) (F2:=F2) hd22 rfl (HE2.out.says.keep rfl) (by show D2.done+502 < _; omega) HT22.out (by omega))
       clear HCU HD21 HL21 HT21 hd22 t22
       go_wp2_with fail
       refine HOC.out.mono ?_
       rintro e w23 ⟨D3,k1,k2,k3,k4,k5,⟨k6,ub,rfl⟩ | ⟨k6,rfl⟩⟩
       all_goals
        have HOD:Hid (Calls Tryz.prog 28 #[.pointer (some ⟨W0.heap.size+1,0,none⟩)] w23 fun e w'=>e=.returned (.bool D3.on)∧w23=w'):=don _ _ D3 w23 k1
        rw [k6] at HOD
        have HG:Hid (Cu2Rel W0 F F2 v6 v7 D.done m g2 (.int .i64 ((i:Int)+1)) w23):=by
         refine ⟨i+1,D3,by omega,by simp,⟨k1,k2,k5 _ _ (HL22.out _ _ HE2.out.l1),?_,k4⟩,?_⟩
         · rcases HE2.out.l2 with h9 | h9
           · exact Or.inl h9
           · exact Or.inr (k5 _ _ (HL22.out _ _ h9))
         · have:({ ({ D2 with left := -1,on:=true }:Ds) with left:=max (max 0 ag) 0 }:Ds).done=D2.done:=rfl
           rw [this] at k3
           omega
        clear HOC k1 k2 k3 k4 k5 k6 HL22 HT22
        go_wp2_with fail
        refine HOD.out.mono ?_
        rintro e w24 ⟨rfl,rfl⟩
        clear HOD
        go_wp2_with fail
        go_roundg g2
        case measure=>omega
        case rel=>exact HG.out
end Go.Proofs.YtlkgnljdpakkcaaGreatDoor
