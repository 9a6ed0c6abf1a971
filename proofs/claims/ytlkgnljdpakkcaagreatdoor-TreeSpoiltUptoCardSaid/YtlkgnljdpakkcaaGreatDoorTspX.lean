/-
  Parts of the proof: Tsp.
-/
import Derived.Test.YtlkgnljdpakkcaaGreatDoorM28
import Derived.Test.YtlkgnljdpakkcaaGreatDoorWkaX
set_option linter.unusedVariables false
set_option linter.unusedSimpArgs false
/-
 The law TreeSpoilt,walked.
-/
namespace Go.Proofs.YtlkgnljdpakkcaaGreatDoor
open Go.RowKit
theorem from_all (F:List En):fromL F ⟨#[]⟩=F:=by
 have e:∀ k:ByteArray,slt k ⟨#[]⟩=false:=fun k=>by
  unfold slt
  have:(⟨#[]⟩:ByteArray).toList=[]:=by rw [ByteArray.toList_eq]
  rw [this]
  cases k.toList <;> rfl
 unfold fromL
 rw [List.filter_eq_self]
 intro a _
 rw [e]; rfl
theorem wst_calm {D:Ds} {i:Int} {x:ByteArray} (hon:D.on=true) (hl:D.left = -1):(D.wstate i x).on=true∧(D.wstate i x).left = -1:=by
 unfold Ds.wstate
 rw [if_neg (by rw [hon]; simp)]
 split
 · exact ⟨hon,hl⟩
 · split
   · exact ⟨hon,hl⟩
   · split
     · omega
     · exact ⟨hon,by show tk D.left = -1; rw [hl]; rfl⟩
theorem jopen_calm {D:Ds} {room n:Nat} (hon:D.on=true) (hl:D.left = -1) (h1:1≤room) (hr:room≤500) (h6:n≤16384) (hn:D.texts.length=room+1+n) (hsz:∀ j,(D.texts.getD j ⟨#[]⟩).size≤1024) :
 (jopen room D).1=32∨((jopen room D).1=0∧(jopen room D).2.left = -1∧(jopen room D).2.on=true∧(jopen room D).2.texts.length=room+1+n∧(jopen room D).2.done≤D.done+501):=by
 have hj:jlen D room=n:=by unfold jlen; omega
 have hrd:=rd_in (D:=D) (i:=0) hon (by omega) (by omega)
 cases hh:rhead (pad (D.texts.getD 0 ⟨#[]⟩)).data.toList room n with
 | none =>
  left
  unfold jopen
  rw [if_neg (by omega),if_neg (by rw [hrd.1]; simp),hrd.2,Int.toNat_natCast,hj,show ((0:Int)).toNat=0 from rfl,hh]
 | some l =>
  right
  have hs:Seen D room l ((List.range n).map (cont D room l)):=⟨by simp; omega,by simp; exact hh,fun i hi=>by
   have hi':i < n:=by simpa using hi
   rw [List.getD_eq_getElem?_getD,List.getElem?_map,List.getElem?_range hi']; rfl⟩
  obtain ⟨c1,c2⟩:=jopen_seen hon hs h1 hr (by simp; omega) hsz
  obtain ⟨c3,c4,c5⟩:=c2 hl
  rcases c1 with ⟨_,g2,g3⟩ | ⟨g1,_⟩
  · refine ⟨c3,c4,g2,by rw [g3.len]; simp,?_⟩
    have:=hs.nums.1
    rw [c5]
    split <;> omega
  · omega
def spC:List Ch:=[⟨⟨#[97]⟩,⟨#[98]⟩,false⟩]
theorem sp_chk:chk spC []=0:=by decide +kernel
def Sp1 (w0:World) (b bs:Nat) (e:Ending) (w':World):Prop:=∃ (k:Int) (D:Ds),e=.returned (.int .i64 k)∧IsDs w' b bs D∧D.on=true∧D.left = -1∧D.texts.length=60∧D.done≤1002∧Tch [] w0 w'
theorem sp1_any {w0 w:World} {tb B:Nat} {T:Tv} (c:Calm w w0.heap.size tb B T (List.replicate 29 ⟨#[]⟩) 0 [] []) (t:Tch [] w0 w) (hB:B≤w.heap.size) (hd:T.D.done=0) (hrm:T.room=30) (cs:List Ch) (a:Option Addr) (n cap b o:Nat) (hlen:cs.length≤1048576) (hr:IsR fChg 3 w a n b o cs) (hz:a=none→n=0∧cap=0) :
 Calls Tryz.prog 24 #[.pointer (some ⟨tb,0,none⟩),.slice a n cap] w (Sp1 w0 T.b T.bs):=by
 have hl60:T.D.texts.length=60:=by have:=c.hand.seen.len; rw [hrm] at this; simpa using this
 have hnw:=c.new
 have hts:=t.size
 have hm:∀ k ∈ [tb,T.mb,T.b,T.bs],w0.heap.size≤k:=by simp only [List.mem_cons,List.not_mem_nil,or_false]; omega
 refine (apply_std tb B 0 T _ [] [] cs a n cap b o w c.tr c.lost c.hand ⟨c.lo.1,c.lo.2,hB⟩ c.hig hlen hr hz hr.lt (by omega)).mono ?_
 rintro e w' (⟨h1,rfl,h3,h4⟩ | ⟨_,rfl,_,h3,h4⟩ | ⟨_,rfl,_,_,h3,h4⟩ | ⟨h0,T',now',h2,S3,e1,e2,e3,e4,e5,e6,h3,h4,h5,h6,⟨rfl,h8,h9,h10,h11⟩ | ⟨_,h8,_⟩⟩)
 · exact ⟨_,T.D,rfl,h3.ds,c.hand.on,c.left,hl60,by omega,t.trans h4⟩
 · exact ⟨_,T.D,rfl,h3.ds,c.hand.on,c.left,hl60,by omega,t.trans h4⟩
 · exact ⟨_,T.D,rfl,h3.ds,c.hand.on,c.left,hl60,by omega,t.upTo h4 hm⟩
 · have hl2:T'.D.texts.length=60:=by have:=h9.seen.len; rw [e4,hrm,e6] at this; simpa using this
   rw [← e2,← e3]
   exact ⟨_,T'.D,rfl,h3.ds,h9.on,h11 c.left,hl2,by omega,t.upTo h4 hm⟩
 · exact absurd c.left h8
def Sp2 (w0:World) (e:Ending) (w':World):Prop :=
 (∃ c:Int,(c=32∨c=53)∧e=.returned (.tuple #[.pointer none,.int .i64 c])∧Tch [] w0 w') ∨
 (∃ (tb B h:Nat) (T:Tv) (F:List En) (S:List Int),e=.returned (.tuple #[.pointer (some ⟨tb,0,none⟩),.int .i64 0])∧IsTr w' tb T∧Std T h F S 29∧Ful T∧T.lost=false∧jlen T.D T.room=29∧T.D.done≤2000∧(T.b < B∧T.bs < B∧B≤w'.heap.size)∧(∀ x v,T.f x=some v→Hig B v)∧(w0.heap.size≤tb∧w0.heap.size≤T.mb∧w0.heap.size≤T.b∧w0.heap.size≤T.bs)∧Tch [] w0 w')
theorem sp2_any {w0 w:World} {b bs:Nat} {D:Ds} (hd:IsDs w b bs D) (hon:D.on=true) (hl:D.left = -1) (hlen:D.texts.length=60) (hdn:D.done≤1100) (t:Tch [] w0 w) (hb:w0.heap.size≤b∧w0.heap.size≤bs) :
 Calls Tryz.prog 12 #[.pointer (some ⟨b,0,none⟩),.int .i64 30] w (Sp2 w0):=by
 have hlt:=hd.lt
 have hts:=t.size
 have hm:∀ k ∈ [b,bs],w0.heap.size≤k:=by simp only [List.mem_cons,List.not_mem_nil,or_false]; omega
 have hj:=jopen_calm (room:=30) (n:=29) hon hl (by omega) (by omega) (by omega) (by omega) (seen_size hd)
 have htp:=topen_any b bs 30 D w hd (by omega)
 rw [show ((30:Nat):Int)=30 from rfl] at hj
 refine htp.mono ?_
 rintro e w' ⟨t1,t2,⟨k1,rfl⟩ | ⟨k1,c,k2,rfl,k3⟩ | ⟨k1,tb,h,T,rfl,k3,k4,k5,k6,k7,k8,k9,k10,k11,k12,k13⟩⟩
 · rcases hj with hj | ⟨hj,_⟩
   · exact Or.inl ⟨_,Or.inl hj,rfl,t.upTo t1 hm⟩
   · exact absurd hj k1
 · rcases hj with hj | ⟨hj,g1,g2,g3,g4⟩
   · omega
   · rcases k3 with ⟨k3,_⟩ | ⟨_,rfl,_⟩
     · exfalso
       unfold jlen at k3
       rw [g3] at k3
       simp at k3
     · exact Or.inl ⟨_,Or.inr rfl,rfl,t.upTo t1 hm⟩
 · rcases hj with hj | ⟨hj,g1,g2,g3,g4⟩
   · omega
   · have hjl:jlen T.D T.room=29:=by
      rw [k4,k5]
      unfold jlen
      rw [g3]; rfl
     have hld:LdOk T.D T.room T.root (nmf T.f) h:=by rw [k4,k5]; exact k9
     obtain ⟨F,S,s1,s2⟩:=ld_std hld (by omega)
     rw [hjl] at s1
     refine Or.inr ⟨tb,w.heap.size,h,T,F,S,rfl,k3,s1,s2,k8,hjl,by rw [k4]; omega,⟨by rw [k6]; exact hlt.1,by rw [k7]; exact hlt.2.1,t1.size⟩,k10,⟨by omega,by omega,by omega,by omega⟩,t.upTo t1 hm⟩
def Sp3 (w0:World) (tb:Nat) (e:Ending) (w':World):Prop:=∃ (k:Int) (h:Nat) (T:Tv) (F:List En) (S:List Int),e=.returned (.int .i64 k)∧IsTr w' tb T∧Std T h F S 29∧Ful T∧Tch [] w0 w'
theorem Std.like {T T':Tv} {h n:Nat} {F:List En} {S:List Int} (s:Std T h F S n) (hr:T'.root=T.root) (hf:T'.f=T.f):Std T' h F S n:=⟨by rw [hr,hf]; exact s.tr,s.one,s.inn,by rw [hf]; exact s.out⟩
theorem sp3_any {w0 w:World} {tb B h:Nat} {T:Tv} {F:List En} {S:List Int} (ht:IsTr w tb T) (s:Std T h F S 29) (f:Ful T) (hl:T.lost=false) (hj:jlen T.D T.room=29) (hd:T.D.done≤2000) (hB:T.b < B∧T.bs < B∧B≤w.heap.size) (hh:∀ x v,T.f x=some v→Hig B v) (hnw:w0.heap.size≤tb∧w0.heap.size≤T.mb∧w0.heap.size≤T.b∧w0.heap.size≤T.bs) (t:Tch [] w0 w) (b:Nat) (hr:IsR fChg 3 w (some ⟨b,0,none⟩) 1 b 0 spC) :
 Calls Tryz.prog 24 #[.pointer (some ⟨tb,0,none⟩),.slice (some ⟨b,0,none⟩) 1 1] w (Sp3 w0 tb):=by
 have hm:∀ k ∈ [tb,T.mb,T.b,T.bs],w0.heap.size≤k:=by simp only [List.mem_cons,List.not_mem_nil,or_false]; omega
 refine (apply_go tb B h T F S spC (some ⟨b,0,none⟩) 1 1 b 0 w ht hl (by rw [hj]; exact s.ok (by omega) (by omega)) hB hh (by simp [spC]) hr (fun h=>by cases h) hr.lt (by omega) sp_chk).mono ?_
 rintro e w' (⟨k,hk,hk2,_⟩ | ⟨_,rfl,h3,h4,_⟩ | ⟨_,d,s',root,h2,S2,S3,L,free,N,g,hdi,hfs,rfl,hN,hf,hw,hld,rfl,ht',⟨h5,h6,h7⟩ | ⟨h5,h6⟩⟩)
 · exact absurd (hk2.symm.trans sp_chk) hk
 · exact ⟨_,h,T,F,S,rfl,h3,s,f,t.trans h4⟩
 · rw [hj] at hf
   exact ⟨_,h2,_,_,_,rfl,h6,std_take s hf _,ful_tk f,t.upTo ht' hm⟩
 · exact ⟨_,h,_,F,S,rfl,h6,s.like rfl rfl,f,t.upTo ht' hm⟩
set_option maxRecDepth 100000 in
set_option maxHeartbeats 1000000 in
theorem spoilt_walk (a:Option Addr) (n cap b o:Nat) (cs:List Ch) (at_:Int) (data:ByteArray) (w:World) (hr:IsR fChg 3 w a n b o cs) (hz:a=none→n=0∧cap=0) (hlen:cs.length≤1048576) :
 Calls Tryz.prog 5 #[.slice a n cap,.int .i64 at_,.string data] w fun e w'=>e=.returned (.bool true)∧Tch [] w w':=by
 have HN:=Lib.hid (dnew 60 w (by omega) (by omega))
 rw [show many 60=60 from rfl] at HN
 have HO:Hid (∀ W,IsDs W (w.heap.size+1) w.heap.size (freshD 60)→Tch [] w W→Calls Tryz.prog 12 #[.pointer (some ⟨w.heap.size+1,0,none⟩),.int .i64 30] W (NewPost w W (w.heap.size+1) w.heap.size 30 29)):=fun W h1 t=>open_new w W (w.heap.size+1) w.heap.size 60 30 h1 t (by omega) (by omega) (by omega) (by omega) (by omega)
 have HR:=Lib.hid hr
 have HZ:=Lib.hid hz
 have HLEN:=Lib.hid hlen
 clear hr hz hlen
 go_enter Tryz.func5,Tryz.ntmps5
 have HG:Hid (Calls Tryz.prog 17 #[.pointer none,.string ⟨#[97]⟩] w fun e w'=>e=.returned (.tuple #[.string ⟨#[]⟩,.bool false])∧w=w'):=(get_nil ⟨#[97]⟩ w).mono (fun e w' h=>⟨h.1,h.2.symm⟩)
 go_wp2_with fail
 refine HG.out.mono ?_
 rintro e w' ⟨rfl,rfl⟩
 clear HG
 go_wp2_with fail
 refine HN.out.mono ?_
 rintro e w1 ⟨rfl,hd1,t1⟩
 have HC:=Lib.hid (HO.out w1 hd1 t1)
 clear HN HO hd1
 go_wp2_with fail
 refine HC.out.mono ?_
 rintro e w2 ⟨tb,T,rfl,c2,hdn,hrm,hb,hbs,hsz,t2⟩
 have HWK:=Lib.hid (twakes_any w2)
 have HC2:=Lib.hid c2
 have HD:=Lib.hid (And.intro hdn (And.intro hrm (And.intro hb hbs)))
 clear HC c2 t1 hdn hrm hb hbs
 go_wp2_with fail
 refine HWK.out.mono ?_
 rintro e w3 ⟨rfl,t3⟩
 have T3:=t2.trans t3
 have HC3:=Lib.hid (HC2.out.keep t3)
 have hB3:w1.heap.size≤w3.heap.size:=Nat.le_trans hsz t3.size
 clear HWK HC2 hsz t2 t3
 go_wp2_with fail
 refine (scan_nil ⟨#[]⟩ 9 w3).mono ?_
 rintro e w4 ⟨v4,rfl,hrow4,t4⟩
 obtain ⟨x4,c4,rfl⟩:=own_slice hrow4
 have T4:=T3.trans t4
 clear hrow4 T3
 go_wp2_with fail
 refine (tlen_nil w4).mono ?_
 rintro e w5 ⟨rfl,t5⟩
 have T5:=T4.trans t5
 clear T4
 go_wp2_with fail
 refine (sectors_nil w5).mono ?_
 rintro e w6 ⟨rfl,t6⟩
 have T6:=T5.trans t6
 have t36:=(t4.trans t5).trans t6
 have HA:Hid (Calls Tryz.prog 24 #[.pointer (some ⟨tb,0,none⟩),.slice a n cap] w6 (Sp1 w (w.heap.size+1) w.heap.size)):=by
  obtain ⟨q1,q2,q3,q4⟩:=HD.out
  obtain rfl:=HR.out.hlen
  have:=sp1_any (HC3.out.keep t36) T6 (Nat.le_trans hB3 t36.size) q1 q2 cs a cs.length cap b o HLEN.out (HR.out.keep0 T6) HZ.out
  rw [q3,q4] at this
  exact this
 clear T5 t4 t5 t6 t36 HC3 HD hB3 T6
 go_wp2_with (go_at_call 24; ((with_reducible refine (apply_nil none 0 0 _).mono ?_); rintro e w' ⟨rfl,rfl⟩))
 refine HA.out.mono ?_
 rintro e w7 ⟨k7,D,rfl,hd7,hon,hl,hl60,hdn,t7⟩
 obtain ⟨i,hi⟩:∃ i,i=max 0 at_ % 60:=⟨_,rfl⟩
 have HW:=Lib.hid (dwrite (w.heap.size+1) w.heap.size D (max 0 at_ % 60) data w7 hd7 (by omega))
 have hmx:(0:Int)≤max 0 at_:=by omega
 have HD:=Lib.hid (And.intro hon (And.intro hl (And.intro hl60 hdn)))
 clear HA hd7 hon hl hl60 hdn hi i
 go_wp2_with fail
 refine HW.out.mono ?_
 rintro e w8 ⟨rfl,hd8,t8⟩
 have T8:=t7.upTo t8 (by simp only [List.mem_cons,List.not_mem_nil,or_false]; omega)
 have HO2:Hid (Calls Tryz.prog 12 #[.pointer (some ⟨w.heap.size+1,0,none⟩),.int .i64 30] w8 (Sp2 w)):=by
  obtain ⟨q1,q2,q3,q4⟩:=HD.out
  obtain ⟨g1,g2⟩:=wst_calm (D:=D) (i:=max 0 at_ % 60) (x:=data) q1 q2
  exact sp2_any hd8 g1 g2 (by rw [wst_len]; exact q3) (by have:=(wst_done D (max 0 at_ % 60) data).2; omega) T8 (by omega)
 clear HW HD hd8 t7 t8 T8
 go_wp2_with fail
 refine HO2.out.mono ?_
 rintro e w9 (⟨c,hc,rfl,t9⟩ | ⟨tb2,B,h,T2,F,S,rfl,k1,k2,k3,k4,k5,k6,k7,k8,k9,t9⟩)
 · have HE:=Lib.hid t9
   clear t9 HO2
   rcases hc with rfl | rfl
   · go_wp2_with fail
     first | exact ⟨rfl,HE.out⟩ | (go_ret; exact ⟨rfl,HE.out⟩)
   · go_wp2_with fail
     first | exact ⟨rfl,HE.out⟩ | (go_ret; exact ⟨rfl,HE.out⟩)
 · obtain ⟨W,hW⟩:∃ W,W=w9.alloc (.cells #[.string ⟨#[97]⟩,.string ⟨#[98]⟩,.bool false] 62):=⟨_,rfl⟩
   have u:Tch [] w9 W:=by rw [hW]; exact (Tch.refl _ _).alloc _
   have HA2:=Lib.hid (sp3_any (w0:=w) (k1.keep0 u) k2 k3 k4 k5 k6 ⟨k7.1,k7.2.1,Nat.le_trans k7.2.2 u.size⟩ k8 k9 (t9.trans u) w9.heap.size (isr_all (f:=fChg) spC (fun _=>rfl) (by rw [hW]; exact blk_new _ _)))
   clear k1 k2 k3 k4 k5 k6 k7 k8 k9 t9 u HO2
   go_wp2_with fail
   rw [← hW]
   clear hW
   refine HA2.out.mono ?_
   rintro e w10 ⟨k10,h3,T3,F3,S3,rfl,g1,g2,g3,t10⟩
   have hS:S3.length≤28:=nodup_len 28 1 S3 g2.one (fun x hx=>by have:=g2.inn x hx; omega)
   have hF:=g2.tr.len
   have HS:=Lib.hid (scan_std g1 g2 (by omega) (by omega) ⟨#[]⟩ (by decide) 1048576)
   rw [from_all,show ((1048576:Int)).toNat=1048576 from rfl,List.take_of_length_le (by omega)] at HS
   have HL:Hid (∀ W,Tch [] w10 W→Calls Tryz.prog 30 #[.pointer (some ⟨tb2,0,none⟩)] W (IntPost F3.length W)):=fun W t=>len_std (g1.keep0 t) g2 g3 (by omega) (by omega)
   have HT:=Lib.hid t10
   clear HA2 g1 g2 g3 t10 hS hF
   go_wp2_with fail
   refine HS.out.mono ?_
   rintro e w11 ⟨v11,rfl,hrow,t11⟩
   obtain ⟨x11,c11,rfl⟩:=own_slice hrow
   have HL2:=Lib.hid (HL.out w11 t11)
   have HT2:=Lib.hid (HT.out.trans t11)
   clear HS HL HT hrow t11
   go_wp2_with fail
   refine HL2.out.mono ?_
   rintro e w12 ⟨rfl,t12⟩
   have HE:=Lib.hid (HT2.out.trans t12)
   clear HL2 HT2 t12
   go_wp2_with fail
   first | exact ⟨rfl,HE.out⟩ | (go_ret; exact ⟨rfl,HE.out⟩) | (go_ret; exact ⟨by simp,HE.out⟩)
end Go.Proofs.YtlkgnljdpakkcaaGreatDoor
