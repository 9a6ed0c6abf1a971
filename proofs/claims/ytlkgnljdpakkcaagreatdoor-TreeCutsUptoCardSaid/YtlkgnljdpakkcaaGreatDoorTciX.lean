/-
  Parts of the proof: Tci.
-/
import Derived.Test.YtlkgnljdpakkcaaGreatDoorRfmX
import Derived.Deep.LoopGhost
import Derived.Laws.AppendOwnNone
import Derived.Test.YtlkgnljdpakkcaaGreatDoorTinX
set_option linter.unusedVariables false
set_option linter.unusedSimpArgs false
/-
 For the law TreeCuts: trees over a disk whose power may go off; 'holds' at whatever lists; opening what was handed in.
-/
namespace Go.Proofs.YtlkgnljdpakkcaaGreatDoor
open Go.RowKit
theorem fin_done (room:Nat) (l:List Nat):∀ k D,(fin room k l D).2.done≤D.done+l.length:=by
 induction l with
 | nil=>intro k D; simp [fin]
 | cons a l ih =>
  intro k D
  have h1:=(wst_done D ((room+1+a:Nat):Int) (D.texts.getD (1+k) ⟨#[]⟩)).2
  rw [fin]
  split
  · simp only [List.length_cons]; omega
  · split
    · have:=ih (k+1) (D.wstate ((room+1+a:Nat):Int) (D.texts.getD (1+k) ⟨#[]⟩))
      simp only [List.length_cons]
      omega
    · simp only [List.length_cons]
      omega
structure Live (w:World) (A tb B:Nat) (T:Tv) (now:List ByteArray) (h:Nat) (F:List En) (S:List Int):Prop where
 tr:IsTr w tb T
 hand:Hand T now h F S
 ful:Ful T
 lost:T.lost=false
 lo:T.b < B∧T.bs < B
 hig:∀ x v,T.f x=some v→Hig B v
 new:A≤tb∧A≤T.mb∧A≤T.b∧A≤T.bs
theorem Live.keep {w w':World} {A tb B h:Nat} {T:Tv} {now:List ByteArray} {F:List En} {S:List Int} (c:Live w A tb B T now h F S) (t:Tch [] w w'):Live w' A tb B T now h F S:=⟨c.tr.keep0 t,c.hand,c.ful,c.lost,c.lo,c.hig,c.new⟩
def DsSays (D:Ds) (F1 F2:List En):Prop :=
 ∃ (l:List Nat) (nowX:List ByteArray) (M:Int→Nod) (root:Int) (h:Nat) (FX:List En) (SX:List Int),Seen D 500 l nowX∧nowX.length=1499∧Says nowX M root SX∧Tr M root h FX SX∧(∀ x,SX.count x≤1)∧(∀ x ∈ SX,1≤x∧x < (1499:Int))∧(FX=F1∨FX=F2)
theorem DsSays.keep {D E:Ds} {F1 F2:List En} (h:DsSays D F1 F2) (he:E.texts=D.texts):DsSays E F1 F2:=by
 obtain ⟨l,nowX,M,root,h1,FX,SX,a,b⟩:=h
 exact ⟨l,nowX,M,root,h1,FX,SX,a.keep he,b⟩
theorem Live.says {w:World} {A tb B h:Nat} {T:Tv} {now:List ByteArray} {F:List En} {S:List Int} (c:Live w A tb B T now h F S) (hr:T.room=500) (hn:now.length=1499) (F2:List En):DsSays T.D F F2:=by
 have hs:=c.hand.seen
 rw [hr] at hs
 have hi:=c.hand.std.inn
 rw [hn] at hi
 exact ⟨[],now,mN T.f,T.root,h,F,S,hs,hn,c.hand.says,c.hand.std.tr,c.hand.std.one,hi,Or.inl rfl⟩
def LvPost (w:World) (A tb B:Nat) (T:Tv) (now:List ByteArray) (h:Nat) (F:List En) (S:List Int) (cs:List Ch) (e:Ending) (w':World):Prop :=
 (∃ (k:Int) (T':Tv) (now':List ByteArray) (h':Nat) (S':List Int),k=chk cs []∧e=.returned (.int .i64 k)∧Live w' A tb B T' now' h' (if chk cs []=0 then altsL F cs else F) S'∧T'.b=T.b∧T'.bs=T.bs∧T'.room=T.room∧T'.mb=T.mb∧now'.length=now.length∧T'.D.done≤T.D.done+1002∧Tch [tb,T.mb,T.b,T.bs] w w') ∨
 (chk cs []=0∧e=.returned (.int .i64 12)∧∃ T':Tv,IsTr w' tb T'∧T'.lost=true∧T'.D.on=false∧T'.b=T.b∧T'.bs=T.bs∧T'.D.done≤T.D.done+1002∧DsSays T'.D F (altsL F cs)∧Tch [tb,T.mb,T.b,T.bs] w w')
theorem Live.apply {w:World} {A tb B h:Nat} {T:Tv} {now:List ByteArray} {F:List En} {S:List Int} (c:Live w A tb B T now h F S) (hB:B≤w.heap.size) (cs:List Ch) (a:Option Addr) (n cap b o:Nat) (hlen:cs.length≤20) (hr:IsR fChg 3 w a n b o cs) (hz:a=none→n=0∧cap=0) (hdone:T.D.done+1002 < 9223372036854775807) (hF:F.length≤300) (hrm:T.room=500) (hnl:now.length=1499) :
 Calls Tryz.prog 24 #[.pointer (some ⟨tb,0,none⟩),.slice a n cap] w (LvPost w A tb B T now h F S cs):=by
 have hfew:=c.hand.std.tr.few
 have hby:=bys_le' c.hand.std.tr.fitL
 have hsr:=c.hand.std.tr.srt
 refine (apply_std tb B h T now F S cs a n cap b o w c.tr c.lost c.hand ⟨c.lo.1,c.lo.2,hB⟩ c.hig (by omega) hr hz hr.lt hdone).mono ?_
 rintro e w' (⟨h1,rfl,h3,h4⟩ | ⟨h0,rfl,h2,h3,h4⟩ | ⟨h0,rfl,h2,_,h3,h4⟩ | ⟨h0,T',now',h2,S3,e1,e2,e3,e4,e5,e6,h3,h4,h5,h6,⟨rfl,h8,h9,h10,h11⟩ | ⟨rfl,h8,h9,h10,⟨M,root,g1,g2,g3,g4⟩,l,g5⟩⟩)
 · exact Or.inl ⟨_,T,now,h,S,rfl,rfl,by rw [if_neg h1]; exact c.keep h4,rfl,rfl,rfl,rfl,rfl,by omega,h4.mono (by simp)⟩
 · omega
 · omega
 · rw [altsL_ords hsr h0] at h9
   exact Or.inl ⟨_,T',now',h2,S3,h0.symm,rfl,by rw [if_pos h0]; exact ⟨h3,h9,h6 c.ful,h8,by rw [e2,e3]; exact c.lo,h10,by rw [e2,e3,e5]; exact c.new⟩,e2,e3,e4,e5,e6,h5,h4⟩
 · rw [altsL_ords hsr h0] at g2
   rw [hrm] at g5
   rw [hnl] at g4 e6
   refine Or.inr ⟨h0,rfl,T',h3,h9,h10,e2,e3,h5,?_,h4⟩
   rcases g5 with g5 | g5
   · have hi:=c.hand.std.inn
     rw [hnl] at hi
     exact ⟨l,now,mN T.f,T.root,h,F,S,g5,hnl,c.hand.says,c.hand.std.tr,c.hand.std.one,hi,Or.inl rfl⟩
   · exact ⟨l,now',M,root,h2,_,S3,g5,e6,g1,g2,g3,g4,Or.inr rfl⟩
theorem jopen_done (room:Nat) (D:Ds) (h5:room≤500):(jopen room D).2.done≤D.done+501:=by
 unfold jopen
 split
 · simp; omega
 · split
   · simp; omega
   · split
     · simp; omega
     · simp; omega
     · rename_i a l hh
       have hl:=rhead_len hh
       rw [Int.toNat_natCast] at hl ⊢
       unfold fins
       have h1:=fin_done room (a :: l) 0 D
       split
       · have h2:=wrs_done [(0,hdb [])] (fin room 0 (a :: l) D).2
         simp only [List.length_cons,List.length_nil] at h1 h2 hl
         omega
       · simp only [List.length_cons] at h1 hl
         omega
theorem IsL.disk {w w':World} {b bs:Nat} {D:Ds} {L:List Nat} {v:Value} {l:List En} (h:IsL w v l) (hd:IsDs w b bs D) (t:Tch L w w') (hL:∀ k ∈ L,k=b∨k=bs):IsL w' v l:=by
 obtain ⟨S0,hS,_⟩:=hd
 refine h.keep t (fun k hk cs e=>?_)
 rcases hL k hk with rfl | rfl
 · rw [hS.blk] at e; simp at e
 · rw [hS.arr] at e; simp at e
theorem Hand.redisk {T:Tv} {now:List ByteArray} {h:Nat} {F:List En} {S:List Int} (H:Hand T now h F S) {D':Ds} (hon:D'.on=true) (ht:D'.texts=T.D.texts):Hand { T with D:=D' } now h F S :=
 ⟨hon,H.seen.keep ht,⟨H.std.tr,H.std.one,H.std.inn,H.std.out⟩,H.says,H.r1,H.r2,H.l1,H.l2⟩
def OcPost (w0 w:World) (b bs:Nat) (D:Ds) (F1 F2:List En) (e:Ending) (w':World):Prop :=
 ∃ D':Ds,IsDs w' b bs D'∧DsSays D' F1 F2∧D'.done≤D.done+501∧Tch [] w0 w'∧(∀ v l,IsL w v l→IsL w' v l)∧((D'.on=true∧∃ tb:Nat,e=.returned (.tuple #[.pointer (some ⟨tb,0,none⟩),.int .i64 0]))∨(D'.on=false∧e=.returned (.tuple #[.pointer none,.int .i64 12])))
theorem ocut_any {w0 w:World} {b bs:Nat} {D:Ds} {F1 F2:List En} (hd:IsDs w b bs D) (hon:D.on=true) (hs:DsSays D F1 F2) (hdn:D.done+502 < 9223372036854775807) (t:Tch [] w0 w) (hb:w0.heap.size≤b∧w0.heap.size≤bs) :
 Calls Tryz.prog 12 #[.pointer (some ⟨b,0,none⟩),.int .i64 500] w (OcPost w0 w b bs D F1 F2):=by
 obtain ⟨l,nowX,M,root,h,FX,SX,s1,s2,s3,s4,s5,s6,s7⟩:=hs
 have hm:∀ k ∈ [b,bs],w0.heap.size≤k:=by simp only [List.mem_cons,List.not_mem_nil,or_false]; omega
 have hjd:=jopen_done 500 D (by omega)
 have:=open_std b bs 500 h D nowX M root FX SX l w hd hdn hon s1 (by omega) (by omega) (by omega) (by omega) s3 s4 s5 (by rw [s2]; exact s6)
 refine this.mono ?_
 rintro e w' ⟨t1,⟨tb,T,rfl,k1,k2,k3,k4,k5,k6,k7,k8,k9,k10,k11,k12,k13⟩ | ⟨k1,rfl,k3,k4,k5⟩⟩
 · have hds:=k1.ds
   rw [k6,k7] at hds
   have hse:=k2.seen
   rw [k5] at hse
   refine ⟨T.D,hds,⟨[],nowX,M,root,h,FX,SX,hse,s2,s3,s4,s5,s6,s7⟩,by rw [k4]; exact hjd,t.upTo t1 hm,fun v l h9=>h9.disk hd t1 (by simp),Or.inl ⟨k2.on,tb,rfl⟩⟩
 · exact ⟨(jopen (500:Nat) D).2,k5,⟨l,nowX,M,root,h,FX,SX,k4,s2,s3,s4,s5,s6,s7⟩,hjd,t.upTo t1 hm,fun v l h9=>h9.disk hd t1 (by simp),Or.inr ⟨k3,rfl⟩⟩
def OlPost (w0 w:World) (F1 F2:List En) (e:Ending) (w':World):Prop :=
 ∃ (tb B h:Nat) (T:Tv) (now:List ByteArray) (F:List En) (S:List Int),e=.returned (.tuple #[.pointer (some ⟨tb,0,none⟩),.int .i64 0])∧Calm w' w0.heap.size tb B T now h F S∧(F=F1∨F=F2)∧Tch [] w0 w'∧(∀ v l,IsL w v l→IsL w' v l)
theorem olast_any {w0 w:World} {b bs:Nat} {D:Ds} {F1 F2:List En} (hd:IsDs w b bs D) (hon:D.on=true) (hl:D.left = -1) (hs:DsSays D F1 F2) (hdn:D.done+502 < 9223372036854775807) (t:Tch [] w0 w) (hb:w0.heap.size≤b∧w0.heap.size≤bs) :
 Calls Tryz.prog 12 #[.pointer (some ⟨b,0,none⟩),.int .i64 500] w (OlPost w0 w F1 F2):=by
 obtain ⟨l,nowX,M,root,h,FX,SX,s1,s2,s3,s4,s5,s6,s7⟩:=hs
 have hm:∀ k ∈ [b,bs],w0.heap.size≤k:=by simp only [List.mem_cons,List.not_mem_nil,or_false]; omega
 have hlt:=hd.lt
 have hts:=t.size
 have:=open_std b bs 500 h D nowX M root FX SX l w hd hdn hon s1 (by omega) (by omega) (by omega) (by omega) s3 s4 s5 (by rw [s2]; exact s6)
 refine this.mono ?_
 rintro e w' ⟨t1,⟨tb,T,rfl,k1,k2,k3,k4,k5,k6,k7,k8,k9,k10,k11,k12,k13⟩ | ⟨k1,_⟩⟩
 · obtain ⟨S0,hS,_⟩:=hd
   refine ⟨tb,w.heap.size,h,T,nowX,FX,SX,rfl,⟨k1,k2,k3,k8,(k13 hl).1,by rw [k6,k7]; exact ⟨hlt.1,hlt.2.1⟩,k9,by omega,by omega,by omega,by omega⟩,s7,t.upTo t1 hm,fun v l9 h9=>h9.keep t1 (fun k hk cs e=>?_)⟩
   simp only [List.mem_cons,List.not_mem_nil,or_false] at hk
   rcases hk with rfl | rfl
   · rw [hS.blk] at e; simp at e
   · rw [hS.arr] at e; simp at e
 · exact absurd hl k1
set_option maxRecDepth 100000 in
set_option maxHeartbeats 1000000 in
theorem holds_any {w:World} {A tb B h:Nat} {T:Tv} {now:List ByteArray} {F:List En} {S:List Int} (c:Calm w A tb B T now h F S) (v:Value) (l:List En) (hl:IsL w v l) (hft:∀ e ∈ l,fitL e) (hll:l.length≤100000) :
 Calls Tryz.prog 22 #[.pointer (some ⟨tb,0,none⟩),v] w (SamPost w False):=by
 have hsm:=c.small
 have hbl:=bys_le' hft
 have HL:=Lib.hid c.len
 have HS:Hid (∀ W,Tch [] w W→Calls Tryz.prog 20 #[.pointer (some ⟨tb,0,none⟩),.string ⟨#[]⟩,.int .i64 ((l.length:Int)+1)] W (ScnPost W (F.take (l.length+1)))):=fun W t=>by
  have:=(c.keep t).scan ⟨#[]⟩ (by decide) ((l.length:Int)+1)
  rw [from_all,show ((l.length:Int)+1).toNat=l.length+1 from by omega] at this
  exact this
 have HE:Hid (∀ W,Tch [] w W→Calls Tryz.prog 31 #[.pointer (some ⟨tb,0,none⟩)] W (IntPost (1+S.length) W)):=fun W t=>(c.keep t).sectors
 have HY:Hid (∀ W,Tch [] w W→Calls Tryz.prog 52 #[v] W (IntPost (bys l) W)):=fun W t=>rtbytes_any l v W (hl.keep0 t) (by omega) hft
 have HF:Hid (∀ r W,Tch [] w W→SamPost w False (.returned (.bool r)) W):=fun r W t=>⟨r,rfl,fun h=>h.elim,t⟩
 have HLL:=Lib.hid hl
 obtain ⟨a,c2,b,o,rfl,hr,_⟩:=hl
 have hGl:(F.take (l.length+1)).length≤900000000:=by rw [List.length_take]; omega
 have hFb:(F.length:Int)≤6553200:=by omega
 have hlb:(l.length:Int)≤100000:=by omega
 have hbb:(bys l:Int)≤252 * 100000:=by omega
 have hSb:(S.length:Int)≤16383:=by omega
 generalize SamPost w False=Q at *
 generalize F.take (l.length+1)=G at *
 have HSA:Hid (∀ W x cc bb,Tch [] w W→IsR fPr 2 W x G.length bb 0 G→Calls Tryz.prog 19 #[.slice x G.length cc,.slice a l.length c2] W (SamPost W False)):=fun W x cc bb t h=>tsame_any G l x cc bb 0 _ W h (HLL.out.keep0 t) hGl (by omega)
 clear c hr hsm hft hbl HLL hGl hll
 generalize bys l=by_ at *
 by_cases hee:F.length=l.length
 · have heb:(((F.length:Nat):Int) == ((l.length:Nat):Int))=true:=by rw [hee]; simp
   clear hee
   go_enter Tryz.func22,Tryz.ntmps22
   go_wp2_with fail
   refine HL.out.mono ?_
   rintro e w1 ⟨rfl,t1⟩
   have HC:=Lib.hid (HS.out w1 t1)
   have HT1:=Lib.hid t1
   clear HL HS t1
   go_wp2_with fail
   refine HC.out.mono ?_
   rintro e w2 ⟨v2,rfl,hrow,t2⟩
   obtain ⟨x2,cc2,rfl⟩:=own_slice hrow
   obtain ⟨b2,hr2,_,_⟩:=IsR.own (f:=fPr) (fun _=>rfl) hrow rfl
   have HT2:=Lib.hid (HT1.out.trans t2)
   have HC2:=Lib.hid (HSA.out w2 x2 cc2 b2 HT2.out hr2)
   clear HC HSA hrow hr2 t2 HT1
   go_wp2_with fail
   refine HC2.out.mono ?_
   rintro e w3 ⟨r3,rfl,_,t3⟩
   have HT3:=Lib.hid (HT2.out.trans t3)
   clear HC2 t3 HT2
   cases r3
   · have HX:=Lib.hid (HF.out false w3 HT3.out)
     clear HE HY HF
     go_wp2_with fail
     first | exact HX.out | (go_ret; exact HX.out)
   have HC3:=Lib.hid (HE.out w3 HT3.out)
   clear HE
   go_wp2_with fail
   refine HC3.out.mono ?_
   rintro e w4 ⟨rfl,t4⟩
   have HT4:=Lib.hid (HT3.out.trans t4)
   have HC4:=Lib.hid (HY.out w4 HT4.out)
   clear HC3 HY t4 HT3
   go_wp2_with fail
   refine HC4.out.mono ?_
   rintro e w5 ⟨rfl,t5⟩
   have HT5:=Lib.hid (HT4.out.trans t5)
   clear HC4 t5 HT4
   by_cases hle:1+(S.length:Int)≤3+(by_:Int) / 100
   · have hd:decide (1+(S.length:Int)≤3+(by_:Int) / 100)=true:=decide_eq_true hle
     have HX:=Lib.hid (HF.out true w5 HT5.out)
     clear HF
     go_wp2_with fail
     first | exact HX.out | (go_ret; exact HX.out)
   · have hd:decide (1+(S.length:Int)≤3+(by_:Int) / 100)=false:=decide_eq_false hle
     have hle2:3+(by_:Int) / 100 < 1+(S.length:Int):=by omega
     have HX:=Lib.hid (HF.out false w5 HT5.out)
     clear HF
     go_wp2_with fail
     first | exact HX.out | (go_ret; exact HX.out)
 · have heb:(((F.length:Nat):Int) == ((l.length:Nat):Int))=false:=by simp; omega
   clear hee
   go_enter Tryz.func22,Tryz.ntmps22
   go_wp2_with fail
   refine HL.out.mono ?_
   rintro e w1 ⟨rfl,t1⟩
   have HX:=Lib.hid (HF.out false w1 t1)
   clear HL HS HF HE HY HSA t1
   go_wp2_with fail
   first | exact HX.out | (go_ret; exact HX.out)
end Go.Proofs.YtlkgnljdpakkcaaGreatDoor
