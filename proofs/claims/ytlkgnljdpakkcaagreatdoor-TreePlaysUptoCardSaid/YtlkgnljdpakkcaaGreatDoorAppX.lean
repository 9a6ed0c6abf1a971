/-
  Parts of the proof: App.
-/
import Derived.Test.YtlkgnljdpakkcaaGreatDoorRfmX
import Derived.Deep.LoopGhost
import Derived.Laws.AppendOwnNone
set_option linter.unusedVariables false
set_option linter.unusedSimpArgs false
/-
 'applied' of the laws: an Apply is as the document has it.
-/
namespace Go.Proofs.YtlkgnljdpakkcaaGreatDoor
open Go.RowKit
def ApgOr (T:Tv) (now:List ByteArray) (F:List En) (S:List Int) (cs:List Ch) (k:Int) (F':List En):Prop :=
 chk cs []≠0∧k=chk cs []∧F'=F∨chk cs []=0∧k=52∧F'=F∧now.length≤S.length+9 * cs.length∨chk cs []=0∧k=31∧F'=F∧T.room < 24 * cs.length+1∨chk cs []=0∧k=0∧F'=altsL F cs
def ApgPost (w:World) (A tb B:Nat) (T:Tv) (now:List ByteArray) (F:List En) (S:List Int) (cs:List Ch) (e:Ending) (w':World):Prop :=
 ∃ (k:Int) (T':Tv) (now':List ByteArray) (h':Nat) (F':List En) (S':List Int),e=.returned (.int .i64 k)∧Calm w' A tb B T' now' h' F' S'∧Tch [tb,T.mb,T.b,T.bs] w w'∧(T'.b=T.b∧T'.bs=T.bs∧T'.room=T.room∧T'.mb=T.mb∧now'.length=now.length∧T'.D.done≤T.D.done+1002)∧ApgOr T now F S cs k F'
theorem Calm.applyG {w:World} {A tb B h:Nat} {T:Tv} {now:List ByteArray} {F:List En} {S:List Int} (c:Calm w A tb B T now h F S) (hB:B≤w.heap.size) (cs:List Ch) (a:Option Addr) (n cap b o:Nat) (hlen:cs.length≤1048576) (hr:IsR fChg 3 w a n b o cs) (hz:a=none→n=0∧cap=0) (hdone:T.D.done+1002 < 9223372036854775807) :
 Calls Tryz.prog 24 #[.pointer (some ⟨tb,0,none⟩),.slice a n cap] w (ApgPost w A tb B T now F S cs):=by
 refine (apply_std tb B h T now F S cs a n cap b o w c.tr c.lost c.hand ⟨c.lo.1,c.lo.2,hB⟩ c.hig hlen hr hz hr.lt hdone).mono ?_
 rintro e w' (⟨h1,rfl,h3,h4⟩ | ⟨h0,rfl,h2,h3,h4⟩ | ⟨h0,rfl,h2,_,h3,h4⟩ | ⟨h0,T',now',h2,S3,e1,e2,e3,e4,e5,e6,h3,h4,h5,h6,⟨rfl,h8,h9,h10,h11⟩ | ⟨_,h8,_⟩⟩)
 · exact ⟨_,T,now,h,F,S,rfl,c.keep h4,h4.mono (by simp),⟨rfl,rfl,rfl,rfl,rfl,by omega⟩,Or.inl ⟨h1,rfl,rfl⟩⟩
 · exact ⟨_,T,now,h,F,S,rfl,c.keep h4,h4.mono (by simp),⟨rfl,rfl,rfl,rfl,rfl,by omega⟩,Or.inr (Or.inl ⟨h0,rfl,rfl,h2⟩)⟩
 · exact ⟨_,T,now,h,F,S,rfl,⟨h3,c.hand,c.ful,c.lost,c.left,c.lo,c.hig,c.new⟩,h4,⟨rfl,rfl,rfl,rfl,rfl,by omega⟩,Or.inr (Or.inr (Or.inl ⟨h0,rfl,rfl,h2⟩))⟩
 · rw [altsL_ords c.srt h0] at h9
   exact ⟨_,T',now',h2,_,S3,rfl,⟨h3,h9,h6 c.ful,h8,h11 c.left,by rw [e2,e3]; exact c.lo,h10,by rw [e2,e3,e5]; exact c.new⟩,h4,⟨e2,e3,e4,e5,e6,h5⟩,Or.inr (Or.inr (Or.inr ⟨h0,rfl,rfl⟩))⟩
 · exact absurd c.left h8
theorem neq_chg (k x:ByteArray) (g:Bool) (w:World):(binOp .neq 62 (.agg #[.string k,.string x,.bool g]) (.agg #[.string k,.string x,.bool g])).run Tryz.prog w=.ok (.bool false) w:=by
 rw [run_neq_struct,run_equalIn_struct _ _ _ _ _ (by kernel_rfl) (by kernel_rfl)]
 unfold Program.fieldsOf
 rw [Tryz.underlying62]
 have p0:∀ w,(part 9 #[.string k,.string x,.bool g] 0).run Tryz.prog w=.ok (.string k) w:=fun w=>by kernel_rfl
 have p1:∀ w,(part 9 #[.string k,.string x,.bool g] 1).run Tryz.prog w=.ok (.string x) w:=fun w=>by kernel_rfl
 have p2:∀ w,(part 4 #[.string k,.string x,.bool g] 2).run Tryz.prog w=.ok (.bool g) w:=fun w=>by kernel_rfl
 have q0:∀ s w,(Op.equalIn 9999 9 (.string s) (.string s)).run Tryz.prog w=.ok true w:=fun s w=>by rw [run_equalIn_string w 9998 _ _ _ Tryz.underlying9]; simp
 have q1:∀ w,(Op.equalIn 9999 4 (.bool g) (.bool g)).run Tryz.prog w=.ok true w:=fun w=>by rw [run_equalIn_bool w 9998 _ _ _ Tryz.underlying4]; simp
 simp [Op.eqFields,p0,p1,p2,q0,q1,Result.andThen]
theorem Tryz.info_tchg:(Tryz.prog.info? 62).map (fun i=>(i.zero,i.size,i.bytes))=some (some (.agg #[.string ⟨#[]⟩,.string ⟨#[]⟩,.bool false]),3,40):=by kernel_rfl
theorem wpList_append_chgs {w:World} {ops:Array Oper} {rest:List Oper} {o:Oper} {ac:Act} {Q:Exit→Act→World→Prop} (hgd:o.guard=none) (s x:Operand)
 (ho:o.op=.call { callee:=.builtin .append,args:=#[s,x],argTypes:=#[35,35] }) (hs:ac.eval s=.slice none 0 0)
 (cs:List Ch) (a:Option Addr) (n cap b oo:Nat) (hx:ac.eval x=.slice a n cap) (hr:IsR fChg 3 w a n b oo cs) (hz:a=none→n=0∧cap=0) (hl:n≤1048576)
 (h:∀ x1 c1 b1 w1,IsR fChg 3 w1 x1 n b1 0 cs→(x1=none→n=0∧c1=0)→(0 < n→w.heap.size≤b1)→Tch [] w w1→wpList Tryz.prog ops Q rest (ac.put o.dst (.slice x1 n c1)) w1):wpList Tryz.prog ops Q (o :: rest) ac w:=by
 obtain ⟨i0,hi,hz0,hz1,hz2⟩:=info_parts Tryz.info_tchg
 cases a with
 | none =>
  obtain ⟨rfl,rfl⟩:=hz rfl
  have hc0:cs=[]:=List.length_eq_zero_iff.1 hr.hlen.symm
  refine wpList_append_own_none hgd s x _ ho w.heap.size 62 i0 3 Tryz.underlying35 hi (.slice none 0 0) 0 [] hs (World.ownsRow_nil _ _ _ _) hx ?_
  exact h none 0 0 w (by rw [hc0]; exact IsR.nil _ _ _ _) (fun _=>⟨rfl,rfl⟩) (fun h=>by omega) (Tch.refl _ _)
 | some y =>
  have hlen:=fm_len (f:=fChg) (sz:=3) (fun _=>rfl) cs
  rw [← hr.hlen] at hlen
  refine wpList_append_own w hgd s x _ ho w.heap.size 62 i0 _ 3 40 Tryz.underlying35 hi hz0 hz1 hz2 rfl (by decide) (.slice none 0 0) 0 [] hs (World.ownsRow_nil _ _ _ _) y n cap (cs.flatMap fChg) hx hlen (hr.cells (fun _=>rfl)) (fm_one fChg_one cs) (by unfold maxLen; omega) (by omega) (Nat.le_refl _) ?_
  intro v' w' ho' hg hiff
  rw [Nat.zero_add,List.nil_append] at ho'
  obtain ⟨x1,c1,rfl⟩:=own_slice ho'
  obtain ⟨b1,hR,_,hb1⟩:=IsR.own (f:=fChg) (xs:=cs) (fun _=>rfl) ho' hr.hlen
  refine h x1 c1 b1 w' hR (fun e=>?_) hb1 ((Tch.refl [] w).own (World.ownsRow_nil w w.heap.size 62 3) (Nat.le_refl _) hg)
  rcases ho'.2 with ⟨hv,h0⟩ | ⟨g,cap',cur,hv,_⟩
  · simp at hv; exact ⟨h0,hv.2.2⟩
  · simp at hv; rw [e] at hv; simp at hv
def AppRel (w3:World) (l n:Nat) (v26:Value) (wr:World):Prop:=∃ k:Nat,n+k=l∧v26=.int .i64 (k:Nat)∧Tch [] w3 wr
def AppPost (w:World) (A tb B:Nat) (T:Tv) (now:List ByteArray) (e:Ending) (w':World):Prop :=
 ∃ (v2:Value) (T':Tv) (now':List ByteArray) (h':Nat) (F':List En) (S':List Int),e=.returned (.tuple #[v2,.bool true])∧IsL w' v2 F'∧Calm w' A tb B T' now' h' F' S'∧Tch [tb,T.mb,T.b,T.bs] w w'∧(T'.b=T.b∧T'.bs=T.bs∧T'.room=T.room∧T'.mb=T.mb∧now'.length=now.length∧T'.D.done≤T.D.done+1002)
set_option maxRecDepth 100000 in
set_option maxHeartbeats 1000000 in
theorem applied_any {w:World} {A tb B h:Nat} {T:Tv} {now:List ByteArray} {F:List En} {S:List Int} (c:Calm w A tb B T now h F S) (hB:B≤w.heap.size) (v:Value) (hl:IsL w v F) (cs:List Ch) (a:Option Addr) (n cap b o:Nat) (hlen:cs.length≤1048576) (hr:IsR fChg 3 w a n b o cs) (hz:a=none→n=0∧cap=0) (hdone:T.D.done+1002 < 9223372036854775807) (hbA:0 < n→b < A) :
 Calls Tryz.prog 16 #[.pointer (some ⟨tb,0,none⟩),.int .i64 (now.length:Nat),.int .i64 (T.room:Nat),v,.slice a n cap] w (AppPost w A tb B T now):=by
 obtain rfl:=hr.hlen
 obtain ⟨xa,xc,xb,xo,rfl,hR8,hk8⟩:=hl
 have hl:IsL w (.slice xa F.length xc) F:=⟨xa,xc,xb,xo,rfl,hR8,hk8⟩
 clear hR8 hk8
 have l1:=lt_of_block c.tr.blk
 have l2:=c.tr.ns.mp.lt
 obtain ⟨l3,l4,_⟩:=c.tr.ds.lt
 have hnw:=c.new
 have hsm:=c.small
 have hnl:now.length≤16384:=c.hand.l2
 have hrm:T.room≤500:=c.hand.r2
 have HF:Hid (∀ v2 W T' now' h' F' S',IsL W v2 F'→Calm W A tb B T' now' h' F' S'→Tch [tb,T.mb,T.b,T.bs] w W→(T'.b=T.b∧T'.bs=T.bs∧T'.room=T.room∧T'.mb=T.mb∧now'.length=now.length∧T'.D.done≤T.D.done+1002)→AppPost w A tb B T now (.returned (.tuple #[v2,.bool true])) W):=fun v2 W T' now' h' F' S' h1 h2 h3 h4=>⟨v2,T',now',h',F',S',rfl,h1,h2,h3,h4⟩
 generalize AppPost w A tb B T now=Q at *
 have HSE:Hid (∀ W,Tch [] w W→Calls Tryz.prog 31 #[.pointer (some ⟨tb,0,none⟩)] W (IntPost (1+S.length) W)):=fun W t=>(c.keep t).sectors
 have HAP:Hid (∀ W x cc b1,Tch [] w W→IsR fChg 3 W x cs.length b1 0 cs→(x=none→cs.length=0∧cc=0)→Calls Tryz.prog 24 #[.pointer (some ⟨tb,0,none⟩),.slice x cs.length cc] W (ApgPost W A tb B T now F S cs)):=fun W x cc b1 t h1 h2=>(c.keep t).applyG (Nat.le_trans hB t.size) cs x cs.length cc b1 0 hlen h1 h2 hdone
 have HVL:Hid (∀ W W3,Tch [] w W→Tch [tb,T.mb,T.b,T.bs] W W3→IsL W3 (.slice xa F.length xc) F):=fun W W3 t t3=>(hl.keep0 t).apply (c.keep t).tr t3
 have HCH:Hid (∀ W W3,Tch [] w W→Tch [tb,T.mb,T.b,T.bs] W W3→IsR fChg 3 W3 a cs.length b o cs):=fun W W3 t t3=>(hr.keep0 t).keep t3 (fun hp=>by have:=hbA hp; simp only [List.mem_cons,List.not_mem_nil,or_false]; omega)
 have HSR:=Lib.hid c.srt
 have HRR:=Lib.hid hr
 have HZZ:=Lib.hid hz
 have hcs:(cs.length:Int)≤1048576:=by omega
 have hSi:(S.length:Int)≤16383:=by omega
 have hni:(now.length:Int)≤16384:=by omega
 have hri:(T.room:Int)≤500:=by omega
 have hsF:=hsm.2
 obtain ⟨fl,hfl⟩:∃ fl,fl=F.length:=⟨_,rfl⟩
 rw [← hfl] at hl HVL ⊢
 have HFL:=Lib.hid hfl
 have hsF2:fl≤6553200:=by omega
 clear c hB hbA hsm hr hz hl hfl
 go_enter Tryz.func16,Tryz.ntmps16
 go_wp2_with (at_builtin; refine wpList_append_chgs rfl _ _ rfl rfl cs a cs.length cap b o rfl HRR.out HZZ.out hlen ?_; intro x1 c1 b1 w1 hR1 hz1 hb1 t1)
 have HC1:=Lib.hid (HSE.out w1 t1)
 have HR1:=Lib.hid hR1
 have HZ1:=Lib.hid hz1
 have HT1:=Lib.hid t1
 have HB1:=Lib.hid hb1
 clear HSE HRR HZZ hR1 hz1 t1 hb1
 refine HC1.out.mono ?_
 rintro e w2 ⟨rfl,t2⟩
 have HT2:=Lib.hid (HT1.out.trans t2)
 have HC2:=Lib.hid (HAP.out w2 x1 c1 b1 HT2.out (HR1.out.keep0 t2) HZ1.out)
 have HT12:=Lib.hid t2
 clear HC1 HAP t2
 go_wp2_with fail
 refine HC2.out.mono ?_
 rintro e w3 ⟨k,T',now',h',F',S',rfl,c3,t3,eqs,hor⟩
 have HC3:=Lib.hid c3
 have HEQ:=Lib.hid eqs
 have HOR:=Lib.hid hor
 have HG3:Hid (IsR fChg 3 w3 x1 cs.length b1 0 cs):=(HR1.out.keep0 HT12.out).keep t3 (fun hp=>by have:=HB1.out hp; have:=HT1.out.size; simp only [List.mem_cons,List.not_mem_nil,or_false]; omega)
 have HH3:=Lib.hid (HCH.out w2 w3 HT2.out t3)
 have HV3:=Lib.hid (HVL.out w2 w3 HT2.out t3)
 have HW3:Hid (Tch [tb,T.mb,T.b,T.bs] w w3):=(HT2.out.mono (by simp)).trans t3
 have HST:Hid (AppRel w3 cs.length cs.length (.int .i64 0) w3):=⟨0,by simp,rfl,Tch.refl _ _⟩
 have HCE:Hid (∀ W,Tch [] w3 W→∀ k (hk:k < cs.length),(W.cell? ⟨b1,0+k * 3,none⟩=some (.string cs[k].key)∧W.cell? ⟨b1,0+k * 3+1,none⟩=some (.string cs[k].val)∧W.cell? ⟨b1,0+k * 3+2,none⟩=some (.bool cs[k].gone)∧x1=some ⟨b1,0,none⟩)∧W.cell? ⟨b,o+k * 3,none⟩=some (.string cs[k].key)∧W.cell? ⟨b,o+k * 3+1,none⟩=some (.string cs[k].val)∧W.cell? ⟨b,o+k * 3+2,none⟩=some (.bool cs[k].gone)∧a=some ⟨b,o,none⟩):=fun W t k hk=>by
  have r:=HG3.out.keep0 t
  have r2:=HH3.out.keep0 t
  have hg:cs[k]?=some cs[k]:=List.getElem?_eq_getElem hk
  exact ⟨⟨r.c0 hg rfl,r.c hg 1 rfl,r.c hg 2 rfl,r.some_ (by omega)⟩,r2.c0 hg rfl,r2.c hg 1 rfl,r2.c hg 2 rfl,r2.some_ (by omega)⟩
 clear HC2 HR1 HZ1 HT1 HT2 HT12 HB1 c3 t3 eqs hor HCH HVL HG3
 go_wp2_with fail
 go_loopg [26] cs.length (fun n v26 wr=>AppRel w3 cs.length n v26 wr)
 case atStart=>exact HST.out
 case round =>
  obtain ⟨j,hnj,rfl,t⟩:=hrel
  match gk,hnj with
  | 0,hnj =>
   have hlt:decide (j < cs.length)=false:=decide_eq_false (by omega)
   have HT:=Lib.hid t
   have HRF:=Lib.hid (tref_any a cs.length cap b o cs wr (HH3.out.keep0 t) (by omega))
   clear t HCE
   go_wp2_with fail
   refine HRF.out.mono ?_
   rintro e w5 ⟨x5,c5,b5,rfl,hR5,t5⟩
   have HT5:=Lib.hid (HT.out.trans t5)
   have HCK:=Lib.hid (rtcheck_any cs (x5) cs.length c5 b5 0 w5 hR5 (by omega))
   clear HRF hR5 t5 HT
   go_wp2_with fail
   refine HCK.out.mono ?_
   rintro e w6 ⟨rfl,t6⟩
   have HT6:=Lib.hid (HT5.out.trans t6)
   clear HCK t6 HT5
   have HV6:=Lib.hid (HV3.out.keep0 HT6.out)
   have HC6:=Lib.hid (HC3.out.keep HT6.out)
   have HW6:Hid (Tch [tb,T.mb,T.b,T.bs] w w6):=HW3.out.trans (HT6.out.mono (by simp))
   have HH6:=Lib.hid (HH3.out.keep0 HT6.out)
   clear HH3 HV3 HC3 HW3
   rcases HOR.out with ⟨q0,q1,q2⟩ | ⟨q0,q1,q2,q3⟩ | ⟨q0,q1,q2,q3⟩ | ⟨q0,q1,q2⟩
   · subst q2 q1
     have HE:=Lib.hid (HF.out _ w6 T' now' h' F' S' HV6.out HC6.out HW6.out HEQ.out)
     have hcc:(chk cs [] != 0)=true:=by simpa using q0
     have hcc2:(chk cs [] == chk cs [])=true:=by simp
     clear HF HC6 HV6 HW6 HH6 HOR
     generalize chk cs []=kk at *
     go_wp2_with fail
     first | exact HE.out | (go_ret2; exact HE.out) | skip
   · subst q2 q1
     have HE:=Lib.hid (HF.out _ w6 T' now' h' F' S' HV6.out HC6.out HW6.out HEQ.out)
     have hgt:decide ((now.length:Int) < 1+(S.length:Int)+9 * (cs.length:Int))=true:=decide_eq_true (by omega)
     have hgt2:(now.length:Int) < 1+(S.length:Int)+9 * (cs.length:Int):=by omega
     clear HF HC6 HV6 HW6 HH6 HOR
     rw [q0]
     clear q0
     go_wp2_with fail
     first | exact HE.out | (go_ret2; exact HE.out) | skip
   · subst q2 q1
     have HE:=Lib.hid (HF.out _ w6 T' now' h' F' S' HV6.out HC6.out HW6.out HEQ.out)
     have hgt:decide ((T.room:Int) < 24 * (cs.length:Int)+1)=true:=decide_eq_true (by omega)
     have hgt2:(T.room:Int) < 24 * (cs.length:Int)+1:=by omega
     clear HF HC6 HV6 HW6 HH6 HOR
     rw [q0]
     clear q0
     go_wp2_with fail
     first | exact HE.out | (go_ret2; exact HE.out) | skip
   · subst q1
     have HRF:=Lib.hid (tref_any a cs.length cap b o cs w6 HH6.out (by omega))
     clear HOR
     rw [q0]
     clear q0
     go_wp2_with fail
     refine HRF.out.mono ?_
     rintro e w7 ⟨x7,c7,b7,rfl,hR7,t7⟩
     have HAPP:=Lib.hid (rtapply_any F cs _ x7 cs.length c7 b7 0 w7 (HV6.out.keep0 t7) HSR.out hR7 (by omega))
     have HT7:=Lib.hid t7
     clear HRF hR7 t7
     go_wp2_with fail
     refine HAPP.out.mono ?_
     rintro e w8 ⟨v8,rfl,h8,t8⟩
     have HE:=Lib.hid (HF.out v8 w8 T' now' h' (altsL F cs) S' h8 (by rw [← q2]; exact HC6.out.keep (HT7.out.trans t8)) (HW6.out.trans ((HT7.out.trans t8).mono (by simp))) HEQ.out)
     clear HF HC6 HV6 HW6 HH6 HAPP h8 t8 q2
     go_wp2_with fail
     first | exact HE.out | (go_ret2; exact HE.out) | skip
  | g+1,hnj =>
   have hj:j < cs.length:=by omega
   have hlt:decide (j < cs.length)=true:=decide_eq_true hj
   have hj0:(0:Int)≤(j:Int):=by omega
   have hj1:(j:Int) < (cs.length:Int):=by omega
   obtain ⟨⟨s0,s1,s2,hx⟩,z0,z1,z2,hx2⟩:=HCE.out wr t j hj
   subst hx hx2
   have hq:=fun W=>neq_chg cs[j].key cs[j].val cs[j].gone W
   generalize cs[j].key=ky at s0 z0 hq
   generalize cs[j].val=vl at s1 z1 hq
   generalize cs[j].gone=gn at s2 z2 hq
   rw [Nat.zero_add] at s0 s1 s2
   have HG:Hid (∀ q,AppRel w3 cs.length g (.int .i64 ((j:Int)+1)) (wr.drewN q)):=fun q=>⟨j+1,by omega,by simp,tdrewN t q⟩
   clear t
   go_wp2_with fail
   go_quiet (fail)
   go_wp2_with fail
   go_roundg g
   case measure=>omega
   case rel=>exact HG.out _
end Go.Proofs.YtlkgnljdpakkcaaGreatDoor
