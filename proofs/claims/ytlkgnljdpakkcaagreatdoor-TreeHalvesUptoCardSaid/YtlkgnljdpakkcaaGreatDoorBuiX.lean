/-
  Parts of the proof: Bui.
-/
import Derived.Test.YtlkgnljdpakkcaaGreatDoorRapX
import Derived.Test.YtlkgnljdpakkcaaGreatDoorM02
set_option linter.unusedVariables false
set_option linter.unusedSimpArgs false
/-
 'built' of the laws: a tree of some pairs,each applied alone; what the document's list says that it holds.
-/
namespace Go.Proofs.YtlkgnljdpakkcaaGreatDoor
open Go.RowKit
theorem slice_toN {P:Program} (t e:TypeId) (s:Nat) (ht:P.underlying t=some (.slice e)) (hz:∀ w,(Go.sizeOf e).run P w=.ok s w) (b o n c i:Nat) (h:i≤c) (W:World) :
 (Instr.slice t (.slice (some ⟨b,o,none⟩) n c) none (some (.int .i64 (i:Int))) none).run P W=.ok (.slice (some ⟨b,o,none⟩) i c) W:=by
 have h1:(0:Int)≤(i:Int):=by omega
 simp [Instr.slice,Instr.sliceBounds,Instr.sliceBound,asIntOf,run_underlying ht,hz,h1,go_sem]
 exact fun h9=>absurd h9 (by omega)
theorem slice_none {P:Program} (t e:TypeId) (s:Nat) (ht:P.underlying t=some (.slice e)) (hz:∀ w,(Go.sizeOf e).run P w=.ok s w) (W:World) :
 (Instr.slice t (.slice none 0 0) none (some (.int .i64 ((0:Nat):Int))) none).run P W=.ok (.slice none 0 0) W:=by
 simp [Instr.slice,Instr.sliceBounds,Instr.sliceBound,asIntOf,run_underlying ht,hz,go_sem]
theorem size_pair (w:World):(Go.sizeOf 67).run Tryz.prog w=.ok 2 w:=by kernel_rfl
theorem bys_le:∀ {F:List En},(∀ e ∈ F,fitL e)→bys F≤252 * F.length
 | [],_=>by simp [bys]
 | e :: F,h=>by
  have i1:=bys_le (F:=F) (fun x hx=>h x (by simp [hx]))
  obtain ⟨_,g2,g3,_⟩:=h e (by simp)
  have e1:bys (e :: F)=(e.key.size+e.val.size+4)+bys F:=by simp [bys]
  rw [e1,List.length_cons]; omega
def chP (p:En):Ch:=⟨p.key,p.val,false⟩
def bst (F:List En) (p:En):List En:=if chk [chP p] []=0 then altL F (chP p) else F
def bF (ps:List En):List En:=ps.foldl bst []
theorem bF_snoc (ps:List En) (p:En):bF (ps++[p])=bst (bF ps) p:=by unfold bF; rw [List.foldl_append]; rfl
theorem bst_srt {F:List En} (h:Srt F) (p:En):Srt (bst F p):=by
 unfold bst; split
 · exact altL_srt h
 · exact h
theorem bfold_srt:∀ (ps F:List En),Srt F→Srt (ps.foldl bst F)
 | [],F,h=>h
 | p :: ps,F,h=>bfold_srt ps (bst F p) (bst_srt h p)
theorem bF_srt (ps:List En):Srt (bF ps):=bfold_srt ps [] List.Pairwise.nil
theorem bfold_len:∀ (ps F:List En),Srt F→(ps.foldl bst F).length≤F.length+ps.length
 | [],F,h=>by simp
 | p :: ps,F,h=>by
  have i1:=bfold_len ps (bst F p) (bst_srt h p)
  have i2:(bst F p).length≤F.length+1:=by
   unfold bst; split
   · exact altL_len F _ h
   · omega
  show (ps.foldl bst (bst F p)).length≤_
  rw [List.length_cons]; omega
theorem bF_len (ps:List En):(bF ps).length≤ps.length:=by have:=bfold_len ps [] List.Pairwise.nil; simpa [bF] using this
theorem isr_oneC {W:World} {b:Nat} {T:TypeId} {z:Nat × Nat} (c:Ch) (h:W.heap[b]?=some (.cells #[.string c.key,.string c.val,.bool c.gone] T z)):IsR fChg 3 W (some ⟨b,0,none⟩) 1 b 0 [c]:=by
 refine ⟨rfl,Or.inr ⟨rfl,lt_of_block h⟩,fun k x hk j v hv=>?_⟩
 match k,hk with
 | 0,hk =>
  simp at hk; subst hk
  rw [show 0+0 * 3+j=j from by omega,blk_cell h,List.getElem?_toArray]
  exact hv
 | k+1,hk=>simp at hk
def BuiPost (w:World) (ps:List En) (e:Ending) (w':World):Prop :=
 ∃ (b tb B h:Nat) (T:Tv) (now:List ByteArray) (S:List Int) (v:Value),e=.returned (.tuple #[.pointer (some ⟨b,0,none⟩),.pointer (some ⟨tb,0,none⟩),v])∧IsL w' v (bF (ps.take 300))∧Calm w' w.heap.size tb B T now h (bF (ps.take 300)) S∧B≤w'.heap.size∧T.D.done≤300600∧now.length=2499∧T.room=500∧Tch [] w w'
def BuiRel (w:World) (ps:List En) (m tb B n:Nat) (v8 v26:Value) (wr:World):Prop :=
 ∃ (k h:Nat) (T:Tv) (now:List ByteArray) (S:List Int),n+k=m∧v26=.int .i64 (k:Nat)∧IsL wr v8 (bF (ps.take k))∧Calm wr w.heap.size tb B T now h (bF (ps.take k)) S∧B≤wr.heap.size∧T.D.done≤1002 * k∧now.length=2499∧T.room=500∧Tch [] w wr
set_option maxRecDepth 100000 in
set_option maxHeartbeats 4000000 in
theorem built_any (a:Option Addr) (n cap b o:Nat) (ps:List En) (w:World) (hr:IsR fPr 2 w a n b o ps) (hc:n≤cap) (hz:a=none→n=0∧cap=0) (hm:cap≤maxLen) :
 Calls Tryz.prog 33 #[.slice a n cap] w (BuiPost w ps):=by
 obtain rfl:=hr.hlen
 obtain ⟨m,hmm⟩:∃ m:Nat,m=min ps.length 300:=⟨_,rfl⟩
 have hmi:min (ps.length:Int) 300=(m:Int):=by omega
 have hm1:m≤ps.length:=by omega
 have hm2:m≤300:=by omega
 have hsl:∀ W,(Instr.slice 44 (.slice a ps.length cap) none (some (.int .i64 (m:Int))) none).run Tryz.prog W=.ok (.slice a m cap) W:=fun W=>by
  cases ha:a with
  | none =>
   obtain ⟨h1,h2⟩:=hz ha
   obtain rfl:m=0:=by omega
   rw [h1,h2]
   exact slice_none 44 67 2 Tryz.underlying44 size_pair W
  | some y =>
   by_cases h0:ps.length=0
   · obtain ⟨yb,yo,ys⟩:=y
     have h1:(0:Int)≤(m:Int):=by omega
     simp [Instr.slice,Instr.sliceBounds,Instr.sliceBound,asIntOf,run_underlying Tryz.underlying44,h1,go_sem]
     exact fun h9=>absurd h9 (by omega)
   · have:=hr.some_ (by omega)
     rw [ha] at this
     cases this
     exact slice_toN 44 67 2 Tryz.underlying44 size_pair b o ps.length cap m (by omega) W
 have HCE:Hid (∀ W,Tch [] w W→∀ k (hk:k < ps.length),W.cell? ⟨b,o+k * 2,none⟩=some (.string ps[k].key)∧W.cell? ⟨b,o+k * 2+1,none⟩=some (.string ps[k].val)∧a=some ⟨b,o,none⟩):=fun W t k hk=>by
  have r:=hr.keep0 t
  have hg:ps[k]?=some ps[k]:=List.getElem?_eq_getElem hk
  exact ⟨r.c0 hg rfl,r.c hg 1 rfl,r.some_ (by omega)⟩
 have HF:Hid (∀ W b tb B h T now S v,IsL W v (bF (ps.take m))→Calm W w.heap.size tb B T now h (bF (ps.take m)) S→B≤W.heap.size→T.D.done≤1002 * m→now.length=2499→T.room=500→Tch [] w W→BuiPost w ps (.returned (.tuple #[.pointer (some ⟨b,0,none⟩),.pointer (some ⟨tb,0,none⟩),v])) W):=fun W b tb B h T now S v h1 h2 h3 h4 h5 h6 t=>by
  have e:ps.take m=ps.take 300:=by
   rcases Nat.lt_or_ge ps.length 300 with h9 | h9
   · rw [List.take_of_length_le (by omega),List.take_of_length_le (by omega)]
   · rw [show m=300 from by omega]
  rw [e] at h1 h2
  exact ⟨b,tb,B,h,T,now,S,v,rfl,h1,h2,h3,by omega,h5,h6,t⟩
 have HN:=Lib.hid (dnew 3000 w (by omega) (by omega))
 rw [show many 3000=3000 from rfl] at HN
 have HO:Hid (∀ W,IsDs W (w.heap.size+1) w.heap.size (freshD 3000)→Tch [] w W→Calls Tryz.prog 12 #[.pointer (some ⟨w.heap.size+1,0,none⟩),.int .i64 500] W (NewPost w W (w.heap.size+1) w.heap.size 500 2499)):=fun W h1 t=>open_new w W (w.heap.size+1) w.heap.size 3000 500 h1 t (by omega) (by omega) (by omega) (by omega) (by omega)
 have hcap:(ps.length:Int)≤9223372036854775807:=by unfold maxLen at hm; omega
 have HMM:=Lib.hid hmm
 clear hr hc hz hm hmm
 generalize BuiPost w ps=Q at *
 go_enter Tryz.func33,Tryz.ntmps33
 go_wp2_with fail
 refine HN.out.mono ?_
 rintro e w1 ⟨rfl,hd1,t1⟩
 have HC:=Lib.hid (HO.out w1 hd1 t1)
 clear HN HO hd1
 go_wp2_with fail
 refine HC.out.mono ?_
 rintro e w2 ⟨tb,T0,rfl,hcm,hdn,hrm,hb,hbs,hsz,t2⟩
 have HST:Hid (BuiRel w ps m tb w1.heap.size m (.slice none 0 0) (.int .i64 0) w2):=⟨0,0,T0,_,[],by omega,rfl,IsL.nil _,by simpa [bF] using hcm,hsz,by omega,by simp,hrm,t2⟩
 clear HC hcm hdn hrm hb hbs hsz t1
 generalize w1.heap.size=B at HST
 go_wp2_with fail
 go_loopg [8,26] m (fun n v8 v26 wr=>BuiRel w ps m tb B n v8 v26 wr)
 case atStart=>exact HST.out
 case round =>
  obtain ⟨k,h,T,now,S,hni,rfl,hL,hcm,hBw,hdn,hnl,hrm,t⟩:=hrel
  clear HST
  match gk,hni with
  | 0,hni =>
   have hlt:decide (k < m)=false:=decide_eq_false (by omega)
   obtain rfl:k=m:=by omega
   have HE:=Lib.hid (fun b=>HF.out wr b tb B h T now S _ hL hcm hBw hdn hnl hrm t)
   clear hL hcm hBw hdn hnl hrm hni
   go_wp2_with fail
   first | exact HE.out _ | (go_ret3; exact HE.out _)
  | g+1,hni =>
   obtain ⟨xa,xc,xb,xo,rfl,hR8,hk8⟩:=hL
   have hL:IsL wr (.slice xa (bF (ps.take k)).length xc) (bF (ps.take k)):=⟨xa,xc,xb,xo,rfl,hR8,hk8⟩
   obtain ⟨v8,hv8⟩:∃ v8,v8=Value.slice xa (bF (ps.take k)).length xc:=⟨_,rfl⟩
   rw [← hv8] at hL ⊢
   clear hR8 hk8 hv8
   have hk:k < m:=by omega
   have hlt:decide (k < m)=true:=decide_eq_true hk
   have hk0:(0:Int)≤(k:Int):=by omega
   have hk1:(k:Int) < (m:Int):=by omega
   have hkp:k < ps.length:=by omega
   obtain ⟨s0,s1,ha⟩:=HCE.out wr t k hkp
   obtain ⟨p,hp⟩:∃ p,p=ps[k]:=⟨_,rfl⟩
   rw [← hp] at s0 s1
   have HB:Hid (bF (ps.take (k+1))=bst (bF (ps.take k)) p):=by
    show _=_
    rw [List.take_succ_eq_append_getElem hkp,bF_snoc,← hp]
   have hbl:=bF_len (ps.take k)
   rw [List.length_take] at hbl
   have hby:=bys_le hcm.hand.std.tr.fitL
   have hfew:=hcm.few
   have hsr:=bF_srt (ps.take k)
   have l1:=lt_of_block hcm.tr.blk
   have l2:=hcm.tr.ns.mp.lt
   obtain ⟨l3,l4,_⟩:=hcm.tr.ds.lt
   obtain ⟨W1,hW1⟩:∃ W1,W1=wr.alloc (.cells #[.string p.key,.string p.val] 67):=⟨_,rfl⟩
   obtain ⟨W2,hW2⟩:∃ W2,W2=W1.alloc (.cells #[.string p.key,.string p.val,.bool false] 62):=⟨_,rfl⟩
   have hz1:W1.heap.size=wr.heap.size+1:=by rw [hW1]; simp
   have u1:Tch [] wr W1:=by rw [hW1]; exact (Tch.refl _ _).alloc _
   have u2:Tch [] wr W2:=by rw [hW2]; exact u1.alloc _
   have hbox:W2.heap[wr.heap.size]?=some (.cells #[.string p.key,.string p.val] 67 (0,0)):=by rw [hW2]; exact blk_alloc (by rw [hW1]; exact blk_new _ _) _
   have hone:W2.heap[wr.heap.size+1]?=some (.cells #[.string p.key,.string p.val,.bool false] 62 (0,0)):=by rw [hW2,← hz1]; exact blk_new _ _
   have HC:=Lib.hid ((hcm.keep u2).apply (Nat.le_trans hBw u2.size) [chP p] (some ⟨wr.heap.size+1,0,none⟩) 1 1 (wr.heap.size+1) 0 (by simp) (isr_oneC (chP p) hone) (fun h=>by cases h) (by omega) (by simp; omega) (by left; simp; omega))
   have HX:Hid (∀ W,Tch [tb,T.mb,T.b,T.bs] W2 W→W.cell? ⟨wr.heap.size,0,none⟩=some (.string p.key)∧W.cell? ⟨wr.heap.size,1,none⟩=some (.string p.val)):=fun W tt=>by
    have hb:=tt.keep hbox (by simp; omega)
    exact ⟨by rw [blk_cell hb]; rfl,by rw [blk_cell hb]; rfl⟩
   have HR1:Hid (∀ W,chk [chP p] []≠0→Calm W w.heap.size tb B T now h (bF (ps.take k)) S→Tch [] W2 W→BuiRel w ps m tb B g v8 (.int .i64 ((k:Int)+1)) W):=fun W h0 hc tt=>by
    have e:bF (ps.take (k+1))=bF (ps.take k):=by rw [HB.out]; unfold bst; rw [if_neg h0]
    refine ⟨k+1,h,T,now,S,by omega,by simp,?_,?_,?_,by omega,hnl,hrm,(t.trans u2).trans tt⟩
    · rw [e]; exact hL.keep0 (u2.trans tt)
    · rw [e]; exact hc
    · exact Nat.le_trans hBw (Nat.le_trans u2.size tt.size)
   have hnw:=hcm.new
   have htz:=t.size
   have HR2:Hid (∀ W3 T' now' h' S' v2 W4 W5,chk [chP p] []=0→T'.room=T.room→now'.length=now.length→T'.D.done≤T.D.done+1002→Calm W3 w.heap.size tb B T' now' h' (altsL (bF (ps.take k)) [chP p]) S'→Tch [tb,T.mb,T.b,T.bs] W2 W3→Tch [] W3 W4→ApsPost W4 (altsL (bF (ps.take k)) [chP p]) (.returned v2) W5→BuiRel w ps m tb B g v2 (.int .i64 ((k:Int)+1)) W5):=fun W3 T' now' h' S' v2 W4 W5 h0 e1 e2 e3 hc t3 t4 hp5=>by
    have e:bF (ps.take (k+1))=altsL (bF (ps.take k)) [chP p]:=by rw [HB.out]; unfold bst; rw [if_pos h0]; rfl
    obtain ⟨v3,ev,h3,t5⟩:=hp5
    cases ev
    refine ⟨k+1,h',T',now',S',by omega,by simp,?_,?_,?_,by omega,by omega,by omega,?_⟩
    · rw [e]; exact h3
    · rw [e]; exact hc.keep (t4.trans t5)
    · exact Nat.le_trans hBw (Nat.le_trans u2.size (Nat.le_trans t3.size (Nat.le_trans t4.size t5.size)))
    · exact (((t.trans u2).upTo t3 (by simp; omega)).trans t4).trans t5
   have HL:Hid (∀ W3 W4,Tch [tb,T.mb,T.b,T.bs] W2 W3→Tch [] W3 W4→IsL W4 v8 (bF (ps.take k))):=fun W3 W4 t3 t4=>((hL.keep0 u2).apply (hcm.keep u2).tr t3).keep0 t4
   have HRT:Hid (∀ W3 W4 b4,Tch [tb,T.mb,T.b,T.bs] W2 W3→Tch [] W3 W4→W4.heap[b4]?=some (.cells #[.string p.key,.string p.val,.bool false] 157 (0,0))→Calls Tryz.prog 27 #[v8,.slice (some ⟨b4,0,none⟩) 1 1] W4 (ApsPost W4 (altsL (bF (ps.take k)) [chP p]))):=fun W3 W4 b4 t3 t4 hb4=>rtapply_any (bF (ps.take k)) [chP p] v8 (some ⟨b4,0,none⟩) 1 1 b4 0 W4 (HL.out W3 W4 t3 t4) hsr (isr_oneC (chP p) hb4) (by simp; omega)
   have HU:=Lib.hid u2
   clear hL hcm hdn hnl hrm hbl hby hfew hsr hp l1 l2 l3 l4 hbox hone u1 u2 hnw htz HL hBw HCE HF
   subst ha
   go_wp2_with fail
   rw [← hW1,← hW2]
   clear hW2
   refine HC.out.mono ?_
   rintro e w3 (⟨h0,rfl,c3,t3⟩ | ⟨h0,rfl,T',now',h',S',e1,e2,e3,e4,e5,e6,e7,c3,t3⟩)
   · have HE:=Lib.hid (HR1.out w3 h0 c3 t3)
     clear HR1 HR2 HRT HC c3 t3 HX
     have hcc:(chk [chP p] [] == 0)=false:=by simpa using h0
     generalize chk [chP p] []=cc at hcc h0
     go_wp2_with fail
     go_roundg g
     case measure=>omega
     case rel=>exact HE.out
   · obtain ⟨x0,x1⟩:=HX.out w3 t3
     obtain ⟨W4,hW4⟩:∃ W4,W4=w3.alloc (.cells #[.string p.key,.string p.val,.bool false] 157):=⟨_,rfl⟩
     have u4:Tch [] w3 W4:=by rw [hW4]; exact (Tch.refl _ _).alloc _
     have HC4:=Lib.hid (HRT.out w3 W4 w3.heap.size t3 u4 (by rw [hW4]; exact blk_new _ _))
     have HE:=Lib.hid (fun v2 W5=>HR2.out w3 T' now' h' S' v2 W4 W5 h0 e4 e6 e7 c3 t3 u4)
     clear HR1 HR2 HRT HC c3 t3 HX h0 e1 e2 e3 e4 e5 e6 e7 u4
     go_wp2_with fail
     rw [← hW4]
     clear hW4
     refine HC4.out.mono ?_
     rintro e w5 ⟨v2,rfl,h2,t5⟩
     have HG:=Lib.hid (HE.out v2 w5 ⟨v2,rfl,h2,t5⟩)
     clear HE HC4 h2 t5 x0 x1
     go_wp2_with fail
     go_roundg g
     case measure=>omega
     case rel=>exact HG.out
end Go.Proofs.YtlkgnljdpakkcaaGreatDoor
