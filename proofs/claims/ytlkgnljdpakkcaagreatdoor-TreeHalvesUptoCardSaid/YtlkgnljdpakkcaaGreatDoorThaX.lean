/-
  Parts of the proof: Tha.
-/
import Derived.Test.YtlkgnljdpakkcaaGreatDoorBuiX
import Derived.Test.YtlkgnljdpakkcaaGreatDoorWkaX
import Derived.Deep.RegionHeld3
import Derived.BigQuiet
import Derived.IntWalk
import Derived.Laws.AppendOwnNone
set_option linter.unusedVariables false
set_option linter.unusedSimpArgs false
/-
 The law TreeHalves,walked.
-/
namespace Go.Proofs.YtlkgnljdpakkcaaGreatDoor
open Go.RowKit
theorem bl_zero:∀ (x k:List UInt8),Go.Op.bytesLess x (k++[0])=(Go.Op.bytesLess x k || decide (x=k))
 | [],[]=>by simp [Go.Op.bytesLess]
 | [],b :: k=>by simp [Go.Op.bytesLess]
 | a :: x,[]=>by
  have:¬ a < 0:=by rw [UInt8.lt_iff_toNat_lt]; simp
  have h2:Go.Op.bytesLess x []=false:=by cases x <;> simp [Go.Op.bytesLess]
  simp [Go.Op.bytesLess,this,h2]
 | a :: x,b :: k=>by
  have ih:=bl_zero x k
  simp only [List.cons_append,Go.Op.bytesLess,ih]
  by_cases h1:a < b
  · simp [h1]
  · by_cases h2:a=b
    · subst h2; simp [h1]
    · have:(a == b)=false:=by simpa using h2
      simp [h1,h2,this]
theorem lt_zero (x k:ByteArray):slt x (k++⟨#[0]⟩)=(slt x k || decide (x=k)):=by
 unfold slt
 have e:(k++(⟨#[0]⟩:ByteArray)).toList=k.toList++[0]:=by
  rw [ByteArray.toList_eq,ByteArray.toList_eq,ByteArray.data_append]; simp
 rw [e,bl_zero]
 congr 1
 have:=key_same x k
 rw [← this]
 by_cases h:x.toList=k.toList
 · rw [h]; simp
 · have h2:(x.toList == k.toList)=false:=by simpa using h
   rw [h2]; simpa using h
theorem drop_srt:∀ (G:List En) (q:Nat),Srt G→(hq:q < G.length)→(G.filter fun e=>!slt e.key (G[q].key++⟨#[0]⟩))=G.drop (q+1):=fun G q hs hq=>by
 have h2:G=G.take q++G[q] :: G.drop (q+1):=by rw [← List.drop_eq_getElem_cons hq,List.take_append_drop]
 generalize hk:G[q]=k at h2 ⊢
 rw [h2] at hs
 obtain ⟨_,h4,h5⟩:=Srt.app.1 hs
 obtain ⟨h6,_⟩:=Srt.cons.1 h4
 rw [show (G.filter fun e=>!slt e.key (k.key++⟨#[0]⟩))=((G.take q++k :: G.drop (q+1)).filter fun e=>!slt e.key (k.key++⟨#[0]⟩)) from by rw [← h2],List.filter_append,List.filter_cons]
 have e1:(G.take q).filter (fun e=>!slt e.key (k.key++⟨#[0]⟩))=[]:=by
  rw [List.filter_eq_nil_iff]
  intro a ha
  rw [lt_zero,h5 a ha k List.mem_cons_self]; simp
 have e2:(G.drop (q+1)).filter (fun e=>!slt e.key (k.key++⟨#[0]⟩))=G.drop (q+1):=by
  rw [List.filter_eq_self]
  intro a ha
  have:=h6 a ha
  rw [lt_zero,lt_anti this,decide_eq_false (lt_ne this).symm]; rfl
 rw [e1,e2,lt_zero,lt_irr]; simp
theorem from_zero {F:List En} (hs:Srt F) (k:ByteArray) (q:Nat) (hq:q < (fromL F k).length):fromL F ((fromL F k)[q].key++⟨#[0]⟩)=(fromL F k).drop (q+1):=by
 have hsg:Srt (fromL F k):=List.Pairwise.filter _ hs
 rw [← drop_srt (fromL F k) q hsg hq]
 have hm:=List.getElem_mem hq
 generalize (fromL F k)[q]=x at hm
 have hx:slt x.key k=false:=by
  have:=(List.mem_filter.1 hm).2
  simpa using this
 unfold fromL
 rw [List.filter_filter]
 apply List.filter_congr
 intro e _
 cases h:slt e.key (x.key++⟨#[0]⟩)
 · have:slt e.key k=false:=by
    rw [lt_zero] at h
    cases h2:slt e.key k
    · rfl
    · have:=lt_le_tr h2 hx
      rw [this] at h; simp at h
   rw [this]; rfl
 · rfl
theorem neq_pair (k x:ByteArray) (w:World):(binOp .neq 67 (.agg #[.string k,.string x]) (.agg #[.string k,.string x])).run Tryz.prog w=.ok (.bool false) w:=by
 rw [run_neq_struct,run_equalIn_struct _ _ _ _ _ (by kernel_rfl) (by kernel_rfl)]
 unfold Program.fieldsOf
 rw [Tryz.underlying67]
 have p0:∀ w,(part 9 #[.string k,.string x] 0).run Tryz.prog w=.ok (.string k) w:=fun w=>by kernel_rfl
 have p1:∀ w,(part 9 #[.string k,.string x] 1).run Tryz.prog w=.ok (.string x) w:=fun w=>by kernel_rfl
 have q0:∀ s w,(Op.equalIn 9999 9 (.string s) (.string s)).run Tryz.prog w=.ok true w:=fun s w=>by rw [run_equalIn_string w 9998 _ _ _ Tryz.underlying9]; simp
 simp [Op.eqFields,p0,p1,q0,Result.andThen]
def HaRel (w0:World) (l n:Nat) (v74:Value) (wr:World):Prop:=∃ k:Nat,n+k=l∧v74=.int .i64 (k:Nat)∧Tch [] w0 wr
set_option maxRecDepth 100000 in
set_option maxHeartbeats 400000 in
theorem halves_walk (a:Option Addr) (n cap b o:Nat) (ps:List En) (from_:ByteArray) (at_:Int) (w:World) (hr:IsR fPr 2 w a n b o ps) (hc:n≤cap) (hz:a=none→n=0∧cap=0) (hm:cap≤maxLen) (hf:from_.size≤10000000) :
 Calls Tryz.prog 6 #[.slice a n cap,.string from_,.int .i64 at_] w fun e w'=>e=.returned (.bool true)∧Tch [] w w':=by
 obtain ⟨i0,hi,hz0,hz1,hz2⟩:=info_parts Tryz.info_pair
 have HB:=Lib.hid (built_any a n cap b o ps w hr hc hz hm)
 clear hr hc hz hm
 go_enter Tryz.func6,Tryz.ntmps6
 go_wp2_with fail
 refine HB.out.mono ?_
 rintro e w1 ⟨db,tb,B,h,T,now,S,v,rfl,hL,hcm,hBw,_,_,_,t1⟩
 have HWK:=Lib.hid (twakes_any w1)
 clear HB hBw hL
 go_wp2_with fail
 refine HWK.out.mono ?_
 rintro e w2 ⟨rfl,t2⟩
 have T2:=t1.trans t2
 have hcm2:=hcm.keep t2
 have hsm:=hcm2.small.2
 generalize bF (ps.take 300)=F at *
 have hsr:=hcm2.srt
 obtain ⟨G,hG⟩:∃ G,G=fromL F from_:=⟨_,rfl⟩
 have hGl:G.length≤F.length:=by rw [hG]; exact fromL_len _ _
 have HGF:Hid (∀ k (hk:k < G.length),slt G[k].key from_=false∧G[k].key.size≤48):=fun k hk=>by
  have h1:=List.getElem_mem hk
  generalize G[k]=x at h1
  rw [hG] at h1
  obtain ⟨h2,h3⟩:=List.mem_filter.1 h1
  exact ⟨by simpa using h3,(hcm2.hand.std.tr.fitL _ h2).2.1⟩
 have HLE:Hid (∀ W,Tch [] w2 W→Calls Tryz.prog 30 #[.pointer (some ⟨tb,0,none⟩)] W (IntPost F.length W)):=fun W t=>(hcm2.keep t).len
 have HSW:Hid (∀ W,Tch [] w2 W→Calls Tryz.prog 20 #[.pointer (some ⟨tb,0,none⟩),.string from_,.int .i64 ((F.length:Int)+1)] W (ScnPost W G)):=fun W t=>by
  have:=(hcm2.keep t).scan from_ hf ((F.length:Int)+1)
  rw [show ((F.length:Int)+1).toNat=F.length+1 from by omega,← hG,List.take_of_length_le (by omega)] at this
  exact this
 have HSA:Hid (∀ W q,Tch [] w2 W→q < G.length→Calls Tryz.prog 20 #[.pointer (some ⟨tb,0,none⟩),.string from_,.int .i64 ((q+1:Nat):Int)] W (ScnPost W (G.take (q+1)))):=fun W q t hq=>by
  have:=(hcm2.keep t).scan from_ hf ((q+1:Nat):Int)
  rw [← hG,Int.toNat_natCast] at this
  exact this
 have HSB:Hid (∀ W q (hq:q < G.length),Tch [] w2 W→Calls Tryz.prog 20 #[.pointer (some ⟨tb,0,none⟩),.string (G[q].key++⟨#[0]⟩),.int .i64 ((F.length:Int)+1)] W (ScnPost W (G.drop (q+1)))):=fun W q hq t=>by
  have hk:=(HGF.out q hq).2
  have:=(hcm2.keep t).scan (G[q].key++⟨#[0]⟩) (by rw [ByteArray.size_append]; show _+1≤_; omega) ((F.length:Int)+1)
  have e:fromL F (G[q].key++⟨#[0]⟩)=G.drop (q+1):=by
   subst hG; exact from_zero hsr from_ q hq
  rw [show ((F.length:Int)+1).toNat=F.length+1 from by omega,e,List.take_of_length_le (by rw [List.length_drop]; omega)] at this
  exact this
 have HT2:=Lib.hid T2
 have hFl:(F.length:Int)≤6553200:=by omega
 have hGl2:(G.length:Int)≤6553200:=by omega
 clear hcm hcm2 hsr t1 t2 T2 HWK hG hf
 have HC:=Lib.hid (HLE.out w2 (Tch.refl _ _))
 go_wp2_with fail
 refine HC.out.mono ?_
 rintro e w3 ⟨rfl,t3⟩
 have HC3:=Lib.hid (HSW.out w3 t3)
 have HT3:=Lib.hid t3
 clear HC t3
 go_wp2_with fail
 refine HC3.out.mono ?_
 rintro e w4 ⟨v4,rfl,hrow4,t4⟩
 have HT4:=Lib.hid (HT3.out.trans t4)
 obtain ⟨x4,c4,rfl⟩:=own_slice hrow4
 obtain ⟨b4,hr4,_,_⟩:=IsR.own (f:=fPr) (fun _=>rfl) hrow4 rfl
 clear HC3 t4 HT3 HSW hrow4
 by_cases hg0:G.length=0
 · have hd0:(((G.length:Nat):Int) == 0)=true:=by simp [hg0]
   have HE:Hid (Tch [] w w4):=HT2.out.trans HT4.out
   clear hr4 HSA HSB HGF
   go_wp2_with fail
   first | exact ⟨rfl,HE.out⟩ | (go_ret; exact ⟨rfl,HE.out⟩)
 have hd0:(((G.length:Nat):Int) == 0)=false:=by rw [beq_eq_false_iff_ne]; omega
 have hg1:(1:Int)≤(G.length:Int):=by omega
 have hmx:(0:Int)≤max 0 at_:=by omega
 have hqn:=Int.emod_nonneg (max 0 at_) (show (G.length:Int)≠0 by omega)
 have hql:=Int.emod_lt_of_pos (max 0 at_) (show 0 < (G.length:Int) by omega)
 obtain ⟨q,hq⟩:∃ q:Nat,max 0 at_ % (G.length:Int)=(q:Int):=⟨(max 0 at_ % (G.length:Int)).toNat,(Int.toNat_of_nonneg hqn).symm⟩
 have hqG:q < G.length:=by rw [hq] at hql; omega
 clear hqn hql
 have hq2:(q:Int)≤6553200:=by omega
 obtain ⟨j,hj⟩:∃ j:Nat,j=q+1:=⟨_,rfl⟩
 have hqj:(1:Int)+(q:Int)=(j:Int):=by omega
 have HQ:=Lib.hid hq
 have HJ:=Lib.hid hqj
 have HJ1:=Lib.hid hj
 clear hqj hj
 go_upto_region 8 with fail
 try rw [HQ.out]
 rw [HJ.out]
 clear hq
 have HC5:=Lib.hid (HSA.out w4 q HT4.out hqG)
 rw [← HJ1.out] at HC5
 go_wp2_with fail
 refine HC5.out.mono ?_
 rintro e w5 ⟨v5,rfl,hrow5,t5⟩
 have hj:=HJ1.out
 have hl5:(G.take j).length=j:=by rw [List.length_take]; omega
 rw [hl5] at hrow5
 have hs5:w4.heap.size≤w5.heap.size:=t5.size
 have HT5:=Lib.hid (HT4.out.trans t5)
 have HT45:=Lib.hid t5
 obtain ⟨x5,c5,rfl⟩:=own_slice hrow5
 obtain ⟨b5,hr5,_,_⟩:=IsR.own (f:=fPr) (xs:=G.take j) (fun _=>rfl) hrow5 hl5.symm
 obtain rfl:=hr5.some_ (by omega)
 have hgq:(G.take j)[q]?=some G[q]:=by rw [List.getElem?_take,if_pos (by omega),List.getElem?_eq_getElem hqG]
 have HKY:Hid (∀ W,Tch [] w5 W→W.cell? ⟨b5,q * 2,none⟩=some (.string G[q].key)):=fun W t=>by
  have:=(hr5.keep0 t).c0 hgq rfl
  rwa [Nat.zero_add] at this
 have HOW5:=Lib.hid hrow5
 have HSB5:Hid (∀ W,Tch [] w5 W→Calls Tryz.prog 20 #[.pointer (some ⟨tb,0,none⟩),.string (G[q].key++⟨#[0]⟩),.int .i64 ((F.length:Int)+1)] W (ScnPost W (G.drop j))):=fun W t=>by rw [hj]; exact HSB.out W q hqG (HT5.out.trans t)
 have HLE5:Hid (∀ W,Tch [] w5 W→Calls Tryz.prog 30 #[.pointer (some ⟨tb,0,none⟩)] W (IntPost F.length W)):=fun W t=>HLE.out W (HT5.out.trans t)
 have hjb:(j:Int)≤6553201:=by omega
 have hlb:j+(G.drop j).length=G.length:=by rw [List.length_drop]; omega
 have HLB:=Lib.hid hlb
 have hq0:(0:Int)≤(q:Int):=by omega
 have hq1:(q:Int) < (j:Int):=by omega
 have hw1:IntKind.i64.wrap ((j:Int) - 1)=(q:Int):=by rw [show (j:Int) - 1=(q:Int) from by omega]; exact IntWalk.i64_in _ (by omega)
 have hw2:IntKind.i64.wrap ((F.length:Int)+1)=(F.length:Int)+1:=IntWalk.i64_in _ (by omega)
 have hks:(G[q].key.size:Int)≤8388608:=by have:=(HGF.out q hqG).2; omega
 have hcat:∀ W,(Op.stringOp .add G[q].key ⟨#[0]⟩).run Tryz.prog W=.ok (.string (G[q].key++⟨#[0]⟩)) W:=fun W=>run_string_add _ _ _ hks (by decide)
 have HGEN:Hid (∀ k (hk:k < G.length),slt G[k].key from_=false):=fun k hk=>(HGF.out k hk).1
 have HR4:=Lib.hid hr4
 have hB4:w4.heap.size≤w5.heap.size:=hs5
 clear HC5 t5 hl5 hrow5 hr5 hgq HSA HSB HLE hj HJ HJ1 HQ hlb HGF hr4
 generalize G[q].key=ky at HKY HSB5 hks hcat
 go_upto_region 11 with fail
 have td:Tch [] w5 w5.drew:=(Tch.refl _ _).drew
 go_region_held3 (fun w'=>w'.cell? ⟨b5,q * 2,none⟩=some (.string ky))
  (first | exact HKY.out _ td | exact HKY.out _ (td.trans t6) | exact HKY.out _ ((td.trans t6).trans t7))
  (first
   | (go_at_call 30; ((with_reducible refine (HLE5.out _ td).mono ?_); rintro e w6 ⟨rfl,t6⟩))
   | (go_at_call 20; ((with_reducible refine (HSB5.out _ (td.trans t6)).mono ?_); rintro e w7 ⟨v7,rfl,hrow7,t7⟩)))
 have T57:Tch [] w5 w7:=(td.trans t6).trans t7
 obtain ⟨x7,c7,rfl⟩:=own_slice hrow7
 have HOW7:=Lib.hid (own_keep HOW5.out T57 (fun _ _=>by simp))
 have HT7:=Lib.hid (HT45.out.trans T57)
 have hs7:w4.heap.size≤w7.heap.size:=HT7.out.size
 have hlb:=HLB.out
 clear t6 t7 td T57 HKY HSB5 HLE5 hw1 hw2 hks hcat HOW5 HLB
 have HDR:=Lib.hid hrow7
 obtain ⟨lb,hll⟩:∃ lb,lb=(G.drop j).length:=⟨_,rfl⟩
 have hrow8:=hrow7
 rw [← hll] at hrow8 hlb ⊢
 have hne1:(((j:Int)+(lb:Int)) != ((G.length:Nat):Int))=false:=by
  have:(j:Int)+(lb:Int)=((G.length:Nat):Int):=by omega
  rw [this]; simp
 have hlb2:(lb:Int)≤6553200:=by omega
 have HLL:=Lib.hid hll
 have HLB:=Lib.hid hlb
 have HF:Hid (∀ W,Tch [] w4 W→Tch [] w W):=fun W t=>(HT2.out.trans HT4.out).trans t
 have HTD:Hid (G.take j++G.drop j=G):=List.take_append_drop _ _
 clear hrow7 hll hlb
 rcases hrow8.2 with ⟨hv,h0⟩ | ⟨g7,cap7,cur7,hv,hrest⟩
 · obtain ⟨rfl,h1,rfl⟩:x7=none∧lb=0∧c7=0:=by simpa using hv
   subst h1
   have hjG:j=G.length:=by have:=HLB.out; omega
   have HROW:Hid (w7.ownsRow w4.heap.size 67 2 (.slice (some ⟨b5,0,none⟩) j c5) j (G.flatMap fPr)):=by
    have:=HOW7.out
    rw [List.take_of_length_le (by omega)] at this
    exact this
   have HJG:=Lib.hid hjG
   clear hrow8 hv h0 hjG
   go_wp2_with (at_builtin; refine wpList_append_own_none rfl _ _ 44 rfl w4.heap.size 67 i0 2 Tryz.underlying44 hi (.slice (some ⟨b5,0,none⟩) j c5) j (G.flatMap fPr) rfl HROW.out rfl ?_)
   have hRW:=HROW.out
   have h8:=HT7.out
   clear HROW HT7 HOW7 HLB HDR
   obtain ⟨w8,hw8⟩:∃ w8:World,w8=w7:=⟨_,rfl⟩
   rw [← hw8] at h8 hRW ⊢
   clear hw8
   obtain rfl:=HJG.out
   obtain ⟨b8,hr8,_,_⟩:=IsR.own (f:=fPr) (xs:=G) (fun _=>rfl) hRW rfl
   have hx8:=hr8.some_ (by omega)
   obtain rfl:b8=b5:=by simpa using hx8.symm
   have HAP:Hid (∀ W,Tch [] w8 W→∀ k (hk:k < G.length),W.cell? ⟨b8,0+k * 2,none⟩=some (.string G[k].key)∧W.cell? ⟨b8,0+k * 2+1,none⟩=some (.string G[k].val)):=fun W t k hk=>by
    have r:=hr8.keep0 t
    have hg:G[k]?=some G[k]:=List.getElem?_eq_getElem hk
    exact ⟨r.c0 hg rfl,r.c hg 1 rfl⟩
   have HWH:Hid (∀ W,Tch [] w8 W→∀ k (hk:k < G.length),W.cell? ⟨b4,0+k * 2,none⟩=some (.string G[k].key)∧W.cell? ⟨b4,0+k * 2+1,none⟩=some (.string G[k].val)∧x4=some ⟨b4,0,none⟩):=fun W t k hk=>by
    have r:=HR4.out.keep0 (h8.trans t)
    have hg:G[k]?=some G[k]:=List.getElem?_eq_getElem hk
    exact ⟨r.c0 hg rfl,r.c hg 1 rfl,r.some_ (by omega)⟩
   have HFF:Hid (∀ W,Tch [] w8 W→Tch [] w W):=fun W t=>HF.out W (h8.trans t)
   have HST:Hid (HaRel w8 G.length G.length (.int .i64 0) w8):=⟨0,by simp,rfl,Tch.refl _ _⟩
   clear hr8 hRW h8
   go_wp2_with fail
   go_loopg [74] G.length (fun n v74 wr=>HaRel w8 G.length n v74 wr)
   case atStart=>exact HST.out
   case round =>
    obtain ⟨k,hnk,rfl,t⟩:=hrel
    match gk,hnk with
    | 0,hnk =>
     have hlt:decide (k < G.length)=false:=decide_eq_false (by omega)
     have HE:=Lib.hid (HFF.out wr t)
     go_wp2_with fail
     first | exact ⟨rfl,HE.out⟩ | (go_ret; exact ⟨rfl,HE.out⟩)
    | g+1,hnk =>
     have hk:k < G.length:=by omega
     have hlt:decide (k < G.length)=true:=decide_eq_true hk
     have hk0:(0:Int)≤(k:Int):=by omega
     have hk1:(k:Int) < (G.length:Int):=by omega
     obtain ⟨s0,s1⟩:=HAP.out wr t k hk
     have hgf:Go.Op.bytesLess G[k].key.toList from_.toList=false:=HGEN.out k hk
     obtain ⟨W1,hW1⟩:∃ W1,W1=wr.alloc (.cells #[.string G[k].key,.string G[k].val] 67):=⟨_,rfl⟩
     have u1:Tch [] wr W1:=by rw [hW1]; exact (Tch.refl _ _).alloc _
     have hb1:W1.heap[wr.heap.size]?=some (.cells #[.string G[k].key,.string G[k].val] 67 (0,0)):=by rw [hW1]; exact blk_new _ _
     obtain ⟨z0,z1,hx4⟩:=HWH.out W1 (t.trans u1) k hk
     have hq9:=fun W=>neq_pair G[k].key G[k].val W
     have HG:Hid (∀ q,HaRel w8 G.length g (.int .i64 ((k:Int)+1)) (W1.drewN q)):=fun q=>⟨k+1,by omega,by simp,tdrewN (t.trans u1) q⟩
     have k0:W1.cell? ⟨wr.heap.size,0,none⟩=some (.string G[k].key):=by rw [blk_cell hb1]; rfl
     have k1:W1.cell? ⟨wr.heap.size,1,none⟩=some (.string G[k].val):=by rw [blk_cell hb1]; rfl
     subst hx4
     clear hb1 u1 t
     generalize G[k].key=gk1 at *
     generalize G[k].val=gv1 at *
     rw [Nat.zero_add] at s0 s1 z0 z1
     go_upto_region 17 with fail
     rw [← hW1]
     clear hW1
     go_quiet (fail)
     go_wp2_with fail
     go_roundg g
     case measure=>omega
     case rel=>exact HG.out _
 · obtain ⟨rfl,rfl⟩:x7=some ⟨g7,0,none⟩∧c7=cap7:=by
    simp at hv; exact ⟨hv.1,hv.2⟩
   have HNW:Hid (∀ k u,((G.drop j).flatMap fPr)[k]?=some u→w7.cell? ((⟨g7,0,none⟩:Addr).add k)=some u):=by
    obtain ⟨bb,hrr,_,_⟩:=IsR.own (f:=fPr) (xs:=G.drop j) (fun _=>rfl) hrow8 HLL.out
    exact hrr.cells (fun _=>rfl)
   have HONE:Hid (∀ u ∈ (G.drop j).flatMap fPr,u.oneCell'=true):=fm_one (fun x u hu=>by simp only [fPr,List.mem_cons,List.not_mem_nil,or_false] at hu; rcases hu with rfl | rfl <;> rfl) _
   have HLN:Hid (((G.drop j).flatMap fPr).length=lb * 2):=by
    show _=_
    rw [fm_len (f:=fPr) (sz:=2) (fun _=>rfl),← HLL.out]
   clear hrow8 hv hrest
   go_wp2_with (at_builtin; refine wpList_append_own _ rfl _ _ 44 rfl w4.heap.size 67 i0 _ 2 32 Tryz.underlying44 hi hz0 hz1 hz2 rfl (by decide) _ j _ rfl HOW7.out ⟨g7,0,none⟩ lb c7 ((G.drop j).flatMap fPr) rfl HLN.out HNW.out HONE.out (by unfold maxLen; omega) (by omega) hs7 ?_; intro v8 w8 o8 hg8 _)
   have h8:=Lib.hid (HT7.out.own HOW7.out (Nat.le_refl _) hg8)
   have h8:=h8.out
   obtain ⟨x8,c8,rfl⟩:=own_slice o8
   have hRW:=o8
   rw [show j+lb=G.length from HLB.out,← List.flatMap_append,HTD.out] at hRW
   rw [show j+lb=G.length from HLB.out]
   clear o8 hg8 HT7 HOW7 HLB HDR HNW HONE HLN
   obtain ⟨b8,hr8,_,_⟩:=IsR.own (f:=fPr) (xs:=G) (fun _=>rfl) hRW rfl
   have hx8:=hr8.some_ (by omega)
   cases hx8
   have HAP:Hid (∀ W,Tch [] w8 W→∀ k (hk:k < G.length),W.cell? ⟨b8,0+k * 2,none⟩=some (.string G[k].key)∧W.cell? ⟨b8,0+k * 2+1,none⟩=some (.string G[k].val)):=fun W t k hk=>by
    have r:=hr8.keep0 t
    have hg:G[k]?=some G[k]:=List.getElem?_eq_getElem hk
    exact ⟨r.c0 hg rfl,r.c hg 1 rfl⟩
   have HWH:Hid (∀ W,Tch [] w8 W→∀ k (hk:k < G.length),W.cell? ⟨b4,0+k * 2,none⟩=some (.string G[k].key)∧W.cell? ⟨b4,0+k * 2+1,none⟩=some (.string G[k].val)∧x4=some ⟨b4,0,none⟩):=fun W t k hk=>by
    have r:=HR4.out.keep0 (h8.trans t)
    have hg:G[k]?=some G[k]:=List.getElem?_eq_getElem hk
    exact ⟨r.c0 hg rfl,r.c hg 1 rfl,r.some_ (by omega)⟩
   have HFF:Hid (∀ W,Tch [] w8 W→Tch [] w W):=fun W t=>HF.out W (h8.trans t)
   have HST:Hid (HaRel w8 G.length G.length (.int .i64 0) w8):=⟨0,by simp,rfl,Tch.refl _ _⟩
   clear hr8 hRW h8
   go_wp2_with fail
   go_loopg [74] G.length (fun n v74 wr=>HaRel w8 G.length n v74 wr)
   case atStart=>exact HST.out
   case round =>
    obtain ⟨k,hnk,rfl,t⟩:=hrel
    match gk,hnk with
    | 0,hnk =>
     have hlt:decide (k < G.length)=false:=decide_eq_false (by omega)
     have HE:=Lib.hid (HFF.out wr t)
     go_wp2_with fail
     first | exact ⟨rfl,HE.out⟩ | (go_ret; exact ⟨rfl,HE.out⟩)
    | g+1,hnk =>
     have hk:k < G.length:=by omega
     have hlt:decide (k < G.length)=true:=decide_eq_true hk
     have hk0:(0:Int)≤(k:Int):=by omega
     have hk1:(k:Int) < (G.length:Int):=by omega
     obtain ⟨s0,s1⟩:=HAP.out wr t k hk
     have hgf:Go.Op.bytesLess G[k].key.toList from_.toList=false:=HGEN.out k hk
     obtain ⟨W1,hW1⟩:∃ W1,W1=wr.alloc (.cells #[.string G[k].key,.string G[k].val] 67):=⟨_,rfl⟩
     have u1:Tch [] wr W1:=by rw [hW1]; exact (Tch.refl _ _).alloc _
     have hb1:W1.heap[wr.heap.size]?=some (.cells #[.string G[k].key,.string G[k].val] 67 (0,0)):=by rw [hW1]; exact blk_new _ _
     obtain ⟨z0,z1,hx4⟩:=HWH.out W1 (t.trans u1) k hk
     have hq9:=fun W=>neq_pair G[k].key G[k].val W
     have HG:Hid (∀ q,HaRel w8 G.length g (.int .i64 ((k:Int)+1)) (W1.drewN q)):=fun q=>⟨k+1,by omega,by simp,tdrewN (t.trans u1) q⟩
     have k0:W1.cell? ⟨wr.heap.size,0,none⟩=some (.string G[k].key):=by rw [blk_cell hb1]; rfl
     have k1:W1.cell? ⟨wr.heap.size,1,none⟩=some (.string G[k].val):=by rw [blk_cell hb1]; rfl
     subst hx4
     clear hb1 u1 t
     generalize G[k].key=gk1 at *
     generalize G[k].val=gv1 at *
     rw [Nat.zero_add] at s0 s1 z0 z1
     go_upto_region 17 with fail
     rw [← hW1]
     clear hW1
     go_quiet (fail)
     go_wp2_with fail
     go_roundg g
     case measure=>omega
     case rel=>exact HG.out _
end Go.Proofs.YtlkgnljdpakkcaaGreatDoor
