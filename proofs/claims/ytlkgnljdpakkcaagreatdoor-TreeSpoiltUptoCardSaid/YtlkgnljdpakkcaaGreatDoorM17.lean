/-
  Parts of the proof: Han, Prs, Sml, Eqs, Alk, Nrd.
-/
import Derived.Test.YtlkgnljdpakkcaaGreatDoorM01
import Derived.Test.YtlkgnljdpakkcaaGreatDoorM16
import Derived.Test.YtlkgnljdpakkcaaGreatDoorM12
import Derived.Test.YtlkgnljdpakkcaaGreatDoorM02
import Derived.BigQuiet
import Derived.Test.YtlkgnljdpakkcaaGreatDoorM06
import Derived.Lib.TrimByte
set_option linter.unusedVariables false
set_option linter.unusedSimpArgs false
/-
 'handOut' of a tree: the pairs below a sector from a key on,each handed to a loop's round.
-/
namespace Go.Proofs.YtlkgnljdpakkcaaGreatDoor
open Go.RowKit Go.Shelf
def KpN (n₀:Nat) (W W':World):Prop:=W'.os=W.os∧W'.tape=W.tape∧W'.output=W.output∧W.heap.size≤W'.heap.size∧∀ k,k < W.heap.size→(k < n₀∨∃ cs,W.heap[k]?=some (.cells cs 138 (0,0)))→W'.heap[k]?=W.heap[k]?
theorem KpN.trans {n₀:Nat} {A B C:World} (h:KpN n₀ A B) (g:KpN n₀ B C):KpN n₀ A C:=by
 obtain ⟨h1,h2,h3,h4,h5⟩:=h
 obtain ⟨g1,g2,g3,g4,g5⟩:=g
 refine ⟨g1.trans h1,g2.trans h2,g3.trans h3,Nat.le_trans h4 g4,fun k hk hn=>?_⟩
 have e:=h5 k hk hn
 refine (g5 k (Nat.lt_of_lt_of_le hk h4) ?_).trans e
 rcases hn with hn | ⟨cs,hn⟩
 · exact Or.inl hn
 · exact Or.inr ⟨cs,e.trans hn⟩
theorem KpN.tch {n₀:Nat} {A B:World} (t:Tch [] A B):KpN n₀ A B:=⟨t.os,t.tape,t.output,t.size,fun k hk _=>t.block k hk (by simp)⟩
theorem KpN.below {n₀:Nat} {A B:World} (h:KpN n₀ A B) (hn:n₀≤A.heap.size):Below n₀ A B:=⟨h.1,h.2.1,h.2.2.1,h.2.2.2.1,fun k hk=>h.2.2.2.2 k (by omega) (Or.inl hk)⟩
theorem KpN.node {n₀ b:Nat} {A B:World} {cs:Array Value} (h:KpN n₀ A B) (hb:A.heap[b]?=some (.cells cs 138 (0,0))):B.heap[b]?=some (.cells cs 138 (0,0)) :=
 (h.2.2.2.2 b (lt_of_block hb) (Or.inr ⟨cs,hb⟩)).trans hb
def YOk (Px:En→Prop) (l n₀ N:Nat) (J Jx:List En→World→Prop):Prop:=∀ m (pre:List En) (x:En) W,Px x→J pre W→pre.length < N→YieldAt Fence.wide m Tryz.prog l #[.string x.key,.string x.val] W fun e W' =>
 (e=.returned (.bool true)∧J (pre++[x]) W'∧KpN n₀ W W')∨(e=.returned (.bool false)∧Jx (pre++[x]) W')
def HoPost (n₀:Nat) (J Jx:List En→World→Prop) (L pre:List En) (W:World) (e:Ending) (W':World):Prop :=
 (e=.returned (.bool true)∧J (pre++L) W'∧KpN n₀ W W')∨(e=.returned (.bool false)∧∃ q,q <+: L∧Jx (pre++q) W')
def Sth (M:Int→Nod):Nat→Int→Prop
 | 0,x=>((M x).es≠[]→(M x).leaf=true)∧Srt (M x).es∧(M x).es.length≤400
 | h+1,x=>(M x).leaf=false∧Srt (M x).es∧(M x).es.length≤400∧∀ e ∈ (M x).es,Sth M h e.kid∧0≤e.kid∧e.kid < (topN:Int)
theorem sth_sh {M:Int→Nod}:∀ {h:Nat} {x:Int},Sh M h x→(∀ y ∈ nums M h x,Srt (M y).es)→Sth M h x
 | 0,x,hs,hn=>⟨fun _=>hs.1.1,hn x (nums_self _ _ _),es_len hs.fit (sh_body.1 hs).2.2⟩
 | h+1,x,hs,hn=>⟨hs.1.1,hn x (nums_self _ _ _),es_len hs.fit (sh_body.1 hs).2.2,fun e he=>⟨sth_sh (hs.1.2 e he).1 (fun y hy=>hn y (by rw [nums]; exact List.mem_cons_of_mem _ (List.mem_flatMap.2 ⟨e,he,hy⟩))),by have:=(hs.1.2 e he).2.1.2.1; omega,(hs.1.2 e he).2.1.2.2.1⟩⟩
theorem Stands.sth {M:Int→Nod} {h:Nat} {x:Int} (s:Stands M h x):Sth M h x:=by
 rcases s with ⟨h1,h2⟩ | ⟨rfl,h2⟩
 · exact sth_sh h1 (srt_sub h1 h2)
 · exact ⟨fun h=>absurd h2 h,by rw [h2]; simp [Srt],by rw [h2]; simp⟩
def HoOk (Px:En→Prop) (tb:Nat) (T:Tv) (w0:World) (l N:Nat) (J Jx:List En→World→Prop) (k:ByteArray) (h:Nat):Prop:=∀ (a:Int) (pre:List En) (W:World),Below w0.heap.size w0 W→Sth (mN T.f) h a→0≤a∧a < (topN:Int)→J pre W→(∀ e ∈ ho (mN T.f) h a k,Px e)→pre.length+(ho (mN T.f) h a k).length≤N →
 Calls Tryz.prog 95 #[.pointer (some ⟨tb,0,none⟩),.int .i64 a,.string k,.func (.yield l) #[] #[]] W (HoPost w0.heap.size J Jx (ho (mN T.f) h a k) pre W)
def HoRel (w0 W:World) (X:Nat) (v:Nv) (g:List En→List En) (L pre:List En) (J:List En→World→Prop) (n:Nat) (v12:Value) (wr:World):Prop :=
 ∃ (i:Nat) (q:List En),n+i=v.es.length∧v12=.int .i64 (i:Nat)∧q++g (v.es.drop i)=L∧J (pre++q) wr∧KpN w0.heap.size W wr∧wr.heap[X]?=some (.cells #[.bool v.leaf,.slice v.ka v.kn v.kc,.slice v.va v.vn v.vc,.slice v.ia v.im v.ic] 138 (0,0))
set_option maxRecDepth 100000 in
set_option maxHeartbeats 4000000 in
theorem handOut_leaf (Px:En→Prop) (tb:Nat) (T:Tv) (w0:World) (l N:Nat) (J Jx:List En→World→Prop) (k:ByteArray) (ht:IsTr w0 tb T) (hk:k.size≤10000000) (HJ:∀ s W W',J s W→Tch [] W W'→J s W') (hY:YOk Px l w0.heap.size N J Jx):HoOk Px tb T w0 l N J Jx k 0:=by
 intro a pre W hB s ha hJ hPx hN
 have hT0:Tch [] w0 W:=Tch.ofBelow hB
 have htW:=ht.keep0 hT0
 obtain ⟨v,hv⟩:∃ v,v=T.nd a:=⟨_,rfl⟩
 have hes:v.es=(mN T.f a).es:=by rw [hv,T.nd_es]
 have hho:ho (mN T.f) 0 a k=(v.es.drop (plcN v.es k)).filter fun e=>!slt e.key k:=by rw [hes]; rfl
 rw [hho] at hN hPx ⊢
 have hleaf:v.es≠[]→v.leaf=true:=fun hne=>by
  rw [hv,T.nd_leaf]; exact s.1 (by rw [← hes]; exact hne)
 have hl4:v.es.length≤400:=by rw [hes]; exact s.2.2
 have hsr:Srt v.es:=by rw [hes]; exact s.2.1
 have hgd:∀ W',Below w0.heap.size w0 W'→Gd W' v:=fun W' h=>by rw [hv]; exact T.nd_gd (ht.keep0 (Tch.ofBelow h)) a
 have hmp:=htW.ns.mp
 have hwx:(Lit.int .i64 a).wf=true:=wfI (by omega) (by unfold topN at ha; omega)
 have hv1:((fun x=>(T.f x).map vNv) a).getD (vNv nvz)=vNv v:=by rw [hv]; unfold Tv.nd; simp only; cases T.f a <;> rfl
 have c2:=blk_cell htW.blk 2
 simp only [gA,gZ,gS] at c2
 have HPL:Hid (∀ W',Tch [] W W'→Calls Tryz.prog 49 #[.agg #[.bool v.leaf,.slice v.ka v.kn v.kc,.slice v.va v.vn v.vc,.slice v.ia v.im v.ic],.string k] W' fun e w'=>∃ b:Bool,e=.returned (.tuple #[.int .i64 (plcN v.es k:Nat),.bool b])∧Tch [] W' w'):=fun W' t=>by
  have g:=(hgd W hB).keep0 t
  refine (place_any v k W' g.nv g.ok g.caps (by omega) (rise_srt hsr)).mono ?_
  rintro e w' ⟨he,t'⟩
  exact ⟨_,he,t'⟩
 have HGD:=Lib.hid hgd
 have HLF:=Lib.hid hleaf
 have HJH:=Lib.hid HJ
 have HY:=Lib.hid hY
 have HB:=Lib.hid hB
 have hplt:plcN v.es k≤v.es.length:=by
  rcases Nat.eq_zero_or_pos v.es.length with h | h
  · rw [List.eq_nil_of_length_eq_zero h]; simp [plcN,plcE]
  · exact Nat.le_of_lt (plcN_lt v.es k h)
 have hkn:v.kn=v.es.length:=by rw [(hgd W hB).nv.rk.hlen,← v.keysE,List.length_map]
 have hsz0:w0.heap.size≤W.heap.size:=hB.size
 have HTR:=Lib.hid (fun W' (h:Below w0.heap.size w0 W')=>blk_cell (ht.keep0 (Tch.ofBelow h)).blk 0)
 have HKN:=Lib.hid hkn
 clear ht hB s hes hho hsr hgd htW hleaf HJ hY hT0 hkn
 generalize hQ:HoPost w0.heap.size J Jx ((v.es.drop (plcN v.es k)).filter fun e=>!slt e.key k) pre W=Q
 have HQ:Hid (∀ e W',HoPost w0.heap.size J Jx ((v.es.drop (plcN v.es k)).filter fun e=>!slt e.key k) pre W e W'→Q e W'):=fun e W' h=>by rw [← hQ]; exact h
 clear hQ
 generalize hL:(v.es.drop (plcN v.es k)).filter (fun e=>!slt e.key k)=L at *
 have HL:=Lib.hid hL
 have HPX:=Lib.hid hPx
 clear hPx
 have HV:=Lib.hid hv
 clear hL hv
 unfold vNv at hv1
 generalize T.mb=mb at *
 obtain ⟨W1,hW1⟩:∃ W1,W1=W.alloc (.cells #[.bool v.leaf,.slice v.ka v.kn v.kc,.slice v.va v.vn v.vc,.slice v.ia v.im v.ic] 138):=⟨_,rfl⟩
 have T1:Tch [] W W1:=by rw [hW1]; exact (Tch.refl _ _).alloc _
 have hb1:W1.heap[W.heap.size]?=some (.cells #[.bool v.leaf,.slice v.ka v.kn v.kc,.slice v.va v.vn v.vc,.slice v.ia v.im v.ic] 138 (0,0)):=by rw [hW1]; exact blk_new _ _
 have n0:=blk_cell hb1 0
 have n1:=blk_cell hb1 1
 have n2:=blk_cell hb1 2
 have n3:=blk_cell hb1 3
 simp only [gA,gZ,gS] at n0 n1 n2 n3
 go_enter Tryz.func95,Tryz.ntmps95
 go_upto_region 2 with (at_lookup; refine wpList_lookup_mp _ rfl _ _ 124 rfl 138 Tryz.underlying124 (zeroNd _) mb mbnd _ rfl hmp a rfl hwx _ hv1 ?_)
 rw [← hW1]
 clear hW1 hmp hv1 c2
 go_wp2_with (go_at_call 49; (with_reducible refine (HPL.out _ T1).mono ?_); rintro e w2 ⟨hit,rfl,t2⟩)
 have hb2:=t2.keep hb1 (by simp)
 have T2:=T1.trans t2
 have hJ2:=HJH.out _ _ _ hJ T2
 clear n0 n1 n2 n3 hb1 T1 t2 HPL hJ
 generalize hX:W.heap.size=X at *
 go_loopg [12] (v.es.length - plcN v.es k) (fun n v12 wr=>HoRel w0 W X v (fun l=>l.filter fun e=>!slt e.key k) L pre J n v12 wr)
 case atStart=>exact ⟨plcN v.es k,[],by omega,rfl,by rw [List.nil_append]; exact HL.out,by rw [List.append_nil]; exact hJ2,KpN.tch T2,hb2⟩
 case round =>
  obtain ⟨i,q,hni,rfl,hq,hJr,hkp,hb⟩:=hrel
  dsimp only at hq
  clear hJ2 hb2 T2
  have m0:=blk_cell hb 0
  have m1:=blk_cell hb 1
  have m2:=blk_cell hb 2
  have m3:=blk_cell hb 3
  simp only [gA,gZ,gS] at m0 m1 m2 m3
  have hkn:=HKN.out
  rw [hkn] at m1
  clear hkn
  match gk,hni with
  | 0,hni =>
   have hi:i=v.es.length:=by omega
   rw [hi,List.drop_length] at hq
   have HE:=Lib.hid (HQ.out (.returned (.bool true)) wr (Or.inl ⟨rfl,by rw [← hq,List.filter_nil,List.append_nil]; exact hJr,hkp⟩))
   have hlt:decide (i < v.es.length)=false:=decide_eq_false (by omega)
   clear hi hb hJr hkp m0 m2 m3 hq
   go_wp2_with fail
   first | exact HE.out | (go_ret; exact HE.out)
  | m+1,hni =>
   have hi:i < v.es.length:=by omega
   have hlt:decide (i < v.es.length)=true:=decide_eq_true hi
   have hlf:=HLF.out (fun e=>by rw [e] at hi; simp at hi)
   have hBr:Below w0.heap.size w0 wr:=HB.out.trans (hkp.below (by omega))
   have hg:=HGD.out wr hBr
   obtain ⟨e,he⟩:∃ e,e=v.es[i]:=⟨_,rfl⟩
   have hge:v.es[i]?=some e:=by rw [he]; exact List.getElem?_eq_getElem hi
   have hdrop:v.es.drop i=e :: v.es.drop (i+1):=by rw [he]; exact List.drop_eq_getElem_cons hi
   have hky:v.keys[i]?=some e.key:=by rw [← v.keysE,List.getElem?_map,hge]; rfl
   have hvl:v.vals[i]?=some e.val:=by rw [← Nv.valsE hg.lens hlf,List.getElem?_map,hge]; rfl
   have hka:=hg.nv.rk.some_ (by have:=HKN.out; omega)
   have hvn:v.vn=v.vals.length:=hg.nv.rv.hlen
   have hvlt:=(List.getElem?_eq_some_iff.1 hvl).1
   have hva:=hg.nv.rv.some_ (by omega)
   have k0:=hg.nv.rk.one hky rfl
   have k1:=hg.nv.rv.one hvl rfl
   have hi0:(0:Int)≤(i:Int):=by omega
   have hi1:(i:Int) < (v.es.length:Int):=by omega
   have hi2:(i:Int) < (v.vn:Int):=by omega
   have hi3:(i:Int)≤400:=by omega
   rw [hlf] at m0
   rw [hka] at m1
   rw [hva] at m2
   rw [hdrop] at hq
   have HKP:=Lib.hid hkp
   have HBK:=Lib.hid hb
   obtain ⟨key,val,kid⟩:=e
   simp only at k0 k1
   cases hb1:Go.Op.bytesLess key.toList k.toList with
   | true =>
    have hq2:q++(v.es.drop (i+1)).filter (fun e=>!slt e.key k)=L:=by
     rw [← hq,List.filter_cons,if_neg]
     show ¬ (!slt key k)=true
     unfold slt; rw [hb1]; simp
    have HQ2:=Lib.hid hq2
    clear hq hq2 hb hkp hBr hg he hge hdrop hky hvl hka hva hvlt hvn hlf m3 k1 m2
    have HJr:=Lib.hid hJr
    clear hJr
    go_upto_region 9 with fail
    go_quiet (fail)
    go_wp2_with fail
    go_roundg m
    case measure=>omega
    case rel=>exact ⟨i+1,q,by omega,by go_num,HQ2.out,HJH.out _ _ _ HJr.out (tdrewN (Tch.refl [] wr) _),HKP.out.trans (KpN.tch (tdrewN (Tch.refl [] wr) _)),HBK.out⟩
   | false =>
    have hq2:(q++[⟨key,val,kid⟩])++(v.es.drop (i+1)).filter (fun e=>!slt e.key k)=L:=by
     rw [← hq,List.filter_cons,if_pos]
     · simp
     · show (!slt key k)=true
       unfold slt; rw [hb1]; simp
    have HQ2:=Lib.hid hq2
    obtain ⟨fn,tmps,assign,body,hy,hR⟩:=HY.out 5 (pre++q) ⟨key,val,kid⟩ wr.drew (HPX.out _ (by rw [← hq2]; simp)) (HJH.out _ _ _ hJr (Tch.refl [] wr).drew) (by
     have:=congrArg List.length hq2
     simp only [List.length_append,List.length_cons,List.length_nil] at this ⊢
     omega)
    dsimp only at hy
    clear hq hq2 hb hkp hBr hg he hge hdrop hky hvl hka hva hvlt hvn hlf m3 hJr
    go_upto_region 9 with fail
    refine (wpIn_wide (n:=6)).1 ?_
    refine wide_still_tail 19 (by kernel_rfl) (by kernel_rfl) ?_
    simp only [List.take_succ_cons,List.take_zero,List.drop_succ_cons,List.drop_zero]
    repeat still_step
    try refine wpStill_nil ?_
    change wpListIn _ _ _ _ _ _ _ wr.drew
    gi_wp2
    refine hR.mono ?_
    rintro e W3 (⟨rfl,hJ3,hk3⟩ | ⟨rfl,hx3⟩)
    · have HK3:=Lib.hid ((HKP.out.trans (KpN.tch (Tch.refl [] wr).drew)).trans hk3)
      have HB3:=Lib.hid (hk3.node (show wr.drew.heap[X]?=_ from HBK.out))
      have HJ3:=Lib.hid hJ3
      clear hk3 hJ3
      gi_wp2
      go_wp2_with fail
      go_roundg m
      case measure=>omega
      case rel=>exact ⟨i+1,q++[⟨key,val,kid⟩],by omega,by go_num,HQ2.out,by rw [← List.append_assoc]; exact HJ3.out,HK3.out,HB3.out⟩
    · have HE:=Lib.hid (HQ.out (.returned (.bool false)) W3 (Or.inr ⟨rfl,q++[⟨key,val,kid⟩],⟨_,HQ2.out⟩,by rw [← List.append_assoc]; exact hx3⟩))
      clear hx3
      gi_wp2
      go_wp2_with fail
      first | exact HE.out | (go_ret; exact HE.out)
set_option maxRecDepth 100000 in
set_option maxHeartbeats 4000000 in
theorem handOut_step (Px:En→Prop) (tb h:Nat) (T:Tv) (w0:World) (l N:Nat) (J Jx:List En→World→Prop) (k:ByteArray) (ht:IsTr w0 tb T) (hk:k.size≤10000000) (HJ:∀ s W W',J s W→Tch [] W W'→J s W') (ih:HoOk Px tb T w0 l N J Jx k h):HoOk Px tb T w0 l N J Jx k (h+1):=by
 intro a pre W hB s ha hJ hPx hN
 have hT0:Tch [] w0 W:=Tch.ofBelow hB
 have htW:=ht.keep0 hT0
 obtain ⟨v,hv⟩:∃ v,v=T.nd a:=⟨_,rfl⟩
 have hes:v.es=(mN T.f a).es:=by rw [hv,T.nd_es]
 have hho:ho (mN T.f) (h+1) a k=(v.es.drop (plcN v.es k)).flatMap fun e=>ho (mN T.f) h e.kid k:=by rw [hes]; rfl
 rw [hho] at hN hPx ⊢
 have hkids:∀ e ∈ v.es,Sth (mN T.f) h e.kid∧0≤e.kid∧e.kid < (topN:Int)∧v.leaf=false:=fun e he=>by
  have:=s.2.2.2 e (by rw [← hes]; exact he)
  exact ⟨this.1,this.2.1,this.2.2,by rw [hv,T.nd_leaf]; exact s.1⟩
 have hl4:v.es.length≤400:=by rw [hes]; exact s.2.2.1
 have hsr:Srt v.es:=by rw [hes]; exact s.2.1
 have hgd:∀ W',Below w0.heap.size w0 W'→Gd W' v:=fun W' h=>by rw [hv]; exact T.nd_gd (ht.keep0 (Tch.ofBelow h)) a
 have hmp:=htW.ns.mp
 have hwx:(Lit.int .i64 a).wf=true:=wfI (by omega) (by unfold topN at ha; omega)
 have hv1:((fun x=>(T.f x).map vNv) a).getD (vNv nvz)=vNv v:=by rw [hv]; unfold Tv.nd; simp only; cases T.f a <;> rfl
 have c2:=blk_cell htW.blk 2
 simp only [gA,gZ,gS] at c2
 have HPL:Hid (∀ W',Tch [] W W'→Calls Tryz.prog 49 #[.agg #[.bool v.leaf,.slice v.ka v.kn v.kc,.slice v.va v.vn v.vc,.slice v.ia v.im v.ic],.string k] W' fun e w'=>∃ b:Bool,e=.returned (.tuple #[.int .i64 (plcN v.es k:Nat),.bool b])∧Tch [] W' w'):=fun W' t=>by
  have g:=(hgd W hB).keep0 t
  refine (place_any v k W' g.nv g.ok g.caps (by omega) (rise_srt hsr)).mono ?_
  rintro e w' ⟨he,t'⟩
  exact ⟨_,he,t'⟩
 have HGD:=Lib.hid hgd
 have HKD:=Lib.hid hkids
 have HJH:=Lib.hid HJ
 have HIH:Hid (∀ (e:En) (q:List En) W',e ∈ v.es→Below w0.heap.size w0 W'→J (pre++q) W'→(∀ x ∈ ho (mN T.f) h e.kid k,Px x)→(pre++q).length+(ho (mN T.f) h e.kid k).length≤N→Calls Tryz.prog 95 #[.pointer (some ⟨tb,0,none⟩),.int .i64 e.kid,.string k,.func (.yield l) #[] #[]] W' (HoPost w0.heap.size J Jx (ho (mN T.f) h e.kid k) (pre++q) W')):=fun e q W' he h1 h2 h4 h3=>ih e.kid (pre++q) W' h1 (hkids e he).1 ⟨(hkids e he).2.1,(hkids e he).2.2.1⟩ h2 h4 h3
 have HB:=Lib.hid hB
 have hplt:plcN v.es k≤v.es.length:=by
  rcases Nat.eq_zero_or_pos v.es.length with h | h
  · rw [List.eq_nil_of_length_eq_zero h]; simp [plcN,plcE]
  · exact Nat.le_of_lt (plcN_lt v.es k h)
 have hkn:v.kn=v.es.length:=by rw [(hgd W hB).nv.rk.hlen,← v.keysE,List.length_map]
 have hsz0:w0.heap.size≤W.heap.size:=hB.size
 have HTR:=Lib.hid (fun W' (h:Below w0.heap.size w0 W')=>blk_cell (ht.keep0 (Tch.ofBelow h)).blk 0)
 have HKN:=Lib.hid hkn
 clear ht hB s hes hho hsr hgd htW hkids HJ ih hT0 hkn
 generalize hQ:HoPost w0.heap.size J Jx ((v.es.drop (plcN v.es k)).flatMap fun e=>ho (mN T.f) h e.kid k) pre W=Q
 have HQ:Hid (∀ e W',HoPost w0.heap.size J Jx ((v.es.drop (plcN v.es k)).flatMap fun e=>ho (mN T.f) h e.kid k) pre W e W'→Q e W'):=fun e W' h=>by rw [← hQ]; exact h
 clear hQ
 generalize hL:(v.es.drop (plcN v.es k)).flatMap (fun e=>ho (mN T.f) h e.kid k)=L at *
 have HL:=Lib.hid hL
 have HPX:=Lib.hid hPx
 clear hPx
 have HV:=Lib.hid hv
 clear hL hv
 unfold vNv at hv1
 generalize T.mb=mb at *
 obtain ⟨W1,hW1⟩:∃ W1,W1=W.alloc (.cells #[.bool v.leaf,.slice v.ka v.kn v.kc,.slice v.va v.vn v.vc,.slice v.ia v.im v.ic] 138):=⟨_,rfl⟩
 have T1:Tch [] W W1:=by rw [hW1]; exact (Tch.refl _ _).alloc _
 have hb1:W1.heap[W.heap.size]?=some (.cells #[.bool v.leaf,.slice v.ka v.kn v.kc,.slice v.va v.vn v.vc,.slice v.ia v.im v.ic] 138 (0,0)):=by rw [hW1]; exact blk_new _ _
 have n0:=blk_cell hb1 0
 have n1:=blk_cell hb1 1
 have n2:=blk_cell hb1 2
 have n3:=blk_cell hb1 3
 simp only [gA,gZ,gS] at n0 n1 n2 n3
 go_enter Tryz.func95,Tryz.ntmps95
 go_upto_region 2 with (at_lookup; refine wpList_lookup_mp _ rfl _ _ 124 rfl 138 Tryz.underlying124 (zeroNd _) mb mbnd _ rfl hmp a rfl hwx _ hv1 ?_)
 rw [← hW1]
 clear hW1 hmp hv1 c2
 go_wp2_with (go_at_call 49; (with_reducible refine (HPL.out _ T1).mono ?_); rintro e w2 ⟨hit,rfl,t2⟩)
 have hb2:=t2.keep hb1 (by simp)
 have T2:=T1.trans t2
 have hJ2:=HJH.out _ _ _ hJ T2
 clear n0 n1 n2 n3 hb1 T1 t2 HPL hJ
 generalize hX:W.heap.size=X at *
 go_loopg [12] (v.es.length - plcN v.es k) (fun n v12 wr=>HoRel w0 W X v (fun l=>l.flatMap fun e=>ho (mN T.f) h e.kid k) L pre J n v12 wr)
 case atStart=>exact ⟨plcN v.es k,[],by omega,rfl,by rw [List.nil_append]; exact HL.out,by rw [List.append_nil]; exact hJ2,KpN.tch T2,hb2⟩
 case round =>
  obtain ⟨i,q,hni,rfl,hq,hJr,hkp,hb⟩:=hrel
  dsimp only at hq
  clear hJ2 hb2 T2
  have m0:=blk_cell hb 0
  have m1:=blk_cell hb 1
  have m2:=blk_cell hb 2
  have m3:=blk_cell hb 3
  simp only [gA,gZ,gS] at m0 m1 m2 m3
  have hkn:=HKN.out
  rw [hkn] at m1
  clear hkn
  match gk,hni with
  | 0,hni =>
   have hi:i=v.es.length:=by omega
   rw [hi,List.drop_length] at hq
   have HE:=Lib.hid (HQ.out (.returned (.bool true)) wr (Or.inl ⟨rfl,by rw [← hq,List.flatMap_nil,List.append_nil]; exact hJr,hkp⟩))
   have hlt:decide (i < v.es.length)=false:=decide_eq_false (by omega)
   clear hi hb hJr hkp m0 m2 m3 hq
   go_wp2_with fail
   first | exact HE.out | (go_ret; exact HE.out)
  | m+1,hni =>
   have hi:i < v.es.length:=by omega
   have hlt:decide (i < v.es.length)=true:=decide_eq_true hi
   have hBr:Below w0.heap.size w0 wr:=HB.out.trans (hkp.below (by omega))
   have hg:=HGD.out wr hBr
   obtain ⟨e,he⟩:∃ e,e=v.es[i]:=⟨_,rfl⟩
   have hem:e ∈ v.es:=by rw [he]; exact List.getElem_mem hi
   have hge:v.es[i]?=some e:=by rw [he]; exact List.getElem?_eq_getElem hi
   have hdrop:v.es.drop i=e :: v.es.drop (i+1):=by rw [he]; exact List.drop_eq_getElem_cons hi
   have hlf:=(HKD.out e hem).2.2.2
   have hki:v.kids[i]?=some e.kid:=by rw [← Nv.kidsE hg.lens hlf,List.getElem?_map,hge]; rfl
   have him:v.im=v.kids.length:=hg.nv.ri.hlen
   have hilt:=(List.getElem?_eq_some_iff.1 hki).1
   have hia:=hg.nv.ri.some_ (by omega)
   have k0:=hg.nv.ri.one hki rfl
   have hi0:(0:Int)≤(i:Int):=by omega
   have hi1:(i:Int) < (v.es.length:Int):=by omega
   have hi2:(i:Int) < (v.im:Int):=by omega
   have hi3:(i:Int)≤400:=by omega
   rw [hlf] at m0
   rw [hia] at m3
   rw [hdrop,List.flatMap_cons,← List.append_assoc] at hq
   have hC:=HIH.out e q wr hem hBr hJr (fun x hx=>HPX.out x (by rw [← hq]; simp only [List.mem_append]; exact Or.inl (Or.inr hx))) (by
    have:=congrArg List.length hq
    simp only [List.length_append] at this ⊢
    omega)
   have HC:=Lib.hid hC
   have HKP:=Lib.hid hkp
   have HBK:=Lib.hid hb
   have HQ2:=Lib.hid hq
   generalize hkid:e.kid=kid at *
   clear hq hb hkp hBr hg he hem hge hdrop hki hia hilt him hlf m2 hJr hC hkid
   clear e
   go_wp2_with (go_at_call 95; (with_reducible refine HC.out.mono ?_); rintro e W3 (⟨rfl,hJ3,hk3⟩ | ⟨rfl,r,hr,hx3⟩))
   · go_roundg m
     case measure=>omega
     case rel=>exact ⟨i+1,q++ho (mN T.f) h kid k,by omega,by go_num,HQ2.out,by rw [← List.append_assoc]; exact hJ3,HKP.out.trans hk3,hk3.node HBK.out⟩
   · have hfin:=HQ.out (.returned (.bool false)) W3 (Or.inr ⟨rfl,q++r,by
      obtain ⟨z,hz⟩:=hr
      refine ⟨z++(v.es.drop (i+1)).flatMap (fun e=>ho (mN T.f) h e.kid k),?_⟩
      rw [← HQ2.out,← hz]
      simp only [List.append_assoc],by rw [← List.append_assoc]; exact hx3⟩)
     first | exact hfin | (go_ret; exact hfin)
theorem handOut_any (Px:En→Prop) (tb:Nat) (T:Tv) (w0:World) (l N:Nat) (J Jx:List En→World→Prop) (k:ByteArray) (ht:IsTr w0 tb T) (hk:k.size≤10000000) (HJ:∀ s W W',J s W→Tch [] W W'→J s W') (hY:YOk Px l w0.heap.size N J Jx):∀ h,HoOk Px tb T w0 l N J Jx k h
 | 0=>handOut_leaf Px tb T w0 l N J Jx k ht hk HJ hY
 | h+1=>handOut_step Px tb h T w0 l N J Jx k ht hk HJ (handOut_any Px tb T w0 l N J Jx k ht hk HJ hY h)
end Go.Proofs.YtlkgnljdpakkcaaGreatDoor
/-
 'pairs' of a tree: what it hands a loop; 'rises'.
-/
namespace Go.Proofs.YtlkgnljdpakkcaaGreatDoor
open Go.RowKit Go.Shelf
set_option linter.unusedVariables false
attribute [local go_sem] Oper.semAt_some
set_option maxHeartbeats 1000000 in
theorem pairs_any (tb:Nat) (k:ByteArray) (w:World):Calls Tryz.prog 51 #[.pointer (some ⟨tb,0,none⟩),.string k] w fun e w'=>e=.returned (.func (.func 94) #[] #[.pointer (some ⟨w.heap.size,0,none⟩),.pointer (some ⟨w.heap.size+1,0,none⟩)])∧w'=(w.alloc (.cells #[.pointer (some ⟨tb,0,none⟩)] 25)).alloc (.cells #[.string k] 9):=by
 go_enter Tryz.func51,Tryz.ntmps51
 go_wp2_with fail
 go_ret
 exact ⟨rfl,rfl⟩
theorem yield_any {m:Nat} (m':Nat) {l:Nat} {args:Array Value} {W:World} {R:Ending→World→Prop} (h:YieldAt Fence.wide m Tryz.prog l args W R):YieldAt Fence.wide m' Tryz.prog l args W R:=by
 obtain ⟨fn,tmps,assign,body,hy,h1,h2⟩:=h
 exact ⟨fn,tmps,assign,body,hy,h1,fun c cs _=>h2 c cs (room_wide _)⟩
theorem Tch.grownNone {A B:World} (t:Tch [] A B):A.grownBy B none:=⟨t.os,t.tape,t.output,t.size,fun k hk _=>t.block k hk (by simp)⟩
set_option maxRecDepth 100000 in
set_option maxHeartbeats 2000000 in
theorem pairsFn_any (Px:En→Prop) (tb h:Nat) (T:Tv) (w0:World) (l N:Nat) (J Jx:List En→World→Prop) (k:ByteArray) (b1 b2:Nat) (W:World) (ht:IsTr w0 tb T) (hk:k.size≤10000000) (HJ:∀ s W W',J s W→Tch [] W W'→J s W') (hY:YOk Px l w0.heap.size N J Jx)
 (hB:Below w0.heap.size w0 W) (s:Sth (mN T.f) h T.root) (hr:0≤T.root∧T.root < (topN:Int)) (h0:J [] W) (hPx:∀ e ∈ ho (mN T.f) h T.root k,Px e) (hN:(ho (mN T.f) h T.root k).length≤N) (c1:W.cell? ⟨b1,0,none⟩=some (.pointer (some ⟨tb,0,none⟩))) (c2:W.cell? ⟨b2,0,none⟩=some (.string k)) :
 Calls Tryz.prog 94 #[.func (.yield l) #[] #[],.pointer (some ⟨b1,0,none⟩),.pointer (some ⟨b2,0,none⟩)] W fun e W'=>(∃ v,e=.returned v)∧((∃ ys,ys=ho (mN T.f) h T.root k∧J ys W')∨(∃ pre,pre <+: ho (mN T.f) h T.root k∧Jx pre W')):=by
 have hC:=handOut_any Px tb T w0 l N J Jx k ht hk HJ hY h T.root [] W.drew (hB.trans ((Tch.refl [] W).drew.below hB.size (by simp))) s hr (HJ _ _ _ h0 (Tch.refl [] W).drew) hPx (by simpa using hN)
 have HC:=Lib.hid hC
 have e0:W.cell? ⟨tb,0,none⟩=some (.int .i64 T.root):=blk_cell (ht.keep0 (Tch.ofBelow hB)).blk 0
 clear hC ht HJ hY hB s h0 hN hPx
 generalize ho (mN T.f) h T.root k=L at *
 go_enter Tryz.func94,Tryz.ntmps94
 go_upto_region 0 with fail
 go_still_tail 8,(by kernel_rfl)
 change wpList _ _ _ _ _ W.drew
 go_wp2_with (go_at_call 95; (with_reducible refine HC.out.mono ?_); rintro e W3 (⟨rfl,hJ3,hk3⟩ | ⟨rfl,r,hr,hx3⟩))
 · go_end0
   exact ⟨⟨_,rfl⟩,Or.inl ⟨_,rfl,by simpa using hJ3⟩⟩
 · go_end0
   exact ⟨⟨_,rfl⟩,Or.inr ⟨r,hr,by simpa using hx3⟩⟩
theorem pairs_stops (n tb h:Nat) (T:Tv) (w0 ws:World) (k:ByteArray) (b1 b2:Nat) (ht:IsTr w0 tb T) (hk:k.size≤10000000) (hB:Below w0.heap.size w0 ws) (s:Sth (mN T.f) h T.root) (hr:0≤T.root∧T.root < (topN:Int))
 (c1:ws.heap[b1]?=some (.cells #[.pointer (some ⟨tb,0,none⟩)] 25 (0,0))) (c2:ws.heap[b2]?=some (.cells #[.string k] 9 (0,0))) :
 SeqStopsK Fence.wide n Tryz.prog 94 #[.pointer (some ⟨b1,0,none⟩),.pointer (some ⟨b2,0,none⟩)] (fun x:En=>#[.string x.key,.string x.val]) (KpN w0.heap.size) (fun ys=>ys=ho (mN T.f) h T.root k) (fun pre=>pre <+: ho (mN T.f) h T.root k) (ho (mN T.f) h T.root k).length ws:=fun l J Jx W hW hJ hJx hY h0=>by
 have t:=Tch.ofBelow hW
 refine callsIn_wide.2 (pairsFn_any (fun _=>True) tb h T w0 l _ J Jx k b1 b2 W ht hk (fun s A B hs tt=>hJ s A B none hs tt.grownNone (by simp)) (fun m pre x W1 _ h1 h2=>yield_any m (hY pre x W1 h1 h2)) (hB.trans (hW.mono hB.size)) s hr h0 (fun _ _=>trivial) (Nat.le_refl _) ?_ ?_)
 · rw [blk_cell (t.keep c1 (by simp))]; rfl
 · rw [blk_cell (t.keep c2 (by simp))]; rfl
theorem pairs_stopsP (Px:En→Prop) (n tb h:Nat) (T:Tv) (w0 ws:World) (k:ByteArray) (b1 b2:Nat) (ht:IsTr w0 tb T) (hk:k.size≤10000000) (hB:Below w0.heap.size w0 ws) (s:Sth (mN T.f) h T.root) (hr:0≤T.root∧T.root < (topN:Int)) (hPx:∀ e ∈ ho (mN T.f) h T.root k,Px e)
 (c1:ws.heap[b1]?=some (.cells #[.pointer (some ⟨tb,0,none⟩)] 25 (0,0))) (c2:ws.heap[b2]?=some (.cells #[.string k] 9 (0,0))) :
 SeqStopsK Fence.wide n Tryz.prog 94 #[.pointer (some ⟨b1,0,none⟩),.pointer (some ⟨b2,0,none⟩)] (fun x:{ e:En // Px e }=>#[.string x.1.key,.string x.1.val]) (KpN w0.heap.size) (fun ys=>ys.map (·.1)=ho (mN T.f) h T.root k) (fun pre=>pre.map (·.1) <+: ho (mN T.f) h T.root k) (ho (mN T.f) h T.root k).length ws:=fun l J Jx W hW hJ hJx hY h0=>by
 have t:=Tch.ofBelow hW
 refine callsIn_wide.2 ((pairsFn_any Px tb h T w0 l (ho (mN T.f) h T.root k).length (fun pre W=>∃ pre':List { e:En // Px e },pre'.map (·.1)=pre∧J pre' W) (fun pre W=>∃ pre':List { e:En // Px e },pre'.map (·.1)=pre∧Jx pre' W) k b1 b2 W ht hk (fun s A B ⟨p,hp,hs⟩ tt=>⟨p,hp,hJ p A B none hs tt.grownNone (by simp)⟩) (fun m pre x W1 hx ⟨p,hp,h1⟩ h2=>?_) (hB.trans (hW.mono hB.size)) s hr ⟨[],rfl,h0⟩ hPx (Nat.le_refl _) ?_ ?_).mono ?_)
 · refine (yield_any m (hY p ⟨x,hx⟩ W1 h1 (by rw [← hp,List.length_map] at h2; exact h2))).mono ?_
   rintro e W2 (⟨he,h3,h4⟩ | ⟨he,h3⟩)
   · exact Or.inl ⟨he,⟨_,by rw [List.map_append,hp]; rfl,h3⟩,h4⟩
   · exact Or.inr ⟨he,_,by rw [List.map_append,hp]; rfl,h3⟩
 · rw [blk_cell (t.keep c1 (by simp))]; rfl
 · rw [blk_cell (t.keep c2 (by simp))]; rfl
 · rintro e W2 ⟨h1,⟨ys,hy,p,hp,h3⟩ | ⟨pre,hpre,p,hp,h3⟩⟩
   · exact ⟨h1,Or.inl ⟨p,hp.trans hy,h3⟩⟩
   · exact ⟨h1,Or.inr ⟨p,by show List.map _ p <+: _; rw [hp]; exact hpre,h3⟩⟩
end Go.Proofs.YtlkgnljdpakkcaaGreatDoor
/-
 Small calls of a tree: the bytes of its sector 0,may a node be the root,may it stand below another one,Sectors.
-/
namespace Go.Proofs.YtlkgnljdpakkcaaGreatDoor
open Go.RowKit
set_option maxRecDepth 100000 in
theorem abytes_any (V:Nat) (w:World) (hV:V < 9223372036854775808):Calls Tryz.prog 102 #[.agg #[.int .i64 V]] w fun e w'=>e=.returned (.string ⟨(ub V).toArray⟩)∧Tch [] w w':=by
 have T0:Tch [] w (w.alloc (.cells #[.int .i64 V] 126)):=(Tch.refl _ _).alloc _
 have HU:Hid (∀ W,Calls Tryz.prog 134 #[.int .u64 V] W fun e w'=>e=.returned (.string ⟨(ub V).toArray⟩)∧Tch [] W w'):=fun W=>uint_any V W (by omega)
 have hm:(V:Int) % 18446744073709551616=V:=Int.emod_eq_of_lt (by omega) (by omega)
 go_enter Tryz.func102,Tryz.ntmps102
 go_wp2_with (go_at_call 134; (with_reducible refine (HU.out _).mono ?_); rintro e w3 ⟨rfl,t3⟩)
 go_ret
 exact ⟨rfl,T0.trans t3⟩
set_option maxRecDepth 100000 in
theorem isRoot_any (v:Nv) (w:World) (h:Gd w v):Calls Tryz.prog 83 #[vNv v] w fun e w'=>e=.returned (.bool (isRt v.nod))∧Tch [] w w':=by
 have T0:Tch [] w (w.alloc (.cells #[.bool v.leaf,.slice v.ka v.kn v.kc,.slice v.va v.vn v.vc,.slice v.ia v.im v.ic] 138)):=(Tch.refl _ _).alloc _
 have hkn:=h.kn
 have HR:isRt v.nod=(decide (1 < v.kn) || (v.leaf && decide (v.kn=1))):=by unfold isRt Nv.nod; rw [hkn]
 rw [HR]
 have hb:=blk_new w (.cells #[.bool v.leaf,.slice v.ka v.kn v.kc,.slice v.va v.vn v.vc,.slice v.ia v.im v.ic] 138)
 have b0:=blk_cell hb 0
 have b1:=blk_cell hb 1
 simp only [gA,gZ,gS] at b0 b1
 clear h hkn HR hb
 unfold vNv
 generalize v.leaf=vleaf at *
 generalize v.ka=vka at *
 generalize v.kn=vkn at *
 generalize v.kc=vkc at *
 generalize v.va=vva at *
 generalize v.vn=vvn at *
 generalize v.vc=vvc at *
 generalize v.ia=via at *
 generalize v.im=vim at *
 generalize v.ic=vic at *
 by_cases h1:1 < vkn
 · have hI:(1:Int) < (vkn:Int):=by omega
   have hr:(decide (1 < vkn) || (vleaf && decide (vkn=1)))=true:=by simp [h1]
   rw [hr]
   clear hr
   go_enter Tryz.func83,Tryz.ntmps83
   go_wp2_with fail
   all_goals first | omega | (go_ret; exact ⟨rfl,T0⟩)
 · have hI:¬ (1:Int) < (vkn:Int):=by omega
   cases vleaf
   · have hr:(decide (1 < vkn) || (false && decide (vkn=1)))=false:=by simp [h1]
     rw [hr]
     clear hr
     go_enter Tryz.func83,Tryz.ntmps83
     go_wp2_with fail
     all_goals first | omega | (go_ret; exact ⟨rfl,T0⟩)
   · have hr:(decide (1 < vkn) || (true && decide (vkn=1)))=((vkn:Int) == 1):=by
      by_cases h2:vkn=1
      · simp [h2]
      · simp [h1,h2]; omega
     rw [hr]
     clear hr
     go_enter Tryz.func83,Tryz.ntmps83
     go_wp2_with fail
     all_goals first | omega | (go_ret; exact ⟨rfl,T0⟩)
set_option maxRecDepth 100000 in
theorem isKid_any (v:Nv) (key:ByteArray) (w:World) (h:Gd w v) (hne:v.es≠[]):Calls Tryz.prog 121 #[vNv v,.string key] w fun e w'=>e=.returned (.bool (!v.nod.lean && (v.nod.fk.toList == key.toList)))∧Tch [] w w':=by
 have T0:Tch [] w (w.alloc (.cells #[.bool v.leaf,.slice v.ka v.kn v.kc,.slice v.va v.vn v.vc,.slice v.ia v.im v.ic] 138)):=(Tch.refl _ _).alloc _
 have HLN:Hid (∀ W,Tch [] w W→Calls Tryz.prog 158 #[vNv v] W fun e w'=>e=.returned (.bool v.nod.lean)∧Tch [] W w'):=fun W t=>isLean_any v W (h.keep0 t)
 obtain ⟨l,hl⟩:=h.key0 hne
 have HK:Hid (∀ W,Tch [] w W→W.cell? ⟨v.kb,v.ko,none⟩=some (.string v.nod.fk)):=fun W t=>by
  have r:=(h.keep0 t).nv.rk
  rw [hl] at r
  have:=r.one (k:=0) rfl (v:=.string v.nod.fk) rfl
  simpa using this
 have hkp:0 < v.kn:=by have:=h.nv.rk.hlen; rw [hl] at this; simp at this; omega
 have hka:=h.nv.rk.some_ hkp
 have hb:=blk_new w (.cells #[.bool v.leaf,.slice v.ka v.kn v.kc,.slice v.va v.vn v.vc,.slice v.ia v.im v.ic] 138)
 have HB:Hid (∀ W,Tch [] (w.alloc (.cells #[.bool v.leaf,.slice v.ka v.kn v.kc,.slice v.va v.vn v.vc,.slice v.ia v.im v.ic] 138)) W→W.heap[w.heap.size]?=some (.cells #[.bool v.leaf,.slice v.ka v.kn v.kc,.slice v.va v.vn v.vc,.slice v.ia v.im v.ic] 138 (0,0))):=fun W t=>t.keep hb (by simp)
 have hkI:(0:Int) < (v.kn:Int):=by omega
 clear h hl hne hb hkp
 generalize v.nod.lean=b at *
 generalize v.nod.fk=fk at *
 generalize v.kb=kb at *
 generalize v.ko=ko at *
 unfold vNv at *
 generalize v.leaf=vleaf at *
 generalize v.ka=vka at *
 generalize v.kn=vkn at *
 generalize v.kc=vkc at *
 generalize v.va=vva at *
 generalize v.vn=vvn at *
 generalize v.vc=vvc at *
 generalize v.ia=via at *
 generalize v.im=vim at *
 generalize v.ic=vic at *
 subst hka
 generalize hW0:w.alloc (.cells #[.bool vleaf,.slice (some ⟨kb,ko,none⟩) vkn vkc,.slice vva vvn vvc,.slice via vim vic] 138)=W0 at *
 have hb0:=HB.out W0 (Tch.refl _ _)
 have n0:=blk_cell hb0 0
 have n1:=blk_cell hb0 1
 have n2:=blk_cell hb0 2
 have n3:=blk_cell hb0 3
 simp only [gA,gZ,gS] at n0 n1 n2 n3
 clear hb0
 cases b
 · go_enter Tryz.func121,Tryz.ntmps121
   go_upto_region 1 with fail
   try rw [hW0]
   clear hW0
   go_wp2_with (go_at_call 158; (with_reducible refine (HLN.out _ T0).mono ?_); rintro e w3 ⟨rfl,t3⟩; have hb3:=HB.out w3 t3; have m1:=blk_cell hb3 1; simp only [gA,gZ,gS] at m1; have k0:=HK.out w3 (T0.trans t3))
   go_ret
   exact ⟨rfl,T0.trans t3⟩
 · go_enter Tryz.func121,Tryz.ntmps121
   go_upto_region 1 with fail
   try rw [hW0]
   clear hW0
   go_wp2_with (go_at_call 158; (with_reducible refine (HLN.out _ T0).mono ?_); rintro e w3 ⟨rfl,t3⟩; have hb3:=HB.out w3 t3; have m1:=blk_cell hb3 1; simp only [gA,gZ,gS] at m1; have k0:=HK.out w3 (T0.trans t3))
   go_ret
   exact ⟨rfl,T0.trans t3⟩
end Go.Proofs.YtlkgnljdpakkcaaGreatDoor
/-
 slices.Equal at strings and at ints; 'areAlike'.
-/
namespace Go.Proofs.YtlkgnljdpakkcaaGreatDoor
open Go.RowKit
theorem ba_tl {a b:ByteArray} (h:a.toList=b.toList):a=b:=by
 rw [ByteArray.toList_eq,ByteArray.toList_eq] at h
 exact ba_ext h
def EqRel {α:Type} (xs ys:List α) (w:World) (v13:Value) (wr:World):Prop :=
 ∃ k:Nat,k≤xs.length∧v13=.int .i64 (k:Nat)∧xs.take k=ys.take k∧Tch [] w wr
theorem take_ne {α:Type} {xs ys:List α} {k:Nat} (hx:k < xs.length) (hy:k < ys.length) (h:xs[k]≠ys[k]):xs≠ys:=fun e=>by subst e; exact h rfl
theorem take_step {α:Type} {xs ys:List α} {k:Nat} (hx:k < xs.length) (hy:k < ys.length) (h:xs[k]=ys[k]) (ht:xs.take k=ys.take k):xs.take (k+1)=ys.take (k+1):=by
 rw [List.take_add_one,List.take_add_one,ht,List.getElem?_eq_getElem hx,List.getElem?_eq_getElem hy,h]
set_option maxRecDepth 100000 in
set_option maxHeartbeats 4000000 in
theorem eqS_any (a1 a2:Option Addr) (n1 n2 c1 c2 b1 b2 o1 o2:Nat) (xs ys:List ByteArray) (w:World) (h1:IsR fStr 1 w a1 n1 b1 o1 xs) (h2:IsR fStr 1 w a2 n2 b2 o2 ys) (hm:n1≤1000000000) :
 Calls Tryz.prog 141 #[.slice a1 n1 c1,.slice a2 n2 c2] w fun e w'=>e=.returned (.bool (decide (xs=ys)))∧Tch [] w w':=by
 obtain rfl:=h1.hlen
 obtain rfl:=h2.hlen
 have H1:Hid (∀ W,Tch [] w W→∀ k (hk:k < xs.length),W.cell? ⟨b1,o1+k,none⟩=some (.string xs[k])∧a1=some ⟨b1,o1,none⟩):=fun W t k hk=>⟨(h1.keep0 t).one (List.getElem?_eq_getElem hk) rfl,h1.some_ (by omega)⟩
 have H2:Hid (∀ W,Tch [] w W→∀ k (hk:k < ys.length),W.cell? ⟨b2,o2+k,none⟩=some (.string ys[k])∧a2=some ⟨b2,o2,none⟩):=fun W t k hk=>⟨(h2.keep0 t).one (List.getElem?_eq_getElem hk) rfl,h2.some_ (by omega)⟩
 clear h1 h2
 by_cases hl:xs.length=ys.length
 · have hb:((xs.length:Int) != (ys.length:Int))=false:=by rw [hl]; simp
   have HL:=Lib.hid hl
   have HT:Hid (decide (xs=ys)=decide (xs.take xs.length=ys.take xs.length)):=by
    show _=_
    rw [List.take_length]
    conv=>rhs; rw [show xs.length=ys.length from hl,List.take_length]
   clear hl
   go_enter Tryz.func141,Tryz.ntmps141
   go_wp2_with fail
   go_loopw [13] (fun v13 wr=>EqRel xs ys w v13 wr) (fun v13 _=>xs.length - (intOf v13).toNat)
   case atStart=>exact ⟨0,Nat.zero_le _,rfl,rfl,Tch.refl _ _⟩
   case round =>
    obtain ⟨k,hk,rfl,htk,t⟩:=hrel
    by_cases hlt:k < xs.length
    · have hlt2:k < ys.length:=by have:=HL.out; omega
      obtain ⟨e1,ha1⟩:=H1.out wr t k hlt
      obtain ⟨e2,ha2⟩:=H2.out wr t k hlt2
      have HS:=Lib.hid (take_step hlt hlt2 · htk)
      have HN:=Lib.hid (take_ne hlt hlt2)
      have hI0:(0:Int)≤(k:Int):=by omega
      have hI1:(k:Int) < (xs.length:Int):=by omega
      have hI2:(k:Int) < (ys.length:Int):=by omega
      generalize xs[k]=x at *
      generalize ys[k]=y at *
      subst ha1 ha2
      by_cases hxy:x=y
      · subst hxy
        have hs:=Lib.hid (HS.out rfl)
        go_wp2_with fail
        go_quiet (fail)
        go_wp2_with fail
        go_roundw
        case rel=>exact ⟨k+1,by omega,by go_num,hs.out,tdrewN t _⟩
        case measure=>simp [intOf]; omega
      · have hne:(x.toList == y.toList)=false:=by
         rw [beq_eq_false_iff_ne]
         exact fun e=>hxy (ba_tl e)
        have hne2:=Lib.hid (HN.out hxy)
        have HD:Hid (decide (xs=ys)=false):=decide_eq_false hne2.out
        go_wp2_with fail
        go_quiet (fail)
        go_wp2_with fail
        go_ret
        exact ⟨by rw [HD.out]; rfl,tdrewN t _⟩
    · obtain rfl:k=xs.length:=by omega
      have HD:Hid (decide (xs=ys)=true):=by
       show _=_
       rw [HT.out]; exact decide_eq_true htk
      clear htk
      go_wp2_with fail
      go_ret
      exact ⟨by rw [HD.out]; rfl,t⟩
 · have hb:((xs.length:Int) != (ys.length:Int))=true:=by simp; omega
   have hd:decide (xs=ys)=false:=decide_eq_false (fun e=>hl (by rw [e]))
   rw [hd]
   clear hd hl
   go_enter Tryz.func141,Tryz.ntmps141
   go_wp2_with fail
   go_ret
   exact ⟨rfl,Tch.refl _ _⟩
set_option maxRecDepth 100000 in
set_option maxHeartbeats 4000000 in
theorem eqI_any (a1 a2:Option Addr) (n1 n2 c1 c2 b1 b2 o1 o2:Nat) (xs ys:List Int) (w:World) (h1:IsR fInt 1 w a1 n1 b1 o1 xs) (h2:IsR fInt 1 w a2 n2 b2 o2 ys) (hm:n1≤1000000000) :
 Calls Tryz.prog 142 #[.slice a1 n1 c1,.slice a2 n2 c2] w fun e w'=>e=.returned (.bool (decide (xs=ys)))∧Tch [] w w':=by
 obtain rfl:=h1.hlen
 obtain rfl:=h2.hlen
 have H1:Hid (∀ W,Tch [] w W→∀ k (hk:k < xs.length),W.cell? ⟨b1,o1+k,none⟩=some (.int .i64 xs[k])∧a1=some ⟨b1,o1,none⟩):=fun W t k hk=>⟨(h1.keep0 t).one (List.getElem?_eq_getElem hk) rfl,h1.some_ (by omega)⟩
 have H2:Hid (∀ W,Tch [] w W→∀ k (hk:k < ys.length),W.cell? ⟨b2,o2+k,none⟩=some (.int .i64 ys[k])∧a2=some ⟨b2,o2,none⟩):=fun W t k hk=>⟨(h2.keep0 t).one (List.getElem?_eq_getElem hk) rfl,h2.some_ (by omega)⟩
 clear h1 h2
 by_cases hl:xs.length=ys.length
 · have hb:((xs.length:Int) != (ys.length:Int))=false:=by rw [hl]; simp
   have HL:=Lib.hid hl
   have HT:Hid (decide (xs=ys)=decide (xs.take xs.length=ys.take xs.length)):=by
    show _=_
    rw [List.take_length]
    conv=>rhs; rw [show xs.length=ys.length from hl,List.take_length]
   clear hl
   go_enter Tryz.func142,Tryz.ntmps142
   go_wp2_with fail
   go_loopw [13] (fun v13 wr=>EqRel xs ys w v13 wr) (fun v13 _=>xs.length - (intOf v13).toNat)
   case atStart=>exact ⟨0,Nat.zero_le _,rfl,rfl,Tch.refl _ _⟩
   case round =>
    obtain ⟨k,hk,rfl,htk,t⟩:=hrel
    by_cases hlt:k < xs.length
    · have hlt2:k < ys.length:=by have:=HL.out; omega
      obtain ⟨e1,ha1⟩:=H1.out wr t k hlt
      obtain ⟨e2,ha2⟩:=H2.out wr t k hlt2
      have HS:=Lib.hid (take_step hlt hlt2 · htk)
      have HN:=Lib.hid (take_ne hlt hlt2)
      have hI0:(0:Int)≤(k:Int):=by omega
      have hI1:(k:Int) < (xs.length:Int):=by omega
      have hI2:(k:Int) < (ys.length:Int):=by omega
      generalize xs[k]=x at *
      generalize ys[k]=y at *
      subst ha1 ha2
      by_cases hxy:x=y
      · subst hxy
        have hs:=Lib.hid (HS.out rfl)
        go_wp2_with fail
        go_quiet (fail)
        go_wp2_with fail
        go_roundw
        case rel=>exact ⟨k+1,by omega,by go_num,hs.out,tdrewN t _⟩
        case measure=>simp [intOf]; omega
      · have hne:(x == y)=false:=beq_eq_false_iff_ne.2 hxy
        have hne2:=Lib.hid (HN.out hxy)
        have HD:Hid (decide (xs=ys)=false):=decide_eq_false hne2.out
        go_wp2_with fail
        go_quiet (fail)
        go_wp2_with fail
        go_ret
        exact ⟨by rw [HD.out]; rfl,tdrewN t _⟩
    · obtain rfl:k=xs.length:=by omega
      have HD:Hid (decide (xs=ys)=true):=by
       show _=_
       rw [HT.out]; exact decide_eq_true htk
      clear htk
      go_wp2_with fail
      go_ret
      exact ⟨by rw [HD.out]; rfl,t⟩
 · have hb:((xs.length:Int) != (ys.length:Int))=true:=by simp; omega
   have hd:decide (xs=ys)=false:=decide_eq_false (fun e=>hl (by rw [e]))
   rw [hd]
   clear hd hl
   go_enter Tryz.func142,Tryz.ntmps142
   go_wp2_with fail
   go_ret
   exact ⟨rfl,Tch.refl _ _⟩
end Go.Proofs.YtlkgnljdpakkcaaGreatDoor
/-
 'areAlike': are two nodes the same?
-/
namespace Go.Proofs.YtlkgnljdpakkcaaGreatDoor
open Go.RowKit
theorem nod_alike {v u:Nv} (hv:v.lens=true) (hu:u.lens=true):v.nod=u.nod↔v.leaf=u.leaf∧v.keys=u.keys∧v.vals=u.vals∧v.kids=u.kids:=by
 constructor
 · intro h
   have e1:v.leaf=u.leaf:=congrArg Nod.leaf h
   have e2:v.es=u.es:=congrArg Nod.es h
   refine ⟨e1,by rw [← v.keysE,← u.keysE,e2],?_,?_⟩
   · cases hl:v.leaf
     · rw [(Nv.nilE hv).2 hl,(Nv.nilE hu).2 (by rw [← e1]; exact hl)]
     · rw [← Nv.valsE hv hl,← Nv.valsE hu (by rw [← e1]; exact hl),e2]
   · cases hl:v.leaf
     · rw [← Nv.kidsE hv hl,← Nv.kidsE hu (by rw [← e1]; exact hl),e2]
     · rw [(Nv.nilE hv).1 hl,(Nv.nilE hu).1 (by rw [← e1]; exact hl)]
 · rintro ⟨h1,h2,h3,h4⟩
   unfold Nv.nod Nv.es
   rw [h1,h2,h3,h4]
set_option maxRecDepth 100000 in
set_option maxHeartbeats 4000000 in
theorem areAlike_any (v u:Nv) (w:World) (hv:Gd w v) (hu:Gd w u):Calls Tryz.prog 103 #[vNv v,vNv u] w fun e w'=>e=.returned (.bool ((v.leaf == u.leaf) && decide (v.keys=u.keys) && decide (v.vals=u.vals) && decide (v.kids=u.kids)))∧Tch [] w w':=by
 obtain ⟨W0,hW0⟩:∃ W0,W0=(w.alloc (.cells #[.bool v.leaf,.slice v.ka v.kn v.kc,.slice v.va v.vn v.vc,.slice v.ia v.im v.ic] 138)).alloc (.cells #[.bool u.leaf,.slice u.ka u.kn u.kc,.slice u.va u.vn u.vc,.slice u.ia u.im u.ic] 138):=⟨_,rfl⟩
 have T0:Tch [] w W0:=by rw [hW0]; exact ((Tch.refl _ _).alloc _).alloc _
 have hb1:W0.heap[w.heap.size]?=some (.cells #[.bool v.leaf,.slice v.ka v.kn v.kc,.slice v.va v.vn v.vc,.slice v.ia v.im v.ic] 138 (0,0)):=by rw [hW0]; exact blk_alloc (blk_new _ _) _
 have hb2:W0.heap[w.heap.size+1]?=some (.cells #[.bool u.leaf,.slice u.ka u.kn u.kc,.slice u.va u.vn u.vc,.slice u.ia u.im u.ic] 138 (0,0)):=by
  rw [hW0,show w.heap.size+1=(w.alloc (.cells #[.bool v.leaf,.slice v.ka v.kn v.kc,.slice v.va v.vn v.vc,.slice v.ia v.im v.ic] 138)).heap.size from by simp]; exact blk_new _ _
 have HC:Hid (∀ W,Tch [] W0 W→(W.cell? ⟨w.heap.size,0,none⟩=some (.bool v.leaf)∧W.cell? ⟨w.heap.size,1,none⟩=some (.slice v.ka v.kn v.kc)∧W.cell? ⟨w.heap.size,2,none⟩=some (.slice v.va v.vn v.vc)∧W.cell? ⟨w.heap.size,3,none⟩=some (.slice v.ia v.im v.ic)) ∧
  (W.cell? ⟨w.heap.size+1,0,none⟩=some (.bool u.leaf)∧W.cell? ⟨w.heap.size+1,1,none⟩=some (.slice u.ka u.kn u.kc)∧W.cell? ⟨w.heap.size+1,2,none⟩=some (.slice u.va u.vn u.vc)∧W.cell? ⟨w.heap.size+1,3,none⟩=some (.slice u.ia u.im u.ic))):=fun W t=>by
  have h1:=t.keep hb1 (by simp)
  have h2:=t.keep hb2 (by simp)
  exact ⟨⟨by rw [blk_cell h1]; rfl,by rw [blk_cell h1]; rfl,by rw [blk_cell h1]; rfl,by rw [blk_cell h1]; rfl⟩,by rw [blk_cell h2]; rfl,by rw [blk_cell h2]; rfl,by rw [blk_cell h2]; rfl,by rw [blk_cell h2]; rfl⟩
 have HK:Hid (∀ W,Tch [] w W→Calls Tryz.prog 141 #[.slice v.ka v.kn v.kc,.slice u.ka u.kn u.kc] W fun e w'=>e=.returned (.bool (decide (v.keys=u.keys)))∧Tch [] W w'):=fun W t=>eqS_any _ _ _ _ _ _ _ _ _ _ _ _ W (hv.keep0 t).nv.rk (hu.keep0 t).nv.rk (by have:=hv.nv.rk.hlen; have:=hv.ok.lk; omega)
 have HV:Hid (∀ W,Tch [] w W→Calls Tryz.prog 141 #[.slice v.va v.vn v.vc,.slice u.va u.vn u.vc] W fun e w'=>e=.returned (.bool (decide (v.vals=u.vals)))∧Tch [] W w'):=fun W t=>eqS_any _ _ _ _ _ _ _ _ _ _ _ _ W (hv.keep0 t).nv.rv (hu.keep0 t).nv.rv (by have:=hv.nv.rv.hlen; have:=hv.ok.lv; omega)
 have HI:Hid (∀ W,Tch [] w W→Calls Tryz.prog 142 #[.slice v.ia v.im v.ic,.slice u.ia u.im u.ic] W fun e w'=>e=.returned (.bool (decide (v.kids=u.kids)))∧Tch [] W w'):=fun W t=>eqI_any _ _ _ _ _ _ _ _ _ _ _ _ W (hv.keep0 t).nv.ri (hu.keep0 t).nv.ri (by have:=hv.nv.ri.hlen; have:=hv.ok.li; omega)
 obtain ⟨⟨a0,a1,a2,a3⟩,b0,b1,b2,b3⟩:=HC.out W0 (Tch.refl _ _)
 clear hv hu hb1 hb2
 generalize decide (v.keys=u.keys)=dk at *
 generalize decide (v.vals=u.vals)=dv at *
 generalize decide (v.kids=u.kids)=di at *
 unfold vNv
 generalize v.leaf=vleaf at *
 generalize v.ka=vka at *
 generalize v.kn=vkn at *
 generalize v.kc=vkc at *
 generalize v.va=vva at *
 generalize v.vn=vvn at *
 generalize v.vc=vvc at *
 generalize v.ia=via at *
 generalize v.im=vim at *
 generalize v.ic=vic at *
 generalize u.leaf=uleaf at *
 generalize u.ka=uka at *
 generalize u.kn=ukn at *
 generalize u.kc=ukc at *
 generalize u.va=uva at *
 generalize u.vn=uvn at *
 generalize u.vc=uvc at *
 generalize u.ia=uia at *
 generalize u.im=uim at *
 generalize u.ic=uic at *
 generalize hlv:(vleaf == uleaf)=dl at *
 have HLV:=Lib.hid hlv
 cases dl
 · go_enter Tryz.func103,Tryz.ntmps103
   go_upto_region 1 with fail
   rw [← hW0]
   clear hW0
   go_wp2_with fail
   go_ret
   exact ⟨rfl,T0⟩
 · cases dk <;> cases dv
   all_goals
    go_enter Tryz.func103,Tryz.ntmps103
    go_upto_region 1 with fail
    rw [← hW0]
    clear hW0
    go_wp2_with (first | (go_at_call 141; (with_reducible refine (HK.out _ T0).mono ?_); rintro e w3 ⟨rfl,t3⟩; obtain ⟨⟨a0,a1,a2,a3⟩,b0,b1,b2,b3⟩:=HC.out w3 t3) | (go_at_call 141; (with_reducible refine (HV.out _ (T0.trans t3)).mono ?_); rintro e w4 ⟨rfl,t4⟩; obtain ⟨⟨a0,a1,a2,a3⟩,b0,b1,b2,b3⟩:=HC.out w4 (t3.trans t4)) | (go_at_call 142; (with_reducible refine (HI.out _ (T0.trans (t3.trans t4))).mono ?_); rintro e w5 ⟨rfl,t5⟩))
    go_ret
    first
     | exact ⟨rfl,T0.trans (t3.trans (t4.trans t5))⟩
     | exact ⟨rfl,T0.trans (t3.trans t4)⟩
     | exact ⟨rfl,T0.trans t3⟩
end Go.Proofs.YtlkgnljdpakkcaaGreatDoor
/-
 What package node reads of a text,and that it is the document's node: plain mathematics. No condition but that texts are shorter than 10^8 bytes.
-/
namespace Go.Proofs.YtlkgnljdpakkcaaGreatDoor
theorem ndrop_all (l:List UInt8) (h:l.all (· == 0)=true):l.dropWhile (· == 0)=[]:=by
 induction l with
 | nil=>rfl
 | cons a l ih =>
  simp only [List.all_cons,Bool.and_eq_true] at h
  rw [List.dropWhile_cons,if_pos h.1,ih h.2]
theorem ndrop_some (l:List UInt8) (h:l.all (· == 0)=false):(l.dropWhile (· == 0)).all (· == 0)=false:=by
 induction l with
 | nil=>simp at h
 | cons a l ih =>
  rw [List.dropWhile_cons]
  by_cases ha:(a == 0)=true
  · rw [if_pos ha]
    simp only [List.all_cons,ha,Bool.true_and] at h
    exact ih h
  · rw [if_neg ha]; exact h
theorem ntrim_nil {l:List UInt8} (h:nil0 l=true):Lib.trimB l 0=[]:=by
 unfold Lib.trimB Lib.trimRightB Lib.trimLeftB
 rw [ndrop_all l.reverse (by unfold nil0 at h; rw [List.all_reverse]; exact h)]
 rfl
theorem ntrim_some {l:List UInt8} (h:nil0 l=false):Lib.trimB l 0≠[]:=by
 unfold Lib.trimB Lib.trimRightB Lib.trimLeftB
 have h1:=ndrop_some l.reverse (by unfold nil0 at h; rw [List.all_reverse]; exact h)
 have h2:=ndrop_some (l.reverse.dropWhile (· == 0)).reverse (by rw [List.all_reverse]; exact h1)
 intro h3
 rw [h3] at h2
 simp at h2
theorem nrdu_cases (L:List UInt8):(∃ c:Int,c≠0∧rdu L 0 0=(c,0,0))∨∃ u n:Nat,rdu L 0 0=(0,u,n)∧u < 18446744073709551616∧n≤L.length:=by
 have key:∀ (l:List UInt8) (i v:Nat),(∃ c:Int,c≠0∧rdu l i v=(c,0,0))∨∃ u n:Nat,rdu l i v=(0,u,n):=by
  intro l
  induction l with
  | nil =>
   intro i v
   by_cases hi:i=10
   · subst hi; exact Or.inl ⟨21,by omega,rdu_10 _ _⟩
   · exact Or.inl ⟨20,by omega,rdu_nil _ hi⟩
  | cons b l ih =>
   intro i v
   by_cases hi:i=10
   · subst hi; exact Or.inl ⟨21,by omega,rdu_10 _ _⟩
   by_cases hb:128≤b.toNat
   · rw [rdu_more l v hi hb]; exact ih _ _
   · by_cases h0:b.toNat=0∧i≠0
     · exact Or.inl ⟨21,by omega,rdu_zero l v hi h0.1 h0.2⟩
     · by_cases h9:i=9∧1 < b.toNat
       · obtain ⟨rfl,h9⟩:=h9
         exact Or.inl ⟨21,by omega,rdu_ten l v (by omega) h9⟩
       · exact Or.inr ⟨_,_,rdu_last l v hi (by omega) h0 h9⟩
 rcases key L 0 0 with h | ⟨u,n,h⟩
 · exact Or.inl h
 · have:=rdu_bound L 0 0 0 u n h (by simp) (by omega) rfl
   exact Or.inr ⟨u,n,h,this.1,by omega⟩
def pde (leaf:Bool) (L:List UInt8):Option (En × Nat) :=
 if (rtx L).1≠0 then none
 else if leaf then (if (rtx (L.drop (rtx L).2.2)).1≠0 then none else some (⟨(rtx L).2.1,(rtx (L.drop (rtx L).2.2)).2.1,0⟩,(rtx L).2.2+(rtx (L.drop (rtx L).2.2)).2.2))
 else (if (rdu (L.drop (rtx L).2.2) 0 0).1≠0 then none else some (⟨(rtx L).2.1,⟨#[]⟩,((min (rdu (L.drop (rtx L).2.2) 0 0).2.1 16384:Nat):Int)⟩,(rtx L).2.2+(rdu (L.drop (rtx L).2.2) 0 0).2.2))
def pdes (leaf:Bool) (L:List UInt8):Nat→Nat→List En→Option (List En × Nat)
 | 0,p,es=>some (es,p)
 | c+1,p,es=>match pde leaf (L.drop p) with
  | none=>none
  | some (e,n)=>pdes leaf L c (p+n) (es++[e])
def prd (L:List UInt8):Option (Bool × List En × Nat) :=
 match L with
 | []=>none
 | b :: M =>
  if b≠1∧b≠2 then none else if (rdu M 0 0).1≠0 then none else
  match pdes (b == 1) L (rdu M 0 0).2.1 (1+(rdu M 0 0).2.2) [] with
  | none=>none
  | some (es,p)=>some (b == 1,es,p)
theorem pde_of_rde {leaf:Bool} {L:List UInt8} {e:En} {n:Nat} (h:rde leaf L=some (e,n)):pde leaf L=some (e,n):=by
 unfold rde at h
 unfold pde
 by_cases hc:(rtx L).1≠0
 · rw [if_pos hc] at h; cases h
 · rw [if_neg hc] at h ⊢
   cases leaf
   · simp only [if_false,Bool.false_eq_true] at h ⊢
     by_cases h2:(rdu (L.drop (rtx L).2.2) 0 0).1≠0∨16384≤(rdu (L.drop (rtx L).2.2) 0 0).2.1
     · rw [if_pos h2] at h; cases h
     · rw [if_neg h2] at h
       rw [if_neg (by omega),← h,show min (rdu (L.drop (rtx L).2.2) 0 0).2.1 16384=(rdu (L.drop (rtx L).2.2) 0 0).2.1 from by omega]
   · exact h
theorem rde_of_pde {leaf:Bool} {L:List UInt8} {e:En} {n:Nat} (h:pde leaf L=some (e,n)) (hk:leaf=true∨e.kid < 16384):rde leaf L=some (e,n):=by
 unfold pde at h
 unfold rde
 by_cases hc:(rtx L).1≠0
 · rw [if_pos hc] at h; cases h
 · rw [if_neg hc] at h ⊢
   cases leaf
   · simp only [if_false,Bool.false_eq_true] at h ⊢
     by_cases h2:(rdu (L.drop (rtx L).2.2) 0 0).1≠0
     · rw [if_pos h2] at h; cases h
     · rw [if_neg h2] at h
       cases h
       have h3:(rdu (L.drop (rtx L).2.2) 0 0).2.1 < 16384:=by
        rcases hk with hk | hk
        · cases hk
        · simp only at hk; omega
       rw [if_neg (by omega),show min (rdu (L.drop (rtx L).2.2) 0 0).2.1 16384=(rdu (L.drop (rtx L).2.2) 0 0).2.1 from by omega]
   · exact h
theorem pdes_of_rdes {leaf:Bool} {L:List UInt8}:∀ (c p:Nat) (pre:List En) x,rdes leaf L c p pre=some x→pdes leaf L c p pre=some x
 | 0,p,pre,x,h=>h
 | c+1,p,pre,x,h=>by
  rw [rdes] at h
  rw [pdes]
  rcases hd:rde leaf (L.drop p) with _ | ⟨e,n⟩
  · rw [hd] at h; cases h
  · rw [hd] at h
    rw [pde_of_rde hd]
    exact pdes_of_rdes c (p+n) (pre++[e]) x h
theorem pdes_mem {leaf:Bool} {L:List UInt8}:∀ (c p:Nat) (pre es:List En) (q:Nat),pdes leaf L c p pre=some (es,q)→∀ e ∈ pre,e ∈ es
 | 0,p,pre,es,q,h,e,he=>by simp only [pdes,Option.some.injEq,Prod.mk.injEq] at h; rw [← h.1]; exact he
 | c+1,p,pre,es,q,h,e,he=>by
  rw [pdes] at h
  rcases hd:pde leaf (L.drop p) with _ | ⟨a,n⟩
  · rw [hd] at h; cases h
  · rw [hd] at h
    exact pdes_mem c (p+n) (pre++[a]) es q h e (List.mem_append_left _ he)
theorem rdes_of_pdes {leaf:Bool} {L:List UInt8}:∀ (c p:Nat) (pre es:List En) (q:Nat),pdes leaf L c p pre=some (es,q)→(∀ e ∈ es,leaf=true∨e.kid < 16384)→rdes leaf L c p pre=some (es,q)
 | 0,p,pre,es,q,h,_=>h
 | c+1,p,pre,es,q,h,hk=>by
  rw [pdes] at h
  rw [rdes]
  rcases hd:pde leaf (L.drop p) with _ | ⟨e,n⟩
  · rw [hd] at h; cases h
  · rw [hd] at h
    have hm:=pdes_mem c (p+n) (pre++[e]) es q h e (by simp)
    rw [rde_of_pde hd (hk e hm)]
    exact rdes_of_pdes c (p+n) (pre++[e]) es q h hk
theorem rdes_q {leaf:Bool} {L:List UInt8}:∀ (c p:Nat) (pre es:List En) (q:Nat),rdes leaf L c p pre=some (es,q)→∃ tl,es=pre++tl∧tl.length=c∧q=p+(tl.flatMap (enb leaf)).length
 | 0,p,pre,es,q,h=>by
  simp only [rdes,Option.some.injEq,Prod.mk.injEq] at h
  exact ⟨[],by rw [← h.1]; simp,rfl,by rw [← h.2]; simp⟩
 | c+1,p,pre,es,q,h=>by
  rw [rdes] at h
  rcases hd:rde leaf (L.drop p) with _ | ⟨e,n⟩
  · rw [hd] at h; cases h
  · rw [hd] at h
    obtain ⟨h1,_,_⟩:=rde_pre hd
    obtain ⟨tl,g1,g2,g3⟩:=rdes_q c (p+n) (pre++[e]) es q h
    exact ⟨e :: tl,by rw [g1]; simp,by simp [g2],by rw [g3,List.flatMap_cons,List.length_append]; omega⟩
theorem read_q {b:UInt8} {M:List UInt8} {v m q:Nat} {es:List En} (hr:rdu M 0 0=(0,v,m)) (hd:rdes (b == 1) (b :: M) v (1+m) []=some (es,q)):q=(ndb (b == 1) es).length:=by
 obtain ⟨h1,_⟩:=rdu_pre hr
 obtain ⟨tl,g1,g2,g3⟩:=rdes_q v (1+m) [] es q hd
 rw [List.nil_append] at g1
 subst g1
 unfold ndb
 simp only [List.length_cons,List.length_append]
 rw [g2]
 omega
theorem read_pre {b:UInt8} {M:List UInt8} {v m q:Nat} {es:List En} (hb:b=1∨b=2) (hr:rdu M 0 0=(0,v,m)) (hd:rdes (b == 1) (b :: M) v (1+m) []=some (es,q)):(b :: M)=ndb (b == 1) es++(b :: M).drop q∧(∀ e ∈ es,Norm (b == 1) e):=by
 obtain ⟨h1,h2⟩:=rdu_pre hr
 have hml:m≤M.length:=by have:=rdu_bound M 0 0 0 v m hr (by simp) (by omega) rfl; omega
 obtain ⟨tl,g1,g2,g3,g4⟩:=rdes_pre v (1+m) [] es q hd (by simp; omega)
 rw [List.nil_append] at g1
 subst g1
 refine ⟨?_,g4⟩
 rw [Nat.add_comm,List.drop_succ_cons] at g3
 have hb1:b=(if (b == 1)=true then 1 else 2):=by
  rcases hb with rfl | rfl <;> rfl
 unfold ndb
 rw [g2,List.cons_append,← hb1,List.append_assoc,← g3]
 congr 1
 exact pre_drop h2 h1
theorem fit_kidN {leaf:Bool} {es:List En} (h:fitN leaf es=true):∀ e ∈ es,leaf=true∨e.kid < 16384:=by
 intro e he
 unfold fitN at h
 rw [Bool.and_eq_true,Bool.and_eq_true] at h
 have hE:∀ (es:List En) prev,fitFrom leaf prev es=true→∀ e ∈ es,fitE leaf e=true:=by
  intro es
  induction es with
  | nil=>intro prev _ e he; cases he
  | cons a es ih =>
   intro prev hp e he
   rw [show fitFrom leaf prev (a :: es)=(fitE leaf a && (match prev with | none=>true | some p=>!sle a.key p) && fitFrom leaf (some a.key) es) from by cases prev <;> rfl,Bool.and_eq_true,Bool.and_eq_true] at hp
   rcases List.mem_cons.1 he with rfl | he
   · exact hp.1.1
   · exact ih _ hp.2 e he
 have h1:=hE _ _ h.1.1 e he
 unfold fitE at h1
 cases leaf
 · simp at h1; exact Or.inr h1.2.2
 · exact Or.inl rfl
theorem fit_sizes {leaf:Bool} {es:List En} (h:fitN leaf es=true):∀ e ∈ es,e.key.size≤48∧(leaf=true→e.val.size≤200):=by
 intro e he
 unfold fitN at h
 rw [Bool.and_eq_true,Bool.and_eq_true] at h
 have hE:∀ (es:List En) prev,fitFrom leaf prev es=true→∀ e ∈ es,fitE leaf e=true:=by
  intro es
  induction es with
  | nil=>intro prev _ e he; cases he
  | cons a es ih =>
   intro prev hp e he
   rw [show fitFrom leaf prev (a :: es)=(fitE leaf a && (match prev with | none=>true | some p=>!sle a.key p) && fitFrom leaf (some a.key) es) from by cases prev <;> rfl,Bool.and_eq_true,Bool.and_eq_true] at hp
   rcases List.mem_cons.1 he with rfl | he
   · exact hp.1.1
   · exact ih _ hp.2 e he
 have h1:=hE _ _ h.1.1 e he
 unfold fitE at h1
 cases leaf
 · simp at h1; exact ⟨h1.1.2,fun h=>by cases h⟩
 · simp at h1; exact ⟨h1.1.2,fun _=>h1.2⟩
def pdec (L:List UInt8):Option (Bool × List En) :=
 match prd (L.take 1024) with
 | none=>none
 | some (leaf,es,q)=>if fitN leaf es && nil0 (L.drop q) then some (leaf,es) else none
theorem norm_sizes {leaf:Bool} {es:List En} (h:fitN leaf es=true) (hn:∀ e ∈ es,Norm leaf e):∀ e ∈ es,e.key.size≤1000000000∧e.val.size≤1000000000∧Norm leaf e:=fun e he=>by
 obtain ⟨h1,h2⟩:=fit_sizes h e he
 refine ⟨by omega,?_,hn e he⟩
 have h3:=hn e he
 cases leaf
 · have h4:e.val=⟨#[]⟩:=h3.1
   rw [h4]
   show (0:Nat)≤_
   omega
 · have:=h2 rfl; omega
theorem fit_len {leaf:Bool} {es:List En} (h:fitN leaf es=true):(ndb leaf es).length≤1024:=by
 unfold fitN at h
 simp at h
 exact h.1.2
theorem es_ndb (leaf:Bool) (es:List En):es.length < (ndb leaf es).length:=by
 have h:es.length≤(es.flatMap (enb leaf)).length:=by
  induction es with
  | nil=>simp
  | cons e es ih =>
   rw [List.flatMap_cons,List.length_append,List.length_cons]
   have h1:1≤(enb leaf e).length:=by
    unfold enb tx
    have:=ub_ne e.key.size
    have:1≤(ub e.key.size).length:=by
     rcases hu:ub e.key.size with _ | ⟨a,l⟩
     · exact absurd hu this
     · simp
    simp only [List.length_append]
    omega
   omega
 unfold ndb
 simp only [List.length_cons,List.length_append]
 omega
theorem pdec_ddec (L:List UInt8):pdec L=ddec L:=by
 rcases hp:pdec L with _ | ⟨leaf,es⟩
 · -- nothing is answered: the document has none
   rcases hd:ddec L with _ | ⟨leaf,es⟩
   · rfl
   · exfalso
     obtain ⟨hf,⟨z,hz⟩,hn⟩:=ddec_pre hd
     have hlen:=fit_len hf
     have hes:=es_ndb leaf es
     have hns:=norm_sizes hf hn
     have hz0:nil0 z=true:=by
      rw [hz,ddec_ndb leaf es z (by omega) hns hf] at hd
      cases h:nil0 z
      · rw [h] at hd; simp at hd
      · rfl
     have ht:L.take 1024=ndb leaf es++z.take (1024 - (ndb leaf es).length):=by
      rw [hz,List.take_append,List.take_of_length_le hlen]
     have hdr:L.drop (ndb leaf es).length=z:=by rw [hz,List.drop_left]
     have hrd:prd (L.take 1024)=some (leaf,es,(ndb leaf es).length):=by
      rw [ht]
      generalize z.take (1024 - (ndb leaf es).length)=r
      have hu:=rdu_ub64 es.length (by omega) (es.flatMap (enb leaf)++r)
      have e0:ndb leaf es++r=(if leaf then 1 else 2) :: (ub es.length++(es.flatMap (enb leaf)++r)):=by unfold ndb; simp
      have hbb:(((if leaf then 1 else 2):UInt8) == 1)=leaf:=by cases leaf <;> decide
      have hdd:((if leaf then 1 else 2) :: (ub es.length++(es.flatMap (enb leaf)++r)):List UInt8).drop (1+(ub es.length).length)=es.flatMap (enb leaf)++r:=by
       rw [Nat.add_comm,List.drop_succ_cons,List.drop_left]
      have hfl:=pdes_of_rdes _ _ _ _ (rdes_flat leaf r es [] _ _ hdd hns)
      rw [e0]
      unfold prd
      simp only
      rw [if_neg (by cases leaf <;> simp),hu]
      simp only
      rw [if_neg (by simp),hbb,hfl]
      simp only [List.nil_append,Option.some.injEq,Prod.mk.injEq,true_and]
      unfold ndb
      simp only [List.length_cons,List.length_append]
      omega
     unfold pdec at hp
     rw [hrd] at hp
     simp only at hp
     rw [hf,hdr,hz0] at hp
     simp at hp
 · unfold pdec at hp
   rcases hr:prd (L.take 1024) with _ | ⟨lf,es2,q⟩
   · rw [hr] at hp; cases hp
   · rw [hr] at hp
     simp only at hp
     split at hp
     · rename_i hcond
       rw [Bool.and_eq_true] at hcond
       cases hp
       obtain ⟨hf,hz⟩:=hcond
       unfold prd at hr
       rcases hT:L.take 1024 with _ | ⟨b,M⟩
       · rw [hT] at hr; cases hr
       · rw [hT] at hr
         simp only at hr
         by_cases hb:b≠1∧b≠2
         · rw [if_pos hb] at hr; cases hr
         rw [if_neg hb] at hr
         rcases hu:rdu M 0 0 with ⟨c,v,m⟩
         rw [hu] at hr
         simp only at hr
         by_cases hc:c≠0
         · rw [if_pos hc] at hr; cases hr
         rw [if_neg hc] at hr
         have hc0:c=0:=by omega
         subst hc0
         rcases hd:pdes (b == 1) (b :: M) v (1+m) [] with _ | ⟨es3,q3⟩
         · rw [hd] at hr; cases hr
         · rw [hd] at hr
           simp only [Option.some.injEq,Prod.mk.injEq] at hr
           obtain ⟨rfl,rfl,rfl⟩:=hr
           have hrd:=rdes_of_pdes _ _ _ _ _ hd (fit_kidN hf)
           have hb2:b=1∨b=2:=by
            by_cases h1:b=1
            · exact Or.inl h1
            · by_cases h2:b=2
              · exact Or.inr h2
              · exact absurd ⟨h1,h2⟩ hb
           obtain ⟨hpre,hn⟩:=read_pre hb2 hu hrd
           have hlen:=fit_len hf
           have hes:=es_ndb (b == 1) es3
           have hq:=read_q hu hrd
           have hL:L=ndb (b == 1) es3++L.drop (ndb (b == 1) es3).length:=by
            have h1:L.take (ndb (b == 1) es3).length=ndb (b == 1) es3:=by
             have h2:(L.take 1024).take (ndb (b == 1) es3).length=L.take (ndb (b == 1) es3).length:=by rw [List.take_take,Nat.min_eq_left hlen]
             rw [← h2,hT,hpre,List.take_left]
            conv=>lhs; rw [← List.take_append_drop (ndb (b == 1) es3).length L,h1]
           rw [hq] at hz
           have hdd:=ddec_ndb (b == 1) es3 (L.drop (ndb (b == 1) es3).length) (by omega) (norm_sizes hf hn) hf
           rw [hz,← hL] at hdd
           rw [hdd]
           rfl
     · cases hp
end Go.Proofs.YtlkgnljdpakkcaaGreatDoor
