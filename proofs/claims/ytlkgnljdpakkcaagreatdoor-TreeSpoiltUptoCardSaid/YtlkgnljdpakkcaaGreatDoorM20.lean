/-
  Parts of the proof: Lbx, Ris, Rnd, Gro, Alr.
-/
import Derived.Test.YtlkgnljdpakkcaaGreatDoorM19
import Derived.Deep.LoopGhost
import Derived.Deep.RegionHeld3
import Derived.BigQuiet
import Derived.Test.YtlkgnljdpakkcaaGreatDoorM17
import Derived.RangeFuncBox
import Derived.Maps.AppendAt
import Derived.Test.YtlkgnljdpakkcaaGreatDoorM01
import Derived.Test.YtlkgnljdpakkcaaGreatDoorM16
import Derived.Test.YtlkgnljdpakkcaaGreatDoorM11
set_option linter.unusedVariables false
set_option linter.unusedSimpArgs false
/-
 'loadBelow' of a tree,by induction on how many sectors were not read yet.
-/
namespace Go.Proofs.YtlkgnljdpakkcaaGreatDoor
open Go.RowKit
def kidsOf (n:Nod):List En:=if n.leaf then [] else n.es
theorem lb_at {R:Rd} {sec k:Nat} {N:Nm} {a:Int} {n:Nod} (h0:N a=none) (h1:a < (sec:Int)) (h2:R a=some n):lb R sec (k+1) N a=match lbK (lb R sec k) (kidsOf n) true 0 (insr N a n) with
 | none=>none
 | some (lv,N')=>some (lv+1,N'):=by
 rw [lb,if_neg (by rw [h0]; simp; omega),h2]; rfl
theorem lbK_lv {f:Nm→Int→Option (Nat × Nm)} {k:Nat} (hf:∀ N a lv N',f N a=some (lv,N')→lv≤k):∀ (es:List En) (first:Bool) (lv0:Nat) (N:Nm) (lv:Nat) (N':Nm),lv0≤k→lbK f es first lv0 N=some (lv,N')→lv≤k
 | [],first,lv0,N,lv,N',h0,h=>by
  simp only [lbK,Option.some.injEq,Prod.mk.injEq] at h
  omega
 | e :: es,first,lv0,N,lv,N',h0,h=>by
  rw [lbK] at h
  cases hfe:f N e.kid with
  | none=>rw [hfe] at h; cases h
  | some r =>
   obtain ⟨b,N1⟩:=r
   rw [hfe] at h
   simp only at h
   split at h
   · cases h
   · exact lbK_lv hf es false b N1 lv N' (hf _ _ _ _ hfe) h
theorem lb_lv {R:Rd} {sec:Nat}:∀ (k:Nat) (N:Nm) (a:Int) (lv:Nat) (N':Nm),lb R sec k N a=some (lv,N')→lv≤k
 | 0,N,a,lv,N',h=>by simp [lb] at h
 | k+1,N,a,lv,N',h=>by
  rw [lb] at h
  split at h
  · cases h
  · cases hR:R a with
    | none=>rw [hR] at h; cases h
    | some n =>
     rw [hR] at h
     simp only at h
     cases hK:lbK (lb R sec k) (if n.leaf then [] else n.es) true 0 (insr N a n) with
     | none=>rw [hK] at h; cases h
     | some r =>
      obtain ⟨l,N1⟩:=r
      rw [hK] at h
      simp only [Option.some.injEq,Prod.mk.injEq] at h
      have:=lbK_lv (lb_lv k) _ _ _ _ _ _ (Nat.zero_le k) hK
      omega
theorem rdN_ok (D:Ds) (room:Nat):RdOk (rdN D room):=fun a n h=>by
 unfold rdN at h
 cases hd:ddec (jrtext room D a).data.toList with
 | none=>rw [hd] at h; cases h
 | some r =>
  obtain ⟨leaf,es⟩:=r
  rw [hd] at h
  cases h
  obtain ⟨h1,_,h3⟩:=ddec_pre hd
  refine ⟨h1,fun e he=>?_⟩
  have hn:=h3 e he
  have hf:=(fitN_parts h1).1 e he
  unfold Norm at hn
  unfold fitE at hf
  cases leaf
  · simp only [Bool.false_eq_true,if_false,Bool.and_eq_true,decide_eq_true_eq] at hn hf ⊢
    exact ⟨hn.1,hf.2.1,hf.2.2⟩
  · simpa using hn
theorem nmf_upd (f:Int→Option Nv) (a:Int) (v:Nv):nmf (updN f a (some v))=insr (nmf f) a v.nod:=by
 funext x; unfold nmf updN insr; split <;> rfl
theorem kidsOf_mem {D:Ds} {room:Nat} {a:Int} {n:Nod} (h:rdN D room a=some n):∀ e ∈ kidsOf n,1≤e.kid∧e.kid < 16384:=fun e he=>by
 have:=(rdN_ok D room a n h).2 e
 unfold kidsOf at he
 cases hl:n.leaf
 · rw [hl] at he this
   simp only [Bool.false_eq_true,if_false] at he this
   exact (this he).2
 · rw [hl] at he; simp at he
theorem ba_eq (a b:ByteArray):(a.toList == b.toList)=decide (a=b):=by
 rw [Bool.eq_iff_iff]
 simp only [beq_iff_eq,decide_eq_true_eq]
 constructor
 · intro h
   rw [ByteArray.toList_eq,ByteArray.toList_eq] at h
   cases a with | mk x=>cases b with | mk y =>
    simp only at h
    congr 1
    exact Array.toList_inj.1 h
 · intro h; rw [h]
def LbOn (T:Tv):Prop:=∀ x:Int,0≤x→x < jlen T.D T.room→jrcode T.room T.D x=0
def LbOkP (tb k:Nat):Prop:=∀ (T:Tv) (a:Int) (w:World),IsTr w tb T→0≤a∧a < (topN:Int)→LbOn T→unm (nmf T.f) (jlen T.D T.room) < k →
 Calls Tryz.prog 82 #[.pointer (some ⟨tb,0,none⟩),.int .i64 a] w (LbPost w tb T k a)
def LbRel (w:World) (tb:Nat) (T:Tv) (k:Nat) (v:Nv) (K:List En) (N1:Nm) (X n:Nat) (v8 v25:Value) (wr:World):Prop :=
 ∃ (i lv:Nat) (f':Int→Option Nv),n+i=K.length∧lv≤k∧v8=.int .i64 (lv:Nat)∧v25=.int .i64 (i:Nat)∧IsTr wr tb { T with f:=f' }∧wr.heap[X]?=some (.cells #[.bool v.leaf,.slice v.ka v.kn v.kc,.slice v.va v.vn v.vc,.slice v.ia v.im v.ic] 138 (0,0))∧Gd wr v∧Tch [T.b,T.mb] w wr ∧
  (∀ x,f' x=none→N1 x=none)∧(∀ x u,f' x=some u→T.f x=some u∨Hig w.heap.size u)∧lbK (lb (rdN T.D T.room) (jlen T.D T.room) k) K true 0 N1=lbK (lb (rdN T.D T.room) (jlen T.D T.room) k) (K.drop i) (decide (i=0)) lv (nmf f')
theorem tr_kinds {w:World} {tb:Nat} {T:Tv} (h:IsTr w tb T):∀ b ∈ [T.b,T.mb],∀ cs,w.heap[b]?≠some (.cells cs 9 (0,0))∧w.heap[b]?≠some (.cells cs 3 (0,0)):=fun b hb cs=>by
 obtain ⟨S,hS,_⟩:=h.ds
 simp only [List.mem_cons,List.not_mem_nil,or_false] at hb
 rcases hb with rfl | rfl
 · rw [hS.blk]; exact ⟨by simp,by simp⟩
 · exact ⟨fun e=>h.ns.mp.ne e rfl,fun e=>h.ns.mp.ne e rfl⟩
set_option maxRecDepth 100000 in
set_option maxHeartbeats 4000000 in
theorem loadBelow_step (tb k:Nat) (hk:k≤1000000) (ih:LbOkP tb k):LbOkP tb (k+1):=by
 intro T a w ht ha hon hun
 by_cases hno:T.f a≠none∨(jlen T.D T.room:Int)≤a∨rdN T.D T.room a=none
 · exact loadBelow_no tb k T a w ht ha hon hno
 simp only [not_or] at hno
 obtain ⟨hf,hlen,hrd⟩:=hno
 have hf:T.f a=none:=by simpa using hf
 obtain ⟨n,hn⟩:∃ n,rdN T.D T.room a=some n:=by
  cases h:rdN T.D T.room a with
  | none=>exact absurd h hrd
  | some n=>exact ⟨n,rfl⟩
 have hNa:nmf T.f a=none:=by unfold nmf; rw [hf]; rfl
 have hat:=lb_at (k:=k) (sec:=jlen T.D T.room) hNa (by omega) hn
 have hKm:=kidsOf_mem hn
 obtain ⟨N1,hN1⟩:∃ N1,N1=insr (nmf T.f) a n:=⟨_,rfl⟩
 obtain ⟨K,hK⟩:∃ K,K=kidsOf n:=⟨_,rfl⟩
 rw [← hN1,← hK] at hat
 rw [← hK] at hKm
 have hun1:unm N1 (jlen T.D T.room) < k:=by
  have:=unm_ins (n:=n) ha.1 (show a < (jlen T.D T.room:Int) by omega) hNa
  rw [hN1]; omega
 have hN1n:∀ x,N1 x=none→T.f x=none:=fun x h=>by
  rw [hN1] at h
  unfold insr at h
  split at h
  · cases h
  · unfold nmf at h; cases hx:T.f x with
    | none=>rfl
    | some u=>rw [hx] at h; cases h
 have HL:Hid (∀ W,Tch [] w W→Calls Tryz.prog 120 #[.pointer (some ⟨tb,0,none⟩),.int .i64 a] W fun e w'=>∃ v:Nv,e=.returned (.tuple #[.agg #[.bool v.leaf,.slice v.ka v.kn v.kc,.slice v.va v.vn v.vc,.slice v.ia v.im v.ic],.int .i64 0])∧v.nod=n∧Gd w' v∧Hig w.heap.size v∧IsTr w' tb { T with f:=updN T.f a (some v) }∧Tch [T.b,T.mb] W w'):=fun W t=>by
  refine (loadNode_any tb T a W (ht.keep0 t) ha ((ht.keep0 t).text a)).mono ?_
  rintro e w' (⟨c,he,hc,h1,h2,h3⟩ | ⟨v,he,h1,h2,h3,h4,h5,h6,h7,h8⟩)
  · exfalso
    rcases h3 with ⟨rfl,h5 | h5⟩ | ⟨h5,h6,⟨h7,_⟩ | ⟨_,rfl,h8⟩⟩
    · exact h5 hf
    · exact hlen h5
    · exact absurd (hon a ha.1 h6) h7
    · rw [hn] at h8; cases h8
  · rw [hn] at h4
    exact ⟨v,he,(Option.some.inj h4).symm,h5,h6.base t.size,h7,h8⟩
 have HIH:Hid (∀ (f':Int→Option Nv) (x:Int) W,IsTr W tb { T with f:=f' }→(∀ x,f' x=none→N1 x=none)→1≤x∧x < 16384→Calls Tryz.prog 82 #[.pointer (some ⟨tb,0,none⟩),.int .i64 x] W (LbPost W tb { T with f:=f' } k x)):=fun f' x W h h1 h2=>by
  refine ih { T with f:=f' } x W h ⟨by omega,by unfold topN; omega⟩ hon ?_
  refine Nat.lt_of_le_of_lt (unm_le (fun x hx=>h1 x ?_)) hun1
  simp only at hx
  unfold nmf at hx; cases hx2:f' x with
  | none=>rfl
  | some u=>rw [hx2] at hx; cases hx
 have HEND:Hid (∀ W (f':Int→Option Nv) (lv:Nat),IsTr W tb { T with f:=f' }→Tch [T.b,T.mb] w W→(∀ x,f' x=none→N1 x=none)→(∀ x u,f' x=some u→T.f x=some u∨Hig w.heap.size u)→lbK (lb (rdN T.D T.room) (jlen T.D T.room) k) K true 0 N1=some (lv,nmf f')→LbPost w tb T (k+1) a (.returned (.tuple #[.int .i64 ((lv:Int)+1),.int .i64 0])) W):=fun W f' lv h1 h2 h3 h4 h5=>by
  rw [h5] at hat
  exact ⟨f',h1,h2,fun x hx=>hN1n x (h3 x hx),h4,Or.inl ⟨lv+1,nmf f',hat,rfl,rfl⟩⟩
 have HBAD:Hid (∀ W (f':Int→Option Nv),IsTr W tb { T with f:=f' }→Tch [T.b,T.mb] w W→(∀ x,f' x=none→N1 x=none)→(∀ x u,f' x=some u→T.f x=some u∨Hig w.heap.size u)→lbK (lb (rdN T.D T.room) (jlen T.D T.room) k) K true 0 N1=none→LbPost w tb T (k+1) a (.returned (.tuple #[.int .i64 0,.int .i64 53])) W):=fun W f' h1 h2 h3 h4 h5=>by
  rw [h5] at hat
  exact ⟨f',h1,h2,fun x hx=>hN1n x (h3 x hx),h4,Or.inr ⟨hat,rfl⟩⟩
 have HS0:Hid (∀ (v:Nv),v.nod=n→nmf (updN T.f a (some v))=N1∧(∀ x,updN T.f a (some v) x=none→N1 x=none)):=fun v hv=>by
  have e:=nmf_upd T.f a v
  rw [hv,← hN1] at e
  refine ⟨e,fun x hx=>?_⟩
  rw [← e]; unfold nmf; rw [hx]; rfl
 have HS1:Hid (∀ (v:Nv),Hig w.heap.size v→∀ x u,updN T.f a (some v) x=some u→T.f x=some u∨Hig w.heap.size u):=fun v hv x u hx=>by
  unfold updN at hx
  split at hx
  · cases hx; exact Or.inr hv
  · exact Or.inl hx
 have HKV:Hid (∀ (v:Nv) W,v.nod=n→Gd W v→v.im=K.length∧(K≠[]→v.leaf=false∧v.es=K)):=fun v W hv g=>by
  have e1:v.leaf=n.leaf:=by rw [← hv]; rfl
  have e2:v.es=n.es:=by rw [← hv]; rfl
  have him:=g.im
  rw [hK]
  unfold kidsOf
  rw [← e1,← e2]
  cases hl:v.leaf
  · rw [hl] at him
    exact ⟨by rw [him]; rfl,fun _=>⟨rfl,rfl⟩⟩
  · rw [hl] at him
    exact ⟨by rw [him]; rfl,fun h=>absurd rfl h⟩
 have hkk:=Lib.hid hk
 have HKM:=Lib.hid hKm
 clear ht ha hon hun hf hlen hrd hn hNa hat hKm hun1 hN1n ih hK hN1 hk
 generalize hQ:LbPost w tb T (k+1) a=Q at *
 clear hQ
 go_enter Tryz.func82,Tryz.ntmps82
 go_upto_region 2 with (go_at_call 120; (with_reducible refine (HL.out _ (Tch.refl _ _)).mono ?_); rintro e w3 ⟨v,rfl,hvn,hg3,hh3,hT3,t3⟩)
 obtain ⟨W4,hW4⟩:∃ W4,W4=w3.alloc (.cells #[.bool v.leaf,.slice v.ka v.kn v.kc,.slice v.va v.vn v.vc,.slice v.ia v.im v.ic] 138):=⟨_,rfl⟩
 rw [← hW4]
 have t4:Tch [] w3 W4:=by rw [hW4]; exact (Tch.refl _ _).alloc _
 have hb4:W4.heap[w3.heap.size]?=some (.cells #[.bool v.leaf,.slice v.ka v.kn v.kc,.slice v.va v.vn v.vc,.slice v.ia v.im v.ic] 138 (0,0)):=by rw [hW4]; exact blk_new _ _
 have hg4:=hg3.keep0 t4
 have hT4:=hT3.keep0 t4
 have T4:=t3.trans (t4.mono (L':=[T.b,T.mb]) (by simp))
 have hX3:w.heap.size≤w3.heap.size:=t3.size
 clear hW4 hT3 hg3 t3 t4
 generalize w3.heap.size=X at *
 obtain ⟨him,hKl⟩:=HKV.out v W4 hvn hg4
 obtain ⟨he4,hn4⟩:=HS0.out v hvn
 have hh4:=HS1.out v hh3
 have hKle:K.length≤100000000:=by
  have:=hg4.ok.li
  have:=hg4.nv.ri.hlen
  omega
 have m0:=blk_cell hb4 0
 have m1:=blk_cell hb4 1
 have m2:=blk_cell hb4 2
 have m3:=blk_cell hb4 3
 simp only [gA,gZ,gS] at m0 m1 m2 m3
 rw [him] at m3
 have HIM:=Lib.hid him
 have HKL:=Lib.hid hKl
 have HE4:=Lib.hid he4
 clear him hKl he4
 go_wp2_with fail
 go_loopg [8,25] K.length (fun n v8 v25 wr=>LbRel w tb T k v K N1 X n v8 v25 wr)
 case atStart=>exact ⟨0,0,updN T.f a (some v),rfl,Nat.zero_le _,rfl,rfl,hT4,hb4,hg4,T4,hn4,hh4,by rw [HE4.out]; rfl⟩
 case round =>
  obtain ⟨i,lv,f',hni,hlv,rfl,rfl,hT,hb,hg,t,hnn,hhh,hlbK⟩:=hrel
  clear m0 m1 m2 m3 hb4 hg4 hT4 T4 hn4 hh4
  have n0:=blk_cell hb 0
  have n1:=blk_cell hb 1
  have n2:=blk_cell hb 2
  have n3:=blk_cell hb 3
  simp only [gA,gZ,gS] at n0 n1 n2 n3
  have hkk2:=hkk.out
  match gk,hni with
  | 0,hni =>
   have hi:i=K.length:=by omega
   rw [hi,List.drop_length] at hlbK
   have HE:=Lib.hid (HEND.out wr f' lv hT t hnn hhh hlbK)
   have hlt:decide ((i:Int) < (K.length:Int))=false:=decide_eq_false (by omega)
   have hltN:decide (i < K.length)=false:=decide_eq_false (by omega)
   clear hi hT hb hg t hnn hhh hlbK n0 n1 n2 n3
   go_wp2_with fail
   first | exact HE.out | (go_ret2; exact HE.out)
  | m+1,hni =>
   have hi:i < K.length:=by omega
   have hlt:decide (i < K.length)=true:=decide_eq_true hi
   have hKne:K≠[]:=fun e=>by rw [e] at hi; simp at hi
   obtain ⟨hleaf,hes⟩:=HKL.out hKne
   have him:=HIM.out
   obtain ⟨e,he⟩:∃ e,e=K[i]:=⟨_,rfl⟩
   have hge:K[i]?=some e:=by rw [he]; exact List.getElem?_eq_getElem hi
   have hdrop:K.drop i=e :: K.drop (i+1):=by rw [he]; exact List.drop_eq_getElem_cons hi
   have hki:v.kids[i]?=some e.kid:=by rw [← Nv.kidsE hg.lens hleaf,List.getElem?_map,hes,hge]; rfl
   have hky:v.keys[i]?=some e.key:=by rw [← v.keysE,List.getElem?_map,hes,hge]; rfl
   have hkm:=HKM.out e (by rw [he]; exact List.getElem_mem hi)
   have hia:=hg.nv.ri.some_ (by omega)
   have hkc:=hg.nv.ri.one hki rfl
   have hka:=hg.nv.rk.some_ (by have:=hg.nv.rk.hlen; have:=(List.getElem?_eq_some_iff.1 hky).1; omega)
   have hkn:(i:Int) < (v.kn:Int):=by have:=hg.nv.rk.hlen; have:=(List.getElem?_eq_some_iff.1 hky).1; omega
   have hi0:(0:Int)≤(i:Int):=by omega
   have hiK:(i:Int) < (K.length:Int):=by omega
   have HIHX:=Lib.hid (HIH.out f' e.kid wr hT hnn hkm)
   rw [hdrop,lbK] at hlbK
   have HGR:Hid (∀ W,Tch [T.b,T.mb] wr W→Gd W v∧W.heap[X]?=some (.cells #[.bool v.leaf,.slice v.ka v.kn v.kc,.slice v.va v.vn v.vc,.slice v.ia v.im v.ic] 138 (0,0))):=fun W t'=>⟨hg.kept t' (tr_kinds (T:={ T with f:=f' }) hT),t'.keep hb (by
    obtain ⟨S,hS,_⟩:=hT.ds
    have e1:X≠T.b:=fun e=>by rw [e,show wr.heap[T.b]?=_ from hS.blk] at hb; simp at hb
    have e2:X≠T.mb:=fun e=>by rw [e] at hb; exact hT.ns.mp.ne hb rfl
    simp [e1,e2])⟩
   generalize hkid:e.kid=kid at *
   cases hfe:lb (rdN T.D T.room) (jlen T.D T.room) k (nmf f') kid with
   | none =>
    rw [hfe] at hlbK
    have HC:Hid (Calls Tryz.prog 82 #[.pointer (some ⟨tb,0,none⟩),.int .i64 kid] wr fun e w'=>e=.returned (.tuple #[.int .i64 0,.int .i64 53])∧Q e w'):=by
     refine HIHX.out.mono ?_
     rintro e w' ⟨f1,h1,h2,h3,h4,(⟨_,_,h5,_⟩ | ⟨_,rfl⟩)⟩
     · rw [show lb (rdN T.D T.room) (jlen T.D T.room) k (nmf f') kid=_ from h5] at hfe; cases hfe
     · refine ⟨rfl,HBAD.out w' f1 h1 (t.trans h2) (fun x hx=>hnn x (h3 x hx)) (fun x u hx=>?_) hlbK⟩
       rcases h4 x u hx with h6 | h6
       · exact hhh x u h6
       · exact Or.inr (h6.base t.size)
    clear hT hb hg t hnn hhh hlbK hkm HIHX HGR hdrop hge hki hky he hes hleaf hkid
    rw [hia] at n3
    have HIA:=Lib.hid hia
    clear hka him
    try rw [hia]
    clear hia
    go_wp2_with (go_at_call 82; (with_reducible refine HC.out.mono ?_); rintro e w6 ⟨rfl,hq⟩)
    first | exact hq | (go_ret2; exact hq)
   | some r =>
    obtain ⟨b,N'⟩:=r
    rw [hfe] at hlbK
    simp only at hlbK
    have hbk:=lb_lv k _ _ _ _ hfe
    have HC:Hid (Calls Tryz.prog 82 #[.pointer (some ⟨tb,0,none⟩),.int .i64 kid] wr fun e w'=>e=.returned (.tuple #[.int .i64 (b:Nat),.int .i64 0])∧∃ f1:Int→Option Nv,IsTr w' tb { T with f:=f1 }∧Tch [T.b,T.mb] wr w'∧(∀ x,f1 x=none→N1 x=none)∧(∀ x u,f1 x=some u→T.f x=some u∨Hig w.heap.size u)∧nmf f1=N'):=by
     refine HIHX.out.mono ?_
     rintro e w' ⟨f1,h1,h2,h3,h4,(⟨b',N'',h5,h6,rfl⟩ | ⟨h5,_⟩)⟩
     · rw [show lb (rdN T.D T.room) (jlen T.D T.room) k (nmf f') kid=_ from h5] at hfe
       cases hfe
       refine ⟨rfl,f1,h1,h2,fun x hx=>hnn x (h3 x hx),fun x u hx=>?_,h6⟩
       rcases h4 x u hx with h6 | h6
       · exact hhh x u h6
       · exact Or.inr (h6.base t.size)
     · rw [show lb (rdN T.D T.room) (jlen T.D T.room) k (nmf f') kid=_ from h5] at hfe; cases hfe
    rw [hia] at n3
    have HIA:=Lib.hid hia
    have HKA:=Lib.hid hka
    have HLT:=Lib.hid t
    have HHE:=Lib.hid hes
    have HLB:=Lib.hid hlbK
    have HEM:=Lib.hid him
    have HKY:=Lib.hid hky
    have HKB:=Lib.hid hkm
    obtain ⟨key,hkey⟩:∃ key,key=e.key:=⟨_,rfl⟩
    clear hT hb hg hnn hhh hlbK hkm HIHX hdrop hge hki hky he hes hleaf hkid him hka t
    try rw [hia]
    clear hia
    go_upto_region 11 with (go_at_call 82; (with_reducible refine HC.out.mono ?_); rintro e w6 ⟨rfl,f1,h1,h2,h3,h4,h5⟩)
    obtain ⟨hg6,hb6⟩:=HGR.out w6 h2
    obtain ⟨u,hu⟩:∃ u,u=({ T with f:=f1 }:Tv).nd kid:=⟨_,rfl⟩
    have hun:u.nod=(N' kid).getD nod0:=by
     rw [hu,Tv.nd_nod,← h5]; rfl
    have hgu:Gd w6 u:=by rw [hu]; exact Tv.nd_gd h1 kid
    have HRK:=Lib.hid (show ∃ r:Bool,r=(!u.nod.lean && (u.nod.fk.toList == key.toList)) from ⟨_,rfl⟩)
    obtain ⟨r,hr⟩:=HRK.out
    have HKD:Hid (∀ W,Tch [] w6 W→Calls Tryz.prog 121 #[.agg #[.bool u.leaf,.slice u.ka u.kn u.kc,.slice u.va u.vn u.vc,.slice u.ia u.im u.ic],.string key] W fun e w'=>e=.returned (.bool r)∧Tch [] W w'):=fun W t'=>by
     rw [hr]; exact isKid_all u key W (hgu.keep0 t')
    have HL3:Hid (∀ W,Tch [] w6 W→W.cell? ⟨tb,2,none⟩=some (.map (some T.mb))∧(Instr.lookup 124 (.map (some T.mb)) (.int .i64 kid) false).run Tryz.prog W=.ok (.agg #[.bool u.leaf,.slice u.ka u.kn u.kc,.slice u.va u.vn u.vc,.slice u.ia u.im u.ic]) W∧W.cell? ⟨X,1,none⟩=some (.slice (some ⟨v.kb,v.ko,none⟩) v.kn v.kc)∧W.cell? ⟨v.kb,v.ko+i,none⟩=some (.string key)):=fun W t'=>by
     refine ⟨?_,?_,?_,?_⟩
     · rw [blk_cell (t'.keep h1.blk (by simp))]; rfl
     · have:=HKB.out
       have:=(h1.ns.mp.keep t' (by simp)).look Tryz.underlying124 (zeroNd _) (x:=kid) (wfI (by omega) (by omega))
       rw [this,hu]
       have e:((fun x=>(f1 x).map vNv) kid).getD (vNv nvz)=vNv (({ T with f:=f1 }:Tv).nd kid):=by unfold Tv.nd; simp only; cases f1 kid <;> rfl
       exact congrArg (fun z=>Result.ok z W) e
     · rw [blk_cell (t'.keep hb6 (by simp)),← HKA.out]; rfl
     · rw [hkey]; exact (hg6.keep0 t').nv.rk.one HKY.out rfl
    have HGO:Hid (¬ (i≠0∧b≠lv)→r=true→∀ W,Tch [] w6 W→LbRel w tb T k v K N1 X m (.int .i64 (b:Nat)) (.int .i64 ((i:Int)+1)) W):=fun q1 q2 W t'=>by
     refine ⟨i+1,b,f1,by omega,hbk,rfl,by go_num,h1.keep0 t',t'.keep hb6 (by simp),hg6.keep0 t',HLT.out.trans (h2.trans (t'.mono (by simp))),h3,h4,?_⟩
     rw [q2,ba_eq,hun] at hr
     have hr2:=hr.symm
     simp only [Bool.and_eq_true,Bool.not_eq_true',decide_eq_true_eq] at hr2
     rw [HLB.out,if_neg,h5]
     · rfl
     · rw [hkey] at hr2
       rintro (⟨q3,q4⟩ | q3 | q3)
       · exact q1 ⟨by simpa using q3,q4⟩
       · rw [hr2.1] at q3; cases q3
       · exact q3 hr2.2
    have HNO:Hid ((i≠0∧b≠lv)∨r=false→∀ W,Tch [] w6 W→Q (.returned (.tuple #[.int .i64 0,.int .i64 53])) W):=fun q1 W t'=>by
     refine HBAD.out W f1 (h1.keep0 t') (HLT.out.trans (h2.trans (t'.mono (by simp)))) h3 h4 ?_
     rw [HLB.out,if_pos]
     rcases q1 with ⟨q1,q2⟩ | q1
     · exact Or.inl ⟨by simpa using q1,q2⟩
     · right
       rw [q1,ba_eq,hun] at hr
       by_cases q2:((N' kid).getD nod0).lean=true
       · exact Or.inl q2
       · right
         intro q3
         rw [← hkey] at q3
         simp [q2,q3] at hr
    have hX1:w6.heap.size=w6.heap.size:=rfl
    have td:Tch [] w6 w6.drew:=(Tch.refl [] w6).drew
    clear h1 h2 h3 h4 h5 hg6 hb6 hu hun hgu hr HC HGR HKM n0 n1 n2 n3 hkc HIH HL HEND HBAD hkey hX1
    by_cases hG:i≠0∧b≠lv
    · have HNO2:=Lib.hid (HNO.out (Or.inl hG))
      clear HGO HNO
      have HNO:=HNO2
      clear HNO2
      obtain ⟨q1,q2⟩:=hG
      have hd0:decide (0 < i)=true:=decide_eq_true (by omega)
      have hd1:((b:Int) == (lv:Int))=false:=beq_eq_false_iff_ne.2 (by omega)
      have hd2:((b:Int) != (lv:Int))=true:=bne_iff_ne.2 (by omega)
      have hd3:(b == lv)=false:=by simpa using q2
      clear q1 q2
      have HTD:=Lib.hid (fun n=>tdrewN (Tch.refl [] w6) n)
      go_quiet (fail)
      all_goals
       go_wp2_with fail
       first | exact HNO.out _ (HTD.out _) | (go_ret2; exact HNO.out _ (HTD.out _))
    · have HGO2:=Lib.hid (HGO.out hG)
      clear HGO
      cases r with
      | true =>
       have HGO:=Lib.hid (HGO2.out rfl)
       clear HGO2
       clear HNO
       by_cases h0:i=0
       · have hd0:decide (0 < i)=false:=decide_eq_false (by omega)
         clear hG h0
         obtain ⟨l0,l1,l2,l3⟩:=HL3.out w6.drew td
         go_still_tail 19,(by kernel_rfl)
         change wpList _ _ _ _ _ w6.drew
         go_wp2_with (go_at_call 121; (with_reducible refine (HKD.out _ td).mono ?_); rintro e w7 ⟨rfl,t7⟩)
         all_goals
          have hl7:=HGO.out w7 (td.trans t7)
          clear t7
          go_wp2_with fail
          rw [← HIA.out]
          go_roundg m
          case measure=>omega
          case rel=>exact hl7
       · have hd0:decide (0 < i)=true:=decide_eq_true (by omega)
         have hbl:b=lv:=Decidable.byContradiction fun q=>hG ⟨h0,q⟩
         clear hG h0
         subst hbl
         obtain ⟨l0,l1,l2,l3⟩:=HL3.out w6.drew td
         go_still_tail 19,(by kernel_rfl)
         change wpList _ _ _ _ _ w6.drew
         go_wp2_with (go_at_call 121; (with_reducible refine (HKD.out _ td).mono ?_); rintro e w7 ⟨rfl,t7⟩)
         all_goals
          have hl7:=HGO.out w7 (td.trans t7)
          clear t7
          go_wp2_with fail
          rw [← HIA.out]
          go_roundg m
          case measure=>omega
          case rel=>exact hl7
      | false =>
       have HNO2:=Lib.hid (HNO.out (Or.inr rfl))
       clear HGO2 HNO
       have HNO:=HNO2
       clear HNO2
       by_cases h0:i=0
       · have hd0:decide (0 < i)=false:=decide_eq_false (by omega)
         clear hG h0
         obtain ⟨l0,l1,l2,l3⟩:=HL3.out w6.drew td
         go_still_tail 19,(by kernel_rfl)
         change wpList _ _ _ _ _ w6.drew
         go_wp2_with (go_at_call 121; (with_reducible refine (HKD.out _ td).mono ?_); rintro e w7 ⟨rfl,t7⟩)
         all_goals
          have hl7:=HNO.out w7 (td.trans t7)
          clear t7
          go_wp2_with fail
          first | exact hl7 | (go_ret2; exact hl7)
       · have hd0:decide (0 < i)=true:=decide_eq_true (by omega)
         have hbl:b=lv:=Decidable.byContradiction fun q=>hG ⟨h0,q⟩
         clear hG h0
         subst hbl
         obtain ⟨l0,l1,l2,l3⟩:=HL3.out w6.drew td
         go_still_tail 19,(by kernel_rfl)
         change wpList _ _ _ _ _ w6.drew
         go_wp2_with (go_at_call 121; (with_reducible refine (HKD.out _ td).mono ?_); rintro e w7 ⟨rfl,t7⟩)
         all_goals
          have hl7:=HNO.out w7 (td.trans t7)
          clear t7
          go_wp2_with fail
          first | exact hl7 | (go_ret2; exact hl7)
theorem loadBelow_any (tb:Nat):∀ k,k≤1000000→LbOkP tb k
 | 0,_=>fun T a w _ _ _ h=>absurd h (by omega)
 | k+1,h=>loadBelow_step tb k (by omega) (loadBelow_any tb k (by omega))
end Go.Proofs.YtlkgnljdpakkcaaGreatDoor
/-
 'rises' of a tree: do the keys of all leaves rise?
-/
namespace Go.Proofs.YtlkgnljdpakkcaaGreatDoor
open Go.RowKit Go.Shelf
set_option linter.unusedVariables false
attribute [local go_sem] Oper.semAt_some
def lastK (p:ByteArray):List En→ByteArray
 | []=>p
 | e :: es=>lastK e.key es
theorem lastK_snoc:∀ (l:List En) (p:ByteArray) (x:En),lastK p (l++[x])=x.key
 | [],_,_=>rfl
 | e :: l,_,x=>lastK_snoc l e.key x
theorem rzs_snoc:∀ (l:List En) (p:ByteArray) (x:En),rzs p (l++[x])=(rzs p l && slt (lastK p l) x.key)
 | [],p,x=>by simp [rzs,lastK]
 | e :: l,p,x=>by
  show (slt p e.key && rzs e.key (l++[x]))=_
  rw [rzs_snoc l e.key x,← Bool.and_assoc]
  rfl
theorem rzs_pre:∀ (l:List En) (p:ByteArray) (m:List En),rzs p (l++m)=true→rzs p l=true
 | [],_,_,_=>rfl
 | e :: l,p,m,h=>by
  have h:(slt p e.key && rzs e.key (l++m))=true:=h
  rw [Bool.and_eq_true] at h
  show (slt p e.key && rzs e.key l)=true
  rw [h.1,rzs_pre l e.key m h.2]; rfl
theorem KpN.setCell {n₀:Nat} {W:World} {b o:Nat} {v:Value} {cs:Array Value} {t:TypeId} {z:Nat × Nat} (hb:W.heap[b]?=some (.cells cs t z)) (ht:t≠138) (hn:n₀≤b):KpN n₀ W (W.setCell ⟨b,o,none⟩ v) :=
 ⟨rfl,rfl,rfl,by simp [World.setCell],fun k hk h=>Below.heap_setCell _ _ _ _ (fun e=>by
  simp only at e
  subst e
  rcases h with h | ⟨cs',h⟩
  · omega
  · rw [hb] at h; simp only [Option.some.injEq,Obj.cells.injEq] at h; exact ht h.2.1)⟩
theorem kpn_t {n₀:Nat} {A B C:World} (h:KpN n₀ A B) (g:KpN n₀ B C):KpN n₀ A C:=h.trans g
theorem kpn_b {n₀:Nat} {w:World} (hn:n₀≤w.heap.size):∀ (W:World) (l:Nat) (o o':Obj),w.heap.size≤l→W.heap[l]?=some o→o.isCells=false→o.isWalk=false→KpN n₀ W (W.putObj l o'):=fun W l o o' hl ho hc _ =>
 ⟨rfl,rfl,rfl,by simp,fun k hk h=>World.putObj_heap_other (fun e=>by
  subst e
  rcases h with h | ⟨cs,h⟩
  · omega
  · rw [ho] at h; cases h; cases hc)⟩
set_option maxRecDepth 100000 in
set_option maxHeartbeats 4000000 in
theorem rises_any (tb h:Nat) (T:Tv) (w:World) (ht:IsTr w tb T) (s:Sth (mN T.f) h T.root) (hr:0≤T.root∧T.root < (topN:Int)) :
 Calls Tryz.prog 84 #[.pointer (some ⟨tb,0,none⟩)] w fun e w'=>e=.returned (.bool (rzs ⟨#[]⟩ (ho (mN T.f) h T.root ⟨#[]⟩)))∧Tch [] w w':=by
 refine (callsIn_wide (n:=9)).1 ?_
 refine callsIn_of_wp_marks Tryz.func84 rfl trivial ?_ rfl
 simp only [Tryz.ntmps84,List.size_toArray,List.length_cons,List.length_nil,Nat.reduceAdd,Nat.reduceSub,Array.replicate_succ,Array.replicate_zero,List.push_toArray,List.append_toArray,List.nil_append,List.cons_append]
 gi_wp2_with ((refine ⟨trivial,?_⟩); gi_at_call 51; (with_reducible refine (callsIn_wide.2 (pairs_any tb ⟨#[]⟩ _)).mono ?_); rintro e w' ⟨rfl,rfl⟩)
 have hsz:((w.alloc (.cells #[.bool false] 4)).alloc (.cells #[.string ⟨#[]⟩] 9)).heap.size=w.heap.size+2:=by simp
 try rw [hsz]
 obtain ⟨W4,hW4⟩:∃ W4,W4=(((w.alloc (.cells #[.bool false] 4)).alloc (.cells #[.string ⟨#[]⟩] 9)).alloc (.cells #[.pointer (some ⟨tb,0,none⟩)] 25)).alloc (.cells #[.string ⟨#[]⟩] 9):=⟨_,rfl⟩
 rw [← hW4]
 have hz4:W4.heap.size=w.heap.size+4:=by rw [hW4]; simp
 have q0:Boxed W4 w.heap.size 4 (.bool false):=by rw [hW4]; exact (((Boxed.new w 4 (.bool false)).alloc _).alloc _).alloc _
 have q1:Boxed W4 (w.heap.size+1) 9 (.string ⟨#[]⟩):=by
  have:=Boxed.new (w.alloc (.cells #[.bool false] 4)) 9 (.string ⟨#[]⟩)
  rw [World.size_alloc] at this
  rw [hW4]; exact (this.alloc _).alloc _
 have q2:Boxed W4 (w.heap.size+2) 25 (.pointer (some ⟨tb,0,none⟩)):=by
  have:=Boxed.new ((w.alloc (.cells #[.bool false] 4)).alloc (.cells #[.string ⟨#[]⟩] 9)) 25 (.pointer (some ⟨tb,0,none⟩))
  rw [hsz] at this
  rw [hW4]; exact this.alloc _
 have q3:Boxed W4 (w.heap.size+3) 9 (.string ⟨#[]⟩):=by
  have:=Boxed.new (((w.alloc (.cells #[.bool false] 4)).alloc (.cells #[.string ⟨#[]⟩] 9)).alloc (.cells #[.pointer (some ⟨tb,0,none⟩)] 25)) 9 (.string ⟨#[]⟩)
  rw [show (((w.alloc (.cells #[.bool false] 4)).alloc (.cells #[.string ⟨#[]⟩] 9)).alloc (.cells #[.pointer (some ⟨tb,0,none⟩)] 25)).heap.size=w.heap.size+3 from by simp] at this
  rw [hW4]; exact this
 have B4:Below w.heap.size w W4:=by rw [hW4]; exact ((((Below.refl _ w).alloc (Nat.le_refl _) _).alloc (by simp) _).alloc (by simp; omega) _).alloc (by simp; omega) _
 clear hW4 hsz
 generalize hL:ho (mN T.f) h T.root ⟨#[]⟩=L
 have hst:=pairs_stops 8 tb h T w W4 ⟨#[]⟩ (w.heap.size+2) (w.heap.size+3) ht (by show (0:Nat)≤10000000; omega) B4 s hr q2 q3
 rw [hL] at hst
 have hown:∀ (B:Nat) (t:TypeId) (v:List En→Value),Own (fun (s:List En) W=>Boxed W B t (v s)):=fun B t v s X Y row hs hg hrw=>hs.kept hg (fun e=>by
  obtain ⟨o,ho,hc⟩:=hrw _ e.symm
  rw [show X.heap[B]?=_ from hs] at ho; cases ho; cases hc)
 refine wpIn_rangeFunc_ownG rfl (by omega) (gf:=94) (lb:=#[.pointer (some ⟨w.heap.size+2,0,none⟩),.pointer (some ⟨w.heap.size+3,0,none⟩)]) rfl trivial (enters_of Tryz.func94 (by kernel_rfl) rfl)
  hst kpn_t (kpn_b (by omega)) (Below.refl _ _) (fun _=>rfl)
  (fun pre W=>Boxed W w.heap.size 4 (.bool false)∧Boxed W (w.heap.size+1) 9 (.string (lastK ⟨#[]⟩ pre))∧rzs ⟨#[]⟩ pre=true∧Below w.heap.size w W)
  (fun c pre W=>c=.ret∧Boxed W w.heap.size 4 (.bool false)∧rzs ⟨#[]⟩ pre=false∧Below w.heap.size w W)
  (OwnFrom.and (Own.from (hown _ _ (fun _=>.bool false)) _) (OwnFrom.and (Own.from (hown _ _ (fun pre=>.string (lastK ⟨#[]⟩ pre))) _) (OwnFrom.and (ownFrom_pure _ (fun pre=>rzs ⟨#[]⟩ pre=true)) (ownFrom_below (Nat.le_refl _) (by omega)))))
  (fun c=>OwnFrom.and (ownFrom_pure _ (fun _=>c=.ret)) (OwnFrom.and (Own.from (hown _ _ (fun _=>.bool false)) _) (OwnFrom.and (ownFrom_pure _ (fun pre=>rzs ⟨#[]⟩ pre=false)) (ownFrom_below (Nat.le_refl _) (by omega)))))
  ⟨q0,q1,rfl,B4⟩
  (fun x=>{ tmps:=#[.pointer (some ⟨tb,0,none⟩),undef,.pointer (some ⟨w.heap.size,0,none⟩),.pointer (some ⟨w.heap.size+1,0,none⟩),.string x.key,.pointer (some ⟨tb,0,none⟩),.func (.func 94) #[] #[.pointer (some ⟨w.heap.size+2,0,none⟩),.pointer (some ⟨w.heap.size+3,0,none⟩)],.string x.key,.string x.val,undef,undef,undef,undef],defers:=[] }) ?assign ?body ?done ?stop
 case assign =>
  intro l x W K hK
  gi_wp2
  exact hK
 case body =>
  rintro l pre x W ⟨h0,h1,h2,hB⟩ hlt
  have c0:=h0.cell
  have f0:=h0.frozen
  have c1:=h1.cell
  have f1:=h1.frozen
  obtain ⟨key,val,kid⟩:=x
  obtain ⟨last,hlast⟩:∃ last,last=lastK ⟨#[]⟩ pre:=⟨_,rfl⟩
  rw [← hlast] at c1
  have HS:=Lib.hid (rzs_snoc pre ⟨#[]⟩ ⟨key,val,kid⟩)
  have HB:=Lib.hid hB
  have HLS:=Lib.hid hlast
  have HH:=Lib.hid h2
  clear h2 hB hlast
  by_cases hb1:Go.Op.bytesLess key.toList last.toList=true
  · have hN:Hid (rzs ⟨#[]⟩ (pre++[⟨key,val,kid⟩])=false):=by
     show _=_
     rw [HS.out,HH.out,← HLS.out,lt_anti (show slt key last=true from hb1)]; rfl
    gi_wp2
    exact ⟨(KeepsOthers.setCell _ _ _).from _,rfl,h0.set _,hN.out,HB.out.setCell (p:=⟨w.heap.size,0,none⟩) (Nat.le_refl _) _⟩
  have hb1:Go.Op.bytesLess key.toList last.toList=false:=by simpa using hb1
  by_cases hb2:(key.toList == last.toList)=true
  · have hN:Hid (rzs ⟨#[]⟩ (pre++[⟨key,val,kid⟩])=false):=by
     show _=_
     rw [ba_eq,decide_eq_true_eq] at hb2
     rw [HS.out,HH.out,← HLS.out,hb2,lt_irr]; rfl
    gi_wp2
    exact ⟨(KeepsOthers.setCell _ _ _).from _,rfl,h0.set _,hN.out,HB.out.setCell (p:=⟨w.heap.size,0,none⟩) (Nat.le_refl _) _⟩
  have hb2:(key.toList == last.toList)=false:=by simpa using hb2
  have hN:Hid (rzs ⟨#[]⟩ (pre++[⟨key,val,kid⟩])=true):=by
   show _=_
   have h3:slt last key=true:=lt_of_ne (fun e=>by rw [e] at hb2; simp at hb2) (show slt key last=false from hb1)
   rw [HS.out,HH.out,← HLS.out,h3]; rfl
  have HLN:Hid (lastK ⟨#[]⟩ (pre++[⟨key,val,kid⟩])=key):=lastK_snoc pre ⟨#[]⟩ ⟨key,val,kid⟩
  gi_wp2
  refine ⟨(KeepsOthers.setCell _ _ _).from _,KpN.setCell (show W.heap[w.heap.size+1]?=_ from h1) (by decide) (by omega),Boxed.other h0 (by omega) _,?_,hN.out,HB.out.setCell (p:=⟨w.heap.size+1,0,none⟩) (by simp) _⟩
  rw [HLN.out]
  exact h1.set _
 case done =>
  rintro D ys W hD rfl ⟨h0,h1,h2,hB⟩ hK
  have c0:=h0.cell
  have f0:=h0.frozen
  gi_wp2
  have hK2:(W.setCell ⟨w.heap.size,0,none⟩ (.bool true)).heap[D]?=some (.deferred (some [])):=(KeepsOthers.setCell W ⟨w.heap.size,0,none⟩ (.bool true)).same D _ hK rfl
  have hcr:=cell_kept (h0.set (.bool true)).cell (grownBy_putObj' _ D (.deferred none)) (fun r e=>by cases e; exact ⟨_,hK2,rfl⟩)
  refine ⟨by simp,.inl ⟨_,_,rfl,run_takeDeferred hK2,?_⟩⟩
  refine ⟨.bool true,by simp [results,Tryz.results84,go_sem,hcr],by rw [hL,h2],?_⟩
  exact Tch.ofBelow ((hB.setCell (p:=⟨w.heap.size,0,none⟩) (Nat.le_refl _) _).trans (belowK_b (w:=w) (Nat.le_refl _) _ D _ _ (by omega) hK2 rfl rfl))
 case stop =>
  rintro D c pre W hD hp ⟨rfl,h0,h2,hB⟩ hK
  have c0:=h0.cell
  have f0:=h0.frozen
  gi_wp2
  have hcr:=cell_kept h0.cell (grownBy_putObj' _ D (.deferred none)) (fun r e=>by cases e; exact ⟨_,hK,rfl⟩)
  refine ⟨by simp,.inl ⟨_,_,rfl,run_takeDeferred hK,?_⟩⟩
  refine ⟨.bool false,by simp [results,Tryz.results84,go_sem,hcr],?_,?_⟩
  · obtain ⟨m,hm⟩:=hp
    cases hz:rzs ⟨#[]⟩ L
    · rw [hL,hz]
    · rw [← hm] at hz
      rw [rzs_pre _ _ _ hz] at h2; cases h2
  · exact Tch.ofBelow (hB.trans (belowK_b (w:=w) (Nat.le_refl _) _ D _ _ (by omega) hK rfl rfl))
end Go.Proofs.YtlkgnljdpakkcaaGreatDoor
/-
 A region that draws its order within a loop's round: by the plain walk of its operations. Of no program.
-/
namespace Go.Proofs.YtlkgnljdpakkcaaGreatDoor
open Go.RowKit
def oK (K:Act→World→Prop):Exit→Act→World→Prop
 | .normal,a,w=>K a w
 | _,_,_=>False
section
variable {P:Program} {ops:Array Oper} {md:Region.Mode} {n l:Nat}
theorem roundOp {o:Oper} {a:Act} {w:World} {K next next':Act→World→Prop} {Q:Exit→Act→World→Prop} (hnd:∀ c,o.op≠.defer c) (h:o.wp P a w next (oK K)) (hn:∀ a w,next a w→next' a w):o.wpIn (Fence.wide.inRound l) n P a w next' Q:=by
 refine ⟨fun _ _=>trivial,?_⟩
 unfold Oper.wp at h
 rw [Fence.inRound_round,Oper.semAt_some l a.eval o hnd]
 generalize (execOp a.eval o).run P w=r at *
 cases r with
 | ok m w' =>
  cases m <;> simp only [Oper.upon] at h <;> simp only [Oper.uponIn]
  case enter f args =>
   refine ⟨fun e=>by simp [Fence.wide] at e,CallsIn.inRound l ((callsIn_wide.2 h).mono fun e w'' he=>?_)⟩
   cases e with
   | returned v=>exact hn _ _ he
   | panicked chain=>exact absurd he id
   | outgrown=>obtain ⟨a',w',h'⟩:=he; exact absurd h' id
  case row row args =>
   refine ⟨fun e=>by simp [Fence.wide] at e,?_⟩
   exact fun c cs _=>by
    obtain ⟨v,w'',h1,h2⟩:=h c cs
    exact ⟨v,w'',hn _ _ h1,stepsIn_wide.2 h2⟩
  all_goals exact hn _ _ h
 | halt x w' =>
  cases x <;> simp only [Oper.upon] at h <;> first | exact absurd h id | skip
theorem round_any {K:Act→World→Prop} {Q:Exit→Act→World→Prop} (hnd:∀ (i:Nat) (o:Oper),ops[i]?=some o→∀ c,o.op≠.defer c) (hK:∀ a w,K a w→Q .normal a w):∀ (fuel:Nat) (listed:Array Bool) (a:Act) (w:World),wpAny P md ops (oK K) fuel listed a w→wpAnyIn (Fence.wide.inRound l) n P md ops Q fuel listed a w
 | 0,listed,a,w,h=>⟨h.1,hK _ _ h.2⟩
 | fuel+1,listed,a,w,h=>by
  refine ⟨fun h0=>hK _ _ (h.1 h0),fun i hi=>?_⟩
  have h2:=h.2 i hi
  unfold wpOp at h2
  unfold wpOpIn
  cases ho:ops[i]? with
  | none=>rw [ho] at h2; exact round_any hnd hK fuel _ _ _ h2
  | some o =>
   rw [ho] at h2
   simp only at h2 ⊢
   split at h2
   · rename_i hw
     rw [if_pos hw]
     rcases h2 with h2 | ⟨_,a',w',h2⟩
     · exact roundOp (hnd i o ho) h2 (fun a w h=>round_any hnd hK fuel _ a w h)
     · exact absurd h2 id
   · rename_i hw
     rw [if_neg hw]
     exact ⟨fun _ _=>trivial,round_any hnd hK fuel _ _ _ h2⟩
def notDefer (o:Oper):Bool:=match o.op with
 | .defer _=>false
 | _=>true
theorem notDefer_spec (h:ops.all notDefer=true) (i:Nat) (o:Oper) (ho:ops[i]?=some o) (c:Call):o.op≠.defer c:=fun e=>by
 obtain ⟨hi,rfl⟩:=Array.getElem?_eq_some_iff.1 ho
 have:=Array.all_eq_true.1 h i hi
 unfold notDefer at this
 rw [e] at this
 cases this
theorem round_plain {id:Nat} {Q:Exit→Act→World→Prop} {a:Act} {w:World} (hm:P.follows .mixedOrders=true) (hnd:ops.all notDefer=true)
 (h:wpAny P .any ops (oK fun a' w'=>Q .normal a' w') ops.size (Array.replicate ops.size false) a w.drew):(Code.region id ops true).wpIn (Fence.wide.inRound l) n P Q a w :=
 wpIn_region_any hm (round_any (notDefer_spec hnd) (fun _ _ h=>h) _ _ _ _ h)
end
end Go.Proofs.YtlkgnljdpakkcaaGreatDoor
/-
 'grows' of a draft: does a change ask for more room than its key had? Conditions: the tree has the shape of one.
-/
namespace Go.Proofs.YtlkgnljdpakkcaaGreatDoor
open Go.RowKit
def grO (o:Option ByteArray) (gone:Bool) (val:ByteArray):Bool:=!gone && (match o with
 | none=>true
 | some v=>decide (v.size < val.size))
theorem grO_is (F:List En) (c:Ch):gr F c=grO (look F c.key) c.gone c.val:=rfl
set_option maxRecDepth 100000 in
set_option maxHeartbeats 4000000 in
theorem grows_any (db H0 h:Nat) (d:Dv) (T:Tv) (ck cv:ByteArray) (cg:Bool) (w:World) (hd:IsDr w db d H0) (ht:IsTr w d.tb T) (s:Stands (mN T.f) h T.root) (hr:0≤T.root∧T.root < (topN:Int)) (hk:ck.size≤10000000) (hcv:cv.size≤10000000) :
 Calls Tryz.prog 97 #[.pointer (some ⟨db,0,none⟩),.agg #[.string ck,.string cv,.bool cg]] w fun e w'=>e=.returned (.bool (grO (getT (mN T.f) h T.root ck) cg cv))∧Tch [] w w':=by
 obtain ⟨W0,hW0⟩:∃ W0,W0=w.alloc (.cells #[.string ck,.string cv,.bool cg] 62):=⟨_,rfl⟩
 have T0:Tch [] w W0:=by rw [hW0]; exact (Tch.refl _ _).alloc _
 have hbC:W0.heap[w.heap.size]?=some (.cells #[.string ck,.string cv,.bool cg] 62 (0,0)):=by rw [hW0]; exact blk_new _ _
 have HC:Hid (∀ W,Tch [] W0 W→W.cell? ⟨db,1,none⟩=some (.pointer (some ⟨d.tb,0,none⟩))∧W.cell? ⟨w.heap.size,0,none⟩=some (.string ck)∧W.cell? ⟨w.heap.size,1,none⟩=some (.string cv)∧W.cell? ⟨w.heap.size,2,none⟩=some (.bool cg)):=fun W t=>by
  have h:=t.keep hbC (by simp)
  exact ⟨by rw [blk_cell ((T0.trans t).keep hd.blk (by simp))]; rfl,by rw [blk_cell h]; rfl,by rw [blk_cell h]; rfl,by rw [blk_cell h]; rfl⟩
 have HG:Hid (∀ W,Tch [] w W→Calls Tryz.prog 17 #[.pointer (some ⟨d.tb,0,none⟩),.string ck] W fun e w'=>e=.returned (getV (getT (mN T.f) h T.root ck))∧Tch [] W w'):=fun W t=>get_any d.tb h T ck W (ht.keep0 t) s hr hk
 clear hd ht s hr hk hbC
 generalize getT (mN T.f) h T.root ck=o at *
 have td:Tch [] W0 W0.drew:=(Tch.refl _ _).drew
 go_enter Tryz.func97,Tryz.ntmps97
 go_upto_region 1 with fail
 rw [← hW0]
 clear hW0
 unfold getV at HG
 cases o with
 | none =>
  simp only at HG
  go_region_held3 (fun w'=>w'.cell? ⟨db,1,none⟩=some (.pointer (some ⟨d.tb,0,none⟩))∧w'.cell? ⟨w.heap.size,0,none⟩=some (.string ck)∧w'.cell? ⟨w.heap.size,1,none⟩=some (.string cv)∧w'.cell? ⟨w.heap.size,2,none⟩=some (.bool cg))
   (first | exact HC.out _ td | exact HC.out _ (td.trans t5))
   (first | (go_at_call 17; (with_reducible refine (HG.out _ (T0.trans td)).mono ?_); rintro e w5 ⟨rfl,t5⟩))
  obtain ⟨c0,c1,c2,c3⟩:=HC.out w5 (td.trans t5)
  cases cg
  · go_wp2_with fail
    go_ret
    exact ⟨rfl,(T0.trans td).trans t5⟩
  · go_wp2_with fail
    go_ret
    exact ⟨rfl,(T0.trans td).trans t5⟩
 | some v =>
  simp only at HG
  go_region_held3 (fun w'=>w'.cell? ⟨db,1,none⟩=some (.pointer (some ⟨d.tb,0,none⟩))∧w'.cell? ⟨w.heap.size,0,none⟩=some (.string ck)∧w'.cell? ⟨w.heap.size,1,none⟩=some (.string cv)∧w'.cell? ⟨w.heap.size,2,none⟩=some (.bool cg))
   (first | exact HC.out _ td | exact HC.out _ (td.trans t5))
   (first | (go_at_call 17; (with_reducible refine (HG.out _ (T0.trans td)).mono ?_); rintro e w5 ⟨rfl,t5⟩))
  obtain ⟨c0,c1,c2,c3⟩:=HC.out w5 (td.trans t5)
  cases cg
  · have HR:Hid (grO (some v) false cv=decide (v.size < cv.size)):=rfl
    go_wp2_with fail
    go_ret
    exact ⟨by rw [HR.out]; rfl,(T0.trans td).trans t5⟩
  · go_wp2_with fail
    go_ret
    exact ⟨rfl,(T0.trans td).trans t5⟩
end Go.Proofs.YtlkgnljdpakkcaaGreatDoor
/-
 'alter' of a draft: one change comes about. Conditions: the draft is right,the change's key and value are short.
-/
namespace Go.Proofs.YtlkgnljdpakkcaaGreatDoor
open Go.RowKit
def AlrPost (w:World) (db H0:Nat) (d:Dv) (s:Ov × Int) (e:Ending) (w':World):Prop :=
 ∃ d2:Dv,e=.returned (.tuple #[])∧IsDr w' db d2 H0∧d2.ov=s.1∧d2.root=s.2∧d2.tb=d.tb∧d2.mb=d.mb∧Tch [db,d.mb] w w'
theorem IsDr.root {w:World} {db H0:Nat} {d:Dv} (h:IsDr w db d H0) (x:Int):IsDr (w.setCell ⟨db,0,none⟩ (.int .i64 x)) db { d with root:=x } H0:=by
 have t:Tch [db] w (w.setCell ⟨db,0,none⟩ (.int .i64 x)):=(Tch.refl [db] w).setCell (by simp) _
 have hne:d.mb≠db:=h.ns.mp.ne h.blk
 have hx:∀ y v,d.f y=some v→Off db v:=fun y v hv=>(h.ns.gd y v hv).offk (fun cs=>by rw [h.blk]; exact ⟨by simp,by simp⟩)
 refine ⟨?_,⟨h.ns.mp.keep t (by simpa using hne),fun y v hv=>(h.ns.gd y v hv).keep t (hx y v hv).1 (hx y v hv).2.1 (hx y v hv).2.2,h.ns.sup⟩,fun y v hv=>own_keep (h.own y v hv) t (hx y v hv).2.2,h.apart,h.fr,h.hig⟩
 exact blk_set h.blk 0 (.int .i64 x)
def nvl:Nv:={ nvz with leaf:=true }
theorem gdl (w:World):Gd w nvl:=by
 refine ⟨⟨IsR.nil _ _ _ _,IsR.nil _ _ _ _,IsR.nil _ _ _ _⟩,rfl,?_,?_,⟨World.ownsRow_nil _ _ _ _,World.ownsRow_nil _ _ _ _,World.ownsRow_nil _ _ _ _,Apart.nil _,Apart.nil _,Apart.nil _⟩⟩
 · refine ⟨?_,?_,?_,?_,?_,?_,?_⟩ <;> simp [nvl,nvz]
 · unfold Nv.caps nvl nvz maxLen; simp
set_option maxRecDepth 100000 in
set_option maxHeartbeats 4000000 in
theorem alter_gone (db H0 h:Nat) (d:Dv) (T:Tv) (ck cv:ByteArray) (w:World) (hd:IsDr w db d H0) (hr:d.root=0) :
 Calls Tryz.prog 98 #[.pointer (some ⟨db,0,none⟩),.agg #[.string ck,.string cv,.bool true]] w (AlrPost w db H0 d (alt (mN T.f) h d.ov d.root ⟨ck,cv,true⟩)):=by
 have HF:Hid (∀ W,Tch [] w W→AlrPost w db H0 d (alt (mN T.f) h d.ov d.root ⟨ck,cv,true⟩) (.returned (.tuple #[])) W):=fun W t=>by
  have e:alt (mN T.f) h d.ov d.root ⟨ck,cv,true⟩=(d.ov,0):=by unfold alt; rw [if_pos hr]; rfl
  rw [e]
  exact ⟨d,rfl,hd.keep0 t,rfl,hr,rfl,rfl,t.mono (by simp)⟩
 have T0:Tch [] w (w.alloc (.cells #[.string ck,.string cv,.bool true] 62)):=(Tch.refl _ _).alloc _
 have b0:=blk_cell (T0.keep hd.blk (by simp)) 0
 simp only [List.getElem?_toArray,List.getElem?_cons_zero] at b0
 rw [hr] at b0
 have hbC:=blk_new w (.cells #[.string ck,.string cv,.bool true] 62)
 have c2:=blk_cell hbC 2
 simp only [gA,gZ,gS] at c2
 clear hd hr hbC
 generalize AlrPost w db H0 d (alt (mN T.f) h d.ov d.root ⟨ck,cv,true⟩)=Q at *
 go_enter Tryz.func98,Tryz.ntmps98
 go_upto_region 1 with fail
 go_wp2_with fail
 go_end0
 exact HF.out _ T0
set_option maxRecDepth 100000 in
set_option maxHeartbeats 4000000 in
theorem alter_first (db H0 h:Nat) (d:Dv) (T:Tv) (ck cv:ByteArray) (w:World) (hd:IsDr w db d H0) (h0:H0≤w.heap.size) (hr:d.root=0) (hfr:d.fresh < 199999990) (hc:(⟨ck,cv,false⟩:Ch).ok) :
 Calls Tryz.prog 98 #[.pointer (some ⟨db,0,none⟩),.agg #[.string ck,.string cv,.bool false]] w (AlrPost w db H0 d (alt (mN T.f) h d.ov d.root ⟨ck,cv,false⟩)):=by
 have halt:alt (mN T.f) h d.ov d.root ⟨ck,cv,false⟩=(d.ov.put ⟨true,altE [] ⟨ck,cv,false⟩⟩,d.ov.nx):=by unfold alt; rw [if_pos hr,if_neg (by simp)]
 have hfit:∀ e ∈ altE nvl.es ⟨ck,cv,false⟩,fitA true e:=fun e he=>by
  rw [altE_is _ _ (by show Srt []; simp [Srt]),show nvl.es=[] from rfl,altL_nil] at he
  unfold fitA; rw [if_pos rfl]
  exact newE_fit hc e he
 have HAL:Hid (∀ W,Tch [] w W→Calls Tryz.prog 137 #[.agg #[.bool true,.slice none 0 0,.slice none 0 0,.slice none 0 0],.agg #[.string ck,.string cv,.bool false]] W fun e w'=>∃ u:Nv,e=.returned (vNv u)∧Gd w' u∧u.nod=⟨true,altE [] ⟨ck,cv,false⟩⟩∧NwN W.heap.size u w'∧Tch [] W w'):=fun W t =>
  altered_any nvl ck cv false W (gdl W) rfl (by show Srt []; simp [Srt]) (by show 0≤2000; omega) (by have:=hc.k2; simp only at this; omega) (by have:=hc.v; simp only at this; omega) hfit
 have HPU:Hid (∀ W W' u,Tch [] w W→Tch [] W W'→Gd W' u→NwN W.heap.size u W'→Calls Tryz.prog 136 #[.pointer (some ⟨db,0,none⟩),vNv u] W' fun e w'=>e=.returned (.int .i64 d.ov.nx)∧(IsDr w' db { d with f:=updN d.f d.ov.nx (some u),fresh:=d.fresh+1 } H0∧Tch [db,d.mb] W' w')):=fun W W' u t t' h1 h2 =>
  put_any db H0 d u W' (hd.keep0 (t.trans t')) h1 (own_base h2.hi (Nat.le_trans h0 t.size)) (fun y q hy=>own_apart' h2.hi ((hd.keep0 t).own y q hy) (Nat.le_refl _)) (by omega) (h2.hig (Nat.le_trans h0 t.size))
 have HF:Hid (∀ W w' u,Tch [] w W→u.nod=⟨true,altE [] ⟨ck,cv,false⟩⟩→IsDr w' db { d with f:=updN d.f d.ov.nx (some u),fresh:=d.fresh+1 } H0→Tch [db,d.mb] W w'→AlrPost w db H0 d (alt (mN T.f) h d.ov d.root ⟨ck,cv,false⟩) (.returned (.tuple #[])) (w'.setCell ⟨db,0,none⟩ (.int .i64 d.ov.nx))):=fun W w' u t h1 h2 t1=>by
  rw [halt]
  exact ⟨_,rfl,h2.root _,by rw [← h1]; exact ov_new,rfl,rfl,rfl,((t.mono (by simp)).trans t1).setCell (by simp) _⟩
 have T0:Tch [] w (w.alloc (.cells #[.string ck,.string cv,.bool false] 62)):=(Tch.refl _ _).alloc _
 have b0:=blk_cell (T0.keep hd.blk (by simp)) 0
 simp only [List.getElem?_toArray,List.getElem?_cons_zero] at b0
 rw [hr] at b0
 have hbC:=blk_new w (.cells #[.string ck,.string cv,.bool false] 62)
 have c0:=blk_cell hbC 0
 have c1:=blk_cell hbC 1
 have c2:=blk_cell hbC 2
 simp only [gA,gZ,gS] at c0 c1 c2
 clear hd h0 hr hfr hbC halt hfit
 generalize AlrPost w db H0 d (alt (mN T.f) h d.ov d.root ⟨ck,cv,false⟩)=Q at *
 generalize d.ov.nx=nx at *
 go_enter Tryz.func98,Tryz.ntmps98
 go_upto_region 1 with fail
 generalize w.alloc (.cells #[.string ck,.string cv,.bool false] 62)=W0 at *
 unfold vNv at HAL HPU
 go_wp2_with (first | (go_at_call 137; (with_reducible refine (HAL.out _ T0).mono ?_); rintro e w3 ⟨u,rfl,hg3,hun3,hnw3,t3⟩) | (go_at_call 136; (with_reducible refine (HPU.out _ _ u T0 t3 hg3 hnw3).mono ?_); rintro e w4 ⟨rfl,hd4,t4⟩; have p0:=blk_cell hd4.blk 0; have f0:=blk_free hd4.blk 0; simp only [List.getElem?_toArray,List.getElem?_cons_zero] at p0))
 go_end0
 exact HF.out _ _ u (T0.trans t3) hun3 hd4 t4
theorem alt_0 {B:Int→Nod} {h:Nat} {s:Ov} {root:Int} {c:Ch} {r:Ov × List Int} (h0:root≠0) (hr:r=altB B h s root c) (he:r.2=[]):alt B h s root c=(r.1,0):=by
 subst hr; unfold alt; rw [if_neg h0]; split <;> simp_all
theorem alt_1 {B:Int→Nod} {h:Nat} {s:Ov} {root:Int} {c:Ch} {r:Ov × List Int} {t:Int} (h0:root≠0) (hr:r=altB B h s root c) (he:r.2=[t]):alt B h s root c=lowered B r.1 t:=by
 subst hr; unfold alt; rw [if_neg h0]; split <;> simp_all
theorem alt_2 {B:Int→Nod} {h:Nat} {s:Ov} {root:Int} {c:Ch} {r:Ov × List Int} {t u:Int} {ts:List Int} (h0:root≠0) (hr:r=altB B h s root c) (he:r.2=t :: u :: ts):alt B h s root c=(r.1.put ⟨false,withKids B r.1 [] 0 0 r.2⟩,r.1.nx):=by
 subst hr; unfold alt; rw [if_neg h0]; split <;> simp_all
set_option maxRecDepth 100000 in
set_option maxHeartbeats 8000000 in
theorem alter_some (db H0 h:Nat) (d:Dv) (T:Tv) (ck cv:ByteArray) (cg:Bool) (F:List En) (S:List Int) (w:World) (hd:IsDr w db d H0) (hT:∀ W,Tch [db,d.mb] w W→IsTr W d.tb T) (h0:H0≤w.heap.size) (hr:d.root≠0) (hfr:d.fresh+2 * (h+1) < 199999980) (hc:(⟨ck,cv,cg⟩:Ch).ok)
 (dok:Dok (mN T.f) d.ov d.root h F S) :
 Calls Tryz.prog 98 #[.pointer (some ⟨db,0,none⟩),.agg #[.string ck,.string cv,.bool cg]] w (AlrPost w db H0 d (alt (mN T.f) h d.ov d.root ⟨ck,cv,cg⟩)):=by
 obtain ⟨M,hM⟩:∃ M,M=mN T.f:=⟨_,rfl⟩
 obtain ⟨k,hk⟩:∃ k,k=d.root:=⟨_,rfl⟩
 obtain ⟨r,hrr⟩:∃ r,r=altB M h d.ov k ⟨ck,cv,cg⟩:=⟨_,rfl⟩
 have htr:=dok.tr
 rcases htr with ⟨h1,_⟩ | ⟨hr1,hsh,h2,hF,hS,hsr⟩
 · exact absurd h1 hr
 subst hF hS
 have hktop:0≤k∧k < (topN:Int):=by
  have h1:=(dok.inn _ (nums_self _ h d.root)).2
  have e:(topN:Int)=268435456:=rfl
  have e2:d.ov.nx=16384+(d.fresh:Int):=rfl
  rw [hk,e]; omega
 have hok:AltOk M d.ov h k ⟨ck,cv,cg⟩ r:=by
  rw [hrr,hM,hk]
  refine altB_ok hc h d.ov d.root hsh hsr dok.one (fun x hx=>(dok.inn x hx).2) h2 ?_
  have e:(topN:Int)=268435456:=rfl
  have e2:d.ov.fresh=d.fresh:=rfl
  rw [e,e2]; omega
 have IHC:Hid (∀ W,Tch [] w W→Calls Tryz.prog 138 #[.pointer (some ⟨db,0,none⟩),.int .i64 k,.agg #[.string ck,.string cv,.bool cg]] W fun e w'=>∃ (d1:Dv) (x:Option Addr) (c1:Nat),e=.returned (.slice x r.2.length c1)∧w'.ownsRow W.heap.size 3 1 (.slice x r.2.length c1) r.2.length (r.2.map (Value.int .i64))∧IsDr w' db d1 H0∧d1.ov=r.1∧d1.root=d.root∧d1.tb=d.tb∧d1.mb=d.mb∧Tch [db,d.mb] W w'):=fun W t=>by
  refine (below_any T ck cv cg db H0 hc h d k W (hd.keep0 t) (fun W' t'=>hT W' ((t.mono (by simp)).trans t')) (Nat.le_trans h0 t.size) hktop (by rw [hk]; exact hsh) (by rw [hk]; exact hsr) (by rw [hk]; exact dok.one) (by rw [hk]; exact fun x hx=>(dok.inn x hx).2) (by rw [hk]; exact h2) (by omega)).mono ?_
  rintro e w' ⟨d1,x,rfl,hx,hd1,ho,e1,e2,e3,t1⟩
  rw [← hM,← hrr] at ho hx
  obtain ⟨y,c1,rfl⟩:=own_slice hx
  exact ⟨d1,y,c1,rfl,hx,hd1,ho,e1,e2,e3,t1⟩
 have hfr1:r.1.fresh≤d.fresh+2 * (h+1):=hok.fr1
 have hnum:∀ t ∈ r.2,Sh (r.1.m M) h t∧1≤t∧t < (topN:Int):=fun t ht=>by
  refine ⟨hok.sh t ht,?_⟩
  obtain ⟨R,hcn,_⟩:=hok.cnt
  have e:(topN:Int)=268435456:=rfl
  have hm:t ∈ nums (d.ov.m M) h k++frs d.ov.fresh r.1.fresh:=mem_count (by
   rw [← hcn t,List.count_append]
   have:=count_mem (List.mem_flatMap.2 ⟨t,ht,nums_self (r.1.m M) h t⟩)
   omega)
  have e2:d.ov.fresh=d.fresh:=rfl
  rcases List.mem_append.1 hm with hm | hm
  · rw [hM,hk] at hm
    have:=dok.inn t hm
    have e3:d.ov.nx=16384+(d.fresh:Int):=rfl
    rw [e]; omega
  · have:=frs_mem.1 hm
    rw [e]; omega
 have hrr2:r=altB (mN T.f) h d.ov d.root ⟨ck,cv,cg⟩:=by rw [hrr,hM,hk]
 have hmbl:d.mb < w.heap.size:=by obtain ⟨D,⟨es,clock,hb,_⟩,_⟩:=hd.ns.mp; exact lt_of_block hb
 have hl0:=lt_of_block hd.blk
 obtain ⟨W0,hW0⟩:∃ W0,W0=w.alloc (.cells #[.string ck,.string cv,.bool cg] 62):=⟨_,rfl⟩
 have T0:Tch [] w W0:=by rw [hW0]; exact (Tch.refl _ _).alloc _
 have hbC:W0.heap[w.heap.size]?=some (.cells #[.string ck,.string cv,.bool cg] 62 (0,0)):=by rw [hW0]; exact blk_new _ _
 have HC:Hid (∀ W,Tch [db,d.mb] W0 W→W.cell? ⟨w.heap.size,0,none⟩=some (.string ck)∧W.cell? ⟨w.heap.size,1,none⟩=some (.string cv)∧W.cell? ⟨w.heap.size,2,none⟩=some (.bool cg)):=fun W t=>by
  have h:=t.keep hbC (by simp; omega)
  exact ⟨by rw [blk_cell h]; rfl,by rw [blk_cell h]; rfl,by rw [blk_cell h]; rfl⟩
 have HB:Hid (∀ W (d1:Dv),IsDr W db d1 H0→d1.root=d.root→W.cell? ⟨db,0,none⟩=some (.int .i64 k)∧W.frozen? ⟨db,0,none⟩=false):=fun W d1 h1 h2=>by
  refine ⟨?_,blk_free h1.blk 0⟩
  rw [blk_cell h1.blk,h2,hk]; rfl
 obtain ⟨b0,_⟩:=HB.out W0 d (hd.keep0 T0) rfl
 obtain ⟨c0,c1,c2⟩:=HC.out W0 (Tch.refl _ _)
 have hkb:(k == 0)=false:=by rw [hk]; simpa using hr
 have HIH:=Lib.hid (IHC.out W0.drew T0.drew)
 obtain ⟨b0d,_⟩:=HB.out W0.drew d (hd.keep0 T0.drew) rfl
 obtain ⟨c0d,c1d,c2d⟩:=HC.out W0.drew (Tch.refl _ _).drew
 have HT0:=Lib.hid T0
 match hs:r.2 with
 | [] =>
  have HF:Hid (∀ w5 d1,IsDr w5 db d1 H0→d1.ov=r.1→d1.tb=d.tb→d1.mb=d.mb→Tch [db,d.mb] w w5→AlrPost w db H0 d (alt (mN T.f) h d.ov d.root ⟨ck,cv,cg⟩) (.returned (.tuple #[])) (w5.setCell ⟨db,0,none⟩ (.int .i64 0))):=fun w5 d1 h1 h2 h3 h4 t=>by
   rw [alt_0 hr hrr2 hs]
   exact ⟨_,rfl,h1.root 0,h2,rfl,h3,h4,t.setCell (by simp) _⟩
  rw [hs] at HIH
  clear hd hT h0 hfr hc dok hk hrr hr1 hsh h2 hsr hktop hok IHC hfr1 hnum hrr2 hM hs hr hbC
  generalize AlrPost w db H0 d (alt (mN T.f) h d.ov d.root ⟨ck,cv,cg⟩)=Q at *
  go_enter Tryz.func98,Tryz.ntmps98
  go_upto_region 1 with fail
  rw [← hW0]
  clear hW0
  go_upto_region 4 with fail
  go_region_held3 (fun w'=>w'.cell? ⟨db,0,none⟩=some (.int .i64 k)∧w'.cell? ⟨w.heap.size,0,none⟩=some (.string ck)∧w'.cell? ⟨w.heap.size,1,none⟩=some (.string cv)∧w'.cell? ⟨w.heap.size,2,none⟩=some (.bool cg))
   (first | exact ⟨b0d,c0d,c1d,c2d⟩ | exact ⟨b1,k0,k1,k2⟩)
   (first | (go_at_call 138; (with_reducible refine HIH.out.mono ?_); rintro e w5 ⟨d1,x,c3,rfl,hx,hd1,ho,e1,e2,e3,t5⟩; obtain ⟨b1,f1⟩:=HB.out w5 d1 hd1 e1; obtain ⟨k0,k1,k2⟩:=HC.out w5 ((Tch.refl _ _).drew.trans t5)))
  go_wp2_with fail
  go_end0
  exact HF.out w5 d1 hd1 ho e2 e3 ((HT0.out.drew.mono (by simp)).trans t5)
 | [t] =>
  have hln:=hnum t (by rw [hs]; simp)
  have HLW:Hid (∀ w5 (d1:Dv),IsDr w5 db d1 H0→d1.ov=r.1→d1.tb=d.tb→d1.mb=d.mb→Tch [db,d.mb] w w5→Calls Tryz.prog 139 #[.pointer (some ⟨db,0,none⟩),.int .i64 t] w5 fun e w'=>∃ (k2 k3:Int),e=.returned (.int .i64 k2)∧(w'.cell? ⟨db,0,none⟩=some (.int .i64 k3)∧w'.frozen? ⟨db,0,none⟩=false)∧AlrPost w db H0 d (alt (mN T.f) h d.ov d.root ⟨ck,cv,cg⟩) (.returned (.tuple #[])) (w'.setCell ⟨db,0,none⟩ (.int .i64 k2))):=fun w5 d1 h1 h2 h3 h4 t5=>by
   refine (lowered_any db H0 d1 T t w5 h1 (by rw [h3]; exact hT w5 t5) ⟨by omega,hln.2.2⟩).mono ?_
   rintro e w' ⟨d2,rfl,g1,g2,g3,g4,g5,g6⟩
   refine ⟨_,d2.root,rfl,⟨by rw [blk_cell g1.blk]; rfl,blk_free g1.blk 0⟩,?_⟩
   rw [alt_1 hr hrr2 hs,← h2]
   rw [h4] at g6
   exact ⟨_,rfl,g1.root _,g2,rfl,g4.trans h3,g5.trans h4,(t5.trans g6).setCell (by simp) _⟩
  rw [hs] at HIH
  clear hd hT h0 hfr hc dok hk hrr hr1 hsh h2 hsr hktop hok IHC hfr1 hnum hrr2 hM hs hr hbC hln
  generalize AlrPost w db H0 d (alt (mN T.f) h d.ov d.root ⟨ck,cv,cg⟩)=Q at *
  go_enter Tryz.func98,Tryz.ntmps98
  go_upto_region 1 with fail
  rw [← hW0]
  clear hW0
  go_upto_region 4 with fail
  go_region_held3 (fun w'=>w'.cell? ⟨db,0,none⟩=some (.int .i64 k)∧w'.cell? ⟨w.heap.size,0,none⟩=some (.string ck)∧w'.cell? ⟨w.heap.size,1,none⟩=some (.string cv)∧w'.cell? ⟨w.heap.size,2,none⟩=some (.bool cg))
   (first | exact ⟨b0d,c0d,c1d,c2d⟩ | exact ⟨b1,k0,k1,k2⟩)
   (first | (go_at_call 138; (with_reducible refine HIH.out.mono ?_); rintro e w5 ⟨d1,x,c3,rfl,hx,hd1,ho,e1,e2,e3,t5⟩; obtain ⟨b1,f1⟩:=HB.out w5 d1 hd1 e1; obtain ⟨k0,k1,k2⟩:=HC.out w5 ((Tch.refl _ _).drew.trans t5)))
  have hx2:=hx.2
  rcases hx2 with ⟨_,hx0⟩ | ⟨g,cap,cur,hxv,hx3⟩
  · exact absurd hx0 (by simp)
  cases hxv
  have kc:=World.ownsRow.cellAt hx 0 (by simp)
  simp only [List.map_cons,List.map_nil,List.getElem?_cons_zero] at kc
  have HL5:=Lib.hid (HLW.out w5 d1 hd1 ho e2 e3 ((HT0.out.drew.mono (by simp)).trans t5))
  clear hx hx3 hd1 ho
  go_wp2_with (go_at_call 139; (with_reducible refine HL5.out.mono ?_); rintro e w6 ⟨k4,k3,rfl,⟨q0,q1⟩,hq⟩)
  go_end0
  exact hq
 | t :: u :: ts =>
  have hln:2≤r.2.length:=by rw [hs]; simp
  have hln2:r.2.length≤2:=by
   rcases hok.one with h4 | h4 | ⟨b,h4,_⟩ <;> rw [h4] <;> simp
  have HWK:Hid (∀ W (d1:Dv) (x:Option Addr) (c1 B:Nat),Tch [db,d.mb] w W→IsDr W db d1 H0→d1.tb=d.tb→d1.ov=r.1→W.ownsRow B 3 1 (.slice x r.2.length c1) r.2.length (r.2.map (Value.int .i64))→Calls Tryz.prog 140 #[.pointer (some ⟨db,0,none⟩),.agg #[.bool false,.slice none 0 0,.slice none 0 0,.slice none 0 0],.int .i64 0,.int .i64 0,.slice x r.2.length c1] W fun e w'=>∃ u1:Nv,e=.returned (.agg #[.bool u1.leaf,.slice u1.ka u1.kn u1.kc,.slice u1.va u1.vn u1.vc,.slice u1.ia u1.im u1.ic])∧Gd w' u1∧u1.nod=⟨false,withKids M r.1 [] 0 0 r.2⟩∧NwN W.heap.size u1 w'∧Tch [] W w'):=fun W d1 x c1 B t h1 h2 h3 h5=>by
   have hcap:=own_caps h5
   obtain ⟨b,hb,_⟩:=IsR.own (f:=fInt) (sz:=1) (fun _=>rfl) (show W.ownsRow B 3 1 (.slice x r.2.length c1) r.2.length (r.2.flatMap fInt) from by rw [show r.2.flatMap fInt=r.2.map (Value.int .i64) from fl_one _ _]; exact h5) rfl
   have e0:nvz.es=[]:=rfl
   refine (withKids_any db H0 d1 T nvz 0 0 x r.2.length c1 b 0 r.2 W h1 (by rw [h2]; exact hT W t) (gdz W) rfl (by omega) (by omega) hb hcap.2.2.2 (fun k hk=>?_) (by rw [e0]; simp) (by omega) ?_ (by rw [e0]; simp)).mono ?_
   · have:=hnum k hk
     rw [h3,← hM]
     exact ⟨by omega,this.2.2,this.1.ne⟩
   · rw [h3,← hM,e0]
     intro e he
     have he2:e ∈ r.2.map (kidE M r.1):=by simpa [withKids] using he
     exact kid_fit (kids_ok hnum e he2)
   · rintro e w' ⟨u1,g1,g2,g3,g4,g5⟩
     rw [h3,← hM,e0] at g3
     exact ⟨u1,g1,g2,g3,g4,g5⟩
  have HPU:Hid (∀ W W' (d1:Dv) (u1:Nv),Tch [db,d.mb] w W→IsDr W db d1 H0→d1.tb=d.tb→d1.mb=d.mb→d1.ov=r.1→Tch [] W W'→Gd W' u1→u1.nod=⟨false,withKids M r.1 [] 0 0 r.2⟩→NwN W.heap.size u1 W'→Calls Tryz.prog 136 #[.pointer (some ⟨db,0,none⟩),.agg #[.bool u1.leaf,.slice u1.ka u1.kn u1.kc,.slice u1.va u1.vn u1.vc,.slice u1.ia u1.im u1.ic]] W' fun e w'=>∃ (k2 k3:Int),e=.returned (.int .i64 k2)∧(w'.cell? ⟨db,0,none⟩=some (.int .i64 k3)∧w'.frozen? ⟨db,0,none⟩=false)∧AlrPost w db H0 d (alt (mN T.f) h d.ov d.root ⟨ck,cv,cg⟩) (.returned (.tuple #[])) (w'.setCell ⟨db,0,none⟩ (.int .i64 k2))):=fun W W' d1 u1 t h1 h2 h3 h4 t' h5 h6 h7=>by
   have e3:d1.fresh=r.1.fresh:=by rw [← h4]; rfl
   refine (put_any db H0 d1 u1 W' (h1.keep0 t') h5 (own_base h7.hi (Nat.le_trans h0 t.size)) (fun y q hy=>own_apart' h7.hi (h1.own y q hy) (Nat.le_refl _)) (by omega) (h7.hig (Nat.le_trans h0 t.size))).mono ?_
   rintro e w' ⟨rfl,g1,g2⟩
   refine ⟨_,d1.root,rfl,⟨by rw [blk_cell g1.blk]; rfl,blk_free g1.blk 0⟩,?_⟩
   rw [alt_2 hr hrr2 hs,← hM,← h6,← h4]
   rw [h3] at g2
   exact ⟨_,rfl,g1.root _,ov_new,rfl,h2,h3,((t.trans (t'.mono (by simp))).trans g2).setCell (by simp) _⟩
  have hb0:((r.2.length:Int) == 0)=false:=beq_eq_false_iff_ne.2 (by omega)
  have hb1:((r.2.length:Int) == 1)=false:=beq_eq_false_iff_ne.2 (by omega)
  clear hd hT h0 hfr hc dok hk hrr hr1 hsh h2 hsr hktop hok IHC hfr1 hnum hrr2 hM hs hr hbC hln hln2
  generalize AlrPost w db H0 d (alt (mN T.f) h d.ov d.root ⟨ck,cv,cg⟩)=Q at *
  generalize r.2.length=rn at *
  go_enter Tryz.func98,Tryz.ntmps98
  go_upto_region 1 with fail
  rw [← hW0]
  clear hW0
  go_upto_region 4 with fail
  go_region_held3 (fun w'=>w'.cell? ⟨db,0,none⟩=some (.int .i64 k)∧w'.cell? ⟨w.heap.size,0,none⟩=some (.string ck)∧w'.cell? ⟨w.heap.size,1,none⟩=some (.string cv)∧w'.cell? ⟨w.heap.size,2,none⟩=some (.bool cg))
   (first | exact ⟨b0d,c0d,c1d,c2d⟩ | exact ⟨b1,k0,k1,k2⟩)
   (first | (go_at_call 138; (with_reducible refine HIH.out.mono ?_); rintro e w5 ⟨d1,x,c3,rfl,hx,hd1,ho,e1,e2,e3,t5⟩; obtain ⟨b1,f1⟩:=HB.out w5 d1 hd1 e1; obtain ⟨k0,k1,k2⟩:=HC.out w5 ((Tch.refl _ _).drew.trans t5)))
  have T5:=(HT0.out.drew.mono (L':=[db,d.mb]) (by simp)).trans t5
  go_wp2_with (first | (go_at_call 140; (with_reducible refine (HWK.out w5 d1 x c3 _ T5 hd1 e2 ho hx).mono ?_); rintro e w6 ⟨u1,rfl,hg6,hun6,hnw6,t6⟩) | (go_at_call 136; (with_reducible refine (HPU.out w5 w6 d1 u1 T5 hd1 e2 e3 ho t6 hg6 hun6 hnw6).mono ?_); rintro e w7 ⟨k4,k3,rfl,⟨q0,q1⟩,hq⟩))
  go_end0
  exact hq
end Go.Proofs.YtlkgnljdpakkcaaGreatDoor
