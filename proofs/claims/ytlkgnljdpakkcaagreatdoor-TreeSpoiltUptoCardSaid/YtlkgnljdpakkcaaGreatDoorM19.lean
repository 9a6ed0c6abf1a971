/-
  Parts of the proof: Ldn, Lbw.
-/
import Derived.Test.YtlkgnljdpakkcaaGreatDoorM18
import Derived.Test.YtlkgnljdpakkcaaGreatDoorM08
set_option linter.unusedVariables false
set_option linter.unusedSimpArgs false
/-
 'loadNode' of a tree: the node of a sector is read,if none was read there before. Conditions: the sector's number isn't negative.
-/
namespace Go.Proofs.YtlkgnljdpakkcaaGreatDoor
open Go.RowKit
theorem IsTr.read {w w':World} {tb:Nat} {T:Tv} (h:IsTr w tb T) (hd:IsDs w' T.b T.bs T.D) (t:Tch [T.b] w w'):IsTr w' tb T:=by
 obtain ⟨S,hS,_⟩:=h.ds
 have e1:tb≠T.b:=fun e=>by have:=h.blk; rw [e,hS.blk] at this; simp at this
 have e2:T.jb≠T.b:=fun e=>by have:=h.jn; unfold IsJn at this; rw [e,hS.blk] at this; simp at this
 have e3:T.mb≠T.b:=h.ns.mp.ne hS.blk
 exact ⟨t.keep h.blk (by simpa using e1),h.jn.keep t (by simpa using e2),hd,h.ns.keep t (by simpa using e3) (fun b hb cs=>by
  simp only [List.mem_singleton] at hb
  subst hb
  rw [hS.blk]; exact ⟨by simp,by simp⟩),h.room⟩
theorem IsTr.put {w w':World} {tb:Nat} {T:Tv} {x:Int} {v:Nv} (h:IsTr w tb T) (hm:IsMp w' T.mb (updF (fun y=>(T.f y).map vNv) x (some (vNv v))) (mbnd+1)) (t:Tch [T.mb] w w') (hv:Gd w v) (hx:0≤x∧x < topN):IsTr w' tb { T with f:=updN T.f x (some v) }:=by
 obtain ⟨S,hS,_⟩:=h.ds
 have e1:tb≠T.mb:=fun e=>h.ns.mp.ne h.blk e.symm
 have e2:T.jb≠T.mb:=fun e=>h.ns.mp.ne (show w.heap[T.jb]?=_ from h.jn) e.symm
 have e3:T.b≠T.mb:=fun e=>h.ns.mp.ne hS.blk e.symm
 have e4:T.bs≠T.mb:=fun e=>h.ns.mp.ne hS.arr e.symm
 exact ⟨t.keep h.blk (by simpa using e1),h.jn.keep t (by simpa using e2),h.ds.keep t (by simpa using e3) (by simpa using e4),h.ns.put hm t hv hx,h.room⟩
theorem IsTr.node {w w':World} {tb X:Nat} {T:Tv} {cs:Array Value} (h:IsTr w tb T) (hb:w.heap[X]?=some (.cells cs 138 (0,0))) (t:Tch [X] w w'):IsTr w' tb T:=by
 obtain ⟨S,hS,_⟩:=h.ds
 have e1:tb≠X:=fun e=>by have:=h.blk; rw [e,hb] at this; simp at this
 have e2:T.jb≠X:=fun e=>by have:=h.jn; unfold IsJn at this; rw [e,hb] at this; simp at this
 have e3:T.mb≠X:=h.ns.mp.ne hb
 have e4:T.b≠X:=fun e=>by have:=hS.blk; rw [e,hb] at this; simp at this
 have e5:T.bs≠X:=fun e=>by have:=hS.arr; rw [e,hb] at this; simp at this
 exact ⟨t.keep h.blk (by simpa using e1),h.jn.keep t (by simpa using e2),h.ds.keep t (by simpa using e4) (by simpa using e5),h.ns.keep t (by simpa using e3) (fun b hm cs=>by
  simp only [List.mem_singleton] at hm
  subst hm
  rw [hb]; exact ⟨by simp,by simp⟩),h.room⟩
def rdN (D:Ds) (room:Nat) (a:Int):Option Nod:=match ddec (jrtext room D a).data.toList with
 | some (leaf,es)=>some ⟨leaf,es⟩
 | none=>none
def LdnPost (w:World) (tb:Nat) (T:Tv) (a:Int) (e:Ending) (w':World):Prop :=
 (∃ c:Int,e=.returned (.tuple #[.agg #[.bool false,.slice none 0 0,.slice none 0 0,.slice none 0 0],.int .i64 c])∧c≠0∧IsTr w' tb T∧Tch [T.b] w w' ∧
  (c=53∧(T.f a≠none∨(jlen T.D T.room:Int)≤a)∨T.f a=none∧a < jlen T.D T.room∧(jrcode T.room T.D a≠0∧c=jrcode T.room T.D a∨jrcode T.room T.D a=0∧c=53∧rdN T.D T.room a=none))) ∨
 (∃ v:Nv,e=.returned (.tuple #[vNv v,.int .i64 0])∧T.f a=none∧a < jlen T.D T.room∧jrcode T.room T.D a=0∧rdN T.D T.room a=some v.nod∧Gd w' v∧Hig w.heap.size v∧IsTr w' tb { T with f:=updN T.f a (some v) }∧Tch [T.b,T.mb] w w')
set_option maxRecDepth 100000 in
set_option maxHeartbeats 4000000 in
theorem loadNode_met (tb:Nat) (T:Tv) (a:Int) (u:Nv) (w:World) (ht:IsTr w tb T) (ha:0≤a∧a < (topN:Int)) (hf:T.f a=some u) :
 Calls Tryz.prog 120 #[.pointer (some ⟨tb,0,none⟩),.int .i64 a] w (LdnPost w tb T a):=by
 obtain ⟨W0,hW0⟩:∃ W0,W0=w.alloc (.cells #[.bool false,.slice none 0 0,.slice none 0 0,.slice none 0 0] 138):=⟨_,rfl⟩
 have T0:Tch [] w W0:=by rw [hW0]; exact (Tch.refl _ _).alloc _
 have hbR:W0.heap[w.heap.size]?=some (.cells #[.bool false,.slice none 0 0,.slice none 0 0,.slice none 0 0] 138 (0,0)):=by rw [hW0]; exact blk_new _ _
 have HF:Hid (∀ W,Tch [w.heap.size] W0 W→LdnPost w tb T a (.returned (.tuple #[.agg #[.bool false,.slice none 0 0,.slice none 0 0,.slice none 0 0],.int .i64 53])) W):=fun W t=>by
  have t':Tch [] w W:=T0.transNew t (fun m hm=>Or.inr (by simp at hm; omega))
  exact Or.inl ⟨53,rfl,by decide,ht.keep0 t',t'.mono (by simp),Or.inl ⟨rfl,Or.inl (by rw [hf]; simp)⟩⟩
 have HMP:Hid (∀ W,Tch [] w W→IsMp W T.mb (fun x=>(T.f x).map vNv) mbnd):=fun W t=>ht.ns.mp.keep t (by simp)
 have hv1:((fun x=>(T.f x).map vNv) a).getD (vNv nvz)=vNv u:=by simp [hf]
 have hs1:((fun x=>(T.f x).map vNv) a).isSome=true:=by simp [hf]
 have hwx:(Lit.int .i64 a).wf=true:=wfI (by omega) (by unfold topN at ha; omega)
 have c2:=blk_cell (T0.keep ht.blk (by simp)) 2
 simp only [gA,gZ,gS] at c2
 have HRB:Hid (∀ W,Tch [] W0 W→W.heap[w.heap.size]?=some (.cells #[.bool false,.slice none 0 0,.slice none 0 0,.slice none 0 0] 138 (0,0))):=fun W t=>t.keep hbR (by simp)
 clear ht ha hf hbR
 generalize LdnPost w tb T a=Q at *
 generalize T.mb=mb at *
 unfold vNv at hv1
 generalize u.leaf=uleaf at *
 generalize u.ka=uka at *
 generalize u.kn=ukn at *
 generalize u.kc=ukc at *
 generalize u.va=uva at *
 generalize u.vn=uvn at *
 generalize u.vc=uvc at *
 generalize u.ia=uia at *
 generalize u.im=uim at *
 generalize u.ic=uic at *
 obtain ⟨W1,hW1⟩:∃ W1,W1=W0.alloc (.cells #[.bool uleaf,.slice uka ukn ukc,.slice uva uvn uvc,.slice uia uim uic] 138):=⟨_,rfl⟩
 have t1:Tch [] W0 W1:=by rw [hW1]; exact (Tch.refl _ _).alloc _
 have hb1:=HRB.out W1 t1
 have r0:=blk_cell hb1 0
 have r1:=blk_cell hb1 1
 have r2:=blk_cell hb1 2
 have r3:=blk_cell hb1 3
 simp only [gA,gZ,gS] at r0 r1 r2 r3
 have f0:=blk_free hb1 0
 have f1:=blk_free hb1 1
 have f2:=blk_free hb1 2
 have f3:=blk_free hb1 3
 go_enter Tryz.func120,Tryz.ntmps120
 go_upto_region 1 with fail
 rw [← hW0]
 clear hW0
 go_upto_region 2 with (at_lookup; refine wpList_lookup_mp_ok _ rfl _ _ 124 rfl 138 Tryz.underlying124 (zeroNd _) mb mbnd _ rfl (HMP.out _ T0) a rfl hwx _ hv1 _ hs1 ?_)
 rw [← hW1]
 clear hW1
 go_wp2_with fail
 have hW:=blk_put4 hb1 (.bool false) (.slice none 0 0) (.slice none 0 0) (.slice none 0 0)
 have T7:=(t1.mono (L':=[w.heap.size]) (by simp)).put4 (b:=w.heap.size) (by simp) (.bool false) (.slice none 0 0) (.slice none 0 0) (.slice none 0 0)
 have q0:=blk_cell hW 0
 have q1:=blk_cell hW 1
 have q2:=blk_cell hW 2
 have q3:=blk_cell hW 3
 simp only [gA,gZ,gS] at q0 q1 q2 q3
 exact bodyPost_ret (v:=.tuple #[.agg #[.bool false,.slice none 0 0,.slice none 0 0,.slice none 0 0],.int .i64 53]) (by simp [results,Tryz.results120,go_sem,q0,q1,q2,q3]) rfl (HF.out _ T7)
set_option maxRecDepth 100000 in
set_option maxHeartbeats 4000000 in
theorem loadNode_off (tb:Nat) (T:Tv) (a:Int) (w:World) (ht:IsTr w tb T) (ha:0≤a∧a < (topN:Int)) (hf:T.f a=none) (hlen:(jlen T.D T.room:Int)≤a) :
 Calls Tryz.prog 120 #[.pointer (some ⟨tb,0,none⟩),.int .i64 a] w (LdnPost w tb T a):=by
 obtain ⟨W0,hW0⟩:∃ W0,W0=w.alloc (.cells #[.bool false,.slice none 0 0,.slice none 0 0,.slice none 0 0] 138):=⟨_,rfl⟩
 have T0:Tch [] w W0:=by rw [hW0]; exact (Tch.refl _ _).alloc _
 have hbR:W0.heap[w.heap.size]?=some (.cells #[.bool false,.slice none 0 0,.slice none 0 0,.slice none 0 0] 138 (0,0)):=by rw [hW0]; exact blk_new _ _
 have HF:Hid (∀ W,Tch [w.heap.size] W0 W→LdnPost w tb T a (.returned (.tuple #[.agg #[.bool false,.slice none 0 0,.slice none 0 0,.slice none 0 0],.int .i64 53])) W):=fun W t=>by
  have t':Tch [] w W:=T0.transNew t (fun m hm=>Or.inr (by simp at hm; omega))
  exact Or.inl ⟨53,rfl,by decide,ht.keep0 t',t'.mono (by simp),Or.inl ⟨rfl,Or.inr hlen⟩⟩
 have HMP:Hid (∀ W,Tch [] w W→IsMp W T.mb (fun x=>(T.f x).map vNv) mbnd):=fun W t=>ht.ns.mp.keep t (by simp)
 have hv1:((fun x=>(T.f x).map vNv) a).getD (vNv nvz)=vNv nvz:=by simp [hf]
 have hs1:((fun x=>(T.f x).map vNv) a).isSome=false:=by simp [hf]
 have hwx:(Lit.int .i64 a).wf=true:=wfI (by omega) (by unfold topN at ha; omega)
 have c2:=blk_cell (T0.keep ht.blk (by simp)) 2
 simp only [gA,gZ,gS] at c2
 have HRB:Hid (∀ W,Tch [] W0 W→W.heap[w.heap.size]?=some (.cells #[.bool false,.slice none 0 0,.slice none 0 0,.slice none 0 0] 138 (0,0))):=fun W t=>t.keep hbR (by simp)
 have c1:=blk_cell (T0.keep ht.blk (by simp)) 1
 simp only [gA,gZ,gS] at c1
 have HC1:Hid (∀ W,Tch [] w W→W.cell? ⟨tb,1,none⟩=some (.pointer (some ⟨T.jb,0,none⟩))):=fun W t=>by rw [blk_cell (t.keep ht.blk (by simp))]; rfl
 have HLN:Hid (∀ W,Tch [] w W→Calls Tryz.prog 58 #[.pointer (some ⟨T.jb,0,none⟩)] W fun e w'=>e=.returned (.int .i64 (jlen T.D T.room:Nat))∧W=w'):=fun W t=>jlen_any T.jb T.b T.bs T.room T.D W (ht.keep0 t).jn (ht.keep0 t).ds ht.room
 have hge:decide ((jlen T.D T.room:Int)≤a)=true:=decide_eq_true hlen
 clear ht ha hf hbR hlen
 generalize jlen T.D T.room=len at *
 generalize LdnPost w tb T a=Q at *
 generalize T.mb=mb at *
 have hz1:vNv nvz=.agg #[.bool false,.slice none 0 0,.slice none 0 0,.slice none 0 0]:=rfl
 rw [hz1] at hv1
 clear hz1
 obtain ⟨W1,hW1⟩:∃ W1,W1=W0.alloc (.cells #[.bool false,.slice none 0 0,.slice none 0 0,.slice none 0 0] 138):=⟨_,rfl⟩
 have t1:Tch [] W0 W1:=by rw [hW1]; exact (Tch.refl _ _).alloc _
 have hb1:=HRB.out W1 t1
 have r0:=blk_cell hb1 0
 have r1:=blk_cell hb1 1
 have r2:=blk_cell hb1 2
 have r3:=blk_cell hb1 3
 simp only [gA,gZ,gS] at r0 r1 r2 r3
 have f0:=blk_free hb1 0
 have f1:=blk_free hb1 1
 have f2:=blk_free hb1 2
 have f3:=blk_free hb1 3
 go_enter Tryz.func120,Tryz.ntmps120
 go_upto_region 1 with fail
 rw [← hW0]
 clear hW0
 go_upto_region 2 with (at_lookup; refine wpList_lookup_mp_ok _ rfl _ _ 124 rfl 138 Tryz.underlying124 (zeroNd _) mb mbnd _ rfl (HMP.out _ T0) a rfl hwx _ hv1 _ hs1 ?_)
 rw [← hW1]
 clear hW1
 have d1:=HC1.out W1 (T0.trans t1)
 go_wp2_with (go_at_call 58; (with_reducible refine (HLN.out _ (T0.trans t1)).mono ?_); rintro e w3 ⟨rfl,rfl⟩)
 all_goals try omega
 have hW:=blk_put4 hb1 (.bool false) (.slice none 0 0) (.slice none 0 0) (.slice none 0 0)
 have T7:=(t1.mono (L':=[w.heap.size]) (by simp)).put4 (b:=w.heap.size) (by simp) (.bool false) (.slice none 0 0) (.slice none 0 0) (.slice none 0 0)
 have q0:=blk_cell hW 0
 have q1:=blk_cell hW 1
 have q2:=blk_cell hW 2
 have q3:=blk_cell hW 3
 simp only [gA,gZ,gS] at q0 q1 q2 q3
 exact bodyPost_ret (v:=.tuple #[.agg #[.bool false,.slice none 0 0,.slice none 0 0,.slice none 0 0],.int .i64 53]) (by simp [results,Tryz.results120,go_sem,q0,q1,q2,q3]) rfl (HF.out _ T7)
set_option maxRecDepth 100000 in
set_option maxHeartbeats 4000000 in
theorem loadNode_unread (tb:Nat) (T:Tv) (a:Int) (w:World) (ht:IsTr w tb T) (ha:0≤a∧a < (topN:Int)) (hf:T.f a=none) (hlen:a < (jlen T.D T.room:Int)) (hcd:jrcode T.room T.D a≠0) :
 Calls Tryz.prog 120 #[.pointer (some ⟨tb,0,none⟩),.int .i64 a] w (LdnPost w tb T a):=by
 obtain ⟨W0,hW0⟩:∃ W0,W0=w.alloc (.cells #[.bool false,.slice none 0 0,.slice none 0 0,.slice none 0 0] 138):=⟨_,rfl⟩
 have T0:Tch [] w W0:=by rw [hW0]; exact (Tch.refl _ _).alloc _
 have hbR:W0.heap[w.heap.size]?=some (.cells #[.bool false,.slice none 0 0,.slice none 0 0,.slice none 0 0] 138 (0,0)):=by rw [hW0]; exact blk_new _ _
 have HF:Hid (∀ W4 W,Tch [T.b] W0 W4→IsDs W4 T.b T.bs T.D→Tch [w.heap.size] W4 W→LdnPost w tb T a (.returned (.tuple #[.agg #[.bool false,.slice none 0 0,.slice none 0 0,.slice none 0 0],.int .i64 (jrcode T.room T.D a)])) W):=fun W4 W t hds t5=>by
  have hbl:T.b < w.heap.size:=ht.ds.lt.1
  have hb4:=t.keep hbR (by simp; omega)
  exact Or.inl ⟨_,rfl,hcd,((ht.keep0 T0).read hds t).node hb4 t5,((T0.mono (by simp)).trans t).transNew t5 (fun m hm=>Or.inr (by simp at hm; omega)),Or.inr ⟨hf,hlen,Or.inl ⟨hcd,rfl⟩⟩⟩
 have HMP:Hid (∀ W,Tch [] w W→IsMp W T.mb (fun x=>(T.f x).map vNv) mbnd):=fun W t=>ht.ns.mp.keep t (by simp)
 have hv1:((fun x=>(T.f x).map vNv) a).getD (vNv nvz)=vNv nvz:=by simp [hf]
 have hs1:((fun x=>(T.f x).map vNv) a).isSome=false:=by simp [hf]
 have hwx:(Lit.int .i64 a).wf=true:=wfI (by omega) (by unfold topN at ha; omega)
 have c2:=blk_cell (T0.keep ht.blk (by simp)) 2
 simp only [gA,gZ,gS] at c2
 have HRB:Hid (∀ W,Tch [] W0 W→W.heap[w.heap.size]?=some (.cells #[.bool false,.slice none 0 0,.slice none 0 0,.slice none 0 0] 138 (0,0))):=fun W t=>t.keep hbR (by simp)
 have c1:=blk_cell (T0.keep ht.blk (by simp)) 1
 simp only [gA,gZ,gS] at c1
 have HC1:Hid (∀ W,Tch [] w W→W.cell? ⟨tb,1,none⟩=some (.pointer (some ⟨T.jb,0,none⟩))):=fun W t=>by rw [blk_cell (t.keep ht.blk (by simp))]; rfl
 have HLN:Hid (∀ W,Tch [] w W→Calls Tryz.prog 58 #[.pointer (some ⟨T.jb,0,none⟩)] W fun e w'=>e=.returned (.int .i64 (jlen T.D T.room:Nat))∧W=w'):=fun W t=>jlen_any T.jb T.b T.bs T.room T.D W (ht.keep0 t).jn (ht.keep0 t).ds ht.room
 have hge:decide ((jlen T.D T.room:Int)≤a)=false:=decide_eq_false (by omega)
 have hnl:¬ (jlen T.D T.room:Int)≤a:=by omega
 have hne:(jrcode T.room T.D a != 0)=true:=by simpa using hcd
 have HRD:Hid (∀ W,Tch [] w W→Calls Tryz.prog 80 #[.pointer (some ⟨T.jb,0,none⟩),.int .i64 a] W fun e w'=>e=.returned (.tuple #[.string (jrtext T.room T.D a),.int .i64 (jrcode T.room T.D a)])∧(IsDs w' T.b T.bs T.D∧Tch [T.b] W w')):=fun W t=>jread_any T.jb T.b T.bs T.room T.D a W (ht.keep0 t).jn (ht.keep0 t).ds ht.room
 have hbl:T.b < w.heap.size:=ht.ds.lt.1
 have HRB2:Hid (∀ W,Tch [T.b] W0 W→W.heap[w.heap.size]?=some (.cells #[.bool false,.slice none 0 0,.slice none 0 0,.slice none 0 0] 138 (0,0))):=fun W t=>t.keep hbR (by simp; omega)
 clear ht ha hf hbR hlen hcd
 generalize jlen T.D T.room=len at *
 generalize LdnPost w tb T a=Q at *
 generalize jrcode T.room T.D a=cd at *
 generalize jrtext T.room T.D a=tx at *
 generalize T.mb=mb at *
 have hz1:vNv nvz=.agg #[.bool false,.slice none 0 0,.slice none 0 0,.slice none 0 0]:=rfl
 rw [hz1] at hv1
 clear hz1
 obtain ⟨W1,hW1⟩:∃ W1,W1=W0.alloc (.cells #[.bool false,.slice none 0 0,.slice none 0 0,.slice none 0 0] 138):=⟨_,rfl⟩
 have t1:Tch [] W0 W1:=by rw [hW1]; exact (Tch.refl _ _).alloc _
 have hb1:=HRB.out W1 t1
 have r0:=blk_cell hb1 0
 have r1:=blk_cell hb1 1
 have r2:=blk_cell hb1 2
 have r3:=blk_cell hb1 3
 simp only [gA,gZ,gS] at r0 r1 r2 r3
 have f0:=blk_free hb1 0
 have f1:=blk_free hb1 1
 have f2:=blk_free hb1 2
 have f3:=blk_free hb1 3
 go_enter Tryz.func120,Tryz.ntmps120
 go_upto_region 1 with fail
 rw [← hW0]
 clear hW0
 go_upto_region 2 with (at_lookup; refine wpList_lookup_mp_ok _ rfl _ _ 124 rfl 138 Tryz.underlying124 (zeroNd _) mb mbnd _ rfl (HMP.out _ T0) a rfl hwx _ hv1 _ hs1 ?_)
 rw [← hW1]
 clear hW1
 have d1:=HC1.out W1 (T0.trans t1)
 go_wp2_with (first | (go_at_call 58; (with_reducible refine (HLN.out _ (T0.trans t1)).mono ?_); rintro e w3 ⟨rfl,rfl⟩) | (go_at_call 80; (with_reducible refine (HRD.out _ (T0.trans t1)).mono ?_); rintro e w4 ⟨rfl,hds,t4⟩; have hb4:=HRB2.out w4 ((t1.mono (by simp)).trans t4); have s0:=blk_cell hb4 0; have s1:=blk_cell hb4 1; have s2:=blk_cell hb4 2; have s3:=blk_cell hb4 3; simp only [gA,gZ,gS] at s0 s1 s2 s3; have g0:=blk_free hb4 0; have g1:=blk_free hb4 1; have g2:=blk_free hb4 2; have g3:=blk_free hb4 3))
 all_goals try omega
 have hW:=blk_put4 hb4 (.bool false) (.slice none 0 0) (.slice none 0 0) (.slice none 0 0)
 have T7:=(Tch.refl [w.heap.size] w4).put4 (b:=w.heap.size) (by simp) (.bool false) (.slice none 0 0) (.slice none 0 0) (.slice none 0 0)
 have q0:=blk_cell hW 0
 have q1:=blk_cell hW 1
 have q2:=blk_cell hW 2
 have q3:=blk_cell hW 3
 simp only [gA,gZ,gS] at q0 q1 q2 q3
 exact bodyPost_ret (v:=.tuple #[.agg #[.bool false,.slice none 0 0,.slice none 0 0,.slice none 0 0],.int .i64 cd]) (by simp [results,Tryz.results120,go_sem,q0,q1,q2,q3]) rfl (HF.out _ _ ((t1.mono (by simp)).trans t4) hds T7)
set_option maxRecDepth 100000 in
set_option maxHeartbeats 4000000 in
theorem loadNode_bad (tb:Nat) (T:Tv) (a:Int) (w:World) (ht:IsTr w tb T) (ha:0≤a∧a < (topN:Int)) (hf:T.f a=none) (hlen:a < (jlen T.D T.room:Int)) (hcd:jrcode T.room T.D a=0) (hno:ddec (jrtext T.room T.D a).data.toList=none) (htx:(jrtext T.room T.D a).size≤10000000) :
 Calls Tryz.prog 120 #[.pointer (some ⟨tb,0,none⟩),.int .i64 a] w (LdnPost w tb T a):=by
 obtain ⟨W0,hW0⟩:∃ W0,W0=w.alloc (.cells #[.bool false,.slice none 0 0,.slice none 0 0,.slice none 0 0] 138):=⟨_,rfl⟩
 have T0:Tch [] w W0:=by rw [hW0]; exact (Tch.refl _ _).alloc _
 have hbR:W0.heap[w.heap.size]?=some (.cells #[.bool false,.slice none 0 0,.slice none 0 0,.slice none 0 0] 138 (0,0)):=by rw [hW0]; exact blk_new _ _
 have HF:Hid (∀ W4 W5 W,Tch [T.b] W0 W4→IsDs W4 T.b T.bs T.D→Tch [] W4 W5→Tch [w.heap.size] W5 W→LdnPost w tb T a (.returned (.tuple #[.agg #[.bool false,.slice none 0 0,.slice none 0 0,.slice none 0 0],.int .i64 53])) W):=fun W4 W5 W t hds t45 t5=>by
  have hbl:T.b < w.heap.size:=ht.ds.lt.1
  have hb4:=t.keep hbR (by simp; omega)
  exact Or.inl ⟨_,rfl,by decide,(((ht.keep0 T0).read hds t).keep0 t45).node (t45.keep hb4 (by simp)) t5,(((T0.mono (by simp)).trans t).trans (t45.mono (by simp))).transNew t5 (fun m hm=>Or.inr (by simp at hm; omega)),Or.inr ⟨hf,hlen,Or.inr ⟨hcd,rfl,by unfold rdN; rw [hno]⟩⟩⟩
 have HMP:Hid (∀ W,Tch [] w W→IsMp W T.mb (fun x=>(T.f x).map vNv) mbnd):=fun W t=>ht.ns.mp.keep t (by simp)
 have hv1:((fun x=>(T.f x).map vNv) a).getD (vNv nvz)=vNv nvz:=by simp [hf]
 have hs1:((fun x=>(T.f x).map vNv) a).isSome=false:=by simp [hf]
 have hwx:(Lit.int .i64 a).wf=true:=wfI (by omega) (by unfold topN at ha; omega)
 have c2:=blk_cell (T0.keep ht.blk (by simp)) 2
 simp only [gA,gZ,gS] at c2
 have HRB:Hid (∀ W,Tch [] W0 W→W.heap[w.heap.size]?=some (.cells #[.bool false,.slice none 0 0,.slice none 0 0,.slice none 0 0] 138 (0,0))):=fun W t=>t.keep hbR (by simp)
 have c1:=blk_cell (T0.keep ht.blk (by simp)) 1
 simp only [gA,gZ,gS] at c1
 have HC1:Hid (∀ W,Tch [] w W→W.cell? ⟨tb,1,none⟩=some (.pointer (some ⟨T.jb,0,none⟩))):=fun W t=>by rw [blk_cell (t.keep ht.blk (by simp))]; rfl
 have HLN:Hid (∀ W,Tch [] w W→Calls Tryz.prog 58 #[.pointer (some ⟨T.jb,0,none⟩)] W fun e w'=>e=.returned (.int .i64 (jlen T.D T.room:Nat))∧W=w'):=fun W t=>jlen_any T.jb T.b T.bs T.room T.D W (ht.keep0 t).jn (ht.keep0 t).ds ht.room
 have hge:decide ((jlen T.D T.room:Int)≤a)=false:=decide_eq_false (by omega)
 have hnl:¬ (jlen T.D T.room:Int)≤a:=by omega
 have HDC:Hid (∀ W,Calls Tryz.prog 157 #[.string (jrtext T.room T.D a)] W fun e w'=>∃ u:Nv,e=.returned (.tuple #[.agg #[.bool u.leaf,.slice u.ka u.kn u.kc,.slice u.va u.vn u.vc,.slice u.ia u.im u.ic],.int .i64 40])∧Tch [] W w'):=fun W=>by
  refine (decode_any (jrtext T.room T.D a) W htx).mono ?_
  rintro e w' ⟨t,⟨_,u,he,_⟩ | ⟨leaf,es,u,he,_⟩⟩
  · exact ⟨u,he,t⟩
  · rw [hno] at he; cases he
 have HRD:Hid (∀ W,Tch [] w W→Calls Tryz.prog 80 #[.pointer (some ⟨T.jb,0,none⟩),.int .i64 a] W fun e w'=>e=.returned (.tuple #[.string (jrtext T.room T.D a),.int .i64 (jrcode T.room T.D a)])∧(IsDs w' T.b T.bs T.D∧Tch [T.b] W w')):=fun W t=>jread_any T.jb T.b T.bs T.room T.D a W (ht.keep0 t).jn (ht.keep0 t).ds ht.room
 rw [hcd] at HRD
 have hbl:T.b < w.heap.size:=ht.ds.lt.1
 have HRB2:Hid (∀ W,Tch [T.b] W0 W→W.heap[w.heap.size]?=some (.cells #[.bool false,.slice none 0 0,.slice none 0 0,.slice none 0 0] 138 (0,0))):=fun W t=>t.keep hbR (by simp; omega)
 clear ht ha hf hbR hlen hcd hno htx
 generalize jlen T.D T.room=len at *
 generalize LdnPost w tb T a=Q at *
 generalize jrtext T.room T.D a=tx at *
 generalize T.mb=mb at *
 have hz1:vNv nvz=.agg #[.bool false,.slice none 0 0,.slice none 0 0,.slice none 0 0]:=rfl
 rw [hz1] at hv1
 clear hz1
 obtain ⟨W1,hW1⟩:∃ W1,W1=W0.alloc (.cells #[.bool false,.slice none 0 0,.slice none 0 0,.slice none 0 0] 138):=⟨_,rfl⟩
 have t1:Tch [] W0 W1:=by rw [hW1]; exact (Tch.refl _ _).alloc _
 have hb1:=HRB.out W1 t1
 have r0:=blk_cell hb1 0
 have r1:=blk_cell hb1 1
 have r2:=blk_cell hb1 2
 have r3:=blk_cell hb1 3
 simp only [gA,gZ,gS] at r0 r1 r2 r3
 have f0:=blk_free hb1 0
 have f1:=blk_free hb1 1
 have f2:=blk_free hb1 2
 have f3:=blk_free hb1 3
 go_enter Tryz.func120,Tryz.ntmps120
 go_upto_region 1 with fail
 rw [← hW0]
 clear hW0
 go_upto_region 2 with (at_lookup; refine wpList_lookup_mp_ok _ rfl _ _ 124 rfl 138 Tryz.underlying124 (zeroNd _) mb mbnd _ rfl (HMP.out _ T0) a rfl hwx _ hv1 _ hs1 ?_)
 rw [← hW1]
 clear hW1
 have d1:=HC1.out W1 (T0.trans t1)
 go_upto_region 8 with (first | (go_at_call 58; (with_reducible refine (HLN.out _ (T0.trans t1)).mono ?_); rintro e w3 ⟨rfl,rfl⟩) | (go_at_call 80; (with_reducible refine (HRD.out _ (T0.trans t1)).mono ?_); rintro e w4 ⟨rfl,hds,t4⟩; have hb4:=HRB2.out w4 ((t1.mono (by simp)).trans t4); have s0:=blk_cell hb4 0; have s1:=blk_cell hb4 1; have s2:=blk_cell hb4 2; have s3:=blk_cell hb4 3; simp only [gA,gZ,gS] at s0 s1 s2 s3) | (go_at_call 157; (with_reducible refine (HDC.out _).mono ?_); rintro e w5 ⟨u,rfl,t5⟩))
 all_goals try omega
 obtain ⟨W6,hW6⟩:∃ W6,W6=w5.alloc (.cells #[.bool u.leaf,.slice u.ka u.kn u.kc,.slice u.va u.vn u.vc,.slice u.ia u.im u.ic] 138):=⟨_,rfl⟩
 rw [← hW6]
 have t6:Tch [] w5 W6:=by rw [hW6]; exact (Tch.refl _ _).alloc _
 have hb6:=(t5.trans t6).keep hb4 (by simp)
 have g0:=blk_free hb6 0
 have g1:=blk_free hb6 1
 have g2:=blk_free hb6 2
 have g3:=blk_free hb6 3
 have z0:=blk_cell hb6 0
 have z1:=blk_cell hb6 1
 have z2:=blk_cell hb6 2
 have z3:=blk_cell hb6 3
 simp only [gA,gZ,gS] at z0 z1 z2 z3
 clear hW6
 go_wp2_with fail
 have hW:=blk_put4 hb6 (.bool false) (.slice none 0 0) (.slice none 0 0) (.slice none 0 0)
 have T7:=(Tch.refl [w.heap.size] W6).put4 (b:=w.heap.size) (by simp) (.bool false) (.slice none 0 0) (.slice none 0 0) (.slice none 0 0)
 have q0:=blk_cell hW 0
 have q1:=blk_cell hW 1
 have q2:=blk_cell hW 2
 have q3:=blk_cell hW 3
 simp only [gA,gZ,gS] at q0 q1 q2 q3
 exact bodyPost_ret (v:=.tuple #[.agg #[.bool false,.slice none 0 0,.slice none 0 0,.slice none 0 0],.int .i64 53]) (by simp [results,Tryz.results120,go_sem,q0,q1,q2,q3]) rfl (HF.out _ _ _ ((t1.mono (by simp)).trans t4) hds (t5.trans t6) T7)
set_option maxRecDepth 100000 in
set_option maxHeartbeats 4000000 in
theorem loadNode_good (tb:Nat) (T:Tv) (a:Int) (w:World) (ht:IsTr w tb T) (ha:0≤a∧a < (topN:Int)) (hf:T.f a=none) (hlen:a < (jlen T.D T.room:Int)) (hcd:jrcode T.room T.D a=0) (leaf:Bool) (es:List En) (hno:ddec (jrtext T.room T.D a).data.toList=some (leaf,es)) (htx:(jrtext T.room T.D a).size≤10000000) :
 Calls Tryz.prog 120 #[.pointer (some ⟨tb,0,none⟩),.int .i64 a] w (LdnPost w tb T a):=by
 obtain ⟨W0,hW0⟩:∃ W0,W0=w.alloc (.cells #[.bool false,.slice none 0 0,.slice none 0 0,.slice none 0 0] 138):=⟨_,rfl⟩
 have T0:Tch [] w W0:=by rw [hW0]; exact (Tch.refl _ _).alloc _
 have hbR:W0.heap[w.heap.size]?=some (.cells #[.bool false,.slice none 0 0,.slice none 0 0,.slice none 0 0] 138 (0,0)):=by rw [hW0]; exact blk_new _ _
 have HF:Hid (∀ W4 W6 W7 W (u:Nv),Tch [T.b] W0 W4→IsDs W4 T.b T.bs T.D→Tch [] W4 W6→Gd W6 u→Hig w.heap.size u→u.nod=⟨leaf,es⟩→IsMp W7 T.mb (updF (fun y=>(T.f y).map vNv) a (some (vNv u))) (mbnd+1)→Tch [T.mb] W6.drew W7→Tch [w.heap.size] W7 W→LdnPost w tb T a (.returned (.tuple #[vNv u,.int .i64 0])) W):=fun W4 W6 W7 W u t hds t46 hg hhg hun hm t7 t8=>by
  have hbl:T.b < w.heap.size:=ht.ds.lt.1
  have hml:T.mb < w.heap.size:=by obtain ⟨D,⟨es,clock,hb,_⟩,_⟩:=ht.ns.mp; exact lt_of_block hb
  have h6:=(((ht.keep0 T0).read hds t).keep0 t46).keep0 ((Tch.refl [] W6).drew)
  have h7:=h6.put hm t7 (hg.keep0 (Tch.refl [] W6).drew) ha
  have hb6:=t46.keep (t.keep hbR (by simp; omega)) (by simp)
  have hb7:=t7.keep (show W6.drew.heap[w.heap.size]?=_ from hb6) (by simp; omega)
  have g7:Gd W7 u:=(hg.keep0 (Tch.refl [] W6).drew).kept t7 (fun b hm cs=>by
   simp only [List.mem_singleton] at hm
   subst hm
   exact ⟨fun e=>h6.ns.mp.ne e rfl,fun e=>h6.ns.mp.ne e rfl⟩)
  exact Or.inr ⟨u,rfl,hf,hlen,hcd,by unfold rdN; rw [hno,hun],g7.node4 hb7 t8,hhg,h7.node hb7 t8,((((T0.mono (by simp)).trans (t.mono (by simp))).trans (t46.mono (by simp))).trans ((t7.mono (by simp)) |> fun x=>(Tch.refl [T.b,T.mb] W6).drew.trans x)).transNew t8 (fun m hm=>Or.inr (by simp at hm; omega))⟩
 have HMP:Hid (∀ W,Tch [] w W→IsMp W T.mb (fun x=>(T.f x).map vNv) mbnd):=fun W t=>ht.ns.mp.keep t (by simp)
 have hv1:((fun x=>(T.f x).map vNv) a).getD (vNv nvz)=vNv nvz:=by simp [hf]
 have hs1:((fun x=>(T.f x).map vNv) a).isSome=false:=by simp [hf]
 have hwx:(Lit.int .i64 a).wf=true:=wfI (by omega) (by unfold topN at ha; omega)
 have c2:=blk_cell (T0.keep ht.blk (by simp)) 2
 simp only [gA,gZ,gS] at c2
 have HRB:Hid (∀ W,Tch [] W0 W→W.heap[w.heap.size]?=some (.cells #[.bool false,.slice none 0 0,.slice none 0 0,.slice none 0 0] 138 (0,0))):=fun W t=>t.keep hbR (by simp)
 have c1:=blk_cell (T0.keep ht.blk (by simp)) 1
 simp only [gA,gZ,gS] at c1
 have HC1:Hid (∀ W,Tch [] w W→W.cell? ⟨tb,1,none⟩=some (.pointer (some ⟨T.jb,0,none⟩))):=fun W t=>by rw [blk_cell (t.keep ht.blk (by simp))]; rfl
 have HLN:Hid (∀ W,Tch [] w W→Calls Tryz.prog 58 #[.pointer (some ⟨T.jb,0,none⟩)] W fun e w'=>e=.returned (.int .i64 (jlen T.D T.room:Nat))∧W=w'):=fun W t=>jlen_any T.jb T.b T.bs T.room T.D W (ht.keep0 t).jn (ht.keep0 t).ds ht.room
 have hge:decide ((jlen T.D T.room:Int)≤a)=false:=decide_eq_false (by omega)
 have hnl:¬ (jlen T.D T.room:Int)≤a:=by omega
 have HDC:Hid (∀ W,Calls Tryz.prog 157 #[.string (jrtext T.room T.D a)] W fun e w'=>∃ u:Nv,e=.returned (.tuple #[.agg #[.bool u.leaf,.slice u.ka u.kn u.kc,.slice u.va u.vn u.vc,.slice u.ia u.im u.ic],.int .i64 0])∧Gd w' u∧Hig W.heap.size u∧u.nod=⟨leaf,es⟩∧Tch [] W w'):=fun W=>by
  refine (ndecode_any (jrtext T.room T.D a) W htx).mono ?_
  rintro e w' ⟨t,⟨hp,_⟩ | ⟨leaf',es',u,hp,he,hg,hn⟩⟩
  · rw [pdec_ddec,hno] at hp; cases hp
  · rw [pdec_ddec,hno] at hp
    cases hp
    exact ⟨u,he,⟨hg.nv,hg.lens,hg.ok,hg.caps,hn.base (Nat.zero_le _)⟩,hn.hig (Nat.le_refl _),by unfold Nv.nod; rw [hg.leaf,hg.es],t⟩
 have HRD:Hid (∀ W,Tch [] w W→Calls Tryz.prog 80 #[.pointer (some ⟨T.jb,0,none⟩),.int .i64 a] W fun e w'=>e=.returned (.tuple #[.string (jrtext T.room T.D a),.int .i64 (jrcode T.room T.D a)])∧(IsDs w' T.b T.bs T.D∧Tch [T.b] W w')):=fun W t=>jread_any T.jb T.b T.bs T.room T.D a W (ht.keep0 t).jn (ht.keep0 t).ds ht.room
 rw [hcd] at HRD
 have hbl:T.b < w.heap.size:=ht.ds.lt.1
 have HRB2:Hid (∀ W,Tch [T.b] W0 W→W.heap[w.heap.size]?=some (.cells #[.bool false,.slice none 0 0,.slice none 0 0,.slice none 0 0] 138 (0,0))):=fun W t=>t.keep hbR (by simp; omega)
 have HTC:Hid (∀ W,Tch [T.b] w W→W.cell? ⟨tb,2,none⟩=some (.map (some T.mb))):=fun W t=>by
  obtain ⟨S,hS,_⟩:=ht.ds
  have e1:tb≠T.b:=fun e=>by have:=ht.blk; rw [e,hS.blk] at this; simp at this
  rw [blk_cell (t.keep ht.blk (by simpa using e1))]; rfl
 have HMW:Hid (∀ W4 W,Tch [T.b] W0 W4→IsDs W4 T.b T.bs T.D→Tch [] W4 W→IsMp W T.mb (fun y=>(T.f y).map vNv) mbnd):=fun W4 W t hds t4=>(((ht.keep0 T0).read hds t).keep0 t4).ns.mp
 have hml:T.mb < w.heap.size:=by obtain ⟨D,⟨es,clock,hb,_⟩,_⟩:=ht.ns.mp; exact lt_of_block hb
 clear ht ha hf hbR hlen hcd hno htx
 generalize jlen T.D T.room=len at *
 generalize LdnPost w tb T a=Q at *
 generalize jrtext T.room T.D a=tx at *
 generalize T.mb=mb at *
 have hz1:vNv nvz=.agg #[.bool false,.slice none 0 0,.slice none 0 0,.slice none 0 0]:=rfl
 rw [hz1] at hv1
 clear hz1
 obtain ⟨W1,hW1⟩:∃ W1,W1=W0.alloc (.cells #[.bool false,.slice none 0 0,.slice none 0 0,.slice none 0 0] 138):=⟨_,rfl⟩
 have t1:Tch [] W0 W1:=by rw [hW1]; exact (Tch.refl _ _).alloc _
 have hb1:=HRB.out W1 t1
 have r0:=blk_cell hb1 0
 have r1:=blk_cell hb1 1
 have r2:=blk_cell hb1 2
 have r3:=blk_cell hb1 3
 simp only [gA,gZ,gS] at r0 r1 r2 r3
 have f0:=blk_free hb1 0
 have f1:=blk_free hb1 1
 have f2:=blk_free hb1 2
 have f3:=blk_free hb1 3
 go_enter Tryz.func120,Tryz.ntmps120
 go_upto_region 1 with fail
 rw [← hW0]
 clear hW0
 go_upto_region 2 with (at_lookup; refine wpList_lookup_mp_ok _ rfl _ _ 124 rfl 138 Tryz.underlying124 (zeroNd _) mb mbnd _ rfl (HMP.out _ T0) a rfl hwx _ hv1 _ hs1 ?_)
 rw [← hW1]
 clear hW1
 have d1:=HC1.out W1 (T0.trans t1)
 go_upto_region 8 with (first | (go_at_call 58; (with_reducible refine (HLN.out _ (T0.trans t1)).mono ?_); rintro e w3 ⟨rfl,rfl⟩) | (go_at_call 80; (with_reducible refine (HRD.out _ (T0.trans t1)).mono ?_); rintro e w4 ⟨rfl,hds,t4⟩; have hb4:=HRB2.out w4 ((t1.mono (by simp)).trans t4); have s0:=blk_cell hb4 0; have s1:=blk_cell hb4 1; have s2:=blk_cell hb4 2; have s3:=blk_cell hb4 3; simp only [gA,gZ,gS] at s0 s1 s2 s3) | (go_at_call 157; (with_reducible refine (HDC.out _).mono ?_); rintro e w5 ⟨u,rfl,hgu,hhu,hun,t5⟩))
 all_goals try omega
 obtain ⟨W6,hW6⟩:∃ W6,W6=w5.alloc (.cells #[.bool u.leaf,.slice u.ka u.kn u.kc,.slice u.va u.vn u.vc,.slice u.ia u.im u.ic] 138):=⟨_,rfl⟩
 rw [← hW6]
 have t6:Tch [] w5 W6:=by rw [hW6]; exact (Tch.refl _ _).alloc _
 have hb6:=(t5.trans t6).keep hb4 (by simp)
 have g0:=blk_free hb6 0
 have g1:=blk_free hb6 1
 have g2:=blk_free hb6 2
 have g3:=blk_free hb6 3
 have z0:=blk_cell hb6 0
 have z1:=blk_cell hb6 1
 have z2:=blk_cell hb6 2
 have z3:=blk_cell hb6 3
 simp only [gA,gZ,gS] at z0 z1 z2 z3
 have hbu:W6.heap[w5.heap.size]?=some (.cells #[.bool u.leaf,.slice u.ka u.kn u.kc,.slice u.va u.vn u.vc,.slice u.ia u.im u.ic] 138 (0,0)):=by rw [hW6]; exact blk_new _ _
 have u0:=blk_cell hbu 0
 have u1:=blk_cell hbu 1
 have u2:=blk_cell hbu 2
 have u3:=blk_cell hbu 3
 simp only [gA,gZ,gS] at u0 u1 u2 u3
 have T4:Tch [T.b] W0 w4:=(t1.mono (by simp)).trans t4
 have tc:=HTC.out W6 (((T0.mono (by simp)).trans T4).trans ((t5.trans t6).mono (by simp)))
 have hMW:=HMW.out w4 W6.drew T4 hds (t5.trans t6).drew
 have hsz5:w.heap.size < w5.heap.size:=Nat.lt_of_lt_of_le (lt_of_block hb4) t5.size
 have hg6:=hgu.keep0 t6
 have hhu2:Hig w.heap.size u:=hhu.base (Nat.le_trans T0.size T4.size)
 have HFX:=Lib.hid (fun W7 W=>HF.out w4 W6 W7 W u T4 hds (t5.trans t6) hg6 hhu2 hun)
 clear hW6 hgu hun hds hg6 hhu hhu2
 go_upto_region 10 with fail
 go_still_tail 6,(by kernel_rfl)
 change wpList _ _ _ _ _ W6.drew
 go_upto_region 11 with (at_mapUpdate; refine wpList_store_mp _ rfl _ _ _ 124 rfl 138 Tryz.underlying124 mb mbnd _ rfl hMW (by unfold mbnd maxLen; omega) a rfl hwx ?_; intro w7 h7 t7)
 have hbu7:=t7.keep (show W6.drew.heap[w5.heap.size]?=_ from hbu) (by simp; omega)
 have hbr7:=t7.keep (show W6.drew.heap[w.heap.size]?=_ from hb6) (by simp; omega)
 have v0:=blk_cell hbu7 0
 have v1:=blk_cell hbu7 1
 have v2:=blk_cell hbu7 2
 have v3:=blk_cell hbu7 3
 have x0:=blk_cell hbr7 0
 have x1:=blk_cell hbr7 1
 have x2:=blk_cell hbr7 2
 have x3:=blk_cell hbr7 3
 simp only [gA,gZ,gS] at v0 v1 v2 v3 x0 x1 x2 x3
 have y0:=blk_free hbr7 0
 have y1:=blk_free hbr7 1
 have y2:=blk_free hbr7 2
 have y3:=blk_free hbr7 3
 have hW:=blk_put4 hbr7 (.bool u.leaf) (.slice u.ka u.kn u.kc) (.slice u.va u.vn u.vc) (.slice u.ia u.im u.ic)
 have T7:=(Tch.refl [w.heap.size] w7).put4 (b:=w.heap.size) (by simp) (.bool u.leaf) (.slice u.ka u.kn u.kc) (.slice u.va u.vn u.vc) (.slice u.ia u.im u.ic)
 have q0:=blk_cell hW 0
 have q1:=blk_cell hW 1
 have q2:=blk_cell hW 2
 have q3:=blk_cell hW 3
 simp only [gA,gZ,gS] at q0 q1 q2 q3
 have HE:=Lib.hid (HFX.out w7 _ h7 t7 T7)
 clear hW T7 h7 t7 hbu7 hbr7 u0 u1 u2 u3 z0 z1 z2 z3
 go_wp2_with fail
 exact bodyPost_ret (v:=.tuple #[.agg #[.bool u.leaf,.slice u.ka u.kn u.kc,.slice u.va u.vn u.vc,.slice u.ia u.im u.ic],.int .i64 0]) (by simp [results,Tryz.results120,go_sem,q0,q1,q2,q3]) rfl HE.out
theorem loadNode_any (tb:Nat) (T:Tv) (a:Int) (w:World) (ht:IsTr w tb T) (ha:0≤a∧a < (topN:Int)) (htx:(jrtext T.room T.D a).size≤10000000) :
 Calls Tryz.prog 120 #[.pointer (some ⟨tb,0,none⟩),.int .i64 a] w (LdnPost w tb T a):=by
 cases hf:T.f a with
 | some u=>exact loadNode_met tb T a u w ht ha hf
 | none =>
  by_cases hl:(jlen T.D T.room:Int)≤a
  · exact loadNode_off tb T a w ht ha hf hl
  · by_cases hc:jrcode T.room T.D a=0
    · cases hd:ddec (jrtext T.room T.D a).data.toList with
      | none=>exact loadNode_bad tb T a w ht ha hf (by omega) hc hd htx
      | some n=>exact loadNode_good tb T a w ht ha hf (by omega) hc n.1 n.2 hd htx
    · exact loadNode_unread tb T a w ht ha hf (by omega) hc
end Go.Proofs.YtlkgnljdpakkcaaGreatDoor
/-
 'loadBelow' of a tree: the node of a sector and all below it are read.
-/
namespace Go.Proofs.YtlkgnljdpakkcaaGreatDoor
open Go.RowKit
theorem IsDs.text {w:World} {b bs:Nat} {D:Ds} (h:IsDs w b bs D) (i:Int):(D.rtext i).size≤1024:=by
 obtain ⟨S,_,_,_,hl,hx,_⟩:=h
 unfold Ds.rtext
 split
 · show (0:Nat)≤1024; omega
 · split
   · show (0:Nat)≤1024; omega
   · rename_i h1 h2
     have hi:i.toNat < D.texts.length:=by omega
     have hs:i.toNat < S.secs.length:=by omega
     have:=(hx i.toNat _ _ (List.getElem?_eq_getElem hs) (List.getElem?_eq_getElem hi)).2
     rw [List.getD_eq_getElem?_getD,List.getElem?_eq_getElem hi]
     simp only [Option.getD_some]
     rw [pad_size _ this]
     exact Nat.le_refl _
theorem IsTr.text {w:World} {tb:Nat} {T:Tv} (h:IsTr w tb T) (a:Int):(jrtext T.room T.D a).size≤10000000:=by
 unfold jrtext
 split
 · show (0:Nat)≤10000000; omega
 · have:=h.ds.text (T.room+1+a)
   omega
def unm (N:Nm) (sec:Nat):Nat:=((List.range sec).filter fun x:Nat=>decide (N (x:Int)=none)).length
theorem filt_lt {p q:Nat→Bool} {n x:Nat} (hx:x < n) (h1:p x=true) (h2:q x=false) (h:∀ y,q y=true→p y=true):((List.range n).filter q).length < ((List.range n).filter p).length:=by
 induction n with
 | zero=>omega
 | succ n ih =>
  rw [List.range_succ,List.filter_append,List.filter_append,List.length_append,List.length_append]
  have hle:((List.range n).filter q).length≤((List.range n).filter p).length:=by
   rw [← List.countP_eq_length_filter,← List.countP_eq_length_filter]
   exact List.countP_mono_left (fun y _ hy=>h y hy)
  by_cases e:x=n
  · subst e
    simp only [List.filter_cons,h1,h2,if_true,Bool.false_eq_true,if_false,List.filter_nil,List.length_cons,List.length_nil]
    omega
  · have:=ih (by omega)
    have h3:([n].filter q).length≤([n].filter p).length:=by
     cases hq:q n
     · simp [hq]
     · simp [hq,h n hq]
    omega
theorem unm_ins {N:Nm} {sec:Nat} {a:Int} {n:Nod} (h0:0≤a) (h1:a < (sec:Int)) (h2:N a=none):unm (insr N a n) sec < unm N sec:=by
 refine filt_lt (x:=a.toNat) (by omega) ?_ ?_ ?_
 · rw [show ((a.toNat:Nat):Int)=a from by omega]; simp [h2]
 · rw [show ((a.toNat:Nat):Int)=a from by omega]; simp [insr]
 · intro y hy
   simp only [decide_eq_true_eq] at hy ⊢
   unfold insr at hy
   split at hy
   · cases hy
   · exact hy
theorem unm_le {N N':Nm} {sec:Nat} (h:∀ x,N' x=none→N x=none):unm N' sec≤unm N sec:=by
 unfold unm
 rw [← List.countP_eq_length_filter,← List.countP_eq_length_filter]
 exact List.countP_mono_left (fun y _ hy=>by simp only [decide_eq_true_eq] at hy ⊢; exact h _ hy)
set_option maxRecDepth 100000 in
theorem isKid_lean (v:Nv) (key:ByteArray) (w:World) (h:Gd w v) (hl:v.nod.lean=true):Calls Tryz.prog 121 #[vNv v,.string key] w fun e w'=>e=.returned (.bool false)∧Tch [] w w':=by
 obtain ⟨W0,hW0⟩:∃ W0,W0=w.alloc (.cells #[.bool v.leaf,.slice v.ka v.kn v.kc,.slice v.va v.vn v.vc,.slice v.ia v.im v.ic] 138):=⟨_,rfl⟩
 have T0:Tch [] w W0:=by rw [hW0]; exact (Tch.refl _ _).alloc _
 have hb0:W0.heap[w.heap.size]?=some (.cells #[.bool v.leaf,.slice v.ka v.kn v.kc,.slice v.va v.vn v.vc,.slice v.ia v.im v.ic] 138 (0,0)):=by rw [hW0]; exact blk_new _ _
 have HLN:Hid (∀ W,Tch [] w W→Calls Tryz.prog 158 #[vNv v] W fun e w'=>e=.returned (.bool true)∧Tch [] W w'):=fun W t=>by
  have:=isLean_any v W (h.keep0 t)
  rw [hl] at this
  exact this
 have n0:=blk_cell hb0 0
 have n1:=blk_cell hb0 1
 have n2:=blk_cell hb0 2
 have n3:=blk_cell hb0 3
 simp only [gA,gZ,gS] at n0 n1 n2 n3
 clear h hl hb0
 unfold vNv at *
 generalize v.leaf=vleaf at *
 generalize v.ka=vka at *
 generalize v.kn=vkn at *
 generalize v.kc=vkc at *
 generalize v.va=vva at *
 generalize v.vn=vvn at *
 generalize v.vc=vvc at *
 generalize v.ia=via at *
 generalize v.im=vim at *
 generalize v.ic=vic at *
 go_enter Tryz.func121,Tryz.ntmps121
 go_upto_region 1 with fail
 rw [← hW0]
 clear hW0
 go_wp2_with (go_at_call 158; (with_reducible refine (HLN.out _ T0).mono ?_); rintro e w3 ⟨rfl,t3⟩)
 go_ret
 exact ⟨rfl,T0.trans t3⟩
theorem isKid_all (v:Nv) (key:ByteArray) (w:World) (h:Gd w v):Calls Tryz.prog 121 #[vNv v,.string key] w fun e w'=>e=.returned (.bool (!v.nod.lean && (v.nod.fk.toList == key.toList)))∧Tch [] w w':=by
 cases hl:v.nod.lean
 · have:=isKid_any v key w h (nonlean_ne (n:=v.nod) hl)
   rw [hl] at this
   exact this
 · exact isKid_lean v key w h hl
def nmf (f:Int→Option Nv):Nm:=fun x=>(f x).map Nv.nod
def LbPost (w:World) (tb:Nat) (T:Tv) (k:Nat) (a:Int) (e:Ending) (w':World):Prop :=
 ∃ f':Int→Option Nv,IsTr w' tb { T with f:=f' }∧Tch [T.b,T.mb] w w'∧(∀ x,f' x=none→T.f x=none)∧(∀ x v,f' x=some v→T.f x=some v∨Hig w.heap.size v) ∧
  ((∃ lv N',lb (rdN T.D T.room) (jlen T.D T.room) k (nmf T.f) a=some (lv,N')∧nmf f'=N'∧e=.returned (.tuple #[.int .i64 (lv:Nat),.int .i64 0])) ∨
   (lb (rdN T.D T.room) (jlen T.D T.room) k (nmf T.f) a=none∧e=.returned (.tuple #[.int .i64 0,.int .i64 53])))
set_option maxRecDepth 100000 in
set_option maxHeartbeats 4000000 in
theorem loadBelow_no (tb k:Nat) (T:Tv) (a:Int) (w:World) (ht:IsTr w tb T) (ha:0≤a∧a < (topN:Int)) (hon:∀ x:Int,0≤x→x < jlen T.D T.room→jrcode T.room T.D x=0)
 (hno:T.f a≠none∨(jlen T.D T.room:Int)≤a∨rdN T.D T.room a=none) :
 Calls Tryz.prog 82 #[.pointer (some ⟨tb,0,none⟩),.int .i64 a] w (LbPost w tb T (k+1) a):=by
 have HL:Hid (∀ W,Tch [] w W→Calls Tryz.prog 120 #[.pointer (some ⟨tb,0,none⟩),.int .i64 a] W fun e w'=>e=.returned (.tuple #[.agg #[.bool false,.slice none 0 0,.slice none 0 0,.slice none 0 0],.int .i64 53])∧IsTr w' tb T∧Tch [T.b] W w'):=fun W t=>by
  refine (loadNode_any tb T a W (ht.keep0 t) ha ((ht.keep0 t).text a)).mono ?_
  rintro e w' (⟨c,he,hc,h1,h2,h3⟩ | ⟨v,he,h1,h2,h3,h4,_⟩)
  · rcases h3 with ⟨rfl,_⟩ | ⟨h5,h6,⟨h7,_⟩ | ⟨_,rfl,_⟩⟩
    · exact ⟨he,h1,h2⟩
    · exact absurd (hon a ha.1 h6) h7
    · exact ⟨he,h1,h2⟩
  · rcases hno with h | h | h
    · exact absurd h1 h
    · omega
    · rw [h] at h4; cases h4
 have hlb:lb (rdN T.D T.room) (jlen T.D T.room) (k+1) (nmf T.f) a=none:=by
  unfold lb
  by_cases h:nmf T.f a≠none∨(jlen T.D T.room:Int)≤a
  · rw [if_pos h]
  · rw [if_neg h]
    simp only [not_or] at h
    rcases hno with h1 | h1 | h1
    · refine absurd (fun e=>h1 ?_) h.1
      unfold nmf at e
      cases hf:T.f a with
      | none=>rfl
      | some v=>rw [hf] at e; cases e
    · exact absurd h1 h.2
    · rw [h1]
 have HF:Hid (∀ W,IsTr W tb T→Tch [T.b] w W→LbPost w tb T (k+1) a (.returned (.tuple #[.int .i64 0,.int .i64 53])) W):=fun W h t=>⟨T.f,h,t.mono (by simp),fun _ h=>h,fun _ _ h=>Or.inl h,Or.inr ⟨hlb,rfl⟩⟩
 have HA:Hid (∀ W W',IsTr W tb T→Tch [] W W'→IsTr W' tb T):=fun W W' h t=>h.keep0 t
 clear ht ha hon hno hlb
 generalize LbPost w tb T (k+1) a=Q at *
 go_enter Tryz.func82,Tryz.ntmps82
 go_wp2_with (go_at_call 120; (with_reducible refine (HL.out _ (Tch.refl _ _)).mono ?_); rintro e w3 ⟨rfl,h3,t3⟩)
 have HQ:=HF.out _ (HA.out _ _ h3 ((Tch.refl _ _).alloc (.cells #[.bool false,.slice none 0 0,.slice none 0 0,.slice none 0 0] 138))) (t3.alloc (.cells #[.bool false,.slice none 0 0,.slice none 0 0,.slice none 0 0] 138))
 first | exact HQ | (go_ret2; exact HQ)
end Go.Proofs.YtlkgnljdpakkcaaGreatDoor
