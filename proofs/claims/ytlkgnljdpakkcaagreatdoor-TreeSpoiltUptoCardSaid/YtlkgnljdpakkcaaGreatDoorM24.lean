/-
  Parts of the proof: Tak, Nen.
-/
import Derived.Test.YtlkgnljdpakkcaaGreatDoorM23
import Derived.Test.YtlkgnljdpakkcaaGreatDoorM13
import Derived.StillTailTactics
import Derived.Test.YtlkgnljdpakkcaaGreatDoorM05
import Derived.Test.YtlkgnljdpakkcaaGreatDoorM08
import Derived.Test.YtlkgnljdpakkcaaGreatDoorM06
set_option linter.unusedVariables false
set_option linter.unusedSimpArgs false
/-
 'take' of a tree: it is what the draft made of it. Condition: the draft's map is another one than the tree's.
-/
namespace Go.Proofs.YtlkgnljdpakkcaaGreatDoor
open Go.RowKit
def tkF (f g:Int→Option Nv) (x:Int):Option Nv:=match g x with
 | none=>f x
 | some v=>if v.es=[] then none else some v
def tkS (f g:Int→Option Nv) (seen:List Int) (x:Int):Option Nv:=if x ∈ seen then tkF f g x else f x
def TakRel (w:World) (db tb:Nat) (d:Dv) (T:Tv) (r n:Nat) (wr:World):Prop :=
 ∃ (seen:List Int),RgAt wr d.mb r (fun x=>(d.f x).map vNv) n seen∧IsTr wr tb { T with root:=d.root,f:=tkS T.f d.f seen }∧Tch [tb,T.mb] w wr∧w.heap.size≤r
def TakPost (w:World) (tb:Nat) (d:Dv) (T:Tv) (e:Ending) (w':World):Prop :=
 e=.returned (.tuple #[])∧IsTr w' tb { T with root:=d.root,f:=tkF T.f d.f }∧Tch [tb,T.mb] w w'
theorem tkS_put {f g:Int→Option Nv} {seen:List Int} {x:Int} {u:Nv} (hx:x ∉ seen) (hg:g x=some u) (he:u.es≠[]):tkS f g (seen++[x])=updN (tkS f g seen) x (some u):=by
 funext y
 unfold tkS updN
 by_cases hy:y=x
 · subst hy
   rw [if_pos (by simp),if_pos rfl]
   unfold tkF; rw [hg]; simp only; rw [if_neg he]
 · rw [if_neg hy]
   show _=(if y ∈ seen then tkF f g y else f y)
   by_cases hs:y ∈ seen
   · rw [if_pos (by simp [hs]),if_pos hs]
   · rw [if_neg (by simp [hs,hy]),if_neg hs]
theorem tkS_del {f g:Int→Option Nv} {seen:List Int} {x:Int} {u:Nv} (hx:x ∉ seen) (hg:g x=some u) (he:u.es=[]):tkS f g (seen++[x])=updN (tkS f g seen) x none:=by
 funext y
 unfold tkS updN
 by_cases hy:y=x
 · subst hy
   rw [if_pos (by simp),if_pos rfl]
   unfold tkF; rw [hg]; simp only; rw [if_pos he]
 · rw [if_neg hy]
   show _=(if y ∈ seen then tkF f g y else f y)
   by_cases hs:y ∈ seen
   · rw [if_pos (by simp [hs]),if_pos hs]
   · rw [if_neg (by simp [hs,hy]),if_neg hs]
theorem IsTr.del {w w':World} {tb:Nat} {T:Tv} {x:Int} (h:IsTr w tb T) (hm:IsMp w' T.mb (updF (fun y=>(T.f y).map vNv) x none) mbnd) (t:Tch [T.mb] w w'):IsTr w' tb { T with f:=updN T.f x none }:=by
 obtain ⟨S,hS,_⟩:=h.ds
 have e1:tb≠T.mb:=fun e=>h.ns.mp.ne h.blk e.symm
 have e2:T.jb≠T.mb:=fun e=>h.ns.mp.ne (show w.heap[T.jb]?=_ from h.jn) e.symm
 have e3:T.b≠T.mb:=fun e=>h.ns.mp.ne hS.blk e.symm
 have e4:T.bs≠T.mb:=fun e=>h.ns.mp.ne hS.arr e.symm
 exact ⟨t.keep h.blk (by simpa using e1),h.jn.keep t (by simpa using e2),h.ds.keep t (by simpa using e3) (by simpa using e4),h.ns.del hm t,h.room⟩
theorem RgAt.kinds {w:World} {b r cnt:Nat} {f:Int→Option Value} {seen:List Int} (h:RgAt w b r f cnt seen):∀ c ∈ [r],∀ cs t z,w.heap[c]?≠some (.cells cs t z):=fun c hc cs t z e=>by
 simp only [List.mem_singleton] at hc
 subst hc
 exact (h.neC e).2 rfl
theorem RgAt.neM {w:World} {b r cnt m n:Nat} {f g:Int→Option Value} {seen:List Int} (h:RgAt w b r f cnt seen) (hm:IsMp w m g n):m≠r:=fun e=>by
 obtain ⟨D,left,n',⟨es,clock,since,sn,c0,hb,F,hs,hD,hri,r2⟩,_⟩:=h
 obtain ⟨D',⟨es',clock',hb',_⟩,_⟩:=hm
 rw [e,hri] at hb'; cases hb'
theorem IsTr.walk {w w':World} {tb b r cnt:Nat} {T:Tv} {f:Int→Option Value} {seen:List Int} (h:IsTr w tb T) (hR:RgAt w b r f cnt seen) (t:Tch [r] w w'):IsTr w' tb T:=by
 obtain ⟨S,hS,_⟩:=h.ds
 have e1:=(hR.neC h.blk).2
 have e2:=(hR.neC (show w.heap[T.jb]?=_ from h.jn)).2
 have e3:=hR.neM h.ns.mp
 have e4:=(hR.neC hS.blk).2
 have e5:=(hR.neC hS.arr).2
 exact ⟨t.keep h.blk (by simpa using e1),h.jn.keep t (by simpa using e2),h.ds.keep t (by simpa using e4) (by simpa using e5),h.ns.keep t (by simpa using e3) (fun c hc cs=>⟨hR.kinds c hc cs _ _,hR.kinds c hc cs _ _⟩),h.room⟩
theorem IsDr.walk {w w':World} {db H0 b r cnt:Nat} {d:Dv} {f:Int→Option Value} {seen:List Int} (h:IsDr w db d H0) (hR:RgAt w b r f cnt seen) (t:Tch [r] w w'):IsDr w' db d H0:=by
 have e1:=(hR.neC h.blk).2
 have e3:=hR.neM h.ns.mp
 exact ⟨t.keep h.blk (by simpa using e1),h.ns.keep t (by simpa using e3) (fun c hc cs=>⟨hR.kinds c hc cs _ _,hR.kinds c hc cs _ _⟩),fun x v hx=>own_keep (h.own x v hx) t (fun k hk hm=>by obtain ⟨cs,hc⟩:=own_kind (h.own x v hx) hk; exact hR.kinds k hm cs _ _ hc),h.apart,h.fr,h.hig⟩
set_option maxRecDepth 100000 in
set_option maxHeartbeats 4000000 in
theorem take_any (db tb H0:Nat) (d:Dv) (T:Tv) (w:World) (hd:IsDr w db d H0) (ht:IsTr w tb T) (hne:d.mb≠T.mb) (hdt:db≠tb) :
 Calls Tryz.prog 61 #[.pointer (some ⟨tb,0,none⟩),.pointer (some ⟨db,0,none⟩)] w (TakPost w tb d T):=by
 have hdtb:d.mb≠tb:=fun e=>hd.ns.mp.ne ht.blk e
 have HD:Hid (∀ W,Tch [tb,T.mb] w W→(W.heap[db]?=some (.cells #[.int .i64 d.root,.pointer (some ⟨d.tb,0,none⟩),.map (some d.mb),.int .i64 d.fresh] 200 (0,0)))∧∀ x v,d.f x=some v→Gd W v):=fun W t=>by
  have e1:db≠T.mb:=fun e=>ht.ns.mp.ne hd.blk e.symm
  refine ⟨t.keep hd.blk (by simp [hdt,e1]),fun x v hx=>(hd.ns.gd x v hx).kept t (fun b hb cs=>?_)⟩
  simp only [List.mem_cons,List.not_mem_nil,or_false] at hb
  rcases hb with rfl | rfl
  · rw [ht.blk]; exact ⟨by simp,by simp⟩
  · exact ⟨fun e=>ht.ns.mp.ne e rfl,fun e=>ht.ns.mp.ne e rfl⟩
 have HSP:=Lib.hid hd.ns.sup
 have htb:=lt_of_block ht.blk
 have hmbl:=ht.ns.mp.lt
 have HF:Hid (∀ W seen,(∀ x ∈ seen,d.f x≠none)→(∀ x,(Lit.int .i64 x).wf=true→(d.f x).map vNv≠none→x ∈ seen)→IsTr W tb { T with root:=d.root,f:=tkS T.f d.f seen }→Tch [tb,T.mb] w W→TakPost w tb d T (.returned (.tuple #[])) W):=fun W seen h1 h2 h3 t=>by
  have e:tkS T.f d.f seen=tkF T.f d.f:=by
   funext x
   unfold tkS
   by_cases hs:x ∈ seen
   · rw [if_pos hs]
   · rw [if_neg hs]
     unfold tkF
     cases hf:d.f x with
     | none=>rfl
     | some v =>
      have:=hd.ns.sup x v hf
      exact absurd (h2 x (wfI (by omega) (by unfold topN at this; omega)) (by rw [hf]; simp)) hs
  rw [e] at h3
  exact ⟨rfl,h3,t⟩
 have c0:=blk_cell hd.blk 0
 have e0:=blk_cell ht.blk 0
 have f0:=blk_free ht.blk 0
 simp only [List.getElem?_toArray,List.getElem?_cons_zero] at c0 e0
 have hT0:=ht.rootT d.root
 have T0:Tch [tb,T.mb] w (w.setCell ⟨tb,0,none⟩ (.int .i64 d.root)):=(Tch.refl _ _).setCell (by simp) _
 have hmp:IsMp (w.setCell ⟨tb,0,none⟩ (.int .i64 d.root)) d.mb (fun x=>(d.f x).map vNv) mbnd:=hd.ns.mp.keep T0 (by simp [hne,hdtb])
 obtain ⟨hb0,_⟩:=HD.out _ T0
 have c2:=blk_cell hb0 2
 simp only [gA,gZ,gS] at c2
 have hs0:w.heap.size=(w.setCell ⟨tb,0,none⟩ (.int .i64 d.root)).heap.size:=by simp [World.setCell]
 clear hd ht hb0 hs0
 generalize TakPost w tb d T=Q at *
 go_enter Tryz.func61,Tryz.ntmps61
 go_wp2_with (at_range; refine wpList_range_mp _ rfl _ 124 rfl 138 Tryz.underlying124 d.mb mbnd _ rfl hmp ?_; intro w1 cnt hrg t1 hs1)
 go_frame
 have hrz:w.heap.size=(w.setCell ⟨tb,0,none⟩ (.int .i64 d.root)).heap.size:=by simp [World.setCell]
 have hT1:=hT0.keep0 t1
 have T1:=T0.trans (t1.mono (L':=[tb,T.mb]) (by simp))
 clear c0 e0 f0 c2 hT0 T0 hmp t1 hs1
 rw [← hrz] at hrg ⊢
 go_loopg [] cnt (fun n wr=>TakRel w db tb d T w.heap.size n wr)
 case atStart=>exact ⟨[],hrg,by rw [show tkS T.f d.f []=T.f from by funext x; unfold tkS; simp]; exact hT1,T1,Nat.le_refl _⟩
 case round =>
  obtain ⟨seen,hR,hT,t,hr⟩:=hrel
  clear hrg hT1 T1 hrz
  go_upto_region 3 with (at_next; refine wpList_next_mp _ rfl _ rfl d.mb w.heap.size _ gk seen rfl hR (fun hall=>?_) (fun x v w2 cnt2 hwx hfx hns hR2 hlt2 t2 hs2 hen=>?_))
  · have HE:=Lib.hid (HF.out wr seen (fun x hx=>by obtain ⟨_,_,_,_,_,_,h,_⟩:=hR; have:=(h x hx).2; simpa using this) hall hT t)
    clear hall hR hT
    go_wp2_with fail
    first | exact HE.out | (go_end0; exact HE.out)
  · obtain ⟨u,hu,rfl⟩:∃ u,d.f x=some u∧v=vNv u:=by
     cases hf:d.f x with
     | none=>rw [hf] at hfx; cases hfx
     | some u=>rw [hf] at hfx; exact ⟨u,rfl,(Option.some.inj hfx).symm⟩
    have htw:=t.size
    have T2:Tch [tb,T.mb] w w2:=t.transNew t2 (fun m hm=>Or.inr (by simp at hm; omega))
    have hT2:=hT.walk hR t2
    have hg:=(HD.out w2 T2).2 x u hu
    have hub:=HSP.out x u hu
    obtain ⟨W3,hW3⟩:∃ W3,W3=w2.alloc (.cells #[.bool u.leaf,.slice u.ka u.kn u.kc,.slice u.va u.vn u.vc,.slice u.ia u.im u.ic] 138):=⟨_,rfl⟩
    have t3:Tch [] w2 W3:=by rw [hW3]; exact (Tch.refl _ _).alloc _
    have hb3:W3.heap[wr.heap.size]?=some (.cells #[.bool u.leaf,.slice u.ka u.kn u.kc,.slice u.va u.vn u.vc,.slice u.ia u.im u.ic] 138 (0,0)):=by rw [← hs2,hW3]; exact blk_new _ _
    have T3:=T2.trans (t3.mono (L':=[tb,T.mb]) (by simp))
    have hT3:=hT2.keep0 t3
    have hg3:=hg.keep0 t3
    have hR3:=hR2.keep t3 (by simp) (by simp)
    have HNN:Hid (Calls Tryz.prog 99 #[.agg #[.bool u.leaf,.slice u.ka u.kn u.kc,.slice u.va u.vn u.vc,.slice u.ia u.im u.ic]] W3 fun e w'=>e=.returned (.bool (decide (u.es=[])))∧Tch [] W3 w'):=isNone_any u W3 hg3
    have k0:=blk_cell hb3 0
    have k1:=blk_cell hb3 1
    have k2:=blk_cell hb3 2
    have k3:=blk_cell hb3 3
    simp only [gA,gZ,gS] at k0 k1 k2 k3
    have hXW:wr.heap.size≠tb∧wr.heap.size≠T.mb:=by omega
    unfold vNv at hen
    have HRX:=Lib.hid (fun (W':World) (L:List Nat) (t:Tch L W3 W') (h1:d.mb ∉ L) (h2:w.heap.size ∉ L)=>hR3.keep t h1 h2)
    have HHU:=Lib.hid hu
    have HHN:=Lib.hid hns
    have HBX:=Lib.hid hb3
    have HT3:=Lib.hid hT3
    have HTT:=Lib.hid T3
    have HG3:=Lib.hid hg3
    clear hR hR2 hT hT2 t t2 t3 hfx hu hns hb3 hg T2 hT3 T3 hg3 hR3
    go_upto_region 4 with fail
    rw [← hW3]
    clear hW3
    by_cases he:u.es=[]
    · rw [decide_eq_true he] at HNN
      have HE:=Lib.hid he
      clear he
      have hwx2:(Lit.int .i64 x).wf=true:=hwx
      go_wp2_with (first | (go_at_call 99; (with_reducible refine HNN.out.mono ?_); rintro e w4 ⟨rfl,t4⟩; have hT4:=HT3.out.keep0 t4; have g2:=blk_cell hT4.blk 2; simp only [gA,gZ,gS] at g2; have hm4:=hT4.ns.mp) | (at_delete; refine wpList_delete_mp _ rfl _ _ 124 rfl 138 Tryz.underlying124 T.mb mbnd _ rfl hm4 x rfl hwx2 ?_; intro w5 h5 t5))
      go_roundg cnt2
      case measure=>omega
      case rel =>
       refine ⟨seen++[x],HRX.out w5 [T.mb] ((t4.mono (by simp)).trans t5) (by simpa using hne) (by simp; omega),?_,HTT.out.trans (((t4.mono (by simp)).trans t5).mono (by simp)),hr⟩
       rw [tkS_del HHN.out HHU.out HE.out]
       exact hT4.del h5 t5
    · rw [decide_eq_false he] at HNN
      have HE:=Lib.hid he
      clear he
      go_upto_region 6 with (go_at_call 99; (with_reducible refine HNN.out.mono ?_); rintro e w4 ⟨rfl,t4⟩)
      have hT4:=HT3.out.keep0 (t4.drew)
      have g2:=blk_cell hT4.blk 2
      have hb4:=t4.drew.keep HBX.out (by simp)
      have l0:=blk_cell hb4 0
      have l1:=blk_cell hb4 1
      have l2:=blk_cell hb4 2
      have l3:=blk_cell hb4 3
      simp only [gA,gZ,gS] at g2 l0 l1 l2 l3
      have hm4:=hT4.ns.mp
      go_still_tail 6,(by kernel_rfl)
      change wpList _ _ _ _ _ w4.drew
      go_wp2_with (at_mapUpdate; refine wpList_store_mp _ rfl _ _ _ 124 rfl 138 Tryz.underlying124 T.mb mbnd _ rfl hm4 (by unfold mbnd maxLen; omega) x rfl hwx ?_; intro w5 h5 t5)
      go_roundg cnt2
      case measure=>omega
      case rel =>
       refine ⟨seen++[x],HRX.out w5 [T.mb] ((t4.drew.mono (by simp)).trans t5) (by simpa using hne) (by simp; omega),?_,HTT.out.trans (((t4.drew.mono (by simp)).trans t5).mono (by simp)),hr⟩
       rw [tkS_put HHN.out HHU.out HE.out]
       exact hT4.put h5 t5 (HG3.out.keep0 t4.drew) hub
end Go.Proofs.YtlkgnljdpakkcaaGreatDoor
/-
 Encode of package node answers the bytes that the document asks,or refuses. Conditions: the lists and texts are short (Nv.Ok).
-/
namespace Go.Proofs.YtlkgnljdpakkcaaGreatDoor
open Go.RowKit
theorem ncells_app (a b:List UInt8):Lib.byteCells a++Lib.strCells ⟨b.toArray⟩=Lib.byteCells (a++b):=by
 simp [Lib.byteCells,Lib.strCells]
theorem nbld_keep {w w':World} {B b:Nat} {bs:List Value} {L:List Nat} {T e:TypeId} (h:Lib.IsBuilder T e B b bs w) (t:Tch L w w') (hn:∀ k ∈ L,k < B):Lib.IsBuilder T e B b bs w':=by
 have key:∀ p,Lib.BuilderAt T e B b p bs w→Lib.BuilderAt T e B b p bs w':=fun p h=>by
  obtain ⟨h1,v,h2,h3,h4⟩:=h
  exact ⟨h1,v,t.keep h2 (fun hm=>by have:=hn b hm; omega),own_keep h3 t (fun k hk hm=>by have:=hn k hm; have:=(h3.lt k hk).1; omega),h4⟩
 rcases h with h | h
 · exact Or.inl (key _ h)
 · exact Or.inr (key _ h)
def preN (leaf:Bool) (es:List En) (k:Nat):List UInt8:=((if leaf then 1 else 2) :: ub es.length)++(es.take k).flatMap (enb leaf)
theorem preN_step (leaf:Bool) (es:List En) (k:Nat) (e:En) (h:es[k]?=some e):preN leaf es (k+1)=preN leaf es k++enb leaf e:=by
 unfold preN; rw [List.take_add_one,h,List.flatMap_append]; simp
theorem preN_all (leaf:Bool) (es:List En):preN leaf es es.length=ndb leaf es:=by unfold preN ndb; rw [List.take_length]; simp
theorem preN_len (leaf:Bool) (es:List En) (k:Nat):(preN leaf es k).length≤(ndb leaf es).length:=by
 have:=wsum_le leaf es k
 unfold wsum at this
 unfold preN ndb
 simp only [List.length_cons,List.length_append]
 omega
theorem preN_zero (leaf:Bool) (es:List En):preN leaf es 0=(if leaf then 1 else 2) :: ub es.length:=by simp [preN]
set_option maxRecDepth 100000 in
theorem encode_no (v:Nv) (w:World) (h:IsNv w v) (ho:v.Ok) (hc:v.caps) (hf:v.fits=false):Calls Tryz.prog 104 #[.agg #[.bool v.leaf,.slice v.ka v.kn v.kc,.slice v.va v.vn v.vc,.slice v.ia v.im v.ic]] w fun e w' =>
 e=.returned (.tuple #[.string ⟨#[]⟩,.int .i64 40])∧Tch [] w w':=by
 have T0:Tch [] w (w.alloc (.cells #[.bool v.leaf,.slice v.ka v.kn v.kc,.slice v.va v.vn v.vc,.slice v.ia v.im v.ic] 138)):=(Tch.refl _ _).alloc _
 have HF:=Lib.hid (nisFit_any v _ (h.keep0 T0) ho hc)
 rw [hf] at HF
 clear h ho hc hf
 go_enter Tryz.func104,Tryz.ntmps104
 go_wp2_with fail
 refine HF.out.mono ?_
 rintro e w1 ⟨rfl,t1⟩
 go_wp2_with fail
 go_ret2
 exact ⟨rfl,T0.trans t1⟩
set_option maxRecDepth 100000 in
set_option maxHeartbeats 2000000 in
theorem encode_kids (v:Nv) (hlf:v.leaf=false) (w:World) (h:IsNv w v) (ho:v.Ok) (hc:v.caps) (hf:v.fits=true):Calls Tryz.prog 104 #[.agg #[.bool v.leaf,.slice v.ka v.kn v.kc,.slice v.va v.vn v.vc,.slice v.ia v.im v.ic]] w fun e w' =>
 e=.returned (.tuple #[.string ⟨(ndb v.leaf v.es).toArray⟩,.int .i64 0])∧Tch [] w w':=by
 have T0:Tch [] w (w.alloc (.cells #[.bool v.leaf,.slice v.ka v.kn v.kc,.slice v.va v.vn v.vc,.slice v.ia v.im v.ic] 138)):=(Tch.refl _ _).alloc _
 have HB:Hid (∀ w',Tch [] (w.alloc (.cells #[.bool v.leaf,.slice v.ka v.kn v.kc,.slice v.va v.vn v.vc,.slice v.ia v.im v.ic] 138)) w'→_):=fun w' t=>nvb_cells w v.leaf v.ka v.va v.ia v.kn v.kc v.vn v.vc v.im v.ic t
 have HFI:=Lib.hid (nisFit_any v _ (h.keep0 T0) ho hc)
 rw [hf] at HFI
 have HBG:Hid (∀ w',Tch [] w w'→Calls Tryz.prog 144 _ w' fun e w2=>e=.returned (.string (hdN v.leaf v.keys.length))∧Tch [] w' w2):=fun w' t=>nbeginning_any v w' (h.keep0 t) ho
 have HIS:Hid (∀ w',Tch [] w w'→IsNv w' v):=fun w' t=>h.keep0 t
 have hlens:v.im=v.kn:=by
  unfold Nv.fits Nv.lens at hf
  rw [hlf] at hf
  simp at hf
  have h1:=h.rk.hlen
  have h2:=h.ri.hlen
  have:=hf.1.1
  omega
 have HN1:Hid (v.kn=v.keys.length∧v.im=v.kids.length):=⟨h.rk.hlen,h.ri.hlen⟩
 have HT:Hid (∀ (s:ByteArray) w',s.size≤100000000→Calls Tryz.prog 145 #[.string s] w' fun e w2=>e=.returned (.string ⟨(tx s).toArray⟩)∧Tch [] w' w2):=fun s w' hs=>text_any s w' (by omega)
 have HU:Hid (∀ (u:Nat) w',u < 16384→Calls Tryz.prog 134 #[.int .u64 u] w' fun e w2=>e=.returned (.string ⟨(ub u).toArray⟩)∧Tch [] w' w2):=fun u w' hu=>uint_any u w' (by omega)
 have HNM:=Lib.hid (Nv.norm hf)
 have hk8:=ho.lk
 have hl9:=v.es_len
 have h1024:(ndb v.leaf v.es).length≤1024:=by
  unfold Nv.fits fitN at hf
  simp at hf
  exact hf.2.1.2
 have HSM:Hid (∀ k,(preN v.leaf v.es k).length≤1024):=fun k=>by have:=preN_len v.leaf v.es k; omega
 have HP0:Hid (hdN v.leaf v.keys.length=⟨(preN v.leaf v.es 0).toArray⟩):=by show _=_; rw [preN_zero,hl9]; rfl
 have HPA:Hid (preN v.leaf v.es v.kn=ndb v.leaf v.es):=by show _=_; rw [h.rk.hlen,← hl9,preN_all]
 have HPS:Hid (∀ k key,v.keys[k]?=some key→preN v.leaf v.es (k+1)=preN v.leaf v.es k++enb v.leaf (mkE v.leaf v.keys v.vals v.kids k key)):=fun k key hk=>preN_step _ _ _ _ (es_get v k key hk)
 have HMEM:Hid (∀ k key,v.keys[k]?=some key→mkE v.leaf v.keys v.vals v.kids k key ∈ v.es):=fun k key hk=>List.mem_of_getElem? (es_get v k key hk)
 have HKS:=Lib.hid ho.ks
 have HVS:=Lib.hid ho.vs
 rw [← h.rk.hlen] at hk8
 rw [hlf] at *
 generalize preN false v.es=pre at HP0 HPA HPS HSM
 generalize (ndb false v.es)=bytes at HPA h1024 ⊢
 generalize hdN false v.keys.length=hd at HBG HP0
 generalize hkn:v.kn=kn at *
 generalize hxn:v.im=xn at *
 generalize hka:v.ka=ka at *
 generalize hxa:v.ia=xa at *
 have hlens2:kn=xn:=hlens.symm
 subst hlens2
 clear ho hc hf h hl9 hlf
 obtain ⟨W1,hW1⟩:∃ W1,W1=w.alloc (.cells #[.bool false,.slice ka kn v.kc,.slice v.va v.vn v.vc,.slice xa kn v.ic] 138):=⟨_,rfl⟩
 rw [← hW1] at HB T0 HFI
 go_enter Tryz.func104,Tryz.ntmps104
 go_wp2_with fail
 rw [← hW1]
 clear hW1
 refine HFI.out.mono ?_
 rintro e w1 ⟨rfl,t1⟩
 have T1:=T0.trans t1
 obtain ⟨c0,c1,c2,c3,clt⟩:=HB.out _ (t1.alloc (.cells #[.pointer none,.slice none 0 0] 239))
 have hBl:=Lib.fresh_isBuilder 239 5 w1
 have tA:Tch [] w1 (w1.alloc (.cells #[.pointer none,.slice none 0 0] 239)):=(Tch.refl [] w1).alloc _
 have HBC:=Lib.hid (HBG.out _ (T1.trans tA))
 clear HFI HBG
 go_wp2_with fail
 refine HBC.out.mono ?_
 rintro e w2 ⟨rfl,t2⟩
 have T2:=tA.trans t2
 have hB2:=nbld_keep hBl t2 (by simp)
 rw [HP0.out] at *
 clear hBl tA t2 c0 c1 c2 c3 clt HBC
 go_wp2_with fail
 refine (bwrite_any w1.heap.size w1.heap.size [] ⟨(pre 0).toArray⟩ _ hB2 (by have:=HSM.out 0; simp [ByteArray.size]; omega) T2.size).mono ?_
 rintro e w3 ⟨rfl,hB3,b3⟩
 have T3:=T2.belowNew b3
 rw [show ([]:List Value)=Lib.byteCells [] from rfl,ncells_app,List.nil_append] at hB3
 obtain ⟨c0,c1,c2,c3,clt⟩:=HB.out _ (t1.trans T3)
 clear hB2 T2 b3
 go_wp2_with fail
 go_loopw [16] (fun v16 wr=>∃ k:Nat,k≤kn∧v16=.int .i64 k∧Lib.IsBuilder 239 5 w1.heap.size w1.heap.size (Lib.byteCells (pre k)) wr∧Tch [] w1 wr) (fun v16 _=>kn - (intOf v16).toNat)
 case atStart=>exact ⟨0,by omega,rfl,hB3,T3⟩
 case round =>
  obtain ⟨k,hk,rfl,hbk,T⟩:=hrel
  clear c0 c1 c2 c3 clt hB3 T3
  obtain ⟨c0,c1,c2,c3,clt⟩:=HB.out _ (t1.trans T)
  by_cases hkl:k < kn
  · have hklk:k < v.keys.length:=by have:=HN1.out.1; omega
    have hklx:k < v.kids.length:=by have:=HN1.out.2; omega
    have hget:=List.getElem?_eq_getElem hklk
    have hgx:=List.getElem?_eq_getElem hklx
    have hnv:=HIS.out _ (T1.trans T)
    have ha:=hnv.rk.some_ (by omega)
    have hbl:=hnv.rk.lt (by omega)
    have x0:=hnv.rk.one hget (v:=.string v.keys[k]) rfl
    have hax:=hnv.ri.some_ (by omega)
    have hbx:=hnv.ri.lt (by omega)
    have hbx1:=(HIS.out w1 T1).ri.lt (by omega)
    have y0:=hnv.ri.one hgx (v:=Value.int .i64 v.kids[k]) rfl
    have hHS:pre (k+1)=pre k++(tx v.keys[k]++ub v.kids[k].toNat):=by rw [HPS.out k _ hget]; simp [enb,mkE,List.getD_eq_getElem?_getD,hgx]
    have hks:=HKS.out _ (List.getElem_mem hklk)
    have hnm:0≤v.kids[k]∧v.kids[k] < 16384:=by
     have:=HNM.out _ (HMEM.out k _ hget)
     unfold Norm mkE at this
     simp [List.getD_eq_getElem?_getD,hgx] at this
     exact this
    have hpl:=HSM.out (k+1)
    have hpl0:=HSM.out k
    generalize v.keys[k]=key at *
    generalize v.kids[k]=x at *
    obtain ⟨m,rfl⟩:=Int.eq_ofNat_of_zero_le hnm.1
    rw [Int.toNat_natCast] at hHS
    have hxr:m < 16384:=by omega
    have hcw:IntKind.u64.wrap (m:Int)=(m:Int):=by rw [IntKind.wrap_u64]; omega
    have hlen2:(pre (k+1)).length=(pre k).length+(tx key).length+(ub m).length:=by rw [hHS]; simp; omega
    have HS2:Hid ((pre k++tx key)++(ub m)=pre (k+1)):=by show _=_; rw [hHS,List.append_assoc]
    have HT1:=Lib.hid (HT.out key wr hks)
    have ha:ka=some ⟨v.kb,v.ko,none⟩:=by rw [← hka]; exact ha
    have hax:xa=some ⟨v.ib,v.io,none⟩:=by rw [← hxa]; exact hax
    subst ha hax
    have hI:(k:Int) < (kn:Int):=by omega
    clear hHS hget hgx hnv hklk hklx
    go_wp2_with fail
    refine HT1.out.mono ?_
    rintro e w4 ⟨rfl,t4⟩
    have T4:=T.trans t4
    have hb4:=nbld_keep hbk t4 (by simp)
    clear HT1
    go_wp2_with fail
    refine (bwrite_any w1.heap.size w1.heap.size _ ⟨(tx key).toArray⟩ _ hb4 (by rw [Lib.byteCells_length]; simp [ByteArray.size]; omega) T4.size).mono ?_
    rintro e w5 ⟨rfl,hb5,b5⟩
    rw [ncells_app] at hb5
    have T5:=T4.belowNew b5
    obtain ⟨d0,d1,d2,d3,dlt⟩:=HB.out _ (t1.trans T5)
    have y5:w5.cell? ⟨v.ib,v.io+k,none⟩=some (Value.int .i64 m):=(T5.cell hbx1 (by simp)).trans ((T.cell hbx1 (by simp)).symm.trans y0)
    have hbx5:v.ib < w5.heap.size:=Nat.lt_of_lt_of_le hbx1 T5.size
    have HX5:=Lib.hid (HU.out m w5 hxr)
    clear hb4 T4 b5 c0 c1 c2 c3 clt x0 y0
    go_wp2_with fail
    refine HX5.out.mono ?_
    rintro e w6 ⟨rfl,t6⟩
    have T6:=T5.trans t6
    have hb6:=nbld_keep hb5 t6 (by simp)
    clear HX5
    go_wp2_with fail
    refine (bwrite_any w1.heap.size w1.heap.size _ ⟨(ub m).toArray⟩ _ hb6 (by rw [Lib.byteCells_length,List.length_append]; simp [ByteArray.size]; omega) T6.size).mono ?_
    rintro e w7 ⟨rfl,hb7,b7⟩
    rw [ncells_app,HS2.out] at hb7
    have T7:=T6.belowNew b7
    go_wp2_with fail
    go_roundw
    case rel=>exact ⟨k+1,by omega,by go_num,hb7,T7⟩
    case measure=>simp [intOf]; omega
  · obtain rfl:k=kn:=by omega
    rw [HPA.out] at hbk
    clear c0 c1 c2 c3 clt
    go_wp2_with fail
    refine (Tryz.Builder_String_any w1.heap.size w1.heap.size _ wr hbk T.size).mono ?_
    rintro e w4 ⟨rfl,b4⟩
    go_wp2_with fail
    go_ret2
    refine ⟨rfl,T1.trans (T.belowNew b4)⟩
set_option maxRecDepth 100000 in
set_option maxHeartbeats 2000000 in
theorem encode_leaf (v:Nv) (hlf:v.leaf=true) (w:World) (h:IsNv w v) (ho:v.Ok) (hc:v.caps) (hf:v.fits=true):Calls Tryz.prog 104 #[.agg #[.bool v.leaf,.slice v.ka v.kn v.kc,.slice v.va v.vn v.vc,.slice v.ia v.im v.ic]] w fun e w' =>
 e=.returned (.tuple #[.string ⟨(ndb v.leaf v.es).toArray⟩,.int .i64 0])∧Tch [] w w':=by
 have T0:Tch [] w (w.alloc (.cells #[.bool v.leaf,.slice v.ka v.kn v.kc,.slice v.va v.vn v.vc,.slice v.ia v.im v.ic] 138)):=(Tch.refl _ _).alloc _
 have HB:Hid (∀ w',Tch [] (w.alloc (.cells #[.bool v.leaf,.slice v.ka v.kn v.kc,.slice v.va v.vn v.vc,.slice v.ia v.im v.ic] 138)) w'→_):=fun w' t=>nvb_cells w v.leaf v.ka v.va v.ia v.kn v.kc v.vn v.vc v.im v.ic t
 have HFI:=Lib.hid (nisFit_any v _ (h.keep0 T0) ho hc)
 rw [hf] at HFI
 have HBG:Hid (∀ w',Tch [] w w'→Calls Tryz.prog 144 _ w' fun e w2=>e=.returned (.string (hdN v.leaf v.keys.length))∧Tch [] w' w2):=fun w' t=>nbeginning_any v w' (h.keep0 t) ho
 have HIS:Hid (∀ w',Tch [] w w'→IsNv w' v):=fun w' t=>h.keep0 t
 have hlens:v.vn=v.kn:=by
  unfold Nv.fits Nv.lens at hf
  rw [hlf] at hf
  simp at hf
  have h1:=h.rk.hlen
  have h2:=h.rv.hlen
  have:=hf.1.1
  omega
 have HN1:Hid (v.kn=v.keys.length∧v.vn=v.vals.length):=⟨h.rk.hlen,h.rv.hlen⟩
 have HT:Hid (∀ (s:ByteArray) w',s.size≤100000000→Calls Tryz.prog 145 #[.string s] w' fun e w2=>e=.returned (.string ⟨(tx s).toArray⟩)∧Tch [] w' w2):=fun s w' hs=>text_any s w' (by omega)
 have HU:Hid (∀ (u:Nat) w',u < 16384→Calls Tryz.prog 134 #[.int .u64 u] w' fun e w2=>e=.returned (.string ⟨(ub u).toArray⟩)∧Tch [] w' w2):=fun u w' hu=>uint_any u w' (by omega)
 have HNM:=Lib.hid (Nv.norm hf)
 have hk8:=ho.lk
 have hl9:=v.es_len
 have h1024:(ndb v.leaf v.es).length≤1024:=by
  unfold Nv.fits fitN at hf
  simp at hf
  exact hf.2.1.2
 have HSM:Hid (∀ k,(preN v.leaf v.es k).length≤1024):=fun k=>by have:=preN_len v.leaf v.es k; omega
 have HP0:Hid (hdN v.leaf v.keys.length=⟨(preN v.leaf v.es 0).toArray⟩):=by show _=_; rw [preN_zero,hl9]; rfl
 have HPA:Hid (preN v.leaf v.es v.kn=ndb v.leaf v.es):=by show _=_; rw [h.rk.hlen,← hl9,preN_all]
 have HPS:Hid (∀ k key,v.keys[k]?=some key→preN v.leaf v.es (k+1)=preN v.leaf v.es k++enb v.leaf (mkE v.leaf v.keys v.vals v.kids k key)):=fun k key hk=>preN_step _ _ _ _ (es_get v k key hk)
 have HMEM:Hid (∀ k key,v.keys[k]?=some key→mkE v.leaf v.keys v.vals v.kids k key ∈ v.es):=fun k key hk=>List.mem_of_getElem? (es_get v k key hk)
 have HKS:=Lib.hid ho.ks
 have HVS:=Lib.hid ho.vs
 rw [← h.rk.hlen] at hk8
 rw [hlf] at *
 generalize preN true v.es=pre at HP0 HPA HPS HSM
 generalize (ndb true v.es)=bytes at HPA h1024 ⊢
 generalize hdN true v.keys.length=hd at HBG HP0
 generalize hkn:v.kn=kn at *
 generalize hxn:v.vn=xn at *
 generalize hka:v.ka=ka at *
 generalize hxa:v.va=xa at *
 have hlens2:kn=xn:=hlens.symm
 subst hlens2
 clear ho hc hf h hl9 hlf
 obtain ⟨W1,hW1⟩:∃ W1,W1=w.alloc (.cells #[.bool true,.slice ka kn v.kc,.slice xa kn v.vc,.slice v.ia v.im v.ic] 138):=⟨_,rfl⟩
 rw [← hW1] at HB T0 HFI
 go_enter Tryz.func104,Tryz.ntmps104
 go_wp2_with fail
 rw [← hW1]
 clear hW1
 refine HFI.out.mono ?_
 rintro e w1 ⟨rfl,t1⟩
 have T1:=T0.trans t1
 obtain ⟨c0,c1,c2,c3,clt⟩:=HB.out _ (t1.alloc (.cells #[.pointer none,.slice none 0 0] 239))
 have hBl:=Lib.fresh_isBuilder 239 5 w1
 have tA:Tch [] w1 (w1.alloc (.cells #[.pointer none,.slice none 0 0] 239)):=(Tch.refl [] w1).alloc _
 have HBC:=Lib.hid (HBG.out _ (T1.trans tA))
 clear HFI HBG
 go_wp2_with fail
 refine HBC.out.mono ?_
 rintro e w2 ⟨rfl,t2⟩
 have T2:=tA.trans t2
 have hB2:=nbld_keep hBl t2 (by simp)
 rw [HP0.out] at *
 clear hBl tA t2 c0 c1 c2 c3 clt HBC
 go_wp2_with fail
 refine (bwrite_any w1.heap.size w1.heap.size [] ⟨(pre 0).toArray⟩ _ hB2 (by have:=HSM.out 0; simp [ByteArray.size]; omega) T2.size).mono ?_
 rintro e w3 ⟨rfl,hB3,b3⟩
 have T3:=T2.belowNew b3
 rw [show ([]:List Value)=Lib.byteCells [] from rfl,ncells_app,List.nil_append] at hB3
 obtain ⟨c0,c1,c2,c3,clt⟩:=HB.out _ (t1.trans T3)
 clear hB2 T2 b3
 go_wp2_with fail
 go_loopw [16] (fun v16 wr=>∃ k:Nat,k≤kn∧v16=.int .i64 k∧Lib.IsBuilder 239 5 w1.heap.size w1.heap.size (Lib.byteCells (pre k)) wr∧Tch [] w1 wr) (fun v16 _=>kn - (intOf v16).toNat)
 case atStart=>exact ⟨0,by omega,rfl,hB3,T3⟩
 case round =>
  obtain ⟨k,hk,rfl,hbk,T⟩:=hrel
  clear c0 c1 c2 c3 clt hB3 T3
  obtain ⟨c0,c1,c2,c3,clt⟩:=HB.out _ (t1.trans T)
  by_cases hkl:k < kn
  · have hklk:k < v.keys.length:=by have:=HN1.out.1; omega
    have hklx:k < v.vals.length:=by have:=HN1.out.2; omega
    have hget:=List.getElem?_eq_getElem hklk
    have hgx:=List.getElem?_eq_getElem hklx
    have hnv:=HIS.out _ (T1.trans T)
    have ha:=hnv.rk.some_ (by omega)
    have hbl:=hnv.rk.lt (by omega)
    have x0:=hnv.rk.one hget (v:=.string v.keys[k]) rfl
    have hax:=hnv.rv.some_ (by omega)
    have hbx:=hnv.rv.lt (by omega)
    have hbx1:=(HIS.out w1 T1).rv.lt (by omega)
    have y0:=hnv.rv.one hgx (v:=Value.string v.vals[k]) rfl
    have hHS:pre (k+1)=pre k++(tx v.keys[k]++tx v.vals[k]):=by rw [HPS.out k _ hget]; simp [enb,mkE,List.getD_eq_getElem?_getD,hgx]
    have hks:=HKS.out _ (List.getElem_mem hklk)
    have hxs:=HVS.out _ (List.getElem_mem hklx)
    have hpl:=HSM.out (k+1)
    have hpl0:=HSM.out k
    generalize v.keys[k]=key at *
    generalize v.vals[k]=x at *
    skip
    have hlen2:(pre (k+1)).length=(pre k).length+(tx key).length+(tx x).length:=by rw [hHS]; simp; omega
    have HS2:Hid ((pre k++tx key)++(tx x)=pre (k+1)):=by show _=_; rw [hHS,List.append_assoc]
    have HT1:=Lib.hid (HT.out key wr hks)
    have ha:ka=some ⟨v.kb,v.ko,none⟩:=by rw [← hka]; exact ha
    have hax:xa=some ⟨v.vb,v.vo,none⟩:=by rw [← hxa]; exact hax
    subst ha hax
    have hI:(k:Int) < (kn:Int):=by omega
    clear hHS hget hgx hnv hklk hklx
    go_wp2_with fail
    refine HT1.out.mono ?_
    rintro e w4 ⟨rfl,t4⟩
    have T4:=T.trans t4
    have hb4:=nbld_keep hbk t4 (by simp)
    clear HT1
    go_wp2_with fail
    refine (bwrite_any w1.heap.size w1.heap.size _ ⟨(tx key).toArray⟩ _ hb4 (by rw [Lib.byteCells_length]; simp [ByteArray.size]; omega) T4.size).mono ?_
    rintro e w5 ⟨rfl,hb5,b5⟩
    rw [ncells_app] at hb5
    have T5:=T4.belowNew b5
    obtain ⟨d0,d1,d2,d3,dlt⟩:=HB.out _ (t1.trans T5)
    have y5:w5.cell? ⟨v.vb,v.vo+k,none⟩=some (Value.string x):=(T5.cell hbx1 (by simp)).trans ((T.cell hbx1 (by simp)).symm.trans y0)
    have hbx5:v.vb < w5.heap.size:=Nat.lt_of_lt_of_le hbx1 T5.size
    have HX5:=Lib.hid (HT.out x w5 hxs)
    clear hb4 T4 b5 c0 c1 c2 c3 clt x0 y0
    go_wp2_with fail
    refine HX5.out.mono ?_
    rintro e w6 ⟨rfl,t6⟩
    have T6:=T5.trans t6
    have hb6:=nbld_keep hb5 t6 (by simp)
    clear HX5
    go_wp2_with fail
    refine (bwrite_any w1.heap.size w1.heap.size _ ⟨(tx x).toArray⟩ _ hb6 (by rw [Lib.byteCells_length,List.length_append]; simp [ByteArray.size]; omega) T6.size).mono ?_
    rintro e w7 ⟨rfl,hb7,b7⟩
    rw [ncells_app,HS2.out] at hb7
    have T7:=T6.belowNew b7
    go_wp2_with fail
    go_roundw
    case rel=>exact ⟨k+1,by omega,by go_num,hb7,T7⟩
    case measure=>simp [intOf]; omega
  · obtain rfl:k=kn:=by omega
    rw [HPA.out] at hbk
    clear c0 c1 c2 c3 clt
    go_wp2_with fail
    refine (Tryz.Builder_String_any w1.heap.size w1.heap.size _ wr hbk T.size).mono ?_
    rintro e w4 ⟨rfl,b4⟩
    go_wp2_with fail
    go_ret2
    refine ⟨rfl,T1.trans (T.belowNew b4)⟩
theorem encode_any:EncSpec:=by
 intro v w h ho hc
 by_cases hf:v.fits=true
 · rw [if_pos hf,if_pos hf]
   rcases hl:v.leaf with _ | _
   · have:=encode_kids v hl w h ho hc hf
     rw [hl] at this
     exact this
   · have:=encode_leaf v hl w h ho hc hf
     rw [hl] at this
     exact this
 · rw [if_neg hf,if_neg hf]
   exact encode_no v w h ho hc (by simpa using hf)
end Go.Proofs.YtlkgnljdpakkcaaGreatDoor
