/-
  Parts of the proof: Rnm, Fnd.
-/
import Derived.Test.YtlkgnljdpakkcaaGreatDoorM24
import Derived.Test.YtlkgnljdpakkcaaGreatDoorM12
import Derived.Test.YtlkgnljdpakkcaaGreatDoorM21
import Derived.Test.YtlkgnljdpakkcaaGreatDoorM20
set_option linter.unusedVariables false
set_option linter.unusedSimpArgs false
/-
 'renumber' of a draft: kids are named by the sectors that they were given.
-/
namespace Go.Proofs.YtlkgnljdpakkcaaGreatDoor
open Go.RowKit
theorem own_set1 {w:World} {B n c g i:Nat} {e:TypeId} {xs:List Value} (h:w.ownsRow B e 1 (.slice (some ⟨g,0,none⟩) n c) n xs) (hi:i < n) (u:Value):(w.setCell ⟨g,i,none⟩ u).ownsRow B e 1 (.slice (some ⟨g,0,none⟩) n c) n (xs.set i u):=by
 obtain ⟨h1,h2⟩:=h
 refine ⟨by rw [List.length_set]; exact h1,?_⟩
 rcases h2 with ⟨h2,_⟩ | ⟨g',cap,cur,h2,h3,h4,h5,h6,h7,h8⟩
 · cases h2
 · simp only [Value.slice.injEq,Option.some.injEq,Addr.mk.injEq] at h2
   obtain ⟨⟨rfl,_⟩,_,rfl⟩:=h2
   refine Or.inr ⟨g,c,cur.setIfInBounds i u,rfl,h3,blk_set h4 i u,h5,h6,by rw [Array.size_setIfInBounds]; exact h7,?_⟩
   rw [Array.toList_setIfInBounds,List.take_set,h8]
def trn (g:Int→Option Int) (v:Nv):Nv:={ v with kids:=v.kids.map (tn g) }
theorem trn_nod {g:Int→Option Int} (h0:g 0=none) {v:Nv} (hl:v.lens=true):(trn g v).nod=mapK g v.nod:=by
 unfold Nv.nod mapK
 congr 1
 apply List.ext_getElem?
 intro k
 rw [List.getElem?_map]
 have e1:(trn g v).keys=v.keys:=rfl
 rcases hk:v.keys[k]? with _ | x
 · have hkl:=List.getElem?_eq_none_iff.1 hk
   rw [List.getElem?_eq_none (by rw [Nv.es_len,e1]; exact hkl),List.getElem?_eq_none (by rw [Nv.es_len]; exact hkl)]; rfl
 · rw [show (trn g v).es[k]?=some (mkE v.leaf v.keys v.vals (v.kids.map (tn g)) k x) from mkN_get _ _ _ _ k x hk,show v.es[k]?=some (mkE v.leaf v.keys v.vals v.kids k x) from mkN_get _ _ _ _ k x hk]
   unfold mkE mapE
   cases hlf:v.leaf
   · have hlt:=(List.getElem?_eq_some_iff.1 hk).1
     unfold Nv.lens at hl
     rw [hlf] at hl
     simp only [Bool.false_eq_true,if_false,Bool.and_eq_true,beq_iff_eq] at hl
     simp [List.getD_eq_getElem?_getD,List.getElem?_eq_getElem (show k < v.kids.length by rw [hl.1]; exact hlt)]
   · simp [tn,h0]
def mixK (g:Int→Option Int) (l:List Int) (i:Nat):List Int:=(l.take i).map (tn g)++l.drop i
theorem mixK_len (g:Int→Option Int) (l:List Int) (i:Nat) (h:i≤l.length):(mixK g l i).length=l.length:=by unfold mixK; simp; omega
theorem mixK_at (g:Int→Option Int) (l:List Int) (i:Nat) (h:i < l.length):(mixK g l i)[i]?=some l[i]:=by
 unfold mixK
 rw [List.getElem?_append_right (by simp only [List.length_map,List.length_take]; omega),List.length_map,List.length_take,Nat.min_eq_left (by omega),Nat.sub_self,List.getElem?_drop,Nat.add_zero,List.getElem?_eq_getElem h]
theorem mixK_succ (g:Int→Option Int) (l:List Int) (i:Nat) (h:i < l.length):mixK g l (i+1)=(mixK g l i).set i (tn g l[i]):=by
 unfold mixK
 rw [List.take_add_one,List.getElem?_eq_getElem h,List.drop_eq_getElem_cons h]
 simp only [Option.toList_some,List.map_append,List.map_cons,List.map_nil]
 have e:(List.map (tn g) (List.take i l)).length=i:=by rw [List.length_map,List.length_take]; omega
 rw [List.set_append_right (h:=by rw [e]; exact Nat.le_refl i),e,Nat.sub_self,List.set_cons_zero,List.append_assoc]
 rfl
theorem mixK_same (g:Int→Option Int) (l:List Int) (i:Nat) (h:i < l.length) (hg:g l[i]=none):mixK g l (i+1)=mixK g l i:=by
 rw [mixK_succ g l i h]
 have e:tn g l[i]=l[i]:=by unfold tn; rw [hg]; rfl
 rw [e]
 apply List.ext_getElem?
 intro j
 rw [List.getElem?_set]
 by_cases hj:i=j
 · subst hj
   rw [if_pos rfl,if_pos (by rw [mixK_len g l i (by omega)]; exact h),mixK_at g l i h]
 · rw [if_neg hj]
theorem mixK_full (g:Int→Option Int) (l:List Int):mixK g l l.length=l.map (tn g):=by unfold mixK; simp
theorem mixK_zero (g:Int→Option Int) (l:List Int):mixK g l 0=l:=by unfold mixK; simp
theorem IsDr.turn {W W':World} {db H0:Nat} {d:Dv} {x:Int} {v:Nv} {kids':List Int} {L:List Nat} (h:IsDr W db d H0) (hx:d.f x=some v) (hl:kids'.length=v.kids.length) (hr:∀ k ∈ kids',-9223372036854775808≤k∧k≤9223372036854775807) (t:Tch L W W') (hL:∀ b ∈ L,(Value.slice v.ia v.im v.ic).ownBlock=some b)
 (ho:W'.ownsRow H0 3 1 (.slice v.ia v.im v.ic) kids'.length (kids'.map (Value.int .i64))):IsDr W' db { d with f:=updN d.f x (some { v with kids:=kids' }) } H0:=by
 have hov:=h.own x v hx
 have hg:=h.ns.gd x v hx
 have hint:∀ b ∈ L,∃ cs,W.heap[b]?=some (.cells cs 3 (0,0)):=fun b hb=>own_kind hov (hL b hb)
 have hdb:db ∉ L:=fun hm=>by obtain ⟨cs,hc⟩:=hint db hm; rw [h.blk] at hc; simp at hc
 have hmb:d.mb ∉ L:=fun hm=>by obtain ⟨cs,hc⟩:=hint _ hm; exact h.ns.mp.ne hc rfl
 have hmap:(fun y=>(updN d.f x (some { v with kids:=kids' }) y).map vNv)=fun y=>(d.f y).map vNv:=by
  funext y; unfold updN
  by_cases hy:y=x
  · subst hy; rw [if_pos rfl,hx]; rfl
  · rw [if_neg hy]
 have hkk:∀ (u:Nv),Gd W u→∀ b,(Value.slice u.ka u.kn u.kc).ownBlock=some b→b ∉ L:=fun u hu b hb hm=>by
  obtain ⟨cs,hc⟩:=hint b hm
  obtain ⟨cs',hc'⟩:=own_kind hu.row.hk hb
  rw [hc] at hc'; simp at hc'
 have hvv:∀ (u:Nv),Gd W u→∀ b,(Value.slice u.va u.vn u.vc).ownBlock=some b→b ∉ L:=fun u hu b hb hm=>by
  obtain ⟨cs,hc⟩:=hint b hm
  obtain ⟨cs',hc'⟩:=own_kind hu.row.hv hb
  rw [hc] at hc'; simp at hc'
 have hii:∀ y u,y≠x→d.f y=some u→∀ b,(Value.slice u.ia u.im u.ic).ownBlock=some b→b ∉ L:=fun y u hyx hu b hb hm=>h.apart y x u v hyx hu hx b hb (hL b hm)
 refine ⟨t.keep h.blk hdb,⟨by rw [hmap]; exact h.ns.mp.keep t hmb,fun y u hy=>?_,fun y u hy=>?_⟩,fun y u hy=>?_,fun y z u u2 hyz hy hz=>?_,h.fr,fun y u hy=>?_⟩
 · unfold updN at hy
   simp only at hy
   split at hy
   · cases hy
     have hih:=hg.nv.ri.hlen
     refine ⟨⟨?_,?_,?_⟩,?_,⟨hg.ok.lk,hg.ok.lv,by show kids'.length≤_; rw [hl]; exact hg.ok.li,hg.ok.ks,hg.ok.vs,hr,hg.ok.tot⟩,hg.caps,⟨own_keep hg.row.hk t (hkk v hg),own_keep hg.row.hv t (hvv v hg),own_base ho (Nat.zero_le _),hg.row.akv,hg.row.aki,hg.row.avi⟩⟩
     · exact hg.nv.rk.keep t (fun hp hm=>by have:=hg.nv.rk.some_ hp; exact hkk v hg _ (by rw [this]; rfl) hm)
     · exact hg.nv.rv.keep t (fun hp hm=>by have:=hg.nv.rv.some_ hp; exact hvv v hg _ (by rw [this]; rfl) hm)
     · refine ⟨by show v.im=kids'.length; rw [hl]; exact hih,?_,fun k y hk j u hu=>?_⟩
       · rcases hg.nv.ri.at_ with h1 | ⟨h1,h2⟩
         · exact Or.inl h1
         · exact Or.inr ⟨h1,Nat.lt_of_lt_of_le h2 t.size⟩
       · have hkl:k < kids'.length:=(List.getElem?_eq_some_iff.1 hk).1
         have hsm:=hg.nv.ri.some_ (by rw [hih,← hl]; omega)
         rcases ho.2 with ⟨e1,_⟩ | ⟨g,cap,cur,e1,e2,e3,e4,e5,e6,e7⟩
         · rw [hsm] at e1; cases e1
         · rw [hsm] at e1
           simp only [Value.slice.injEq,Option.some.injEq,Addr.mk.injEq] at e1
           obtain ⟨⟨eg,eo,_⟩,_,_⟩:=e1
           show W'.cell? ⟨v.ib,v.io+k * 1+j,none⟩=some u
           have hj:j=0∧u=.int .i64 y:=by
            match j,hu with
            | 0,hu=>cases hu; exact ⟨rfl,rfl⟩
            | j+1,hu=>cases hu
           obtain ⟨rfl,rfl⟩:=hj
           rw [eg,eo,Nat.zero_add,Nat.mul_one,Nat.add_zero,blk_cell e3,← Array.getElem?_toList]
           have e8:(cur.toList.take (kids'.length * 1))[k]?=some (.int .i64 y):=by rw [e7,List.getElem?_map,hk]; rfl
           rw [List.getElem?_take_of_lt (by omega)] at e8
           exact e8
     · have:=hg.lens
       unfold Nv.lens at this ⊢
       simp only at this ⊢
       rw [hl]; exact this
   · rename_i hyx
     exact (h.ns.gd y u hy).keep t (hkk u (h.ns.gd y u hy)) (hvv u (h.ns.gd y u hy)) (hii y u hyx hy)
 · unfold updN at hy
   simp only at hy
   split at hy
   · rename_i e; cases hy; rw [e]; exact h.ns.sup x v hx
   · exact h.ns.sup y u hy
 · unfold updN at hy
   simp only at hy
   split at hy
   · cases hy; exact ho
   · rename_i hyx; exact own_keep (h.own y u hy) t (hii y u hyx hy)
 · unfold updN at hy hz
   simp only at hy hz
   split at hy
   · cases hy
     split at hz
     · rename_i e1 e2; exact absurd (e1.trans e2.symm) hyz
     · rename_i e1 e2; exact h.apart x z v u2 (fun e=>e2 e.symm) hx hz
   · split at hz
     · cases hz; rename_i e1 e2; exact h.apart y x u v e1 hy hx
     · exact h.apart y z u u2 hyz hy hz
 · unfold updN at hy
   simp only at hy
   split at hy
   · cases hy; exact h.hig x v hx
   · exact h.hig y u hy
def trS (g:Int→Option Int) (seen:List Int) (f:Int→Option Nv) (x:Int):Option Nv:=if x ∈ seen then (f x).map (trn g) else f x
theorem trS_snoc {g:Int→Option Int} {seen:List Int} {f:Int→Option Nv} {x:Int} {v:Nv} (hx:x ∉ seen) (hf:f x=some v):trS g (seen++[x]) f=updN (trS g seen f) x (some (trn g v)):=by
 funext y
 unfold trS updN
 by_cases hy:y=x
 · subst hy; rw [if_pos (by simp),if_pos rfl,hf]; rfl
 · rw [if_neg hy]
   show _=(if y ∈ seen then (f y).map (trn g) else f y)
   by_cases hs:y ∈ seen
   · rw [if_pos (by simp [hs]),if_pos hs]
   · rw [if_neg (by simp [hs,hy]),if_neg hs]
def RnRel (w:World) (db:Nat) (d:Dv) (g:Int→Option Int) (root:Int) (H0 gb r n:Nat) (wr:World):Prop :=
 ∃ (seen:List Int),RgAt wr d.mb r (fun x=>(d.f x).map vNv) n seen∧IsDr wr db { d with root:=root,f:=trS g seen d.f } H0∧IsMp wr gb (fun x=>(g x).map (Value.int .i64)) mbnd∧Below H0 w wr∧w.heap.size≤r
def InRel (W:World) (H0:Nat) (u:Nv) (g:Int→Option Int) (L:List Nat) (n:Nat) (v40:Value) (wr:World):Prop :=
 ∃ i:Nat,n+i=u.kids.length∧v40=.int .i64 (i:Nat)∧Tch L W wr∧wr.ownsRow H0 3 1 (.slice u.ia u.im u.ic) u.kids.length ((mixK g u.kids i).map (Value.int .i64))
def RnPost (w:World) (db:Nat) (d:Dv) (g:Int→Option Int) (H0:Nat) (e:Ending) (w':World):Prop :=
 e=.returned (.tuple #[])∧IsDr w' db { d with root:=tn g d.root,f:=fun x=>(d.f x).map (trn g) } H0∧Below H0 w w'
theorem zeroI (w:World):(zeroValue 3).run Tryz.prog w=.ok (.int .i64 0) w:=by kernel_rfl
set_option maxRecDepth 100000 in
set_option maxHeartbeats 4000000 in
theorem renumber_no (db H0 gb:Nat) (d:Dv) (g:Int→Option Int) (w:World) (hd:IsDr w db d H0) (h0:H0≤w.heap.size) (hdb:H0≤db) (hm:IsMp w gb (fun x=>(g x).map (Value.int .i64)) mbnd) (hgb:∀ x y,g x=some y→0≤y∧y < (topN:Int)) (hrt:0≤d.root∧d.root < (topN:Int)) (hg:g d.root=none) :
 Calls Tryz.prog 101 #[.pointer (some ⟨db,0,none⟩),.map (some gb)] w (RnPost w db d g H0):=by
 have hwr:(Lit.int .i64 d.root).wf=true:=wfI (by omega) (by unfold topN at hrt; omega)
 have hdl:=lt_of_block hd.blk
 have hml:=hd.ns.mp.lt
 have c0:=blk_cell hd.blk 0
 have f0:=blk_free hd.blk 0
 simp only [List.getElem?_toArray,List.getElem?_cons_zero] at c0
 have hv1:((fun x=>(g x).map (Value.int .i64)) d.root).getD (.int .i64 0)=.int .i64 0:=by simp [hg]
 have hs1:((fun x=>(g x).map (Value.int .i64)) d.root).isSome=false:=by simp [hg]
 have htn:tn g d.root=d.root:=by unfold tn; rw [hg]; rfl
 have HGV:Hid (∀ x y,g x=some y→0≤y∧y < (topN:Int)):=hgb
 have HF:Hid (∀ W seen,(∀ x,(Lit.int .i64 x).wf=true→(d.f x).map vNv≠none→x ∈ seen)→IsDr W db { d with root:=tn g d.root,f:=trS g seen d.f } H0→Below H0 w W→RnPost w db d g H0 (.returned (.tuple #[])) W):=fun W seen h2 h3 t=>by
  have e:trS g seen d.f=fun x=>(d.f x).map (trn g):=by
   funext x
   unfold trS
   by_cases hs:x ∈ seen
   · rw [if_pos hs]
   · rw [if_neg hs]
     cases hf:d.f x with
     | none=>rfl
     | some v =>
      have:=hd.ns.sup x v hf
      exact absurd (h2 x (wfI (by omega) (by unfold topN at this; omega)) (by rw [hf]; simp)) hs
  rw [e] at h3
  exact ⟨rfl,h3,t⟩
 have hmp0:=hd.ns.mp
 have c2:=blk_cell hd.blk 2
 simp only [gA,gZ,gS] at c2
 have HD0:=Lib.hid hd
 have HTN:=Lib.hid htn
 clear hg htn
 clear hd hgb hrt
 generalize RnPost w db d g H0=Q at *
 go_enter Tryz.func101,Tryz.ntmps101
 go_wp2_with (first | (at_lookup; refine wpList_lookup_mp_ok _ rfl _ _ 188 rfl 3 Tryz.underlying188 (zeroI _) gb mbnd _ rfl hm d.root rfl hwr _ hv1 _ hs1 ?_) | (at_range; refine wpList_range_mp _ rfl _ 124 rfl 138 Tryz.underlying124 d.mb mbnd _ rfl hmp0 ?_; intro w1 cnt hrg t1 hs1'))
 try go_frame
 have hD1:=HD0.out.keep0 t1
 have hm1:=hm.keep t1 (by simp)
 have hB1:Below H0 w w1:=t1.below h0 (by simp)
 clear hmp0 hm t1 hs1' c0 f0 c2 hv1 hs1
 go_loopg [] cnt (fun n wr=>RnRel w db d g d.root H0 gb w.heap.size n wr)
 case atStart=>exact ⟨[],hrg,by rw [show trS g [] d.f=d.f from by funext x; unfold trS; simp]; exact hD1,hm1,hB1,Nat.le_refl _⟩
 case round =>
  obtain ⟨seen,hR,hD,hmp,hB,hr⟩:=hrel
  clear hrg hD1 hm1 hB1
  go_upto_region 5 with (at_next; refine wpList_next_mp _ rfl _ rfl d.mb w.heap.size _ gk seen rfl hR (fun hall=>?_) (fun x v w2 cnt2 hwx hfx hns hR2 hlt2 t2 hs2 hen=>?_))
  · have HE:=Lib.hid (HF.out wr seen hall (by rw [HTN.out]; exact hD) hB)
    clear hall hR hD hmp
    go_wp2_with fail
    first | exact HE.out | (go_end0; exact HE.out)
  · obtain ⟨u,hu,rfl⟩:∃ u,d.f x=some u∧v=vNv u:=by
     cases hf:d.f x with
     | none=>rw [hf] at hfx; cases hfx
     | some u=>rw [hf] at hfx; exact ⟨u,rfl,(Option.some.inj hfx).symm⟩
    have hsz:=hB.size
    have hD2:=hD.walk hR t2
    have hm2:=hmp.keep t2 (by simp only [List.mem_singleton]; exact fun e=>hR.neM hmp e)
    have B2:Below H0 w w2:=hB.trans (t2.below (Nat.le_trans h0 hsz |> fun h=>by have:=hD.blk; have:=hB.size; omega) (by simp; omega))
    have hfu:trS g seen d.f x=some u:=by unfold trS; rw [if_neg hns]; exact hu
    have hg2:=hD2.ns.gd x u hfu
    obtain ⟨W3,hW3⟩:∃ W3,W3=w2.alloc (.cells #[.bool u.leaf,.slice u.ka u.kn u.kc,.slice u.va u.vn u.vc,.slice u.ia u.im u.ic] 138):=⟨_,rfl⟩
    have t3:Tch [] w2 W3:=by rw [hW3]; exact (Tch.refl _ _).alloc _
    have hb3:W3.heap[wr.heap.size]?=some (.cells #[.bool u.leaf,.slice u.ka u.kn u.kc,.slice u.va u.vn u.vc,.slice u.ia u.im u.ic] 138 (0,0)):=by rw [← hs2,hW3]; exact blk_new _ _
    have hD3:=hD2.keep0 t3
    have hm3:=hm2.keep t3 (by simp)
    have hR3:=hR2.keep t3 (by simp) (by simp)
    have B3:=B2.trans (t3.below (by have:=B2.size; omega) (by simp):Below H0 w2 W3)
    have hown3:=hD3.own x u hfu
    have k3:=blk_cell hb3 3
    simp only [gA,gZ,gS] at k3
    unfold vNv at hen
    have hih:u.im=u.kids.length:=(hg2.nv.ri.hlen)
    rw [hih] at k3
    have hkr:=hg2.ok.is
    obtain ⟨L,hL⟩:∃ L:List Nat,L=((Value.slice u.ia u.im u.ic).ownBlock).toList:=⟨_,rfl⟩
    have HLB:Hid (∀ b ∈ L,(Value.slice u.ia u.im u.ic).ownBlock=some b):=fun b hb=>by rw [hL] at hb; simpa using hb
    have HLL:Hid (∀ a:Addr,u.ia=some a→a.block ∈ L):=fun a h=>by rw [hL,h]; simp [Value.ownBlock]
    have hLX:wr.heap.size ∉ L:=fun hm=>by
     obtain ⟨cs,hc⟩:=own_kind hown3 (HLB.out _ hm)
     rw [hb3] at hc; simp at hc
    have hLm:gb ∉ L∧d.mb ∉ L∧w.heap.size ∉ L:=by
     refine ⟨fun hm=>?_,fun hm=>?_,fun hm=>?_⟩
     · obtain ⟨cs,hc⟩:=own_kind hown3 (HLB.out _ hm); exact hm3.ne hc rfl
     · obtain ⟨cs,hc⟩:=own_kind hown3 (HLB.out _ hm); exact (hR3.neC hc).1 rfl
     · obtain ⟨cs,hc⟩:=own_kind hown3 (HLB.out _ hm); exact (hR3.neC hc).2 rfl
    have HLH:Hid (∀ b ∈ L,H0≤b):=fun b hb=>(hown3.lt b (HLB.out b hb)).1
    have HFU:=Lib.hid hfu
    have HHU:=Lib.hid hu
    have HHN:=Lib.hid hns
    have HBX:Hid (∀ W,Tch L W3 W→W.heap[wr.heap.size]?=some (.cells #[.bool u.leaf,.slice u.ka u.kn u.kc,.slice u.va u.vn u.vc,.slice u.ia u.im u.ic] 138 (0,0))):=fun W t=>t.keep hb3 hLX
    have HMX:Hid (∀ W,Tch L W3 W→IsMp W gb (fun x=>(g x).map (Value.int .i64)) mbnd):=fun W t=>hm3.keep t hLm.1
    have HRX:Hid (∀ W,Tch L W3 W→RgAt W d.mb w.heap.size (fun x=>(d.f x).map vNv) cnt2 (seen++[x])):=fun W t=>hR3.keep t hLm.2.1 hLm.2.2
    have HD3:=Lib.hid hD3
    have HB3:=Lib.hid B3
    have HIH:=Lib.hid hih
    have hkl:u.kids.length≤100000000:=hg2.ok.li
    have hW3s:H0≤W3.heap.size:=Nat.le_trans h0 (Nat.le_trans hsz (by have:=t2.size; have:=t3.size; omega))
    rw [hih] at hown3
    have HST:Hid (InRel W3 H0 u g L u.kids.length (.int .i64 0) W3):=⟨0,rfl,rfl,Tch.refl _ _,by rw [mixK_zero,hih]; exact hown3⟩
    clear hR hR2 hD hD2 hD3 hmp hm2 hm3 hR3 hB B2 B3 t2 t3 hfx hfu hu hns hb3 hg2 hL hLX hLm hown3 hih
    go_upto_region 6 with fail
    rw [← hW3]
    clear hW3
    generalize wr.heap.size=X at *
    go_wp2_with fail
    go_loopg [40] u.kids.length (fun n v40 wq=>InRel W3 H0 u g L n v40 wq)
    case atStart=>exact HST.out
    case round =>
     obtain ⟨i,hni,rfl,tq,hoq⟩:=hrel
     clear k3
     match gk,hni with
     | 0,hni =>
      have hi:i=u.kids.length:=by omega
      rw [hi,mixK_full] at hoq
      have hlt:decide (i < u.kids.length)=false:=decide_eq_false (by omega)
      have HO:=Lib.hid hoq
      clear hi hoq
      go_wp2_with fail
      go_roundg cnt2
      case measure=>omega
      case rel =>
       refine ⟨seen++[x],HRX.out _ tq,?_,HMX.out _ tq,HB3.out.trans (tq.below hW3s HLH.out),hr⟩
       rw [trS_snoc HHN.out HHU.out]
       refine HD3.out.turn HFU.out (kids':=u.kids.map (tn g)) (by simp) (fun k hk=>?_) tq HLB.out (by rw [List.length_map]; exact HO.out)
       obtain ⟨k0,hk0,rfl⟩:=List.mem_map.1 hk
       unfold tn
       cases hgk:g k0 with
       | none=>exact hkr k0 hk0
       | some y=>have:=HGV.out k0 y hgk; unfold topN at this; simp only [Option.getD_some]; omega
     | m+1,hni =>
      have hi:i < u.kids.length:=by omega
      have hlt:decide (i < u.kids.length)=true:=decide_eq_true hi
      have hi0:(0:Int)≤(i:Int):=by omega
      have hi1:(i:Int) < (u.kids.length:Int):=by omega
      obtain ⟨gk2,hia⟩:∃ gk2,u.ia=some ⟨gk2,0,none⟩:=by
       rcases hoq.2 with ⟨e,e2⟩ | ⟨g',cap,cur,e,_⟩
       · omega
       · simp only [Value.slice.injEq] at e; exact ⟨g',e.1⟩
      have hih:=HIH.out
      rw [hia,hih] at hoq
      obtain ⟨kid,hkid⟩:∃ kid,kid=u.kids[i]:=⟨_,rfl⟩
      have hkw:=hkr kid (by rw [hkid]; exact List.getElem_mem hi)
      have hwk:(Lit.int .i64 kid).wf=true:=wfI hkw.1 hkw.2
      have hmq:=HMX.out _ tq
      have hbq:=HBX.out _ tq
      have m3:=blk_cell hbq 3
      simp only [gA,gZ,gS] at m3
      rw [hia,hih] at m3
      have hcur:∃ cur,wr.heap[gk2]?=some (.cells cur 3 (0,0))∧cur[i]?=some (.int .i64 kid):=by
       rcases hoq.2 with ⟨e,_⟩ | ⟨g',cap,cur,e,e2,e3,e4,e5,e6,e7⟩
       · cases e
       · simp only [Value.slice.injEq,Option.some.injEq,Addr.mk.injEq] at e
         obtain ⟨⟨rfl,_⟩,_⟩:=e
         refine ⟨cur,e3,?_⟩
         rw [← Array.getElem?_toList]
         have e8:(cur.toList.take (u.kids.length * 1))[i]?=some (.int .i64 kid):=by rw [e7,List.getElem?_map,mixK_at g u.kids i hi,hkid]; rfl
         rw [List.getElem?_take_of_lt (by omega)] at e8
         exact e8
      obtain ⟨cur,hbc,hci⟩:=hcur
      have r0:wr.cell? ⟨gk2,i,none⟩=some (.int .i64 kid):=by rw [blk_cell hbc]; exact hci
      have r1:=blk_free hbc i
      have hgL:gk2 ∈ L:=HLL.out _ hia
      have HIA:=Lib.hid hia
      have HOQ:=Lib.hid hoq
      have HKD:=Lib.hid hkid
      have HTQ:=Lib.hid tq
      rw [hia]
      clear hia hoq hkid tq hbc hci hbq hih
      cases hgk:g kid with
      | none =>
       have hv2:((fun x=>(g x).map (Value.int .i64)) kid).getD (.int .i64 0)=.int .i64 0:=by simp [hgk]
       have hs2:((fun x=>(g x).map (Value.int .i64)) kid).isSome=false:=by simp [hgk]
       have HGK:=Lib.hid hgk
       clear hgk
       go_wp2_with (at_lookup; refine wpList_lookup_mp_ok _ rfl _ _ 188 rfl 3 Tryz.underlying188 (zeroI _) gb mbnd _ rfl hmq kid rfl hwk _ hv2 _ hs2 ?_)
       rw [← HIA.out]
       go_roundg m
       case measure=>omega
       case rel=>exact ⟨i+1,by omega,by go_num,HTQ.out,by rw [mixK_same g u.kids i hi (by rw [← HKD.out]; exact HGK.out),HIA.out,HIH.out]; exact HOQ.out⟩
      | some y =>
       have hv2:((fun x=>(g x).map (Value.int .i64)) kid).getD (.int .i64 0)=.int .i64 y:=by simp [hgk]
       have hs2:((fun x=>(g x).map (Value.int .i64)) kid).isSome=true:=by simp [hgk]
       have HGK:=Lib.hid hgk
       clear hgk
       go_wp2_with (at_lookup; refine wpList_lookup_mp_ok _ rfl _ _ 188 rfl 3 Tryz.underlying188 (zeroI _) gb mbnd _ rfl hmq kid rfl hwk _ hv2 _ hs2 ?_)
       rw [← HIA.out]
       go_roundg m
       case measure=>omega
       case rel =>
        refine ⟨i+1,by omega,by go_num,HTQ.out.setCell hgL _,?_⟩
        rw [mixK_succ g u.kids i hi,HIA.out,HIH.out,List.map_set,show tn g u.kids[i]=y from by unfold tn; rw [← HKD.out,HGK.out]; rfl]
        exact own_set1 HOQ.out hi _
set_option maxRecDepth 100000 in
set_option maxHeartbeats 4000000 in
theorem renumber_yes (db H0 gb:Nat) (d:Dv) (g:Int→Option Int) (w:World) (hd:IsDr w db d H0) (h0:H0≤w.heap.size) (hdb:H0≤db) (hm:IsMp w gb (fun x=>(g x).map (Value.int .i64)) mbnd) (hgb:∀ x y,g x=some y→0≤y∧y < (topN:Int)) (hrt:0≤d.root∧d.root < (topN:Int)) (y:Int) (hg:g d.root=some y) :
 Calls Tryz.prog 101 #[.pointer (some ⟨db,0,none⟩),.map (some gb)] w (RnPost w db d g H0):=by
 have hwr:(Lit.int .i64 d.root).wf=true:=wfI (by omega) (by unfold topN at hrt; omega)
 have hdl:=lt_of_block hd.blk
 have hml:=hd.ns.mp.lt
 have c0:=blk_cell hd.blk 0
 have f0:=blk_free hd.blk 0
 simp only [List.getElem?_toArray,List.getElem?_cons_zero] at c0
 have hv1:((fun x=>(g x).map (Value.int .i64)) d.root).getD (.int .i64 0)=.int .i64 y:=by simp [hg]
 have hs1:((fun x=>(g x).map (Value.int .i64)) d.root).isSome=true:=by simp [hg]
 have htn:tn g d.root=y:=by unfold tn; rw [hg]; rfl
 have HGV:Hid (∀ x y,g x=some y→0≤y∧y < (topN:Int)):=hgb
 have HF:Hid (∀ W seen,(∀ x,(Lit.int .i64 x).wf=true→(d.f x).map vNv≠none→x ∈ seen)→IsDr W db { d with root:=tn g d.root,f:=trS g seen d.f } H0→Below H0 w W→RnPost w db d g H0 (.returned (.tuple #[])) W):=fun W seen h2 h3 t=>by
  have e:trS g seen d.f=fun x=>(d.f x).map (trn g):=by
   funext x
   unfold trS
   by_cases hs:x ∈ seen
   · rw [if_pos hs]
   · rw [if_neg hs]
     cases hf:d.f x with
     | none=>rfl
     | some v =>
      have:=hd.ns.sup x v hf
      exact absurd (h2 x (wfI (by omega) (by unfold topN at this; omega)) (by rw [hf]; simp)) hs
  rw [e] at h3
  exact ⟨rfl,h3,t⟩
 have hD0:=hd.root y
 have TS:Tch [db] w (w.setCell ⟨db,0,none⟩ (.int .i64 y)):=(Tch.refl _ _).setCell (by simp) _
 have hmp0:=hD0.ns.mp
 have c2:=blk_cell hD0.blk 2
 simp only [gA,gZ,gS] at c2
 have hms:=hm.keep TS (by simp only [List.mem_singleton]; exact hm.ne hd.blk)
 have HD0:=Lib.hid hD0
 have HTN:=Lib.hid htn
 have hrz:(w.setCell ⟨db,0,none⟩ (.int .i64 y)).heap.size=w.heap.size:=by simp [World.setCell]
 have HRZ:=Lib.hid hrz
 clear hg htn hD0 hrz
 clear hd hgb hrt
 generalize RnPost w db d g H0=Q at *
 go_enter Tryz.func101,Tryz.ntmps101
 go_wp2_with (first | (at_lookup; refine wpList_lookup_mp_ok _ rfl _ _ 188 rfl 3 Tryz.underlying188 (zeroI _) gb mbnd _ rfl hm d.root rfl hwr _ hv1 _ hs1 ?_) | (at_range; refine wpList_range_mp _ rfl _ 124 rfl 138 Tryz.underlying124 d.mb mbnd _ rfl hmp0 ?_; intro w1 cnt hrg t1 hs1'))
 try go_frame
 have hD1:=HD0.out.keep0 t1
 have hm1:=hms.keep t1 (by simp)
 have hB1:Below H0 w w1:=(TS.below h0 (by simpa using hdb)).trans (t1.below (by rw [HRZ.out]; exact h0) (by simp))
 rw [HRZ.out] at hrg
 clear hmp0 hm hms TS t1 hs1' c0 f0 c2 hv1 hs1
 try rw [HRZ.out]
 go_loopg [] cnt (fun n wr=>RnRel w db d g y H0 gb w.heap.size n wr)
 case atStart=>exact ⟨[],hrg,by rw [show trS g [] d.f=d.f from by funext x; unfold trS; simp]; exact hD1,hm1,hB1,Nat.le_refl _⟩
 case round =>
  obtain ⟨seen,hR,hD,hmp,hB,hr⟩:=hrel
  clear hrg hD1 hm1 hB1
  go_upto_region 5 with (at_next; refine wpList_next_mp _ rfl _ rfl d.mb w.heap.size _ gk seen rfl hR (fun hall=>?_) (fun x v w2 cnt2 hwx hfx hns hR2 hlt2 t2 hs2 hen=>?_))
  · have HE:=Lib.hid (HF.out wr seen hall (by rw [HTN.out]; exact hD) hB)
    clear hall hR hD hmp
    go_wp2_with fail
    first | exact HE.out | (go_end0; exact HE.out)
  · obtain ⟨u,hu,rfl⟩:∃ u,d.f x=some u∧v=vNv u:=by
     cases hf:d.f x with
     | none=>rw [hf] at hfx; cases hfx
     | some u=>rw [hf] at hfx; exact ⟨u,rfl,(Option.some.inj hfx).symm⟩
    have hsz:=hB.size
    have hD2:=hD.walk hR t2
    have hm2:=hmp.keep t2 (by simp only [List.mem_singleton]; exact fun e=>hR.neM hmp e)
    have B2:Below H0 w w2:=hB.trans (t2.below (Nat.le_trans h0 hsz |> fun h=>by have:=hD.blk; have:=hB.size; omega) (by simp; omega))
    have hfu:trS g seen d.f x=some u:=by unfold trS; rw [if_neg hns]; exact hu
    have hg2:=hD2.ns.gd x u hfu
    obtain ⟨W3,hW3⟩:∃ W3,W3=w2.alloc (.cells #[.bool u.leaf,.slice u.ka u.kn u.kc,.slice u.va u.vn u.vc,.slice u.ia u.im u.ic] 138):=⟨_,rfl⟩
    have t3:Tch [] w2 W3:=by rw [hW3]; exact (Tch.refl _ _).alloc _
    have hb3:W3.heap[wr.heap.size]?=some (.cells #[.bool u.leaf,.slice u.ka u.kn u.kc,.slice u.va u.vn u.vc,.slice u.ia u.im u.ic] 138 (0,0)):=by rw [← hs2,hW3]; exact blk_new _ _
    have hD3:=hD2.keep0 t3
    have hm3:=hm2.keep t3 (by simp)
    have hR3:=hR2.keep t3 (by simp) (by simp)
    have B3:=B2.trans (t3.below (by have:=B2.size; omega) (by simp):Below H0 w2 W3)
    have hown3:=hD3.own x u hfu
    have k3:=blk_cell hb3 3
    simp only [gA,gZ,gS] at k3
    unfold vNv at hen
    have hih:u.im=u.kids.length:=(hg2.nv.ri.hlen)
    rw [hih] at k3
    have hkr:=hg2.ok.is
    obtain ⟨L,hL⟩:∃ L:List Nat,L=((Value.slice u.ia u.im u.ic).ownBlock).toList:=⟨_,rfl⟩
    have HLB:Hid (∀ b ∈ L,(Value.slice u.ia u.im u.ic).ownBlock=some b):=fun b hb=>by rw [hL] at hb; simpa using hb
    have HLL:Hid (∀ a:Addr,u.ia=some a→a.block ∈ L):=fun a h=>by rw [hL,h]; simp [Value.ownBlock]
    have hLX:wr.heap.size ∉ L:=fun hm=>by
     obtain ⟨cs,hc⟩:=own_kind hown3 (HLB.out _ hm)
     rw [hb3] at hc; simp at hc
    have hLm:gb ∉ L∧d.mb ∉ L∧w.heap.size ∉ L:=by
     refine ⟨fun hm=>?_,fun hm=>?_,fun hm=>?_⟩
     · obtain ⟨cs,hc⟩:=own_kind hown3 (HLB.out _ hm); exact hm3.ne hc rfl
     · obtain ⟨cs,hc⟩:=own_kind hown3 (HLB.out _ hm); exact (hR3.neC hc).1 rfl
     · obtain ⟨cs,hc⟩:=own_kind hown3 (HLB.out _ hm); exact (hR3.neC hc).2 rfl
    have HLH:Hid (∀ b ∈ L,H0≤b):=fun b hb=>(hown3.lt b (HLB.out b hb)).1
    have HFU:=Lib.hid hfu
    have HHU:=Lib.hid hu
    have HHN:=Lib.hid hns
    have HBX:Hid (∀ W,Tch L W3 W→W.heap[wr.heap.size]?=some (.cells #[.bool u.leaf,.slice u.ka u.kn u.kc,.slice u.va u.vn u.vc,.slice u.ia u.im u.ic] 138 (0,0))):=fun W t=>t.keep hb3 hLX
    have HMX:Hid (∀ W,Tch L W3 W→IsMp W gb (fun x=>(g x).map (Value.int .i64)) mbnd):=fun W t=>hm3.keep t hLm.1
    have HRX:Hid (∀ W,Tch L W3 W→RgAt W d.mb w.heap.size (fun x=>(d.f x).map vNv) cnt2 (seen++[x])):=fun W t=>hR3.keep t hLm.2.1 hLm.2.2
    have HD3:=Lib.hid hD3
    have HB3:=Lib.hid B3
    have HIH:=Lib.hid hih
    have hkl:u.kids.length≤100000000:=hg2.ok.li
    have hW3s:H0≤W3.heap.size:=Nat.le_trans h0 (Nat.le_trans hsz (by have:=t2.size; have:=t3.size; omega))
    rw [hih] at hown3
    have HST:Hid (InRel W3 H0 u g L u.kids.length (.int .i64 0) W3):=⟨0,rfl,rfl,Tch.refl _ _,by rw [mixK_zero,hih]; exact hown3⟩
    clear hR hR2 hD hD2 hD3 hmp hm2 hm3 hR3 hB B2 B3 t2 t3 hfx hfu hu hns hb3 hg2 hL hLX hLm hown3 hih
    go_upto_region 6 with fail
    rw [← hW3]
    clear hW3
    generalize wr.heap.size=X at *
    go_wp2_with fail
    go_loopg [40] u.kids.length (fun n v40 wq=>InRel W3 H0 u g L n v40 wq)
    case atStart=>exact HST.out
    case round =>
     obtain ⟨i,hni,rfl,tq,hoq⟩:=hrel
     clear k3
     match gk,hni with
     | 0,hni =>
      have hi:i=u.kids.length:=by omega
      rw [hi,mixK_full] at hoq
      have hlt:decide (i < u.kids.length)=false:=decide_eq_false (by omega)
      have HO:=Lib.hid hoq
      clear hi hoq
      go_wp2_with fail
      go_roundg cnt2
      case measure=>omega
      case rel =>
       refine ⟨seen++[x],HRX.out _ tq,?_,HMX.out _ tq,HB3.out.trans (tq.below hW3s HLH.out),hr⟩
       rw [trS_snoc HHN.out HHU.out]
       refine HD3.out.turn HFU.out (kids':=u.kids.map (tn g)) (by simp) (fun k hk=>?_) tq HLB.out (by rw [List.length_map]; exact HO.out)
       obtain ⟨k0,hk0,rfl⟩:=List.mem_map.1 hk
       unfold tn
       cases hgk:g k0 with
       | none=>exact hkr k0 hk0
       | some y=>have:=HGV.out k0 y hgk; unfold topN at this; simp only [Option.getD_some]; omega
     | m+1,hni =>
      have hi:i < u.kids.length:=by omega
      have hlt:decide (i < u.kids.length)=true:=decide_eq_true hi
      have hi0:(0:Int)≤(i:Int):=by omega
      have hi1:(i:Int) < (u.kids.length:Int):=by omega
      obtain ⟨gk2,hia⟩:∃ gk2,u.ia=some ⟨gk2,0,none⟩:=by
       rcases hoq.2 with ⟨e,e2⟩ | ⟨g',cap,cur,e,_⟩
       · omega
       · simp only [Value.slice.injEq] at e; exact ⟨g',e.1⟩
      have hih:=HIH.out
      rw [hia,hih] at hoq
      obtain ⟨kid,hkid⟩:∃ kid,kid=u.kids[i]:=⟨_,rfl⟩
      have hkw:=hkr kid (by rw [hkid]; exact List.getElem_mem hi)
      have hwk:(Lit.int .i64 kid).wf=true:=wfI hkw.1 hkw.2
      have hmq:=HMX.out _ tq
      have hbq:=HBX.out _ tq
      have m3:=blk_cell hbq 3
      simp only [gA,gZ,gS] at m3
      rw [hia,hih] at m3
      have hcur:∃ cur,wr.heap[gk2]?=some (.cells cur 3 (0,0))∧cur[i]?=some (.int .i64 kid):=by
       rcases hoq.2 with ⟨e,_⟩ | ⟨g',cap,cur,e,e2,e3,e4,e5,e6,e7⟩
       · cases e
       · simp only [Value.slice.injEq,Option.some.injEq,Addr.mk.injEq] at e
         obtain ⟨⟨rfl,_⟩,_⟩:=e
         refine ⟨cur,e3,?_⟩
         rw [← Array.getElem?_toList]
         have e8:(cur.toList.take (u.kids.length * 1))[i]?=some (.int .i64 kid):=by rw [e7,List.getElem?_map,mixK_at g u.kids i hi,hkid]; rfl
         rw [List.getElem?_take_of_lt (by omega)] at e8
         exact e8
      obtain ⟨cur,hbc,hci⟩:=hcur
      have r0:wr.cell? ⟨gk2,i,none⟩=some (.int .i64 kid):=by rw [blk_cell hbc]; exact hci
      have r1:=blk_free hbc i
      have hgL:gk2 ∈ L:=HLL.out _ hia
      have HIA:=Lib.hid hia
      have HOQ:=Lib.hid hoq
      have HKD:=Lib.hid hkid
      have HTQ:=Lib.hid tq
      rw [hia]
      clear hia hoq hkid tq hbc hci hbq hih
      cases hgk:g kid with
      | none =>
       have hv2:((fun x=>(g x).map (Value.int .i64)) kid).getD (.int .i64 0)=.int .i64 0:=by simp [hgk]
       have hs2:((fun x=>(g x).map (Value.int .i64)) kid).isSome=false:=by simp [hgk]
       have HGK:=Lib.hid hgk
       clear hgk
       go_wp2_with (at_lookup; refine wpList_lookup_mp_ok _ rfl _ _ 188 rfl 3 Tryz.underlying188 (zeroI _) gb mbnd _ rfl hmq kid rfl hwk _ hv2 _ hs2 ?_)
       rw [← HIA.out]
       go_roundg m
       case measure=>omega
       case rel=>exact ⟨i+1,by omega,by go_num,HTQ.out,by rw [mixK_same g u.kids i hi (by rw [← HKD.out]; exact HGK.out),HIA.out,HIH.out]; exact HOQ.out⟩
      | some y =>
       have hv2:((fun x=>(g x).map (Value.int .i64)) kid).getD (.int .i64 0)=.int .i64 y:=by simp [hgk]
       have hs2:((fun x=>(g x).map (Value.int .i64)) kid).isSome=true:=by simp [hgk]
       have HGK:=Lib.hid hgk
       clear hgk
       go_wp2_with (at_lookup; refine wpList_lookup_mp_ok _ rfl _ _ 188 rfl 3 Tryz.underlying188 (zeroI _) gb mbnd _ rfl hmq kid rfl hwk _ hv2 _ hs2 ?_)
       rw [← HIA.out]
       go_roundg m
       case measure=>omega
       case rel =>
        refine ⟨i+1,by omega,by go_num,HTQ.out.setCell hgL _,?_⟩
        rw [mixK_succ g u.kids i hi,HIA.out,HIH.out,List.map_set,show tn g u.kids[i]=y from by unfold tn; rw [← HKD.out,HGK.out]; rfl]
        exact own_set1 HOQ.out hi _
theorem renumber_any (db H0 gb:Nat) (d:Dv) (g:Int→Option Int) (w:World) (hd:IsDr w db d H0) (h0:H0≤w.heap.size) (hdb:H0≤db) (hm:IsMp w gb (fun x=>(g x).map (Value.int .i64)) mbnd) (hgb:∀ x y,g x=some y→0≤y∧y < (topN:Int)) (hrt:0≤d.root∧d.root < (topN:Int)) :
 Calls Tryz.prog 101 #[.pointer (some ⟨db,0,none⟩),.map (some gb)] w (RnPost w db d g H0):=by
 cases hg:g d.root with
 | none=>exact renumber_no db H0 gb d g w hd h0 hdb hm hgb hrt hg
 | some y=>exact renumber_yes db H0 gb d g w hd h0 hdb hm hgb hrt y hg
end Go.Proofs.YtlkgnljdpakkcaaGreatDoor
/-
 'findSectors' of a draft: new nodes are given the lowest free sectors. Conditions: the draft is of a tree that stands below H0; there are 16,384 sectors at most.
-/
namespace Go.Proofs.YtlkgnljdpakkcaaGreatDoor
open Go.RowKit
theorem IsDr.delD {w w':World} {db H0:Nat} {d:Dv} {x:Int} (h:IsDr w db d H0) (hm:IsMp w' d.mb (updF (fun y=>(d.f y).map vNv) x none) mbnd) (t:Tch [d.mb] w w'):IsDr w' db { d with f:=updN d.f x none } H0:=by
 have hne:db ∉ [d.mb]:=by simp only [List.mem_singleton]; exact fun e=>h.ns.mp.ne h.blk e.symm
 have hsub:∀ y v,updN d.f x none y=some v→d.f y=some v:=fun y v hy=>by
  unfold updN at hy
  split at hy
  · cases hy
  · exact hy
 refine ⟨t.keep h.blk hne,h.ns.del hm t,fun y v hy=>?_,fun y z v u hyz hy hz=>h.apart y z v u hyz (hsub y v hy) (hsub z u hz),h.fr,fun y v hy=>h.hig y v (hsub y v hy)⟩
 have ho:=h.own y v (hsub y v hy)
 exact own_keep ho t (fun k hk hm2=>by
  obtain ⟨cs,hc⟩:=own_kind ho hk
  simp only [List.mem_singleton] at hm2
  subst hm2
  exact h.ns.mp.ne hc rfl)
theorem nmf_del (f:Int→Option Nv) (a:Int):nmf (updN f a none)=remv (nmf f) a:=by
 funext x; unfold nmf updN remv; split <;> rfl
def gI (g:Int→Option Int) (x:Int):Option Value:=(g x).map (Value.int .i64)
theorem gI_upd (g:Int→Option Int) (a y:Int):gI (fun x=>if x=a then some y else g x)=updF (gI g) a (some (.int .i64 y)):=by
 funext x; unfold gI updF
 by_cases h:x=a
 · simp [h]
 · simp [h]
def FscRel (w:World) (T:Tv) (db H0 gb sec:Nat) (d:Dv) (S:List Int) (n:Nat) (v6 v7:Value) (wr:World):Prop :=
 ∃ (k free:Nat) (g:Int→Option Int) (fk:Int→Option Nv),n+k=d.fresh∧v6=.int .i64 (free:Nat)∧v7=.int .i64 (16384+(k:Nat))∧Fs (mN T.f) d.ov S sec k (nmf fk) free g∧IsDr wr db { d with f:=fk } H0∧IsMp wr gb (gI g) mbnd∧Below H0 w wr
def FscPost (w:World) (T:Tv) (db H0 sec:Nat) (d:Dv) (S:List Int) (e:Ending) (w':World):Prop :=
 Below H0 w w'∧((e=.returned (.bool true)∧∃ (free:Nat) (g:Int→Option Int) (fk:Int→Option Nv),Fs (mN T.f) d.ov S sec d.fresh (nmf fk) free g∧IsDr w' db { d with root:=tn g d.root,f:=fun x=>(fk x).map (trn g) } H0) ∨
  (e=.returned (.bool false)∧sec≤S.length))
def SrRel (W:World) (T:Tv) (N:Nm) (a:Int) (n:Nat) (v6:Value) (wr:World):Prop :=
 ∃ free:Nat,n+free=16384∧1≤free∧v6=.int .i64 (free:Nat)∧Tch [] W wr∧∀ x,1≤x→x < (free:Int)→((remv N a x).getD (mN T.f x)).es≠[]
set_option maxRecDepth 100000 in
set_option maxHeartbeats 4000000 in
theorem findSectors_any (db H0 h sec:Nat) (d:Dv) (T:Tv) (F:List En) (S:List Int) (w:World) (hd:IsDr w db d H0) (h0:H0≤w.heap.size) (hdb:H0≤db) (hmb:H0≤d.mb) (hT:∀ W,Below H0 w W→IsTr W d.tb T) (dok:Dok (mN T.f) d.ov d.root h F S) (hrt:0≤d.root∧d.root < (topN:Int)) (hsec:sec≤16384) (hs1:1≤sec) :
 Calls Tryz.prog 57 #[.pointer (some ⟨db,0,none⟩),.int .i64 (sec:Nat)] w (FscPost w T db H0 sec d S):=by
 have hfr:=hd.fr
 have hfe:d.ov.fresh=d.fresh:=rfl
 have HTR:=Lib.hid hT
 have hdl:=lt_of_block hd.blk
 have hml:=hd.ns.mp.lt
 have hB:∀ x,16384≤x→mN T.f x=nod0:=dok.old
 have HND:Hid (∀ W (fk:Int→Option Nv) (x:Int),IsDr W db { d with f:=fk } H0→Below H0 w W→0≤x∧x < (topN:Int)→Calls Tryz.prog 100 #[.pointer (some ⟨db,0,none⟩),.int .i64 x] W fun e w'=>∃ v:Nv,e=.returned (vNv v)∧Gd w' v∧v.nod=((nmf fk x).getD (mN T.f x))∧Tch [] W w'):=fun W fk x h1 h2 h3=>by
  refine (node_any db H0 { d with f:=fk } T x W h1 (hT W h2) h3).mono ?_
  rintro e w' ⟨rfl,t⟩
  exact ⟨_,rfl,(at_gd h1 (hT W h2) x).keep0 t,at_nod { d with f:=fk } T x,t⟩
 have HNO:Hid (∀ W v,Gd W v→Calls Tryz.prog 99 #[vNv v] W fun e w'=>e=.returned (.bool (decide (v.es=[])))∧Tch [] W w'):=fun W v hg=>isNone_any v W hg
 have HRN:Hid (∀ W gb (g:Int→Option Int) (fk:Int→Option Nv),IsDr W db { d with f:=fk } H0→Below H0 w W→IsMp W gb (gI g) mbnd→(∀ x y,g x=some y→0≤y∧y < (topN:Int))→Calls Tryz.prog 101 #[.pointer (some ⟨db,0,none⟩),.map (some gb)] W fun e w'=>e=.returned (.tuple #[])∧IsDr w' db { d with root:=tn g d.root,f:=fun x=>(fk x).map (trn g) } H0∧Below H0 W w'):=fun W gb g fk h1 h2 h3 h4=>by
  refine (renumber_any db H0 gb { d with f:=fk } g W h1 (Nat.le_trans h0 h2.size) hdb h3 h4 hrt).mono ?_
  rintro e w' ⟨rfl,h5,h6⟩
  exact ⟨rfl,h5,h6⟩
 have HYES:Hid (∀ W free g (fk:Int→Option Nv),Fs (mN T.f) d.ov S sec d.fresh (nmf fk) free g→IsDr W db { d with root:=tn g d.root,f:=fun x=>(fk x).map (trn g) } H0→Below H0 w W→FscPost w T db H0 sec d S (.returned (.bool true)) W):=fun W free g fk h1 h2 h3=>⟨h3,Or.inl ⟨rfl,free,g,fk,h1,h2⟩⟩
 have HNOT:Hid (∀ W,sec≤S.length→Below H0 w W→FscPost w T db H0 sec d S (.returned (.bool false)) W):=fun W h1 h2=>⟨h2,Or.inr ⟨rfl,h1⟩⟩
 have hmm:=@run_makeMap Tryz.prog
 have HST:Hid (FscRel w T db H0 w.heap.size sec d S d.fresh (.int .i64 1) (.int .i64 16384) (w.alloc (.map #[] 0))):=by
  refine ⟨0,1,fun _=>none,d.f,rfl,rfl,rfl,Fs.start _ _ _ _,hd.keep0 ((Tch.refl _ _).alloc _),?_,(Below.refl _ _).alloc h0 _⟩
  exact ((IsMp.made w).congr (fun x _=>rfl)).mono (by unfold mbnd; omega)
 have HSNE:Hid (∀ x ∈ S,(d.ov.m (mN T.f) x).es≠[]):=dok.tr.ne
 have HONE:=Lib.hid dok.one
 have HOUT:=Lib.hid dok.out
 clear hd hT dok
 generalize FscPost w T db H0 sec d S=Q at *
 go_enter Tryz.func57,Tryz.ntmps57
 go_wp2_with fail
 go_loopg [6,7] d.fresh (fun n v6 v7 wr=>FscRel w T db H0 w.heap.size sec d S n v6 v7 wr)
 case atStart=>exact HST.out
 case round =>
  obtain ⟨k,free,g,fk,hnk,rfl,rfl,hfs,hD,hG,hB2⟩:=hrel
  clear hmm
  have c2:=blk_cell hD.blk 2
  have c3:=blk_cell hD.blk 3
  simp only [gA,gZ,gS] at c2 c3
  have hw1:IntKind.i64.wrap (16384+(d.fresh:Int))=16384+(d.fresh:Int):=IntWalk.i64_in _ (by omega)
  have hgd:∀ x y,g x=some y→0≤y∧y < (topN:Int):=fun x y hxy=>by have:=hfs.dom x y hxy; unfold topN; omega
  have hszr:=hB2.size
  match gk,hnk with
  | 0,hnk =>
   have hk:k=d.fresh:=by omega
   have hlt:decide ((16384:Int)+(k:Int) < 16384+(d.fresh:Int))=false:=decide_eq_false (by omega)
   have hnl:¬ ((16384:Int)+(k:Int) < 16384+(d.fresh:Int)):=by omega
   have HR:=Lib.hid (HRN.out wr w.heap.size g fk hD hB2 hG hgd)
   rw [hk] at hfs
   have HFS:=Lib.hid hfs
   have HB2:=Lib.hid hB2
   clear hfs hD hG hB2 hgd hk
   go_wp2_with (go_at_call 101; (with_reducible refine HR.out.mono ?_); rintro e w5 ⟨rfl,h5,h6⟩)
   have HE:=HYES.out w5 free g fk HFS.out h5 (HB2.out.trans h6)
   first | exact HE | (go_ret; exact HE)
  | m+1,hnk =>
   have hk:k < d.fresh:=by omega
   have hlt:decide ((16384:Int)+(k:Int) < 16384+(d.fresh:Int))=true:=decide_eq_true (by omega)
   have hlp:(16384:Int)+(k:Int) < 16384+(d.fresh:Int):=by omega
   have ha0:(0:Int)≤16384+(k:Int)∧(16384:Int)+(k:Int) < (topN:Int):=by unfold topN; omega
   have hwx:(Lit.int .i64 (16384+(k:Int))).wf=true:=wfI (by omega) (by omega)
   obtain ⟨u,hu⟩:∃ u,u=(fk (16384+(k:Int))).getD nvz:=⟨_,rfl⟩
   have hv1:((fun x=>(fk x).map vNv) (16384+(k:Int))).getD (vNv nvz)=vNv u:=by rw [hu]; simp only; cases fk (16384+(k:Int)) <;> rfl
   have hmp:=hD.ns.mp
   have hgu:Gd wr u:=by
    rw [hu]
    cases hfa:fk (16384+(k:Int)) with
    | none=>exact gdz wr
    | some v=>exact hD.ns.gd _ v hfa
   have hNa:nmf fk (16384+(k:Int))=d.ov.N (16384+(k:Int)):=by
    have:=hfs.hi (16384+(k:Int)) (by omega)
    rw [if_neg (by omega)] at this
    exact this
   have hun:u.nod=((d.ov.N (16384+(k:Int))).getD nod0):=by
    rw [hu,← hNa]; unfold nmf; cases fk (16384+(k:Int)) <;> rfl
   have HM:Hid (d.ov.m (mN T.f) (16384+(k:Int))=u.nod):=by show (d.ov.N (16384+(k:Int))).getD (mN T.f (16384+(k:Int)))=u.nod; rw [hun,hB _ (by omega)]
   have HSK:Hid (u.es=[]→Fs (mN T.f) d.ov S sec (k+1) (nmf (updN fk (16384+(k:Int)) none)) free g):=fun he=>by
    rw [nmf_del]
    exact hfs.skip (fun hm=>HSNE.out _ hm (by rw [HM.out]; exact he))
   have HIN:Hid (u.es≠[]→16384+(k:Int) ∈ S∧fk (16384+(k:Int))=some u∧d.ov.N (16384+(k:Int))=some u.nod):=fun he=>by
    refine ⟨Decidable.byContradiction fun hn=>he (by have:=HOUT.out _ hn; rw [HM.out] at this; exact this),?_,?_⟩
    · cases hfa:fk (16384+(k:Int)) with
      | none=>rw [hu,hfa] at he; exact absurd rfl he
      | some v=>rw [hu,hfa]; rfl
    · cases hN:d.ov.N (16384+(k:Int)) with
      | none=>rw [hun,hN] at HM; exact absurd (show u.es=[] from by rw [show u.es=u.nod.es from rfl,hun,hN]; rfl) he
      | some n=>rw [hun,hN]; rfl
   unfold vNv at hv1
   obtain ⟨W3,hW3⟩:∃ W3,W3=wr.alloc (.cells #[.bool u.leaf,.slice u.ka u.kn u.kc,.slice u.va u.vn u.vc,.slice u.ia u.im u.ic] 138):=⟨_,rfl⟩
   have t3:Tch [] wr W3:=by rw [hW3]; exact (Tch.refl _ _).alloc _
   have hb3:W3.heap[wr.heap.size]?=some (.cells #[.bool u.leaf,.slice u.ka u.kn u.kc,.slice u.va u.vn u.vc,.slice u.ia u.im u.ic] 138 (0,0)):=by rw [hW3]; exact blk_new _ _
   have hD3:=hD.keep0 t3
   have hmp3:=hD3.ns.mp
   have e2:=blk_cell hD3.blk 2
   simp only [gA,gZ,gS] at e2
   have hX:wr.heap.size≠d.mb∧wr.heap.size≠w.heap.size:=⟨by omega,fun e=>by have:=hG.lt; omega⟩
   have B3:Below H0 w W3:=hB2.trans (t3.below (by omega) (by simp))
   have hG3:=hG.keep t3 (by simp)
   have hgu3:=hgu.keep0 t3
   have HD3:=Lib.hid hD3
   have HG3:=Lib.hid hG3
   have HB3:=Lib.hid B3
   have HX3:=Lib.hid hb3
   have HGU:=Lib.hid hgu3
   have HFS:=Lib.hid hfs
   have HGD:=Lib.hid hgd
   have hsz3:wr.heap.size≤W3.heap.size:=t3.size
   clear hD hG hB2 hfs hgd hu hgu hNa hun t3 hb3 hD3 B3 hG3 hgu3
   go_upto_region 7 with (at_lookup; refine wpList_lookup_mp _ rfl _ _ 124 rfl 138 Tryz.underlying124 (zeroNd _) d.mb mbnd _ rfl hmp (16384+(k:Int)) rfl hwx _ hv1 ?_)
   rw [← hW3]
   clear hW3 hmp hv1 c2 c3
   go_upto_region 8 with (at_delete; refine wpList_delete_mp _ rfl _ _ 124 rfl 138 Tryz.underlying124 d.mb mbnd _ rfl hmp3 (16384+(k:Int)) rfl hwx ?_; intro w4 h4 t4)
   have hD4:=HD3.out.delD h4 t4
   have hX4:=t4.keep HX3.out (by simp only [List.mem_singleton]; exact hX.1)
   have B4:Below H0 w w4:=HB3.out.trans (t4.below (by omega) (by simpa using hmb))
   have hG4:=HG3.out.keep t4 (by simp only [List.mem_singleton]; omega)
   have hgu4:Gd w4 u:=HGU.out.kept t4 (fun b hb cs=>by
    simp only [List.mem_singleton] at hb
    subst hb
    exact ⟨fun e=>HD3.out.ns.mp.ne e rfl,fun e=>HD3.out.ns.mp.ne e rfl⟩)
   have HN4:Hid (Calls Tryz.prog 99 #[.agg #[.bool u.leaf,.slice u.ka u.kn u.kc,.slice u.va u.vn u.vc,.slice u.ia u.im u.ic]] w4 fun e w'=>e=.returned (.bool (decide (u.es=[])))∧Tch [] w4 w'):=HNO.out w4 u hgu4
   have x0:=blk_cell hX4 0
   have x1:=blk_cell hX4 1
   have x2:=blk_cell hX4 2
   have x3:=blk_cell hX4 3
   simp only [gA,gZ,gS] at x0 x1 x2 x3
   have hsz4:=t4.size
   have HD4:=Lib.hid hD4
   have HX4:=Lib.hid hX4
   have HB4:=Lib.hid B4
   have HG4:=Lib.hid hG4
   have HGU4:=Lib.hid hgu4
   have HT4:=Lib.hid t4
   clear hD4 hX4 B4 hG4 hgu4 h4 t4 hmp3 e2
   have hw2:IntKind.i64.wrap (16384+(k:Int)+1)=16384+(k:Int)+1:=IntWalk.i64_in _ (by omega)
   by_cases he:u.es=[]
   · rw [decide_eq_true he] at HN4
     have HSKF:=Lib.hid (HSK.out he)
     clear he
     go_wp2_with (go_at_call 99; (with_reducible refine HN4.out.mono ?_); rintro e w5 ⟨rfl,t5⟩)
     go_roundg m
     case measure=>omega
     case rel=>exact ⟨k+1,free,g,_,by omega,rfl,by simp only [Value.int.injEq,true_and]; omega,HSKF.out,HD4.out.keep0 t5,HG4.out.keep t5 (by simp),HB4.out.trans (t5.below (by omega) (by simp))⟩
   · rw [decide_eq_false he] at HN4
     have HINF:=Lib.hid (HIN.out he)
     clear he HSK HIN
     generalize hXX:wr.heap.size=X at *
     clear hXX
     go_upto_region 9 with (go_at_call 99; (with_reducible refine HN4.out.mono ?_); rintro e w5 ⟨rfl,t5⟩)
     have HD5:=Lib.hid (HD4.out.keep0 t5)
     have HG5:=Lib.hid (HG4.out.keep t5 (by simp))
     have HB5:=Lib.hid (HB4.out.trans (t5.below (by omega) (by simp):Below H0 w4 w5))
     have HX5:=Lib.hid (t5.keep HX4.out (by simp))
     have HGU5:=Lib.hid (HGU4.out.keep0 t5)
     have hsz5:X < w5.heap.size:=lt_of_block HX5.out
     have hfree1:=HFS.out.f0
     have hfree2:=HFS.out.f1
     have HLO:Hid (∀ x,1≤x→x < (free:Int)→((remv (nmf fk) (16384+(k:Int)) x).getD (mN T.f x)).es≠[]):=fun x hx1 hx2=>by
      unfold remv
      rw [if_neg (by omega)]
      exact HFS.out.low x hx1 hx2
     have HZ:Hid (remv (nmf fk) (16384+(k:Int)) 16384=none):=by
      show _=_
      unfold remv
      by_cases h1:(16384:Int)=16384+(k:Int)
      · rw [if_pos h1]
      · rw [if_neg h1,HFS.out.hi 16384 (by omega),if_pos (by omega)]
     have HT45:=Lib.hid t5
     clear t5 HN4 x0 x1 x2 x3
     go_loopg [6] (16384 - free) (fun n v6 wr=>SrRel w5 T (nmf fk) (16384+(k:Int)) n v6 wr)
     case atStart=>exact ⟨free,by omega,hfree1,rfl,Tch.refl _ _,HLO.out⟩
     case round =>
      obtain ⟨fr2,hnf,hf1,rfl,t6,hlo⟩:=hrel
      have hfr16:fr2≤16384:=by omega
      have HDN:Hid (Calls Tryz.prog 100 #[.pointer (some ⟨db,0,none⟩),.int .i64 (fr2:Nat)] wr fun e w'=>∃ v:Nv,e=.returned (.agg #[.bool v.leaf,.slice v.ka v.kn v.kc,.slice v.va v.vn v.vc,.slice v.ia v.im v.ic])∧Gd w' v∧v.nod=((remv (nmf fk) (16384+(k:Int)) fr2).getD (mN T.f fr2))∧Tch [] wr w'):=by
       refine (HND.out wr _ (fr2:Int) (HD5.out.keep0 t6) (HB5.out.trans (t6.below (by omega) (by simp))) ⟨by omega,by unfold topN; omega⟩).mono ?_
       rintro e w' ⟨v,he,hg,hn,t⟩
       rw [nmf_del] at hn
       exact ⟨v,he,hg,hn,t⟩
      have HT6:=Lib.hid t6
      have HLO6:=Lib.hid hlo
      have hsz6:=t6.size
      clear t6 hlo
      by_cases hes:((remv (nmf fk) (16384+(k:Int)) fr2).getD (mN T.f fr2)).es=[]
      · have HES:=Lib.hid hes
        clear hes
        have HNE:Hid (∀ W v,Gd W v→v.nod=((remv (nmf fk) (16384+(k:Int)) fr2).getD (mN T.f fr2))→Calls Tryz.prog 99 #[.agg #[.bool v.leaf,.slice v.ka v.kn v.kc,.slice v.va v.vn v.vc,.slice v.ia v.im v.ic]] W fun e w'=>e=.returned (.bool true)∧Tch [] W w'):=fun W v hg hn=>by
         have:=HNO.out W v hg
         rw [show v.es=v.nod.es from rfl,hn,HES.out,decide_eq_true rfl] at this
         exact this
        have hfi:(fr2:Int)≤16384:=by omega
        by_cases hfull:sec≤fr2
        · have hgs:decide ((sec:Int)≤(fr2:Int))=true:=decide_eq_true (by omega)
          have hgs2:decide (sec≤fr2)=true:=decide_eq_true hfull
          have HSL:Hid (sec≤S.length):=HFS.out.full HINF.out.1 HONE.out HOUT.out hsec hs1 hfull HLO6.out
          clear hfull
          go_wp2_with (first | (go_at_call 100; (with_reducible refine HDN.out.mono ?_); rintro e w7 ⟨v7,rfl,hg7,hn7,t7⟩) | (go_at_call 99; (with_reducible refine (HNE.out _ v7 hg7 hn7).mono ?_); rintro e w8 ⟨rfl,t8⟩))
          have HE:=HNOT.out w8 HSL.out (HB5.out.trans (((HT6.out.trans (t7.trans t8)).below (by omega) (by simp)):Below H0 w5 w8))
          first | exact HE | (go_ret; exact HE)
        · have hgs:decide ((sec:Int)≤(fr2:Int))=false:=decide_eq_false (by omega)
          have hgs2:decide (sec≤fr2)=false:=decide_eq_false hfull
          have hfs2:¬ (sec:Int)≤(fr2:Int):=by omega
          have hfr2:fr2 < sec:=by omega
          clear hfull
          go_upto_region 13 with (first | (go_at_call 100; (with_reducible refine HDN.out.mono ?_); rintro e w7 ⟨v7,rfl,hg7,hn7,t7⟩) | (go_at_call 99; (with_reducible refine (HNE.out _ v7 hg7 hn7).mono ?_); rintro e w8 ⟨rfl,t8⟩))
          have T8:Tch [] w5 w8.drew:=(HT6.out.trans (t7.trans t8)).drew
          have hD8:=HD5.out.keep0 T8
          have hX8:=T8.keep HX5.out (by simp)
          have x0:=blk_cell hX8 0
          have x1:=blk_cell hX8 1
          have x2:=blk_cell hX8 2
          have x3:=blk_cell hX8 3
          have e2:=blk_cell hD8.blk 2
          simp only [gA,gZ,gS] at x0 x1 x2 x3 e2
          have hm8:=hD8.ns.mp
          have hwf:(Lit.int .i64 (fr2:Int)).wf=true:=wfI (by omega) (by omega)
          have HD8:=Lib.hid hD8
          have HT8:=Lib.hid T8
          have hG8:=HG5.out.keep T8 (by simp)
          have hsz8:=T8.size
          clear hD8 hX8 T8 t7 t8 hg7 hn7
          go_still_tail 6,(by kernel_rfl)
          change wpList _ _ _ _ _ w8.drew
          go_upto_region 14 with (at_mapUpdate; refine wpList_store_mp _ rfl _ _ _ 124 rfl 138 Tryz.underlying124 d.mb mbnd _ rfl hm8 (by unfold mbnd maxLen; omega) (fr2:Int) rfl hwf ?_; intro w9 h9 t9)
          have hG9:=hG8.keep t9 (by simp only [List.mem_singleton]; omega)
          clear x0 x1 x2 x3 e2 hm8
          go_wp2_with (at_mapUpdate; refine wpList_store_mp _ rfl _ _ _ 188 rfl 3 Tryz.underlying188 w.heap.size mbnd _ rfl hG9 (by unfold mbnd maxLen; omega) (16384+(k:Int)) rfl hwx ?_; intro w10 h10 t10)
          go_roundg m
          case measure=>omega
          case rel =>
           obtain ⟨hin1,hin2,hin3⟩:=HINF.out
           have hgiv:=HFS.out.give hin1 HSNE.out hB hsec hf1 hfr2 HLO6.out HES.out hin3
           have hkinds:∀ b ∈ [d.mb],∀ cs,w8.drew.heap[b]?≠some (.cells cs 9 (0,0))∧w8.drew.heap[b]?≠some (.cells cs 3 (0,0)):=fun b hb cs=>by
            simp only [List.mem_singleton] at hb
            subst hb
            exact ⟨fun e=>HD8.out.ns.mp.ne e rfl,fun e=>HD8.out.ns.mp.ne e rfl⟩
           have hu8:Gd w8.drew u:=HGU5.out.keep0 HT8.out
           have hoK:w8.drew.ownsRow H0 3 1 (.slice u.ia u.im u.ic) u.kids.length (u.kids.map (Value.int .i64)):=by
            have o3:=HD3.out.own _ u hin2
            have o4:w4.ownsRow H0 3 1 (.slice u.ia u.im u.ic) u.kids.length (u.kids.map (Value.int .i64)):=own_keep o3 HT4.out (fun q hq hm2=>by
             obtain ⟨cs,hc⟩:=own_kind o3 hq
             simp only [List.mem_singleton] at hm2
             subst hm2
             exact HD3.out.ns.mp.ne hc rfl)
            have o5:=own_keep (own_keep o3 HT4.out (fun q hq hm2=>by
             obtain ⟨cs,hc⟩:=own_kind o3 hq
             simp only [List.mem_singleton] at hm2
             subst hm2
             exact HD3.out.ns.mp.ne hc rfl)) (HT45.out.trans HT8.out) (fun _ _=>by simp)
            exact o5
           have hlay:IsDr w9 db { d with f:=updN (updN fk (16384+(k:Int)) none) fr2 (some u) } H0:=by
            refine HD8.out.lay (d':={ d with f:=updN (updN fk (16384+(k:Int)) none) fr2 (some u) }) t9 (by simp) h9 ?_ rfl rfl hfr hu8 hoK (fun y z hyx hy=>?_) ⟨by omega,by unfold topN; omega⟩ (HD3.out.hig _ u hin2)
            · have:=t9.keep HD8.out.blk (by simp only [List.mem_singleton]; exact fun e=>HD8.out.ns.mp.ne HD8.out.blk e.symm)
              exact this
            · have hy:updN fk (16384+(k:Int)) none y=some z:=hy
              unfold updN at hy
              split at hy
              · cases hy
              · rename_i hya
                exact HD3.out.apart _ y u z (fun e=>hya e.symm) hin2 hy
           have hG9':IsMp w9 w.heap.size (gI g) mbnd:=hG9
           refine ⟨k+1,fr2,_,_,by omega,rfl,by simp only [Value.int.injEq,true_and]; omega,by rw [nmf_upd,nmf_del]; exact hgiv,?_,?_,?_⟩
           · exact hlay.keepR t10 (fun e=>hG9'.ne hlay.blk e.symm) (by show d.mb≠w.heap.size; omega) (fun y v hy=>(hlay.ns.gd y v hy).offk (fun cs=>⟨fun e=>hG9'.ne e rfl,fun e=>hG9'.ne e rfl⟩))
           · rw [gI_upd]
             refine (h10.tight (N:=topN) (fun y _ hy=>?_)).mono (by unfold topN mbnd; omega)
             unfold updF at hy
             split at hy
             · rename_i e; rw [e]; exact ha0
             · unfold gI at hy
               cases hgy:g y with
               | none=>rw [hgy] at hy; exact absurd rfl hy
               | some z=>have:=HFS.out.dom y z hgy; unfold topN; omega
           · exact HB5.out.trans (((HT8.out.below (by omega) (by simp):Below H0 w5 w8.drew)).trans ((t9.below (by omega) (by simpa using hmb)).trans (t10.below (by have:=t9.size; omega) (by simpa using h0))))
      · have HES:=Lib.hid hes
        have HNX:=Lib.hid (Fs.next (s:=d.ov) (S:=S) (sec:=sec) (k:=k) (g:=g) (show (16384:Int)≤16384+(k:Int) by omega) hB HZ.out HLO6.out hes hfr16)
        clear hes
        have HNE:Hid (∀ W v,Gd W v→v.nod=((remv (nmf fk) (16384+(k:Int)) fr2).getD (mN T.f fr2))→Calls Tryz.prog 99 #[.agg #[.bool v.leaf,.slice v.ka v.kn v.kc,.slice v.va v.vn v.vc,.slice v.ia v.im v.ic]] W fun e w'=>e=.returned (.bool false)∧Tch [] W w'):=fun W v hg hn=>by
         have:=HNO.out W v hg
         rw [show v.es=v.nod.es from rfl,hn,decide_eq_false HES.out] at this
         exact this
        have hfi:(fr2:Int)≤16384:=by omega
        have hnx2:=HNX.out.2
        go_wp2_with (first | (go_at_call 100; (with_reducible refine HDN.out.mono ?_); rintro e w7 ⟨v7,rfl,hg7,hn7,t7⟩) | (go_at_call 99; (with_reducible refine (HNE.out _ v7 hg7 hn7).mono ?_); rintro e w8 ⟨rfl,t8⟩))
        go_roundg (16384 - (fr2+1))
        case measure=>omega
        case rel=>exact ⟨fr2+1,by omega,by omega,by go_num,HT6.out.trans (t7.trans t8),HNX.out.1⟩
end Go.Proofs.YtlkgnljdpakkcaaGreatDoor
