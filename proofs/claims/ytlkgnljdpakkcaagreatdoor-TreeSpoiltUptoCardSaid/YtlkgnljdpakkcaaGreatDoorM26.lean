/-
  Parts of the proof: Wrt, New, Ref5, Apk, Apl.
-/
import Derived.Test.YtlkgnljdpakkcaaGreatDoorM23
import Derived.Test.YtlkgnljdpakkcaaGreatDoorM24
import Derived.Test.YtlkgnljdpakkcaaGreatDoorM17
import Derived.Test.YtlkgnljdpakkcaaGreatDoorM25
import Derived.Maps.AppendAt
import Derived.BigQuiet
import Derived.Test.YtlkgnljdpakkcaaGreatDoorM21
import Derived.Test.YtlkgnljdpakkcaaGreatDoorM08
import Derived.StringKeys
import Derived.Deep.LoopGhost
import Derived.Test.YtlkgnljdpakkcaaGreatDoorM09
set_option linter.unusedVariables false
set_option linter.unusedSimpArgs false
/-
 'written' of a draft: what is to be written,by the sectors' numbers.
-/
namespace Go.Proofs.YtlkgnljdpakkcaaGreatDoor
open Go.RowKit
def anc (d:Dv) (T:Tv):List (Int × ByteArray):=if d.root=T.root then [] else [(0,⟨(ub d.root.toNat).toArray⟩)]
def alk (v u:Nv):Bool:=(v.leaf == u.leaf) && decide (v.keys=u.keys) && decide (v.vals=u.vals) && decide (v.kids=u.kids)
def chN (T:Tv) (f:Int→Option Nv) (x:Int):Option (Int × ByteArray) :=
 match f x with
 | none=>none
 | some v=>if v.es=[] then none else if alk v ((T.f x).getD nvz) then none else some (x,⟨(ndb v.leaf v.es).toArray⟩)
def WrtPost (w:World) (d:Dv) (T:Tv) (e:Ending) (w':World):Prop :=
 ∃ (a:Option Addr) (c:Nat) (L:List (Int × ByteArray)) (seen:List Int),e=.returned (.tuple #[.slice a L.length c,.int .i64 0])∧w'.ownsRow w.heap.size 206 2 (.slice a L.length c) L.length (L.flatMap encC)∧Tch [] w w'∧seen.Nodup∧(∀ x,d.f x≠none→x ∈ seen)∧(∀ x ∈ seen,d.f x≠none)∧L.Perm (anc d T++seen.filterMap (chN T d.f))
def chS (T:Tv) (d:Dv) (seen:List Int):List (Int × ByteArray):=anc d T++seen.filterMap (chN T d.f)
theorem chS_snoc (T:Tv) (d:Dv) (seen:List Int) (x:Int):chS T d (seen++[x])=chS T d seen++(chN T d.f x).toList:=by
 unfold chS
 rw [List.filterMap_append,List.append_assoc]
 cases h:chN T d.f x <;> simp [h]
def WrtRel (w:World) (db r H0 n:Nat) (d:Dv) (T:Tv) (v4:Value) (wr:World):Prop :=
 ∃ (seen:List Int) (a:Option Addr) (c:Nat),RgAt wr d.mb r (fun x=>(d.f x).map vNv) n seen∧v4=.slice a (chS T d seen).length c∧wr.ownsRow w.heap.size 206 2 v4 (chS T d seen).length ((chS T d seen).flatMap encC)∧Tch [] w wr
theorem chS_len {w:World} {d:Dv} {T:Tv} {db H0 r n:Nat} {seen:List Int} (hd:IsDr w db d H0) {wr:World} (h:RgAt wr d.mb r (fun x=>(d.f x).map vNv) n seen):(chS T d seen).length≤topN+1:=by
 obtain ⟨D,left,m,_,_,h3,h4,_⟩:=h
 have hl:seen.length≤topN:=by
  refine nodup_len topN 0 seen (fun x=>(List.nodup_iff_count.1 h3) x) (fun x hx=>?_)
  have:=(h4 x hx).2
  simp only at this
  cases hf:d.f x with
  | none=>rw [hf] at this; exact absurd rfl this
  | some v=>have:=hd.ns.sup x v hf; omega
 unfold chS
 rw [List.length_append]
 have h1:(anc d T).length≤1:=by unfold anc; split <;> simp
 have h2:=List.length_filterMap_le (chN T d.f) seen
 omega
theorem Tryz.info_cC:(Tryz.prog.info? 206).map (fun i=>(i.zero,i.size,i.bytes))=some (some (.agg #[.int .i64 0,.string ⟨#[]⟩]),2,24):=by kernel_rfl
theorem cells_ch (w:World) (x y:Value) (T:TypeId):∀ j u,[x,y][j]?=some u→(w.alloc (.cells #[x,y] T)).cell? ((⟨w.heap.size,0,none⟩:Addr).add j)=some u:=fun j u hu=>by
 rw [add_mk,blk_cell (blk_new w _),Nat.zero_add]; simpa using hu
theorem rg_grown {w w':World} {b r cnt B size n:Nat} {e:TypeId} {v:Value} {xs:List Value} {f:Int→Option Value} {seen:List Int} (h:RgAt w b r f cnt seen) (ho:w.ownsRow B e size v n xs) (hg:w.grownBy w' v.ownBlock):RgAt w' b r f cnt seen:=by
 have t:Tch v.ownBlock.toList w w':=⟨hg.os,hg.tape,hg.output,hg.size,fun k hk hn=>hg.block k hk (fun e=>hn (by rw [← e]; simp))⟩
 have hne:∀ k,v.ownBlock=some k→k≠b∧k≠r:=fun k hk=>by
  rcases ho.2 with ⟨e1,_⟩ | ⟨g,cap,cur,e1,_,e3,_⟩
  · rw [e1] at hk; simp [Value.ownBlock] at hk
  · rw [e1] at hk; simp [Value.ownBlock] at hk; subst hk; exact h.neC e3
 exact h.keep t (fun hm=>(hne b (by simpa using hm)).1 rfl) (fun hm=>(hne r (by simpa using hm)).2 rfl)
theorem RgAt.all {w:World} {b r cnt:Nat} {f:Int→Option Value} {seen:List Int} (h:RgAt w b r f cnt seen):seen.Nodup∧∀ x ∈ seen,(Lit.int .i64 x).wf=true∧f x≠none:=by
 obtain ⟨D,left,m,_,_,h3,h4,_⟩:=h; exact ⟨h3,h4⟩
set_option maxRecDepth 100000 in
set_option maxHeartbeats 4000000 in
theorem written_same (db H0:Nat) (d:Dv) (T:Tv) (w:World) (hd:IsDr w db d H0) (hT:IsTr w d.tb T) (hfit:∀ x v,d.f x=some v→v.es≠[]→v.fits=true) (hrt:0≤d.root∧d.root < (topN:Int)) (hro:d.root=T.root) :
 Calls Tryz.prog 59 #[.pointer (some ⟨db,0,none⟩)] w (WrtPost w d T):=by
 obtain ⟨i0,hi,hz0,hz1,hz2⟩:=info_parts Tryz.info_cC
 have HD:Hid (∀ W,Tch [] w W→IsDr W db d H0):=fun W t=>hd.keep0 t
 have HTT:Hid (∀ W,Tch [] w W→IsTr W d.tb T):=fun W t=>hT.keep0 t
 have HCL:Hid (∀ wr seen n r,RgAt wr d.mb r (fun x=>(d.f x).map vNv) n seen→(chS T d seen).length≤topN+1):=fun wr seen n r h=>chS_len (db:=db) (H0:=H0) hd h
 have HMP:Hid (∀ W,Tch [] w W→IsMp W d.mb (fun x=>(d.f x).map vNv) mbnd):=fun W t=>(hd.keep0 t).ns.mp
 have HFIT:=Lib.hid hfit
 have HNO:Hid (∀ W v,Gd W v→Calls Tryz.prog 99 #[vNv v] W fun e w'=>e=.returned (.bool (decide (v.es=[])))∧Tch [] W w'):=fun W v hg=>isNone_any v W hg
 have HAL:Hid (∀ W v u,Gd W v→Gd W u→Calls Tryz.prog 103 #[vNv v,vNv u] W fun e w'=>e=.returned (.bool ((v.leaf == u.leaf) && decide (v.keys=u.keys) && decide (v.vals=u.vals) && decide (v.kids=u.kids)))∧Tch [] W w'):=fun W v u h1 h2=>areAlike_any v u W h1 h2
 have HSO:Hid (∀ W a c (L:List (Int × ByteArray)),W.ownsRow w.heap.size 206 2 (.slice a L.length c) L.length (L.flatMap encC)→L.length≤topN+1→Tch [] w W→Calls Tryz.prog 105 #[.slice a L.length c,.func (.func 106) #[] #[]] W (SoPost W w.heap.size (.slice a L.length c) L)):=fun W a c L h1 h2 t=>sort_any w.heap.size c a L W h1 (by unfold topN at h2; omega) t.size
 have HFIN:Hid (∀ W a c (L:List (Int × ByteArray)) seen,W.ownsRow w.heap.size 206 2 (.slice a L.length c) L.length (L.flatMap encC)→Tch [] w W→seen.Nodup→(∀ x,(Lit.int .i64 x).wf=true→(d.f x).map vNv≠none→x ∈ seen)→(∀ x ∈ seen,(d.f x).map vNv≠none)→L.Perm (chS T d seen)→WrtPost w d T (.returned (.tuple #[.slice a L.length c,.int .i64 0])) W):=fun W a c L seen h1 t h2 h3 h4 h5=>by
  refine ⟨a,c,L,seen,rfl,h1,t,h2,fun x hx=>?_,fun x hx e=>h4 x hx (by rw [e]; rfl),h5⟩
  cases hf:d.f x with
  | none=>exact absurd hf hx
  | some v =>
   have:=hd.ns.sup x v hf
   exact h3 x (wfI (by omega) (by unfold topN at this; omega)) (by rw [hf]; simp)
 have c0:=blk_cell hd.blk 0
 have c1:=blk_cell hd.blk 1
 have c2:=blk_cell hd.blk 2
 have b0:=blk_cell hT.blk 0
 have b2:=blk_cell hT.blk 2
 simp only [gA,gZ,gS] at c0 c1 c2 b0 b2
 have HAN:Hid (anc d T=[]):=by show _=_; unfold anc; rw [if_pos hro]
 rw [← hro] at b0
 have hbe:(d.root == d.root)=true:=beq_self_eq_true _
 have HAB:Hid (True):=trivial
 have hST:Hid (∀ W r n,Tch [] w W→RgAt W d.mb r (fun x=>(d.f x).map vNv) n []→WrtRel w db r H0 n d T (.slice none 0 0) W):=fun W r n t hr=>⟨[],none,0,hr,by unfold chS; rw [HAN.out]; rfl,by unfold chS; rw [HAN.out]; exact World.ownsRow_nil _ _ _ _,t⟩
 clear hro hd hT hfit
 generalize WrtPost w d T=Q at *
 have HQQ:Hid (True):=trivial
 go_enter Tryz.func59,Tryz.ntmps59
 go_wp2_with fail
 go_quiet (fail)
 go_wp2_with (at_range; refine wpList_range_mp _ rfl _ 124 rfl 138 Tryz.underlying124 d.mb mbnd _ rfl (HMP.out _ (tdrewN (Tch.refl _ _) _)) ?_; intro w1 cnt hrg t1 hs1)
 try go_frame
 have t1w:Tch [] w w1:=(tdrewN (Tch.refl _ _) nq).trans t1
 obtain ⟨r,hr⟩:∃ r,r=(w.drewN nq).heap.size:=⟨_,rfl⟩
 rw [← hr] at hrg
 have hrw:w.heap.size≤r:=by rw [hr]; exact Nat.le_refl _
 have HST:=Lib.hid (hST.out w1 _ _ t1w hrg)
 clear hST HAN HQQ HAB hbe
 rw [← hr]
 clear hr hs1 t1
 go_loopg [4] cnt (fun n v4 wr=>WrtRel w db r H0 n d T v4 wr)
 case atStart=>exact HST.out
 case round =>
  obtain ⟨seen,a4,c4,hR,rfl,hrow,hB⟩:=hrel
  clear HST hrg t1w
  have hcl:=HCL.out wr seen _ _ hR
  go_upto_region 6 with (at_next; refine wpList_next_mp _ rfl _ rfl d.mb r _ gk seen rfl hR (fun hall=>?_) (fun x v w2 cnt2 hwx hfx hns hR2 hlt2 t2 hs2 hen=>?_))
  · have h1:=hR.all
    have HS:=Lib.hid (HSO.out wr a4 c4 (chS T d seen) hrow hcl hB)
    have HE:Hid (∀ W,SoPost wr w.heap.size (.slice a4 (chS T d seen).length c4) (chS T d seen) (.returned (.tuple #[])) W→Q (.returned (.tuple #[.slice a4 (chS T d seen).length c4,.int .i64 0])) W):=fun W ⟨_,L',hp,ho,hb⟩=>by
     rw [← hp.length_eq] at ho ⊢
     exact HFIN.out W a4 c4 L' seen ho (hB.belowNew hb) h1.1 hall (fun y hy=>(h1.2 y hy).2) hp
    clear hR hrow hB hall h1
    generalize (chS T d seen).length=len at *
    go_wp2_with (go_at_call 105; (with_reducible refine HS.out.mono ?_); rintro e w5 ⟨rfl,hso⟩)
    have HEE:=HE.out w5 ⟨rfl,hso⟩
    first | exact HEE | (go_ret2; exact HEE)
  · obtain ⟨u,hu,rfl⟩:∃ u,d.f x=some u∧v=vNv u:=by
     cases hf:d.f x with
     | none=>rw [hf] at hfx; cases hfx
     | some u=>rw [hf] at hfx; exact ⟨u,rfl,(Option.some.inj hfx).symm⟩
    have hsz:=hB.size
    have B2:Tch [] w w2:=hB.belowNew (t2.below (B:=w.heap.size) hsz (by simpa using hrw))
    obtain ⟨W3,hW3⟩:∃ W3,W3=w2.alloc (.cells #[.bool u.leaf,.slice u.ka u.kn u.kc,.slice u.va u.vn u.vc,.slice u.ia u.im u.ic] 138):=⟨_,rfl⟩
    have t3:Tch [] w2 W3:=by rw [hW3]; exact (Tch.refl _ _).alloc _
    have hb3:W3.heap[wr.heap.size]?=some (.cells #[.bool u.leaf,.slice u.ka u.kn u.kc,.slice u.va u.vn u.vc,.slice u.ia u.im u.ic] 138 (0,0)):=by rw [← hs2,hW3]; exact blk_new _ _
    have B3:Tch [] w W3:=B2.trans t3
    have hR3:=hR2.keep t3 (by simp) (by simp)
    have hrow3:=own_keep hrow (t2.trans (t3.mono (by simp))) (fun b hb hm=>by
     simp only [List.mem_singleton] at hm
     subst hm
     rcases hrow.2 with ⟨e1,_⟩ | ⟨g,cap,cur,e1,_,e3,_⟩
     · rw [e1] at hb; simp [Value.ownBlock] at hb
     · rw [e1] at hb; simp [Value.ownBlock] at hb; subst hb; exact (hR.neC e3).2 rfl)
    have HX:Hid (∀ W,Tch [] W3 W→W.cell? ⟨wr.heap.size,0,none⟩=some (.bool u.leaf)∧W.cell? ⟨wr.heap.size,1,none⟩=some (.slice u.ka u.kn u.kc)∧W.cell? ⟨wr.heap.size,2,none⟩=some (.slice u.va u.vn u.vc)∧W.cell? ⟨wr.heap.size,3,none⟩=some (.slice u.ia u.im u.ic)):=fun W t=>by
     have h1:=t.keep hb3 (by simp)
     exact ⟨by rw [blk_cell h1]; rfl,by rw [blk_cell h1]; rfl,by rw [blk_cell h1]; rfl,by rw [blk_cell h1]; rfl⟩
    have HCH:=Lib.hid (chS_snoc T d seen x)
    have HGU:Hid (∀ W,Tch [] W3 W→Gd W u):=fun W t=>(HD.out W (B3.trans t)).ns.gd x u hu
    have HB3:=Lib.hid B3
    have HR3:=Lib.hid hR3
    have HROW:=Lib.hid hrow3
    have HU:=Lib.hid hu
    have HXX:Hid (∀ W,Tch [] W3 W→Calls Tryz.prog 99 #[.agg #[.bool u.leaf,.slice u.ka u.kn u.kc,.slice u.va u.vn u.vc,.slice u.ia u.im u.ic]] W fun e w'=>e=.returned (.bool (decide (u.es=[])))∧Tch [] W w'):=fun W t=>HNO.out W u (HGU.out W t)
    clear hR hR2 hrow hB B2 B3 t2 t3 hfx hu hns hb3 hR3 hrow3 HNO
    have HXD:Hid (∀ W,Tch [] W3 W→W.cell? ⟨db,1,none⟩=some (.pointer (some ⟨d.tb,0,none⟩))):=fun W t=>by
     have:=blk_cell (HD.out W (HB3.out.trans t)).blk 1
     simpa using this
    have HXT:Hid (∀ W,Tch [] W3 W→W.cell? ⟨d.tb,2,none⟩=some (.map (some T.mb))):=fun W t=>by
     have:=blk_cell (HTT.out W (HB3.out.trans t)).blk 2
     simpa using this
    have HXM:Hid (∀ W,Tch [] W3 W→IsMp W T.mb (fun y=>(T.f y).map vNv) mbnd):=fun W t=>(HTT.out W (HB3.out.trans t)).ns.mp
    have HKP:Hid (∀ W,Tch [] W3 W→chN T d.f x=none→WrtRel w db r H0 cnt2 d T (.slice a4 (chS T d seen).length c4) W):=fun W t hc=>by
     have e:chS T d (seen++[x])=chS T d seen:=by rw [HCH.out,hc]; simp
     exact ⟨seen++[x],a4,c4,HR3.out.keep t (by simp) (by simp),by rw [e],by rw [e]; exact own_keep HROW.out t (fun _ _=>by simp),HB3.out.trans t⟩
    have HR0:Hid (∀ W,Tch [] W3 W→u.es=[]→WrtRel w db r H0 cnt2 d T (.slice a4 (chS T d seen).length c4) W):=fun W t he=>HKP.out W t (by unfold chN; rw [HU.out]; simp only; rw [if_pos he])
    obtain ⟨y,hy⟩:∃ y,y=(T.f x).getD nvz:=⟨_,rfl⟩
    have HV:Hid (((fun z=>(T.f z).map vNv) x).getD (vNv nvz)=vNv y):=by
     show _=_
     rw [hy]; simp only; cases T.f x <;> rfl
    obtain ⟨b,hb⟩:∃ b,b=alk u y:=⟨_,rfl⟩
    have HGY:Hid (∀ W,Tch [] W3 W→Gd W y):=fun W t=>by
     rw [hy]
     cases hf:T.f x with
     | none=>exact gdz W
     | some v=>exact (HTT.out W (HB3.out.trans t)).ns.gd x v hf
    have HXA:Hid (∀ W,Tch [] W3 W→Calls Tryz.prog 103 #[.agg #[.bool u.leaf,.slice u.ka u.kn u.kc,.slice u.va u.vn u.vc,.slice u.ia u.im u.ic],vNv y] W fun e w'=>e=.returned (.bool b)∧Tch [] W w'):=fun W t=>by
     rw [hb]; exact HAL.out W u y (HGU.out W t) (HGY.out W t)
    have HR1:Hid (∀ W,Tch [] W3 W→u.es≠[]→b=true→WrtRel w db r H0 cnt2 d T (.slice a4 (chS T d seen).length c4) W):=fun W t he hbt=>HKP.out W t (by unfold chN; rw [HU.out]; simp only; rw [if_neg he,if_pos (by rw [← hy,← hb]; exact hbt)])
    obtain ⟨bs,hbs⟩:∃ bs:ByteArray,bs=⟨(ndb u.leaf u.es).toArray⟩:=⟨_,rfl⟩
    have HENC0:Hid (u.es≠[]→∀ W,Tch [] W3 W→Calls Tryz.prog 104 #[.agg #[.bool u.leaf,.slice u.ka u.kn u.kc,.slice u.va u.vn u.vc,.slice u.ia u.im u.ic]] W fun e w'=>e=.returned (.tuple #[.string bs,.int .i64 0])∧Tch [] W w'):=fun he W t=>by
     have hg:=HGU.out W t
     refine (encode_any u W hg.nv hg.ok hg.caps).mono ?_
     rintro e w' ⟨rfl,t'⟩
     rw [if_pos (HFIT.out x u HU.out he),if_pos (HFIT.out x u HU.out he),hbs]
     exact ⟨rfl,t'⟩
    have HR2:Hid (∀ W,Tch [] W3 W→u.es≠[]→b=false→∀ (tt:Obj) ya yc w9,w9.ownsRow w.heap.size 206 2 (.slice ya ((chS T d seen).length+1) yc) ((chS T d seen).length+1) ((chS T d seen).flatMap encC++[.int .i64 x,.string bs])→(W.alloc tt).grownBy w9 (Value.slice a4 (chS T d seen).length c4).ownBlock→WrtRel w db r H0 cnt2 d T (.slice ya ((chS T d seen).length+1) yc) w9):=fun W t he hbt tt ya yc w9 ho hg=>by
     have e:chS T d (seen++[x])=chS T d seen++[(x,bs)]:=by
      rw [HCH.out]; unfold chN; rw [HU.out]; simp only
      rw [if_neg he,if_neg (by rw [← hy,← hb,hbt]; simp),hbs]; rfl
     have hro:=own_keep HROW.out (t.alloc tt) (fun _ _=>by simp)
     refine ⟨seen++[x],ya,yc,rg_grown (HR3.out.keep (t.alloc tt) (by simp) (by simp)) hro hg,by rw [e,List.length_append]; rfl,?_,(HB3.out.trans (t.alloc tt)).own hro (Nat.le_refl _) hg⟩
     rw [e,List.length_append,List.flatMap_append]
     exact ho
    clear hb hy hbs
    unfold vNv at hen
    go_upto_region 7 with fail
    rw [← hW3]
    clear hW3
    by_cases hes:u.es=[]
    · rw [decide_eq_true hes] at HXX
      refine wp_region_quiet (C:=fun W=>Tch [] W3 W) (by kernel_rfl) (by kernel_rfl) ((Tch.refl _ _).drew) ?_
      with_reducible refine wpQuiet_step (fun K hK=>?_)
      go_simp
      refine ⟨.agg #[.bool u.leaf,.slice u.ka u.kn u.kc,.slice u.va u.vn u.vc,.slice u.ia u.im u.ic],fun w1 t1=>?_,hK _ ?_⟩
      · obtain ⟨x0,x1,x2,x3⟩:=HX.out w1 t1
        go_simp
      clear hK K
      with_reducible refine wpQuiet_step (fun K hK=>?_)
      go_simp
      refine ⟨_,fun w1 t1=>(HXX.out w1 t1).mono (fun e w5 ⟨he,t5⟩=>⟨he,t1.trans t5⟩),hK _ ?_⟩
      clear hK K
      with_reducible refine wpQuiet_step (fun K hK=>?_)
      go_simp
      refine ⟨.bool true,fun w1 t1=>rfl,?_⟩
      refine hK _ ?_
      clear hK K
      with_reducible refine wpQuiet_step (fun K hK=>?_)
      go_simp
      refine hK _ ?_
      clear hK K
      with_reducible refine wpQuiet_step (fun K hK=>?_)
      go_simp
      refine hK _ ?_
      clear hK K
      with_reducible refine wpQuiet_step (fun K hK=>?_)
      go_simp
      refine hK _ ?_
      clear hK K
      with_reducible refine wpQuiet_step (fun K hK=>?_)
      go_simp
      refine hK _ ?_
      clear hK K
      with_reducible refine wpQuiet_step (fun K hK=>?_)
      go_simp
      refine hK _ ?_
      clear hK K
      with_reducible refine wpQuiet_step (fun K hK=>?_)
      go_simp
      refine hK _ ?_
      clear hK K
      with_reducible refine wpQuiet_step (fun K hK=>?_)
      go_simp
      refine hK _ ?_
      clear hK K
      with_reducible refine wpQuiet_step (fun K hK=>?_)
      go_simp
      refine hK _ ?_
      clear hK K
      with_reducible refine wpQuiet_step (fun K hK=>?_)
      go_simp
      refine hK _ ?_
      clear hK K
      with_reducible refine wpQuiet_step (fun K hK=>?_)
      go_simp
      refine hK _ ?_
      clear hK K
      with_reducible refine wpQuiet_step (fun K hK=>?_)
      go_simp
      refine hK _ ?_
      clear hK K
      with_reducible refine wpQuiet_step (fun K hK=>?_)
      go_simp
      refine ⟨.bool true,fun w1 t1=>rfl,?_⟩
      refine hK _ ?_
      clear hK K
      with_reducible refine wpQuiet_nil ?_
      intro w5 t5
      have HRL:=Lib.hid (HR0.out w5 t5 hes)
      clear hes HR1 HR0
      go_wp2_with fail
      go_roundg cnt2
      case measure=>omega
      case rel=>exact HRL.out
    · rw [decide_eq_false hes] at HXX
      refine wp_region_quiet (C:=fun W=>Tch [] W3 W) (by kernel_rfl) (by kernel_rfl) ((Tch.refl _ _).drew) ?_
      with_reducible refine wpQuiet_step (fun K hK=>?_)
      go_simp
      refine ⟨.agg #[.bool u.leaf,.slice u.ka u.kn u.kc,.slice u.va u.vn u.vc,.slice u.ia u.im u.ic],fun w1 t1=>?_,hK _ ?_⟩
      · obtain ⟨x0,x1,x2,x3⟩:=HX.out w1 t1
        go_simp
      clear hK K
      with_reducible refine wpQuiet_step (fun K hK=>?_)
      go_simp
      refine ⟨_,fun w1 t1=>(HXX.out w1 t1).mono (fun e w5 ⟨he,t5⟩=>⟨he,t1.trans t5⟩),hK _ ?_⟩
      clear hK K
      with_reducible refine wpQuiet_step (fun K hK=>?_)
      go_simp
      refine ⟨.bool false,fun w1 t1=>rfl,?_⟩
      refine hK _ ?_
      clear hK K
      with_reducible refine wpQuiet_step (fun K hK=>?_)
      go_simp
      refine ⟨.agg #[.bool u.leaf,.slice u.ka u.kn u.kc,.slice u.va u.vn u.vc,.slice u.ia u.im u.ic],fun w1 t1=>?_,hK _ ?_⟩
      · obtain ⟨x0,x1,x2,x3⟩:=HX.out w1 t1
        go_simp
      clear hK K
      with_reducible refine wpQuiet_step (fun K hK=>?_)
      go_simp
      refine ⟨.pointer (some ⟨db,0,none⟩),fun w1 t1=>rfl,?_⟩
      refine hK _ ?_
      clear hK K
      with_reducible refine wpQuiet_step (fun K hK=>?_)
      go_simp
      refine ⟨.pointer (some ⟨db,0,none⟩),fun w1 t1=>rfl,?_⟩
      refine hK _ ?_
      clear hK K
      with_reducible refine wpQuiet_step (fun K hK=>?_)
      go_simp
      refine ⟨.pointer (some ⟨db,1,none⟩),fun w1 t1=>rfl,?_⟩
      refine hK _ ?_
      clear hK K
      with_reducible refine wpQuiet_step (fun K hK=>?_)
      go_simp
      refine ⟨.pointer (some ⟨d.tb,0,none⟩),fun w1 t1=>?_,hK _ ?_⟩
      · have x1:=HXD.out w1 t1
        go_simp
      clear hK K
      with_reducible refine wpQuiet_step (fun K hK=>?_)
      go_simp
      refine ⟨.pointer (some ⟨d.tb,0,none⟩),fun w1 t1=>rfl,?_⟩
      refine hK _ ?_
      clear hK K
      with_reducible refine wpQuiet_step (fun K hK=>?_)
      go_simp
      refine ⟨.pointer (some ⟨d.tb,2,none⟩),fun w1 t1=>rfl,?_⟩
      refine hK _ ?_
      clear hK K
      with_reducible refine wpQuiet_step (fun K hK=>?_)
      go_simp
      refine ⟨.map (some T.mb),fun w1 t1=>?_,hK _ ?_⟩
      · have x2:=HXT.out w1 t1
        go_simp
      clear hK K
      with_reducible refine wpQuiet_step (fun K hK=>?_)
      go_simp
      refine ⟨.int .i64 x,fun w1 t1=>rfl,?_⟩
      refine hK _ ?_
      clear hK K
      with_reducible refine wpQuiet_step (fun K hK=>?_)
      go_simp
      refine ⟨vNv y,fun w1 t1=>?_,hK _ ?_⟩
      · rw [(HXM.out w1 t1).look Tryz.underlying124 (zeroNd _) hwx]
        exact ⟨rfl,HV.out⟩
      clear hK K
      with_reducible refine wpQuiet_step (fun K hK=>?_)
      go_simp
      refine ⟨_,fun w1 t1=>(HXA.out w1 t1).mono (fun e w5 ⟨he,t5⟩=>⟨he,t1.trans t5⟩),hK _ ?_⟩
      clear hK K
      with_reducible refine wpQuiet_step (fun K hK=>?_)
      go_simp
      refine ⟨.bool b,fun w1 t1=>rfl,?_⟩
      refine hK _ ?_
      clear hK K
      with_reducible refine wpQuiet_nil ?_
      intro w5 t5
      cases b
      · have HRL:=Lib.hid (fun W t=>HR2.out W t hes rfl)
        have HENC:=Lib.hid (HENC0.out hes)
        obtain ⟨x0,x1,x2,x3⟩:=HX.out w5 t5
        clear hes HR2 HENC0
        go_wp2_with (first | (go_at_call 104; (with_reducible refine (HENC.out w5 t5).mono ?_); rintro e w6 ⟨rfl,t6⟩; have hro:=Lib.hid (own_keep HROW.out (t5.trans t6) (fun _ _=>by simp)); have hs6:=(HB3.out.trans (t5.trans t6)).size) | (at_builtin; refine wpList_append_own _ rfl _ _ 152 rfl w.heap.size 206 i0 _ 2 24 Tryz.underlying152 hi hz0 hz1 hz2 rfl (by decide) _ (chS T d seen).length _ rfl (hro.out.alloc _) ⟨w6.heap.size,0,none⟩ 1 1 [.int .i64 x,.string bs] rfl rfl (cells_ch w6 _ _ _) (by simp [Value.oneCell']) (by unfold maxLen; unfold topN at hcl; omega) (by unfold topN at hcl; omega) (by simp; omega) ?_; intro v9 w9 o9 hg9 _))
        obtain ⟨ya,yc,rfl⟩:=own_slice o9
        go_roundg cnt2
        case measure=>omega
        case rel=>exact HRL.out _ (t5.trans t6) _ _ _ _ o9 hg9
      · have HRL:=Lib.hid (HR1.out w5 t5 hes rfl)
        clear hes HR1 HR2
        go_wp2_with fail
        go_roundg cnt2
        case measure=>omega
        case rel=>exact HRL.out
set_option maxRecDepth 100000 in
set_option maxHeartbeats 4000000 in
theorem written_other (db H0:Nat) (d:Dv) (T:Tv) (w:World) (hd:IsDr w db d H0) (hT:IsTr w d.tb T) (hfit:∀ x v,d.f x=some v→v.es≠[]→v.fits=true) (hrt:0≤d.root∧d.root < (topN:Int)) (hro:d.root≠T.root) :
 Calls Tryz.prog 59 #[.pointer (some ⟨db,0,none⟩)] w (WrtPost w d T):=by
 obtain ⟨i0,hi,hz0,hz1,hz2⟩:=info_parts Tryz.info_cC
 have HD:Hid (∀ W,Tch [] w W→IsDr W db d H0):=fun W t=>hd.keep0 t
 have HTT:Hid (∀ W,Tch [] w W→IsTr W d.tb T):=fun W t=>hT.keep0 t
 have HCL:Hid (∀ wr seen n r,RgAt wr d.mb r (fun x=>(d.f x).map vNv) n seen→(chS T d seen).length≤topN+1):=fun wr seen n r h=>chS_len (db:=db) (H0:=H0) hd h
 have HMP:Hid (∀ W,Tch [] w W→IsMp W d.mb (fun x=>(d.f x).map vNv) mbnd):=fun W t=>(hd.keep0 t).ns.mp
 have HFIT:=Lib.hid hfit
 have HNO:Hid (∀ W v,Gd W v→Calls Tryz.prog 99 #[vNv v] W fun e w'=>e=.returned (.bool (decide (v.es=[])))∧Tch [] W w'):=fun W v hg=>isNone_any v W hg
 have HAL:Hid (∀ W v u,Gd W v→Gd W u→Calls Tryz.prog 103 #[vNv v,vNv u] W fun e w'=>e=.returned (.bool ((v.leaf == u.leaf) && decide (v.keys=u.keys) && decide (v.vals=u.vals) && decide (v.kids=u.kids)))∧Tch [] W w'):=fun W v u h1 h2=>areAlike_any v u W h1 h2
 have HSO:Hid (∀ W a c (L:List (Int × ByteArray)),W.ownsRow w.heap.size 206 2 (.slice a L.length c) L.length (L.flatMap encC)→L.length≤topN+1→Tch [] w W→Calls Tryz.prog 105 #[.slice a L.length c,.func (.func 106) #[] #[]] W (SoPost W w.heap.size (.slice a L.length c) L)):=fun W a c L h1 h2 t=>sort_any w.heap.size c a L W h1 (by unfold topN at h2; omega) t.size
 have HFIN:Hid (∀ W a c (L:List (Int × ByteArray)) seen,W.ownsRow w.heap.size 206 2 (.slice a L.length c) L.length (L.flatMap encC)→Tch [] w W→seen.Nodup→(∀ x,(Lit.int .i64 x).wf=true→(d.f x).map vNv≠none→x ∈ seen)→(∀ x ∈ seen,(d.f x).map vNv≠none)→L.Perm (chS T d seen)→WrtPost w d T (.returned (.tuple #[.slice a L.length c,.int .i64 0])) W):=fun W a c L seen h1 t h2 h3 h4 h5=>by
  refine ⟨a,c,L,seen,rfl,h1,t,h2,fun x hx=>?_,fun x hx e=>h4 x hx (by rw [e]; rfl),h5⟩
  cases hf:d.f x with
  | none=>exact absurd hf hx
  | some v =>
   have:=hd.ns.sup x v hf
   exact h3 x (wfI (by omega) (by unfold topN at this; omega)) (by rw [hf]; simp)
 have c0:=blk_cell hd.blk 0
 have c1:=blk_cell hd.blk 1
 have c2:=blk_cell hd.blk 2
 have b0:=blk_cell hT.blk 0
 have b2:=blk_cell hT.blk 2
 simp only [gA,gZ,gS] at c0 c1 c2 b0 b2
 obtain ⟨b0s,hb0⟩:∃ b:ByteArray,b=⟨(ub d.root.toNat).toArray⟩:=⟨_,rfl⟩
 have HAN:Hid (chS T d []=[(0,b0s)]):=by show _=_; unfold chS anc; rw [if_neg hro,hb0]; rfl
 have hbe:(d.root == T.root)=false:=beq_eq_false_iff_ne.2 hro
 have HAB:Hid (∀ W,Calls Tryz.prog 102 #[.agg #[.int .i64 d.root]] W fun e w'=>e=.returned (.string b0s)∧Tch [] W w'):=fun W=>by
  have:=abytes_any d.root.toNat W (by unfold topN at hrt; omega)
  rw [Int.toNat_of_nonneg hrt.1] at this
  rw [hb0]; exact this
 have HDC:Hid (∀ W,Tch [] w W→W.cell? ⟨db,2,none⟩=some (.map (some d.mb))):=fun W t=>by
  have:=blk_cell (hd.keep0 t).blk 2
  simpa using this
 clear hro hd hT hfit hb0
 generalize WrtPost w d T=Q at *
 go_enter Tryz.func59,Tryz.ntmps59
 go_wp2_with fail
 go_quiet (fail)
 go_upto_region 4 with (first
  | (go_at_call 102; (with_reducible refine (HAB.out _).mono ?_); rintro e w2 ⟨rfl,t2⟩; have ts2:=Lib.hid ((tdrewN (Tch.refl [] w) nq).trans t2); have hz2':=ts2.out.size)
  | (at_builtin; refine wpList_append_own _ rfl _ _ 152 rfl w.heap.size 206 i0 _ 2 24 Tryz.underlying152 hi hz0 hz1 hz2 rfl (by decide) _ 0 [] rfl (World.ownsRow_nil _ _ _ _) ⟨w2.heap.size,0,none⟩ 1 1 [.int .i64 0,.string b0s] rfl rfl (cells_ch w2 _ _ _) (by simp [Value.oneCell']) (by unfold maxLen; omega) (by omega) (by simp; omega) ?_; intro v3 w3 o3 hg3 _))
 obtain ⟨ya,yc,rfl⟩:=own_slice o3
 have ts3:Hid (Tch [] w w3):=(ts2.out.alloc _).own (World.ownsRow_nil _ _ 206 2) (Nat.le_refl _) hg3
 have c3:=HDC.out w3 ts3.out
 clear hg3
 go_wp2_with (at_range; refine wpList_range_mp _ rfl _ 124 rfl 138 Tryz.underlying124 d.mb mbnd _ rfl (HMP.out w3 ts3.out) ?_; intro w1 cnt hrg t1 hs1)
 try go_frame
 have t1w:Tch [] w w1:=ts3.out.trans t1
 obtain ⟨r,hr⟩:∃ r,r=w3.heap.size:=⟨_,rfl⟩
 rw [← hr] at hrg
 have hrw:w.heap.size≤r:=by rw [hr]; exact ts3.out.size
 have HST:Hid (WrtRel w db r H0 cnt d T (.slice ya (0+1) yc) w1):=⟨[],ya,yc,hrg,by rw [HAN.out]; rfl,by rw [HAN.out]; exact own_keep o3 t1 (fun _ _=>by simp),t1w⟩
 clear o3 HAN HAB HDC hbe c3 ts2 ts3 t2
 rw [← hr]
 clear hr hs1 t1
 go_loopg [4] cnt (fun n v4 wr=>WrtRel w db r H0 n d T v4 wr)
 case atStart=>exact HST.out
 case round =>
  obtain ⟨seen,a4,c4,hR,rfl,hrow,hB⟩:=hrel
  clear HST hrg t1w
  have hcl:=HCL.out wr seen _ _ hR
  go_upto_region 6 with (at_next; refine wpList_next_mp _ rfl _ rfl d.mb r _ gk seen rfl hR (fun hall=>?_) (fun x v w2 cnt2 hwx hfx hns hR2 hlt2 t2 hs2 hen=>?_))
  · have h1:=hR.all
    have HS:=Lib.hid (HSO.out wr a4 c4 (chS T d seen) hrow hcl hB)
    have HE:Hid (∀ W,SoPost wr w.heap.size (.slice a4 (chS T d seen).length c4) (chS T d seen) (.returned (.tuple #[])) W→Q (.returned (.tuple #[.slice a4 (chS T d seen).length c4,.int .i64 0])) W):=fun W ⟨_,L',hp,ho,hb⟩=>by
     rw [← hp.length_eq] at ho ⊢
     exact HFIN.out W a4 c4 L' seen ho (hB.belowNew hb) h1.1 hall (fun y hy=>(h1.2 y hy).2) hp
    clear hR hrow hB hall h1
    generalize (chS T d seen).length=len at *
    go_wp2_with (go_at_call 105; (with_reducible refine HS.out.mono ?_); rintro e w5 ⟨rfl,hso⟩)
    have HEE:=HE.out w5 ⟨rfl,hso⟩
    first | exact HEE | (go_ret2; exact HEE)
  · obtain ⟨u,hu,rfl⟩:∃ u,d.f x=some u∧v=vNv u:=by
     cases hf:d.f x with
     | none=>rw [hf] at hfx; cases hfx
     | some u=>rw [hf] at hfx; exact ⟨u,rfl,(Option.some.inj hfx).symm⟩
    have hsz:=hB.size
    have B2:Tch [] w w2:=hB.belowNew (t2.below (B:=w.heap.size) hsz (by simpa using hrw))
    obtain ⟨W3,hW3⟩:∃ W3,W3=w2.alloc (.cells #[.bool u.leaf,.slice u.ka u.kn u.kc,.slice u.va u.vn u.vc,.slice u.ia u.im u.ic] 138):=⟨_,rfl⟩
    have t3:Tch [] w2 W3:=by rw [hW3]; exact (Tch.refl _ _).alloc _
    have hb3:W3.heap[wr.heap.size]?=some (.cells #[.bool u.leaf,.slice u.ka u.kn u.kc,.slice u.va u.vn u.vc,.slice u.ia u.im u.ic] 138 (0,0)):=by rw [← hs2,hW3]; exact blk_new _ _
    have B3:Tch [] w W3:=B2.trans t3
    have hR3:=hR2.keep t3 (by simp) (by simp)
    have hrow3:=own_keep hrow (t2.trans (t3.mono (by simp))) (fun b hb hm=>by
     simp only [List.mem_singleton] at hm
     subst hm
     rcases hrow.2 with ⟨e1,_⟩ | ⟨g,cap,cur,e1,_,e3,_⟩
     · rw [e1] at hb; simp [Value.ownBlock] at hb
     · rw [e1] at hb; simp [Value.ownBlock] at hb; subst hb; exact (hR.neC e3).2 rfl)
    have HX:Hid (∀ W,Tch [] W3 W→W.cell? ⟨wr.heap.size,0,none⟩=some (.bool u.leaf)∧W.cell? ⟨wr.heap.size,1,none⟩=some (.slice u.ka u.kn u.kc)∧W.cell? ⟨wr.heap.size,2,none⟩=some (.slice u.va u.vn u.vc)∧W.cell? ⟨wr.heap.size,3,none⟩=some (.slice u.ia u.im u.ic)):=fun W t=>by
     have h1:=t.keep hb3 (by simp)
     exact ⟨by rw [blk_cell h1]; rfl,by rw [blk_cell h1]; rfl,by rw [blk_cell h1]; rfl,by rw [blk_cell h1]; rfl⟩
    have HCH:=Lib.hid (chS_snoc T d seen x)
    have HGU:Hid (∀ W,Tch [] W3 W→Gd W u):=fun W t=>(HD.out W (B3.trans t)).ns.gd x u hu
    have HB3:=Lib.hid B3
    have HR3:=Lib.hid hR3
    have HROW:=Lib.hid hrow3
    have HU:=Lib.hid hu
    have HXX:Hid (∀ W,Tch [] W3 W→Calls Tryz.prog 99 #[.agg #[.bool u.leaf,.slice u.ka u.kn u.kc,.slice u.va u.vn u.vc,.slice u.ia u.im u.ic]] W fun e w'=>e=.returned (.bool (decide (u.es=[])))∧Tch [] W w'):=fun W t=>HNO.out W u (HGU.out W t)
    clear hR hR2 hrow hB B2 B3 t2 t3 hfx hu hns hb3 hR3 hrow3 HNO
    have HXD:Hid (∀ W,Tch [] W3 W→W.cell? ⟨db,1,none⟩=some (.pointer (some ⟨d.tb,0,none⟩))):=fun W t=>by
     have:=blk_cell (HD.out W (HB3.out.trans t)).blk 1
     simpa using this
    have HXT:Hid (∀ W,Tch [] W3 W→W.cell? ⟨d.tb,2,none⟩=some (.map (some T.mb))):=fun W t=>by
     have:=blk_cell (HTT.out W (HB3.out.trans t)).blk 2
     simpa using this
    have HXM:Hid (∀ W,Tch [] W3 W→IsMp W T.mb (fun y=>(T.f y).map vNv) mbnd):=fun W t=>(HTT.out W (HB3.out.trans t)).ns.mp
    have HKP:Hid (∀ W,Tch [] W3 W→chN T d.f x=none→WrtRel w db r H0 cnt2 d T (.slice a4 (chS T d seen).length c4) W):=fun W t hc=>by
     have e:chS T d (seen++[x])=chS T d seen:=by rw [HCH.out,hc]; simp
     exact ⟨seen++[x],a4,c4,HR3.out.keep t (by simp) (by simp),by rw [e],by rw [e]; exact own_keep HROW.out t (fun _ _=>by simp),HB3.out.trans t⟩
    have HR0:Hid (∀ W,Tch [] W3 W→u.es=[]→WrtRel w db r H0 cnt2 d T (.slice a4 (chS T d seen).length c4) W):=fun W t he=>HKP.out W t (by unfold chN; rw [HU.out]; simp only; rw [if_pos he])
    obtain ⟨y,hy⟩:∃ y,y=(T.f x).getD nvz:=⟨_,rfl⟩
    have HV:Hid (((fun z=>(T.f z).map vNv) x).getD (vNv nvz)=vNv y):=by
     show _=_
     rw [hy]; simp only; cases T.f x <;> rfl
    obtain ⟨b,hb⟩:∃ b,b=alk u y:=⟨_,rfl⟩
    have HGY:Hid (∀ W,Tch [] W3 W→Gd W y):=fun W t=>by
     rw [hy]
     cases hf:T.f x with
     | none=>exact gdz W
     | some v=>exact (HTT.out W (HB3.out.trans t)).ns.gd x v hf
    have HXA:Hid (∀ W,Tch [] W3 W→Calls Tryz.prog 103 #[.agg #[.bool u.leaf,.slice u.ka u.kn u.kc,.slice u.va u.vn u.vc,.slice u.ia u.im u.ic],vNv y] W fun e w'=>e=.returned (.bool b)∧Tch [] W w'):=fun W t=>by
     rw [hb]; exact HAL.out W u y (HGU.out W t) (HGY.out W t)
    have HR1:Hid (∀ W,Tch [] W3 W→u.es≠[]→b=true→WrtRel w db r H0 cnt2 d T (.slice a4 (chS T d seen).length c4) W):=fun W t he hbt=>HKP.out W t (by unfold chN; rw [HU.out]; simp only; rw [if_neg he,if_pos (by rw [← hy,← hb]; exact hbt)])
    obtain ⟨bs,hbs⟩:∃ bs:ByteArray,bs=⟨(ndb u.leaf u.es).toArray⟩:=⟨_,rfl⟩
    have HENC0:Hid (u.es≠[]→∀ W,Tch [] W3 W→Calls Tryz.prog 104 #[.agg #[.bool u.leaf,.slice u.ka u.kn u.kc,.slice u.va u.vn u.vc,.slice u.ia u.im u.ic]] W fun e w'=>e=.returned (.tuple #[.string bs,.int .i64 0])∧Tch [] W w'):=fun he W t=>by
     have hg:=HGU.out W t
     refine (encode_any u W hg.nv hg.ok hg.caps).mono ?_
     rintro e w' ⟨rfl,t'⟩
     rw [if_pos (HFIT.out x u HU.out he),if_pos (HFIT.out x u HU.out he),hbs]
     exact ⟨rfl,t'⟩
    have HR2:Hid (∀ W,Tch [] W3 W→u.es≠[]→b=false→∀ (tt:Obj) ya yc w9,w9.ownsRow w.heap.size 206 2 (.slice ya ((chS T d seen).length+1) yc) ((chS T d seen).length+1) ((chS T d seen).flatMap encC++[.int .i64 x,.string bs])→(W.alloc tt).grownBy w9 (Value.slice a4 (chS T d seen).length c4).ownBlock→WrtRel w db r H0 cnt2 d T (.slice ya ((chS T d seen).length+1) yc) w9):=fun W t he hbt tt ya yc w9 ho hg=>by
     have e:chS T d (seen++[x])=chS T d seen++[(x,bs)]:=by
      rw [HCH.out]; unfold chN; rw [HU.out]; simp only
      rw [if_neg he,if_neg (by rw [← hy,← hb,hbt]; simp),hbs]; rfl
     have hro:=own_keep HROW.out (t.alloc tt) (fun _ _=>by simp)
     refine ⟨seen++[x],ya,yc,rg_grown (HR3.out.keep (t.alloc tt) (by simp) (by simp)) hro hg,by rw [e,List.length_append]; rfl,?_,(HB3.out.trans (t.alloc tt)).own hro (Nat.le_refl _) hg⟩
     rw [e,List.length_append,List.flatMap_append]
     exact ho
    clear hb hy hbs
    unfold vNv at hen
    go_upto_region 7 with fail
    rw [← hW3]
    clear hW3
    by_cases hes:u.es=[]
    · rw [decide_eq_true hes] at HXX
      refine wp_region_quiet (C:=fun W=>Tch [] W3 W) (by kernel_rfl) (by kernel_rfl) ((Tch.refl _ _).drew) ?_
      with_reducible refine wpQuiet_step (fun K hK=>?_)
      go_simp
      refine ⟨.agg #[.bool u.leaf,.slice u.ka u.kn u.kc,.slice u.va u.vn u.vc,.slice u.ia u.im u.ic],fun w1 t1=>?_,hK _ ?_⟩
      · obtain ⟨x0,x1,x2,x3⟩:=HX.out w1 t1
        go_simp
      clear hK K
      with_reducible refine wpQuiet_step (fun K hK=>?_)
      go_simp
      refine ⟨_,fun w1 t1=>(HXX.out w1 t1).mono (fun e w5 ⟨he,t5⟩=>⟨he,t1.trans t5⟩),hK _ ?_⟩
      clear hK K
      with_reducible refine wpQuiet_step (fun K hK=>?_)
      go_simp
      refine ⟨.bool true,fun w1 t1=>rfl,?_⟩
      refine hK _ ?_
      clear hK K
      with_reducible refine wpQuiet_step (fun K hK=>?_)
      go_simp
      refine hK _ ?_
      clear hK K
      with_reducible refine wpQuiet_step (fun K hK=>?_)
      go_simp
      refine hK _ ?_
      clear hK K
      with_reducible refine wpQuiet_step (fun K hK=>?_)
      go_simp
      refine hK _ ?_
      clear hK K
      with_reducible refine wpQuiet_step (fun K hK=>?_)
      go_simp
      refine hK _ ?_
      clear hK K
      with_reducible refine wpQuiet_step (fun K hK=>?_)
      go_simp
      refine hK _ ?_
      clear hK K
      with_reducible refine wpQuiet_step (fun K hK=>?_)
      go_simp
      refine hK _ ?_
      clear hK K
      with_reducible refine wpQuiet_step (fun K hK=>?_)
      go_simp
      refine hK _ ?_
      clear hK K
      with_reducible refine wpQuiet_step (fun K hK=>?_)
      go_simp
      refine hK _ ?_
      clear hK K
      with_reducible refine wpQuiet_step (fun K hK=>?_)
      go_simp
      refine hK _ ?_
      clear hK K
      with_reducible refine wpQuiet_step (fun K hK=>?_)
      go_simp
      refine hK _ ?_
      clear hK K
      with_reducible refine wpQuiet_step (fun K hK=>?_)
      go_simp
      refine hK _ ?_
      clear hK K
      with_reducible refine wpQuiet_step (fun K hK=>?_)
      go_simp
      refine ⟨.bool true,fun w1 t1=>rfl,?_⟩
      refine hK _ ?_
      clear hK K
      with_reducible refine wpQuiet_nil ?_
      intro w5 t5
      have HRL:=Lib.hid (HR0.out w5 t5 hes)
      clear hes HR1 HR0
      go_wp2_with fail
      go_roundg cnt2
      case measure=>omega
      case rel=>exact HRL.out
    · rw [decide_eq_false hes] at HXX
      refine wp_region_quiet (C:=fun W=>Tch [] W3 W) (by kernel_rfl) (by kernel_rfl) ((Tch.refl _ _).drew) ?_
      with_reducible refine wpQuiet_step (fun K hK=>?_)
      go_simp
      refine ⟨.agg #[.bool u.leaf,.slice u.ka u.kn u.kc,.slice u.va u.vn u.vc,.slice u.ia u.im u.ic],fun w1 t1=>?_,hK _ ?_⟩
      · obtain ⟨x0,x1,x2,x3⟩:=HX.out w1 t1
        go_simp
      clear hK K
      with_reducible refine wpQuiet_step (fun K hK=>?_)
      go_simp
      refine ⟨_,fun w1 t1=>(HXX.out w1 t1).mono (fun e w5 ⟨he,t5⟩=>⟨he,t1.trans t5⟩),hK _ ?_⟩
      clear hK K
      with_reducible refine wpQuiet_step (fun K hK=>?_)
      go_simp
      refine ⟨.bool false,fun w1 t1=>rfl,?_⟩
      refine hK _ ?_
      clear hK K
      with_reducible refine wpQuiet_step (fun K hK=>?_)
      go_simp
      refine ⟨.agg #[.bool u.leaf,.slice u.ka u.kn u.kc,.slice u.va u.vn u.vc,.slice u.ia u.im u.ic],fun w1 t1=>?_,hK _ ?_⟩
      · obtain ⟨x0,x1,x2,x3⟩:=HX.out w1 t1
        go_simp
      clear hK K
      with_reducible refine wpQuiet_step (fun K hK=>?_)
      go_simp
      refine ⟨.pointer (some ⟨db,0,none⟩),fun w1 t1=>rfl,?_⟩
      refine hK _ ?_
      clear hK K
      with_reducible refine wpQuiet_step (fun K hK=>?_)
      go_simp
      refine ⟨.pointer (some ⟨db,0,none⟩),fun w1 t1=>rfl,?_⟩
      refine hK _ ?_
      clear hK K
      with_reducible refine wpQuiet_step (fun K hK=>?_)
      go_simp
      refine ⟨.pointer (some ⟨db,1,none⟩),fun w1 t1=>rfl,?_⟩
      refine hK _ ?_
      clear hK K
      with_reducible refine wpQuiet_step (fun K hK=>?_)
      go_simp
      refine ⟨.pointer (some ⟨d.tb,0,none⟩),fun w1 t1=>?_,hK _ ?_⟩
      · have x1:=HXD.out w1 t1
        go_simp
      clear hK K
      with_reducible refine wpQuiet_step (fun K hK=>?_)
      go_simp
      refine ⟨.pointer (some ⟨d.tb,0,none⟩),fun w1 t1=>rfl,?_⟩
      refine hK _ ?_
      clear hK K
      with_reducible refine wpQuiet_step (fun K hK=>?_)
      go_simp
      refine ⟨.pointer (some ⟨d.tb,2,none⟩),fun w1 t1=>rfl,?_⟩
      refine hK _ ?_
      clear hK K
      with_reducible refine wpQuiet_step (fun K hK=>?_)
      go_simp
      refine ⟨.map (some T.mb),fun w1 t1=>?_,hK _ ?_⟩
      · have x2:=HXT.out w1 t1
        go_simp
      clear hK K
      with_reducible refine wpQuiet_step (fun K hK=>?_)
      go_simp
      refine ⟨.int .i64 x,fun w1 t1=>rfl,?_⟩
      refine hK _ ?_
      clear hK K
      with_reducible refine wpQuiet_step (fun K hK=>?_)
      go_simp
      refine ⟨vNv y,fun w1 t1=>?_,hK _ ?_⟩
      · rw [(HXM.out w1 t1).look Tryz.underlying124 (zeroNd _) hwx]
        exact ⟨rfl,HV.out⟩
      clear hK K
      with_reducible refine wpQuiet_step (fun K hK=>?_)
      go_simp
      refine ⟨_,fun w1 t1=>(HXA.out w1 t1).mono (fun e w5 ⟨he,t5⟩=>⟨he,t1.trans t5⟩),hK _ ?_⟩
      clear hK K
      with_reducible refine wpQuiet_step (fun K hK=>?_)
      go_simp
      refine ⟨.bool b,fun w1 t1=>rfl,?_⟩
      refine hK _ ?_
      clear hK K
      with_reducible refine wpQuiet_nil ?_
      intro w5 t5
      cases b
      · have HRL:=Lib.hid (fun W t=>HR2.out W t hes rfl)
        have HENC:=Lib.hid (HENC0.out hes)
        obtain ⟨x0,x1,x2,x3⟩:=HX.out w5 t5
        clear hes HR2 HENC0
        go_wp2_with (first | (go_at_call 104; (with_reducible refine (HENC.out w5 t5).mono ?_); rintro e w6 ⟨rfl,t6⟩; have hro:=Lib.hid (own_keep HROW.out (t5.trans t6) (fun _ _=>by simp)); have hs6:=(HB3.out.trans (t5.trans t6)).size) | (at_builtin; refine wpList_append_own _ rfl _ _ 152 rfl w.heap.size 206 i0 _ 2 24 Tryz.underlying152 hi hz0 hz1 hz2 rfl (by decide) _ (chS T d seen).length _ rfl (hro.out.alloc _) ⟨w6.heap.size,0,none⟩ 1 1 [.int .i64 x,.string bs] rfl rfl (cells_ch w6 _ _ _) (by simp [Value.oneCell']) (by unfold maxLen; unfold topN at hcl; omega) (by unfold topN at hcl; omega) (by simp; omega) ?_; intro v9 w9 o9 hg9 _))
        obtain ⟨ya,yc,rfl⟩:=own_slice o9
        go_roundg cnt2
        case measure=>omega
        case rel=>exact HRL.out _ (t5.trans t6) _ _ _ _ o9 hg9
      · have HRL:=Lib.hid (HR1.out w5 t5 hes rfl)
        clear hes HR1 HR2
        go_wp2_with fail
        go_roundg cnt2
        case measure=>omega
        case rel=>exact HRL.out
theorem written_any (db H0:Nat) (d:Dv) (T:Tv) (w:World) (hd:IsDr w db d H0) (hT:IsTr w d.tb T) (hfit:∀ x v,d.f x=some v→v.es≠[]→v.fits=true) (hrt:0≤d.root∧d.root < (topN:Int)) :
 Calls Tryz.prog 59 #[.pointer (some ⟨db,0,none⟩)] w (WrtPost w d T):=by
 by_cases h:d.root=T.root
 · exact written_same db H0 d T w hd hT hfit hrt h
 · exact written_other db H0 d T w hd hT hfit hrt h
end Go.Proofs.YtlkgnljdpakkcaaGreatDoor
/-
 'newDraft'.
-/
namespace Go.Proofs.YtlkgnljdpakkcaaGreatDoor
open Go.RowKit
set_option maxRecDepth 100000 in
set_option maxHeartbeats 4000000 in
theorem newDraft_any (tb:Nat) (T:Tv) (w:World) (ht:IsTr w tb T) :
 Calls Tryz.prog 55 #[.pointer (some ⟨tb,0,none⟩)] w fun e w'=>∃ (db mb:Nat),e=.returned (.pointer (some ⟨db,0,none⟩))∧w.heap.size≤db∧w.heap.size≤mb∧IsDr w' db ⟨T.root,tb,mb,0,fun _=>none⟩ w.heap.size∧Tch [] w w':=by
 have c0:=blk_cell ht.blk 0
 simp only [List.getElem?_toArray,List.getElem?_cons_zero] at c0
 have hmm:=@run_makeMap Tryz.prog
 have HF:Hid (∀ W,W=(w.alloc (.map #[] 0)).alloc (.cells #[.int .i64 T.root,.pointer (some ⟨tb,0,none⟩),.map (some w.heap.size),.int .i64 0] 200)→IsDr W (w.heap.size+1) ⟨T.root,tb,w.heap.size,0,fun _=>none⟩ w.heap.size∧Tch [] w W):=fun W hW=>by
  subst hW
  have hs:(w.alloc (.map #[] 0)).heap.size=w.heap.size+1:=by simp
  have hm:=(IsMp.made w).keep ((Tch.refl [] (w.alloc (.map #[] 0))).alloc (.cells #[.int .i64 T.root,.pointer (some ⟨tb,0,none⟩),.map (some w.heap.size),.int .i64 0] 200)) (by simp)
  refine ⟨⟨?_,⟨hm.mono (by unfold mbnd; omega),(fun x v h=>by cases h),(fun x v h=>by cases h)⟩,(fun x v h=>by cases h),(fun x y v u _ h=>by cases h),by simp,(fun x v h=>by cases h)⟩,((Tch.refl _ _).alloc _).alloc _⟩
  rw [← hs]; exact blk_new _ _
 clear ht
 go_enter Tryz.func55,Tryz.ntmps55
 go_wp2_with fail
 go_ret
 exact ⟨w.heap.size+1,w.heap.size,rfl,by omega,Nat.le_refl _,HF.out _ rfl⟩
end Go.Proofs.YtlkgnljdpakkcaaGreatDoor
/-
 'refusal' of a tree's changes. Condition: they are no more than 1,048,576.
-/
namespace Go.Proofs.YtlkgnljdpakkcaaGreatDoor
open Go.RowKit Go.Maps
theorem Tryz.keyStr:Keyed Tryz.prog 9:=string_keyed Tryz.underlying9
def MapS (w:World) (mb n:Nat) (S:List ByteArray):Prop :=
 ∃ D:DataW Unit,w.ownsMap Tryz.prog 9 (plainElem Tryz.prog 3) mb n D∧∀ x:ByteArray,D.atKey (.string x.data.toList) (.lit (.int .i64 0))=.lit (.int .i64 (if S.any (fun k=>decide (k=x))=true then 1 else 0))
theorem MapS.kept {w w':World} {mb n:Nat} {S:List ByteArray} {L:List Nat} (h:MapS w mb n S) (t:Tch L w w') (hn:mb ∉ L):MapS w' mb n S:=by
 obtain ⟨D,ho,ha⟩:=h
 have hlt:=ho.lt
 obtain ⟨es,clock,hb,F,hs,hD⟩:=ho
 exact ⟨D,⟨es,clock,(t.block mb hlt hn).trans hb,F,hs,hD⟩,ha⟩
theorem MapS.made (w:World):MapS (w.alloc (.map #[] 0)) w.heap.size 0 [] :=
 ⟨_,World.ownsMap_made _ _ _ _,fun x=>by simp [DataW.atKey]⟩
def RfRel (w:World) (cs:List Ch) (n:Nat) (v9:Value) (wr:World):Prop :=
 ∃ k:Nat,n+k=cs.length∧v9=.int .i64 (k:Nat)∧MapS wr w.heap.size k ((cs.take k).map Ch.key)∧Tch [] w wr∧chk cs []=chk (cs.drop k) ((cs.take k).map Ch.key)
def RfPost (w:World) (cs:List Ch) (e:Ending) (w':World):Prop:=e=.returned (.int .i64 (chk cs []))∧Tch [] w w'
theorem key_ne {x y:ByteArray} (h:x≠y):Lit.string x.data.toList≠Lit.string y.data.toList:=fun e=>h (by
 cases x with | mk x=>cases y with | mk y =>
  simp only [Lit.string.injEq] at e
  congr 1
  exact Array.toList_inj.1 e)
theorem isE_no {s : ByteArray} (h : s.size ≠ 0) : s.toList.isEmpty = false := by
  rw [ByteArray.toList_eq]
  cases hx : s.data.toList with
  | nil => exfalso; apply h; have h2 : s.data.toList.length = s.size := by simp
           rw [hx] at h2; exact h2.symm
  | cons a l => rfl
theorem isE_yes {s:ByteArray} (h:s.size=0):s=⟨#[]⟩:=by
 cases s with | mk x =>
  have h:x.size=0:=h
  rw [Array.size_eq_zero_iff] at h
  rw [h]
set_option maxRecDepth 100000 in
set_option maxHeartbeats 4000000 in
theorem refusal_any (cs:List Ch) (a:Option Addr) (n c b o:Nat) (w:World) (hlen:cs.length≤1048576) (hr:IsR fChg 3 w a n b o cs):Calls Tryz.prog 54 #[.slice a n c] w (RfPost w cs):=by
 obtain rfl:=hr.hlen
 have HQ:Hid (∀ x W,chk cs []=x→Tch [] w W→RfPost w cs (.returned (.int .i64 x)) W):=fun x W h t=>⟨by rw [h],t⟩
 generalize RfPost w cs=Q at *
 have HCE:Hid (∀ W,Tch [] w W→∀ k (hk:k < cs.length),W.cell? ⟨b,o+k * 3,none⟩=some (.string cs[k].key)∧W.cell? ⟨b,o+k * 3+1,none⟩=some (.string cs[k].val)∧W.cell? ⟨b,o+k * 3+2,none⟩=some (.bool cs[k].gone)∧a=some ⟨b,o,none⟩):=fun W t k hk=>by
  have r:=hr.keep t (fun hp=>by simp)
  have hg:=List.getElem?_eq_getElem hk
  exact ⟨r.c hg 0 rfl,r.c hg 1 rfl,r.c hg 2 rfl,r.some_ (by omega)⟩
 have hmm:=@run_makeMap Tryz.prog
 have HST:Hid (RfRel w cs cs.length (.int .i64 0) (w.alloc (.map #[] 0))):=⟨0,rfl,rfl,MapS.made w,(Tch.refl _ _).alloc _,rfl⟩
 clear hr
 go_enter Tryz.func54,Tryz.ntmps54
 go_wp2_with fail
 go_loopg [9] cs.length (fun n v9 wr=>RfRel w cs n v9 wr)
 case atStart=>exact HST.out
 case round =>
  obtain ⟨k,hnk,rfl,hm,t,hchk⟩:=hrel
  clear hmm
  match gk,hnk with
  | 0,hnk =>
   have hk:k=cs.length:=by omega
   rw [hk,List.drop_length] at hchk
   have HC:=Lib.hid hchk
   have hlt:decide (k < cs.length)=false:=decide_eq_false (by omega)
   clear hk hm hchk
   go_wp2_with fail
   have HE:=HQ.out _ _ HC.out t
   first | exact HE | (go_ret; exact HE)
  | m+1,hnk =>
   have hlt:k < cs.length:=by omega
   obtain ⟨c0,c1,c2,ha⟩:=HCE.out wr t k hlt
   have hI:(k:Int) < (cs.length:Int):=by omega
   have hI0:(0:Int)≤(k:Int):=by omega
   have htk:cs.take (k+1)=cs.take k++[cs[k]]:=take_snoc hlt
   have hdk:cs.drop k=cs[k] :: cs.drop (k+1):=List.drop_eq_getElem_cons hlt
   rw [hdk,chk] at hchk
   generalize cs[k]=ce at *
   obtain ⟨key,val,gone⟩:=ce
   simp only at c0 c1 c2 hchk
   subst ha
   obtain ⟨W1,hW1⟩:∃ W1,W1=wr.alloc (.cells #[.string key,.string val,.bool gone] 62):=⟨_,rfl⟩
   have t1:Tch [] wr W1:=by rw [hW1]; exact (Tch.refl _ _).alloc _
   have hb1:W1.heap[wr.heap.size]?=some (.cells #[.string key,.string val,.bool gone] 62 (0,0)):=by rw [hW1]; exact blk_new _ _
   have hd:decide (k < cs.length)=true:=decide_eq_true hlt
   have T1:=t.trans t1
   have HTK:=Lib.hid htk
   have hm1:=hm.kept t1 (by simp)
   clear hdk htk hm
   by_cases h0:key.size=0
   · obtain rfl:=isE_yes h0
     rw [if_pos (Or.inl (by rw [h0]; omega))] at hchk
     have HC:=Lib.hid hchk
     clear hchk h0 hm1
     go_upto_region 5 with fail
     rw [← hW1]
     clear hW1
     have k0:=blk_cell hb1 0
     have k1:=blk_cell hb1 1
     simp only [gA,gZ,gS] at k0 k1
     go_wp2_with fail
     have HE:=HQ.out _ _ HC.out T1
     first | exact HE | (go_ret; exact HE)
   have hE1:=isE_no h0
   have hE2:key.toList≠[]:=fun e=>by rw [e] at hE1; simp at hE1
   by_cases h4:48 < key.size
   · rw [if_pos (Or.inr h4)] at hchk
     have HC:=Lib.hid hchk
     have hd4:decide (48 < key.size)=true:=decide_eq_true h4
     clear hchk h0 hm1
     go_upto_region 5 with fail
     rw [← hW1]
     clear hW1
     have k0:=blk_cell hb1 0
     have k1:=blk_cell hb1 1
     simp only [gA,gZ,gS] at k0 k1
     go_wp2_with fail
     have HE:=HQ.out _ _ HC.out T1
     first | exact HE | (go_ret; exact HE)
   have hd4:decide (48 < key.size)=false:=decide_eq_false h4
   rw [if_neg (by omega)] at hchk
   by_cases h5:200 < val.size
   · rw [if_pos h5] at hchk
     have HC:=Lib.hid hchk
     have hd5:decide (200 < val.size)=true:=decide_eq_true h5
     clear hchk h0 hm1
     go_upto_region 5 with fail
     rw [← hW1]
     clear hW1
     have k0:=blk_cell hb1 0
     have k1:=blk_cell hb1 1
     simp only [gA,gZ,gS] at k0 k1
     go_wp2_with fail
     have HE:=HQ.out _ _ HC.out T1
     first | exact HE | (go_ret; exact HE)
   have hd5:decide (200 < val.size)=false:=decide_eq_false h5
   rw [if_neg h5] at hchk
   obtain ⟨D,ho,hat⟩:=hm1
   have hkey:=WideMaps.keyOf_string_mk (P:=Tryz.prog) Tryz.underlying9 (s:=key) (by unfold maxLen; omega)
   have HM:Hid (IsMap D):=by obtain ⟨es,clock,_,_,_,hD⟩:=ho; exact ⟨_,hD⟩
   have HA:=Lib.hid hat
   have hx:=hat key
   have hmb:w.heap.size < wr.heap.size:=by have:=ho.lt; have:=t1.size; exact Nat.lt_of_le_of_ne (t.size) (fun e=>by
    obtain ⟨es,clock,hbm,_⟩:=ho
    rw [e,hb1] at hbm; cases hbm)
   clear hat
   cases hany:((cs.take k).map Ch.key).any (fun k=>decide (k=key)) with
   | true =>
    rw [if_pos hany] at hchk hx
    have HC:=Lib.hid hchk
    have HX:=Lib.hid hx
    clear hchk hx h0 hany
    have tok:True:=trivial
    go_upto_region 5 with fail
    rw [← hW1]
    clear hW1
    have k0:=blk_cell hb1 0
    have k1:=blk_cell hb1 1
    simp only [gA,gZ,gS] at k0 k1
    go_wp2_with (first
     | (at_lookup; have _t:=tok; refine wpList_lookup_own_int _ rfl _ _ 70 rfl 9 3 .i64 Tryz.keyStr Tryz.underlying70 Tryz.underlying3 (Tryz.zeroInt _) w.heap.size k D rfl ho _ _ rfl hkey ?_; intro c hat hwc; obtain rfl:c=1:=met_num hat HX.out; clear tok)
     | (at_mapUpdate; refine wpList_mapUpdate_own _ rfl _ _ _ 70 rfl 9 3 Tryz.keyStr Tryz.underlying70 _ w.heap.size k D rfl ho (by unfold maxLen; omega) _ _ _ rfl rfl hkey _ [] (plainElem_int Tryz.underlying3 (a:=2) (by decide)) ?_; intro w1 hown1 hgrow1; have k0':=(Tch.mapped (Tch.refl [w.heap.size] W1) hgrow1 (by simp)).keep hb1 (by simp; omega); have k0:=blk_cell k0' 0; simp only [List.getElem?_toArray,List.getElem?_cons_zero] at k0)
     | (at_lookup; refine wpList_lookup_own_int _ rfl _ _ 70 rfl 9 3 .i64 Tryz.keyStr Tryz.underlying70 Tryz.underlying3 (Tryz.zeroInt _) w.heap.size (k+1) _ rfl hown1 _ _ rfl hkey ?_; intro c2 hat2 hwc2; obtain rfl:c2=2:=met_num hat2 (atKey_put_same HM.out (by simp [WideAt.IsKeyLit]) _ _)))
    have T2:Tch [] w w1:=T1.transNew (Tch.mapped (Tch.refl [w.heap.size] W1) hgrow1 (by simp)) (fun m hm=>Or.inr (by simp at hm; omega))
    have HE:=HQ.out _ _ HC.out T2
    first | exact HE | (go_ret; exact HE)
   | false =>
    rw [if_neg (by rw [hany]; simp)] at hchk hx
    have HC:=Lib.hid hchk
    have HX:=Lib.hid hx
    clear hchk hx h0 hany
    have tok:True:=trivial
    go_upto_region 5 with fail
    rw [← hW1]
    clear hW1
    have k0:=blk_cell hb1 0
    have k1:=blk_cell hb1 1
    simp only [gA,gZ,gS] at k0 k1
    go_wp2_with (first
     | (at_lookup; have _t:=tok; refine wpList_lookup_own_int _ rfl _ _ 70 rfl 9 3 .i64 Tryz.keyStr Tryz.underlying70 Tryz.underlying3 (Tryz.zeroInt _) w.heap.size k D rfl ho _ _ rfl hkey ?_; intro c hat hwc; obtain rfl:c=0:=met_num hat HX.out; clear tok)
     | (at_mapUpdate; refine wpList_mapUpdate_own _ rfl _ _ _ 70 rfl 9 3 Tryz.keyStr Tryz.underlying70 _ w.heap.size k D rfl ho (by unfold maxLen; omega) _ _ _ rfl rfl hkey _ [] (plainElem_int Tryz.underlying3 (a:=1) (by decide)) ?_; intro w1 hown1 hgrow1; have k0':=(Tch.mapped (Tch.refl [w.heap.size] W1) hgrow1 (by simp)).keep hb1 (by simp; omega); have k0:=blk_cell k0' 0; simp only [List.getElem?_toArray,List.getElem?_cons_zero] at k0)
     | (at_lookup; refine wpList_lookup_own_int _ rfl _ _ 70 rfl 9 3 .i64 Tryz.keyStr Tryz.underlying70 Tryz.underlying3 (Tryz.zeroInt _) w.heap.size (k+1) _ rfl hown1 _ _ rfl hkey ?_; intro c2 hat2 hwc2; obtain rfl:c2=1:=met_num hat2 (atKey_put_same HM.out (by simp [WideAt.IsKeyLit]) _ _)))
    have T2:Tch [] w w1:=T1.transNew (Tch.mapped (Tch.refl [w.heap.size] W1) hgrow1 (by simp)) (fun m hm=>Or.inr (by simp at hm; omega))
    go_roundg m
    case measure=>omega
    case rel =>
     refine ⟨k+1,by omega,by go_num,⟨_,hown1,fun y=>?_⟩,T2,?_⟩
     · rw [HTK.out,List.map_append,List.any_append]
       by_cases hyx:y=key
       · subst hyx
         rw [atKey_put_same HM.out (by simp [WideAt.IsKeyLit]),if_pos (by simp)]
       · rw [atKey_put_other (key_ne hyx),HA.out y]
         have e:([Ch.mk key val gone].map Ch.key).any (fun k=>decide (k=y))=false:=by simp; exact fun e=>hyx e.symm
         rw [e,Bool.or_false]
     · rw [HC.out,HTK.out,List.map_append]; rfl
end Go.Proofs.YtlkgnljdpakkcaaGreatDoor
/-
 What a commit leaves of a tree and of a draft; a list of changes as the journal takes it.
-/
namespace Go.Proofs.YtlkgnljdpakkcaaGreatDoor
open Go.RowKit
theorem Gd.low {w w':World} {v:Nv} {L:List Nat} {B:Nat} (h:Gd w v) (hh:Hig B v) (t:Tch L w w') (hL:∀ b ∈ L,b < B):Gd w' v :=
 h.keep t (fun b hb hm=>by have:=hh.1 b hb; have:=hL b hm; omega) (fun b hb hm=>by have:=hh.2.1 b hb; have:=hL b hm; omega) (fun b hb hm=>by have:=hh.2.2 b hb; have:=hL b hm; omega)
theorem IsDr.low {w w':World} {db H0:Nat} {d:Dv} {L:List Nat} (h:IsDr w db d H0) (t:Tch L w w') (hdb:db ∉ L) (hmb:d.mb ∉ L) (hL:∀ b ∈ L,b < H0):IsDr w' db d H0 :=
 ⟨t.keep h.blk hdb,⟨h.ns.mp.keep t hmb,fun x v hx=>(h.ns.gd x v hx).low (h.hig x v hx) t hL,h.ns.sup⟩,fun x v hx=>own_keep (h.own x v hx) t (fun b hb hm=>by have:=(h.hig x v hx).2.2 b hb; have:=hL b hm; omega),h.apart,h.fr,h.hig⟩
theorem IsTr.apartB {w:World} {tb:Nat} {T:Tv} (h:IsTr w tb T):(tb≠T.b∧tb≠T.bs)∧(T.jb≠T.b∧T.jb≠T.bs)∧(T.mb≠T.b∧T.mb≠T.bs)∧tb≠T.jb∧tb≠T.mb∧T.jb≠T.mb:=by
 obtain ⟨S,hS,_⟩:=h.ds
 have e2:T.jb≠tb:=fun e=>by have:=h.jn; unfold IsJn at this; rw [e,h.blk] at this; simp at this
 have e3:T.mb≠tb:=h.ns.mp.ne h.blk
 have e4:T.b≠tb:=fun e=>by have:=hS.blk; rw [e,h.blk] at this; simp at this
 have e5:T.bs≠tb:=fun e=>by have:=hS.arr; rw [e,h.blk] at this; simp at this
 have e6:T.jb≠T.b:=fun e=>by have:=h.jn; unfold IsJn at this; rw [e,hS.blk] at this; simp at this
 have e7:T.jb≠T.bs:=fun e=>by have:=h.jn; unfold IsJn at this; rw [e,hS.arr] at this; simp at this
 have e8:T.mb≠T.jb:=by have:=h.jn; unfold IsJn at this; exact h.ns.mp.ne this
 exact ⟨⟨e4.symm,e5.symm⟩,⟨e6,e7⟩,⟨h.ns.mp.ne hS.blk,h.ns.mp.ne hS.arr⟩,e2.symm,e3.symm,e8.symm⟩
theorem IsTr.commit {w w':World} {tb B:Nat} {T:Tv} {D':Ds} (h:IsTr w tb T) (hd:IsDs w' T.b T.bs D') (t:Tch [T.b,T.bs] w w') (hB:T.b < B∧T.bs < B) (hh:∀ x v,T.f x=some v→Hig B v):IsTr w' tb { T with D:=D' }:=by
 obtain ⟨⟨a1,a2⟩,⟨a3,a4⟩,⟨a5,a6⟩,_⟩:=h.apartB
 exact ⟨t.keep h.blk (by simp [a1,a2]),h.jn.keep t (by simp [a3,a4]),hd,⟨h.ns.mp.keep t (by simp [a5,a6]),fun x v hx=>(h.ns.gd x v hx).low (hh x v hx) t (fun b hb=>by
  simp only [List.mem_cons,List.not_mem_nil,or_false] at hb
  rcases hb with rfl | rfl
  · exact hB.1
  · exact hB.2),h.ns.sup⟩,h.room⟩
theorem chs_own {w:World} {B c:Nat} {a:Option Addr} {L:List (Int × ByteArray)} (h:w.ownsRow B 206 2 (.slice a L.length c) L.length (L.flatMap encC)) (hf:∀ c ∈ L,-9223372036854775808≤c.1∧c.1≤9223372036854775807∧c.2.size≤9223372036854775807) :
 ∃ cb,IsChs w a L.length cb 0 L∧(0 < L.length→B≤cb)∧L.length≤maxLen:=by
 rcases h.2 with ⟨h1,h2⟩ | ⟨g,cap,cur,h1,h3,h4,h5,h6,h7,h8⟩
 · have hn:L=[]:=List.eq_nil_of_length_eq_zero h2
   subst hn
   exact ⟨0,⟨rfl,Or.inl rfl,fun k c hk=>by simp at hk,hf⟩,fun hl=>by simp at hl,Nat.zero_le _⟩
 · simp only [Value.slice.injEq] at h1
   obtain ⟨rfl,_,rfl⟩:=h1
   have hat:∀ t,t < L.length * 2→w.cell? ⟨g,0+t,none⟩=some ((encC (L.getD (t / 2) default))[t % 2]!):=fun t ht=>by
    rw [blk_cell h4,Nat.zero_add,← encC_at L t ht,← h8,List.getElem?_take_of_lt ht,Array.getElem?_toList]
   refine ⟨g,⟨rfl,Or.inr ⟨rfl,(Array.getElem?_eq_some_iff.1 h4).1⟩,fun k c hk=>?_,hf⟩,fun _=>h3,Nat.le_trans h5 h6⟩
   have hkl:=(List.getElem?_eq_some_iff.1 hk).1
   have hc:L.getD k default=c:=by rw [List.getD_eq_getElem?_getD,hk]; rfl
   constructor
   · have:=hat (k * 2) (by omega)
     rw [show k * 2 / 2=k by omega,show k * 2 % 2=0 by omega,hc] at this
     exact this
   · have:=hat (k * 2+1) (by omega)
     rw [show (k * 2+1) / 2=k by omega,show (k * 2+1) % 2=1 by omega,hc] at this
     rw [Nat.add_assoc]; exact this
end Go.Proofs.YtlkgnljdpakkcaaGreatDoor
/-
 'Apply' of a tree.
-/
namespace Go.Proofs.YtlkgnljdpakkcaaGreatDoor
open Go.RowKit
structure TrOk (T:Tv) (h:Nat) (F:List En) (S:List Int) (sec:Nat):Prop where
 hin:Din (mN T.f) F S [] ⟨fun _=>none,0⟩ T.root h S
 hS:S.length≤16383
 hst:Stands (mN T.f) h T.root
 hrt:0≤T.root∧T.root < (topN:Int)
 hF:∀ key,getT (mN T.f) h T.root key=look F key
 hk:∀ x,∀ e ∈ (mN T.f x).es,e.kid < 16384
 hlow:∀ x,(mN T.f x).es≠[]→x < sec
 s1:1≤sec
 s2:sec≤16384
def ovM (d:Dv) (T:Tv) (x:Int):Nod:=((d.f x).map Nv.nod).getD (mN T.f x)
structure FinD (d:Dv) (T:Tv) (sec h:Nat) (F:List En) (S:List Int):Prop where
 tr:Tr (ovM d T) d.root h F S
 one:∀ x,S.count x≤1
 inn:∀ x ∈ S,1≤x∧x < sec
 out:∀ x,x ∉ S→(ovM d T x).es=[]
 none_:∀ x,16384≤x→d.f x=none
theorem trn_lens {g:Int→Option Int} {v:Nv} (h:(trn g v).lens=true):v.lens=true:=by
 unfold Nv.lens trn at h
 simp only [List.length_map] at h
 exact h
theorem fin_d {T:Tv} {d:Dv} {h sec free:Nat} {F:List En} {S:List Int} {g:Int→Option Int} {fk:Int→Option Nv} (dok:Dok (mN T.f) d.ov d.root h F S) (hfs:Fs (mN T.f) d.ov S sec d.fresh (nmf fk) free g) (hk:∀ x,∀ e ∈ (mN T.f x).es,e.kid < 16384) (hsec:sec≤16384) (hlow:∀ x,(mN T.f x).es≠[]→x < sec)
 (hl:∀ x v,fk x=some v→v.lens=true):FinD { d with root:=tn g d.root,f:=fun x=>(fk x).map (trn g) } T sec h F (S.map (tn g)):=by
 have f:=fs_done dok hfs hk hsec hlow
 have h0:g 0=none:=by
  cases hg:g 0 with
  | none=>rfl
  | some y=>have:=(hfs.dom 0 y hg).1; omega
 have e:ovM { d with root:=tn g d.root,f:=fun x=>(fk x).map (trn g) } T=finM (mN T.f) (nmf fk) g:=by
  funext x
  unfold ovM finM nmf
  simp only
  cases hx:fk x with
  | none=>rfl
  | some v=>simp only [Option.map_some,Option.getD_some]; exact trn_nod h0 (hl x v hx)
 refine ⟨by rw [e]; exact f.tr,f.one,f.inn,fun x hx=>by rw [e]; exact f.out x hx,fun x hx=>?_⟩
 have:=f.none_ x hx
 unfold nmf at this
 simp only [Option.map_eq_none_iff] at this ⊢
 exact this
theorem Tr.rootIn {M:Int→Nod} {root:Int} {h:Nat} {F:List En} {S:List Int} (t:Tr M root h F S):root=0∨root ∈ S:=by
 rcases t with ⟨h1,_⟩ | ⟨_,_,_,_,rfl,_⟩
 · exact Or.inl h1
 · exact Or.inr (by cases h <;> simp [nums])
theorem FinD.fit {d:Dv} {T:Tv} {sec h:Nat} {F:List En} {S:List Int} (f:FinD d T sec h F S) (hs:sec≤16384) (hl:∀ x v,d.f x=some v→v.lens=true):∀ x v,d.f x=some v→v.es≠[]→v.fits=true:=fun x v hx he=>by
 have e:ovM d T x=v.nod:=by unfold ovM; rw [hx]; rfl
 have hm:x ∈ S:=Decidable.byContradiction fun hn=>he (by have:=f.out x hn; rw [e] at this; exact this)
 have h1:=(f.tr.fit (fun y hy=>⟨(f.inn y hy).1,by have:=(f.inn y hy).2; omega⟩) x hm).1
 rw [e] at h1
 unfold Nv.fits
 rw [hl x v hx]
 exact h1
def WrL (d:Dv) (T:Tv) (L:List (Int × ByteArray)):Prop:=∃ seen:List Int,seen.Nodup∧(∀ x,d.f x≠none→x ∈ seen)∧(∀ x ∈ seen,d.f x≠none)∧L.Perm (anc d T++seen.filterMap (chN T d.f))
def ApPost (w:World) (tb B h sec:Nat) (T:Tv) (F:List En) (S:List Int) (cs:List Ch) (e:Ending) (w':World):Prop :=
 (∃ c:Int,c≠0∧chk cs []=c∧e=.returned (.int .i64 c)∧IsTr w' tb T∧Tch [] w w') ∨
 (chk cs []=0∧e=.returned (.int .i64 52)∧IsTr w' tb T∧Tch [] w w'∧∃ (s:Ov) (root:Int) (h2:Nat) (S2:List Int),Din (mN T.f) F S (ords F cs) s root h2 S2∧sec≤S2.length) ∨
 (chk cs []=0∧∃ (d:Dv) (s:Ov) (root:Int) (h2:Nat) (S2 S3:List Int) (L:List (Int × ByteArray)) (free:Nat) (N:Nm) (g:Int→Option Int),Din (mN T.f) F S (ords F cs) s root h2 S2∧Fs (mN T.f) s S2 sec s.fresh N free g∧S3=S2.map (tn g)∧(∀ x,(d.f x).map Nv.nod=(N x).map (mapK g))∧FinD d T sec h2 (altsL F (ords F cs)) S3∧WrL d T L∧(∀ x v,d.f x=some v→v.lens=true) ∧
  e=.returned (.int .i64 (jcommit T.room L T.D).1)∧Tch [tb,T.mb,T.b,T.bs] w w' ∧
  ((jcommit T.room L T.D).1=0∧IsTr w' tb { T with root:=d.root,f:=tkF T.f d.f,D:=(jcommit T.room L T.D).2 }∧(∀ x v,tkF T.f d.f x=some v→Hig B v) ∨
   (jcommit T.room L T.D).1≠0∧IsTr w' tb { T with lost:=(jcommit T.room L T.D).1 == 12,D:=(jcommit T.room L T.D).2 }))
end Go.Proofs.YtlkgnljdpakkcaaGreatDoor
