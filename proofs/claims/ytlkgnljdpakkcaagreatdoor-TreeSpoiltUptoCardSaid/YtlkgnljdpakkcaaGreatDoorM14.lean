/-
  Parts of the proof: Set, Te.
-/
import Derived.Test.YtlkgnljdpakkcaaGreatDoorM13
import Derived.Test.YtlkgnljdpakkcaaGreatDoorM06
import Derived.StillTailTactics
import Derived.Test.YtlkgnljdpakkcaaGreatDoorM11
set_option linter.unusedVariables false
set_option linter.unusedSimpArgs false
/-
 'settle' of a draft: a node is kept under its number,or what fits there,and the numbers are told. Conditions: the number is one of a node,there is room for new numbers.
-/
namespace Go.Proofs.YtlkgnljdpakkcaaGreatDoor
open Go.RowKit
def SetPost (w:World) (db H0:Nat) (d:Dv) (s:Ov × List Int) (e:Ending) (w':World):Prop :=
 ∃ (d2:Dv) (v:Value),e=.returned v∧w'.ownsRow w.heap.size 3 1 v s.2.length (s.2.map (Value.int .i64))∧IsDr w' db d2 H0∧d2.ov=s.1∧d2.root=d.root∧d2.tb=d.tb∧d2.mb=d.mb∧Tch [db,d.mb] w w'
theorem ov_put {d:Dv} {x:Int} {u:Nv}:({ d with f:=updN d.f x (some u) }:Dv).ov=d.ov.set x u.nod:=by
 unfold Dv.ov Ov.set updN
 simp only [Ov.mk.injEq,and_true]
 funext y
 split <;> rfl
theorem ov_new {d:Dv} {u:Nv}:({ d with f:=updN d.f d.ov.nx (some u),fresh:=d.fresh+1 }:Dv).ov=d.ov.put u.nod:=by
 unfold Dv.ov Ov.put updN
 simp only [Ov.mk.injEq,and_true]
 funext y
 split <;> rfl
theorem nvz_nod:nvz.nod=nod0:=rfl
theorem split_len (leaf:Bool) (es:List En):(splitN leaf es).length=1∨(splitN leaf es).length=2:=by
 unfold splitN; split
 · exact Or.inl rfl
 · exact Or.inr rfl
theorem settle_none (s:Ov) (a:Int) (n:Nod) (h:n.es=[]):settle s a n=(s.set a nod0,[]):=by unfold settle; rw [if_pos h]
theorem settle_one (s:Ov) (a:Int) (n:Nod) (p:List En) (h:n.es≠[]) (hs:splitN n.leaf n.es=[p]):settle s a n=(s.set a ⟨n.leaf,p⟩,[a]):=by
 unfold settle; rw [if_neg h,hs]; rfl
theorem settle_two (s:Ov) (a:Int) (n:Nod) (p q:List En) (h:n.es≠[]) (hs:splitN n.leaf n.es=[p,q]):settle s a n=((s.set a ⟨n.leaf,p⟩).put ⟨n.leaf,q⟩,[a,(s.set a ⟨n.leaf,p⟩).nx]):=by
 unfold settle; rw [if_neg h,hs]; rfl
theorem draft_own {w:World} {db H0 B:Nat} {d:Dv} {v:Value} {n:Nat} {xs:List Value} (hd:IsDr w db d H0) (h:w.ownsRow B 3 1 v n xs):∀ k,v.ownBlock=some k→k ∉ [db,d.mb]:=fun k hk hm=>by
 obtain ⟨cs,hc⟩:=own_kind h hk
 simp only [List.mem_cons,List.not_mem_nil,or_false] at hm
 rcases hm with rfl | rfl
 · rw [hd.blk] at hc; simp at hc
 · exact hd.ns.mp.ne hc rfl
set_option maxRecDepth 100000 in
set_option maxHeartbeats 1000000 in
theorem settle_none_any (db H0:Nat) (d:Dv) (v:Nv) (a:Int) (w:World) (hd:IsDr w db d H0) (hv:Gd w v) (ha:0≤a∧a < topN) (hes:v.es=[]) :
 Calls Tryz.prog 169 #[.pointer (some ⟨db,0,none⟩),.int .i64 a,vNv v] w (SetPost w db H0 d (settle d.ov a v.nod)):=by
 have T0:Tch [] w (w.alloc (.cells #[.bool v.leaf,.slice v.ka v.kn v.kc,.slice v.va v.vn v.vc,.slice v.ia v.im v.ic] 138)):=(Tch.refl _ _).alloc _
 have HN:Hid (∀ W,Tch [] w W→Calls Tryz.prog 99 #[.agg #[.bool v.leaf,.slice v.ka v.kn v.kc,.slice v.va v.vn v.vc,.slice v.ia v.im v.ic]] W fun e w'=>e=.returned (.bool true)∧Tch [] W w'):=fun W t=>by
  have:=isNone_any v W (hv.keep0 t)
  rw [decide_eq_true hes] at this
  exact this
 have HD:Hid (∀ W,Tch [] w W→Calls Tryz.prog 171 #[.pointer (some ⟨db,0,none⟩),.int .i64 a] W fun e w'=>e=.returned (.tuple #[])∧(IsDr w' db { d with f:=updN d.f a (some nvz) } H0∧Tch [d.mb] W w')):=fun W t=>drop_any db H0 d a W (hd.keep0 t) ha
 have HP:Hid (∀ W,Tch [] w W→∀ w',IsDr w' db { d with f:=updN d.f a (some nvz) } H0→Tch [d.mb] W w'→SetPost w db H0 d (settle d.ov a v.nod) (.returned (.slice none 0 0)) w'):=fun W t w' h t'=>by
  rw [settle_none _ _ _ hes]
  exact ⟨_,_,rfl,World.ownsRow_nil _ _ _ _,h,by rw [ov_put,nvz_nod],rfl,rfl,rfl,(t.mono (by simp)).trans (t'.mono (by simp))⟩
 clear hd hv hes
 generalize SetPost w db H0 d (settle d.ov a v.nod)=Q at *
 unfold vNv
 generalize v.leaf=vleaf at *
 generalize v.ka=vka at *
 generalize v.kn=vkn at *
 generalize v.kc=vkc at *
 generalize v.va=vva at *
 generalize v.vn=vvn at *
 generalize v.vc=vvc at *
 generalize v.ia=via at *
 generalize v.im=vim at *
 generalize v.ic=vic at *
 go_enter Tryz.func169,Tryz.ntmps169
 go_wp2_with (first | (refine (HN.out _ T0).mono ?_; rintro e w3 ⟨rfl,t3⟩) | (refine (HD.out _ (T0.trans t3)).mono ?_; rintro e w4 ⟨rfl,hdr,t4⟩))
 exact HP.out _ (T0.trans t3) _ hdr t4
theorem own_apart' {w w':World} {B B' n n' k k':Nat} {e e':TypeId} {x y:Value} {xs ys:List Value} (h:w.ownsRow B e k x n xs) (h2:w'.ownsRow B' e' k' y n' ys) (hb:w'.heap.size≤B):Apart x y:=fun b h3 h4=>by
 have:=(h2.lt b h4).2
 have:=(h.lt b h3).1
 omega
theorem set_lay {w w4 w5:World} {db H0:Nat} {d:Dv} {a:Int} {u:Nv} (hd:IsDr w db d H0) (h0:H0≤w.heap.size) (ha:0≤a∧a < topN) (t:Tch [] w w4) (hg:Gd w4 u) (hn:NwN w.heap.size u w4) (hm:IsMp w5 d.mb (updF (fun y=>(d.f y).map vNv) a (some (vNv u))) (mbnd+1)) (t5:Tch [d.mb] w4 w5) :
 IsDr w5 db { d with f:=updN d.f a (some u) } H0:=by
 have hne:d.mb≠db:=hd.ns.mp.ne hd.blk
 refine (hd.keep0 t).lay (t5.mono (L':=[d.mb]) (by simp)) (by simp) hm ?_ rfl rfl hd.fr hg (own_base hn.hi h0) (fun y z _ hy=>own_apart' hn.hi (hd.own y z hy) (Nat.le_refl _)) ha (hn.hig h0)
 have:=t5.keep (t.keep hd.blk (by simp)) (by simp; exact fun e=>hne e.symm)
 exact this
def Off (r:Nat) (v:Nv):Prop:=(∀ b,(Value.slice v.ka v.kn v.kc).ownBlock=some b→b ∉ [r])∧(∀ b,(Value.slice v.va v.vn v.vc).ownBlock=some b→b ∉ [r])∧(∀ b,(Value.slice v.ia v.im v.ic).ownBlock=some b→b ∉ [r])
theorem Gd.off {w:World} {v:Nv} {r:Nat} (h:Gd w v) (hr:w.heap.size≤r):Off r v:=by
 refine ⟨fun b hb hm=>?_,fun b hb hm=>?_,fun b hb hm=>?_⟩
 · have:=(h.row.hk.lt b hb).2; simp at hm; omega
 · have:=(h.row.hv.lt b hb).2; simp at hm; omega
 · have:=(h.row.hi.lt b hb).2; simp at hm; omega
theorem IsDr.keepR {w w':World} {db H0 r:Nat} {d:Dv} (h:IsDr w db d H0) (t:Tch [r] w w') (h1:db≠r) (h2:d.mb≠r) (hx:∀ x v,d.f x=some v→Off r v):IsDr w' db d H0 :=
 ⟨t.keep h.blk (by simpa using h1),⟨h.ns.mp.keep t (by simpa using h2),fun x v hv=>(h.ns.gd x v hv).keep t (hx x v hv).1 (hx x v hv).2.1 (hx x v hv).2.2,h.ns.sup⟩,fun x v hv=>own_keep (h.own x v hv) t (hx x v hv).2.2,h.apart,h.fr,h.hig⟩
set_option maxRecDepth 100000 in
set_option maxHeartbeats 1000000 in
theorem settle_some_any (db H0:Nat) (d:Dv) (v:Nv) (a:Int) (w:World) (hd:IsDr w db d H0) (h0:H0≤w.heap.size) (hv:Gd w v) (ha:0≤a∧a < topN) (hes:v.es≠[]) (hfr:d.fresh < 199999999) :
 Calls Tryz.prog 169 #[.pointer (some ⟨db,0,none⟩),.int .i64 a,vNv v] w (SetPost w db H0 d (settle d.ov a v.nod)):=by
 have T0:Tch [] w (w.alloc (.cells #[.bool v.leaf,.slice v.ka v.kn v.kc,.slice v.va v.vn v.vc,.slice v.ia v.im v.ic] 138)):=(Tch.refl _ _).alloc _
 have HN:Hid (∀ W,Tch [] w W→Calls Tryz.prog 99 #[.agg #[.bool v.leaf,.slice v.ka v.kn v.kc,.slice v.va v.vn v.vc,.slice v.ia v.im v.ic]] W fun e w'=>e=.returned (.bool false)∧Tch [] W w'):=fun W t=>by
  have:=isNone_any v W (hv.keep0 t)
  rw [decide_eq_false hes] at this
  exact this
 have HB:Hid (∀ W,Tch [] w W→W.cell? ⟨w.heap.size,0,none⟩=some (.bool v.leaf)→True):=fun _ _ _=>trivial
 have HBX:Hid (∀ W,Tch [] (w.alloc (.cells #[.bool v.leaf,.slice v.ka v.kn v.kc,.slice v.va v.vn v.vc,.slice v.ia v.im v.ic] 138)) W→W.heap[w.heap.size]?=some (.cells #[.bool v.leaf,.slice v.ka v.kn v.kc,.slice v.va v.vn v.vc,.slice v.ia v.im v.ic] 138 (0,0))):=fun W t=>t.keep (blk_new _ _) (by simp)
 have HS:Hid (∀ W,Tch [] w W→Calls Tryz.prog 205 #[.agg #[.bool v.leaf,.slice v.ka v.kn v.kc,.slice v.va v.vn v.vc,.slice v.ia v.im v.ic]] W (SpNewA W v.leaf v.es)):=fun W t=>nsplit_new v W (hv.keep0 t).nv hv.ok hv.caps
 have HL:=Lib.hid hv.lens
 have HDR:=Lib.hid hd
 have HSL:=Lib.hid (split_len v.leaf v.es)
 have HS1:Hid (∀ p,splitN v.leaf v.es=[p]→settle d.ov a v.nod=(d.ov.set a ⟨v.leaf,p⟩,[a])):=fun p h=>settle_one _ _ v.nod p hes h
 have HS2:Hid (∀ p q,splitN v.leaf v.es=[p,q]→settle d.ov a v.nod=((d.ov.set a ⟨v.leaf,p⟩).put ⟨v.leaf,q⟩,[a,(d.ov.set a ⟨v.leaf,p⟩).nx])):=fun p q h=>settle_two _ _ v.nod p q hes h
 have hmb:d.mb≠db:=hd.ns.mp.ne hd.blk
 have hwx:(Lit.int .i64 a).wf=true:=wfI (by omega) (by unfold topN at ha; omega)
 have HC2:Hid (∀ W,Tch [] w W→W.cell? ⟨db,2,none⟩=some (.map (some d.mb))):=fun W t=>by rw [blk_cell (t.keep hd.blk (by simp))]; rfl
 have HMP:Hid (∀ W,Tch [] w W→IsMp W d.mb (fun y=>(d.f y).map vNv) mbnd):=fun W t=>hd.ns.mp.keep t (by simp)
 have hdb:=lt_of_block hd.blk
 have hmbl:d.mb < w.heap.size:=by obtain ⟨D,⟨es,clock,hb,_⟩,_⟩:=hd.ns.mp; exact lt_of_block hb
 obtain ⟨i0,hi,hz0,hz1,hz2⟩:=info_parts Tryz.info_cI
 have hvl:=v.leaf
 generalize hQ:settle d.ov a v.nod=S at *
 generalize hles:v.es=es at *
 clear hd hv hes hQ hles
 unfold vNv
 generalize v.leaf=vleaf at *
 generalize v.ka=vka at *
 generalize v.kn=vkn at *
 generalize v.kc=vkc at *
 generalize v.va=vva at *
 generalize v.vn=vvn at *
 generalize v.vc=vvc at *
 generalize v.ia=via at *
 generalize v.im=vim at *
 generalize v.ic=vic at *
 go_enter Tryz.func169,Tryz.ntmps169
 go_wp2_with (first | (refine (HN.out _ T0).mono ?_; rintro e w3 ⟨rfl,t3⟩; have hb3:=HBX.out _ t3; have n0:=blk_cell hb3 0; have n1:=blk_cell hb3 1; have n2:=blk_cell hb3 2; have n3:=blk_cell hb3 3; simp only [gA,gZ,gS] at n0 n1 n2 n3) | (refine (HS.out _ (T0.trans t3)).mono ?_; rintro e w4 ⟨t4,us,g,rfl,hgb,hb,hsp,hall,hpw⟩))
 have T4:=(T0.trans t3).trans t4
 rcases HSL.out with h1 | h1
 · have hlen:us.length=1:=by rw [← hsp,List.length_map] at h1; exact h1
   match us,hlen with
   | [u],_ =>
    obtain ⟨hg,hn⟩:=hall u (by simp)
    have hn2:=hn.base (B':=w.heap.size) (T0.trans t3).size
    have hgd:Gd w4 u:=⟨hg.nv,hg.lens,hg.ok,hg.caps,hn.base (Nat.zero_le _)⟩
    have hul:=hg.leaf
    have hun:u.nod=⟨vleaf,u.es⟩:=by unfold Nv.nod; rw [hul]
    have hS:=HS1.out u.es hsp.symm
    have HF:Hid (∀ w5,IsMp w5 d.mb (updF (fun y=>(d.f y).map vNv) a (some (vNv u))) (mbnd+1)→Tch [d.mb] w4.drew w5→SetPost w db H0 d S (.returned (.slice (some ⟨w5.heap.size,0,none⟩) 1 1)) (w5.alloc (.cells #[.int .i64 a] 3))):=fun w5 hm t5=>by
     have h5:=set_lay HDR.out h0 ha T4.drew (hgd.keep0 (Tch.refl [] w4).drew) (hn2.keep (Tch.refl [] w4).drew (by simp)) hm t5
     refine ⟨_,_,rfl,?_,h5.keep0 ((Tch.refl _ _).alloc _),?_,rfl,rfl,rfl,((T4.drew.mono (by simp)).trans (t5.mono (by simp))).alloc _⟩
     · rw [hS]
       exact World.ownsRow_lit w5 #[.int .i64 a] 1 (Nat.le_trans T4.size t5.size) (by unfold maxLen; omega) rfl
     · rw [hS,ov_put,hun]
    have hMW:=HMP.out w4.drew T4.drew
    have c2:=HC2.out w4 T4
    have k0:=blk_cell hb 0
    have k1:=blk_cell hb 1
    have k2:=blk_cell hb 2
    have k3:=blk_cell hb 3
    simp only [fNv,List.flatMap_cons,List.flatMap_nil,List.append_nil,gA,gZ,gS] at k0 k1 k2 k3
    unfold vNv at HF
    clear hg hn hn2 hgd hul hun hS hall hpw hsp hb n0 n1 n2 n3 hlen
    generalize u.leaf=uleaf at *
    generalize u.ka=uka at *
    generalize u.kn=ukn at *
    generalize u.kc=ukc at *
    generalize u.va=uva at *
    generalize u.vn=uvn at *
    generalize u.vc=uvc at *
    generalize u.ia=uia at *
    generalize u.im=uim at *
    generalize u.ic=uic at *
    go_wp2_with fail
    go_still_tail 8,(by kernel_rfl)
    change wpList _ _ _ _ _ w4.drew
    go_wp2_with (at_mapUpdate; refine wpList_store_mp _ rfl _ _ _ 124 rfl 138 Tryz.underlying124 d.mb mbnd _ rfl hMW (by unfold mbnd maxLen; omega) a rfl hwx ?_; intro w5 h5 t5)
    refine wp_loop_rounds 1 ?_
    rw [rounds_succ]; go_wp2_with fail
    go_ret
    exact HF.out _ h5 t5
 · have hlen:us.length=2:=by rw [← hsp,List.length_map] at h1; exact h1
   match us,hlen with
   | [u,z],_ =>
    obtain ⟨hg,hn⟩:=hall u (by simp)
    obtain ⟨hgz,hnz⟩:=hall z (by simp)
    have hn2:=hn.base (B':=w.heap.size) (T0.trans t3).size
    have hnz2:=hnz.base (B':=w.heap.size) (T0.trans t3).size
    have hgd:Gd w4 u:=⟨hg.nv,hg.lens,hg.ok,hg.caps,hn.base (Nat.zero_le _)⟩
    have hgdz:Gd w4 z:=⟨hgz.nv,hgz.lens,hgz.ok,hgz.caps,hnz.base (Nat.zero_le _)⟩
    have hun:u.nod=⟨vleaf,u.es⟩:=by unfold Nv.nod; rw [hg.leaf]
    have hzn:z.nod=⟨vleaf,z.es⟩:=by unfold Nv.nod; rw [hgz.leaf]
    have hS:=HS2.out u.es z.es hsp.symm
    have hap:Apart (.slice u.ia u.im u.ic) (.slice z.ia z.im z.ic):=by simpa using hpw
    have h4:=HDR.out.keep0 T4
    have HPUT:Hid (∀ w5 W,IsMp w5 d.mb (updF (fun y=>(d.f y).map vNv) a (some (vNv u))) (mbnd+1)→Tch [d.mb] w4.drew w5→Tch [] w5 W→Calls Tryz.prog 136 #[.pointer (some ⟨db,0,none⟩),vNv z] W fun e w'=>e=.returned (.int .i64 d.ov.nx)∧(IsDr w' db { d with f:=updN (updN d.f a (some u)) d.ov.nx (some z),fresh:=d.fresh+1 } H0∧Tch [db,d.mb] W w')):=fun w5 W hm t5 t6=>by
     have h5:=(set_lay HDR.out h0 ha T4.drew (hgd.keep0 (Tch.refl [] w4).drew) (hn2.keep (Tch.refl [] w4).drew (by simp)) hm t5).keep0 t6
     have hL:∀ c ∈ [d.mb],∀ cs,w4.drew.heap[c]?≠some (.cells cs 9 (0,0))∧w4.drew.heap[c]?≠some (.cells cs 3 (0,0)):=fun c hc cs=>by
      simp only [List.mem_singleton] at hc
      subst hc
      exact ⟨fun e=>h4.ns.mp.ne  e rfl,fun e=>h4.ns.mp.ne e rfl⟩
     have hz5:Gd W z:=((hgdz.keep0 (Tch.refl [] w4).drew).kept t5 hL).keep0 t6
     refine put_any db H0 { d with f:=updN d.f a (some u) } z W h5 hz5 ?_ ?_ (by simp only; omega) ?_
     · exact own_base (own_keep (own_keep (hnz2.hi.drew) t5 (fun k hk hm2=>by obtain ⟨cs,hc⟩:=own_kind hnz2.hi hk; exact (hL k hm2 cs).2 hc)) t6 (fun _ _=>by simp)) h0
     · intro y q hy
       simp only at hy
       unfold updN at hy
       split at hy
       · cases hy; exact hap.symm
       · exact own_apart' hnz2.hi (HDR.out.own y q hy) (Nat.le_refl _)
     · exact hnz2.hig h0
    have hMW:=HMP.out w4.drew T4.drew
    have c2:=HC2.out w4 T4
    have HK:Hid (∀ W,Tch [d.mb] w4.drew W→W.cell? ⟨g,4,none⟩=some (.bool z.leaf)∧W.cell? ⟨g,5,none⟩=some (.slice z.ka z.kn z.kc)∧W.cell? ⟨g,6,none⟩=some (.slice z.va z.vn z.vc)∧W.cell? ⟨g,7,none⟩=some (.slice z.ia z.im z.ic)):=fun W t=>by
     have h:=t.keep (show w4.drew.heap[g]?=_ from hb) (by simp; exact fun e=>h4.ns.mp.ne hb e.symm)
     exact ⟨by rw [blk_cell h]; rfl,by rw [blk_cell h]; rfl,by rw [blk_cell h]; rfl,by rw [blk_cell h]; rfl⟩
    have k0:=blk_cell hb 0
    have k1:=blk_cell hb 1
    have k2:=blk_cell hb 2
    have k3:=blk_cell hb 3
    simp only [fNv,List.flatMap_cons,List.flatMap_nil,List.append_nil,List.cons_append,List.nil_append,gA,gZ,gS] at k0 k1 k2 k3
    have HOFF:Hid (∀ r,w4.heap.size≤r→∀ y q,updN (updN d.f a (some u)) d.ov.nx (some z) y=some q→Off r q):=fun r hr y q hy=>by
     unfold updN at hy
     split at hy
     · cases hy; exact hgdz.off hr
     · split at hy
       · cases hy; exact hgd.off hr
       · exact (HDR.out.ns.gd y q hy).off (Nat.le_trans T4.size hr)
    have HFIN:Hid (∀ w9 v9,IsDr w9 db { d with f:=updN (updN d.f a (some u)) d.ov.nx (some z),fresh:=d.fresh+1 } H0→w9.ownsRow w.heap.size 3 1 v9 2 [.int .i64 a,.int .i64 d.ov.nx]→Tch [db,d.mb] w w9→SetPost w db H0 d S (.returned v9) w9):=fun w9 v9 h1 h2 h3=>by
     refine ⟨_,v9,rfl,by rw [hS]; exact h2,h1,?_,rfl,rfl,rfl,h3⟩
     have e1:({ d with f:=updN d.f a (some u) }:Dv).ov=d.ov.set a u.nod:=ov_put
     have e2:=ov_new (d:={ d with f:=updN d.f a (some u) }) (u:=z)
     rw [hS,← hun,← hzn,← e1]
     exact e2
    unfold vNv at HPUT
    clear hg hn hn2 hgd hun hS hall hpw hsp hb n0 n1 n2 n3 hlen hgz hnz hnz2 hgdz hzn hap h4
    generalize hNX:d.ov.nx=nx at *
    have HNX:=Lib.hid hNX
    clear hNX
    generalize u.leaf=uleaf at *
    generalize u.ka=uka at *
    generalize u.kn=ukn at *
    generalize u.kc=ukc at *
    generalize u.va=uva at *
    generalize u.vn=uvn at *
    generalize u.vc=uvc at *
    generalize u.ia=uia at *
    generalize u.im=uim at *
    generalize u.ic=uic at *
    generalize z.leaf=zleaf at *
    generalize z.ka=zka at *
    generalize z.kn=zkn at *
    generalize z.kc=zkc at *
    generalize z.va=zva at *
    generalize z.vn=zvn at *
    generalize z.vc=zvc at *
    generalize z.ia=zia at *
    generalize z.im=zim at *
    generalize z.ic=zic at *
    go_wp2_with fail
    go_still_tail 8,(by kernel_rfl)
    change wpList _ _ _ _ _ w4.drew
    go_wp2_with (at_mapUpdate; refine wpList_store_mp _ rfl _ _ _ 124 rfl 138 Tryz.underlying124 d.mb mbnd _ rfl hMW (by unfold mbnd maxLen; omega) a rfl hwx ?_; intro w5 h5 t5)
    obtain ⟨W6,hW6⟩:∃ W6,W6=w5.alloc (.cells #[.int .i64 a] 3):=⟨_,rfl⟩
    rw [← hW6]
    have t6:Tch [] w5 W6:=by rw [hW6]; exact (Tch.refl _ _).alloc _
    have o6:W6.ownsRow w.heap.size 3 1 (.slice (some ⟨w5.heap.size,0,none⟩) 1 1) 1 [.int .i64 a]:=by
     rw [hW6]; exact World.ownsRow_lit w5 #[.int .i64 a] 1 (Nat.le_trans T4.size t5.size) (by unfold maxLen; omega) rfl
    obtain ⟨g0,g1,g2,g3⟩:=HK.out W6 (t5.trans (t6.mono (by simp)))
    have HPU:=Lib.hid (fun W t=>HPUT.out w5 W h5 t5 (t6.trans t))
    have HT6:=Lib.hid ((T4.drew.mono (L':=[d.mb]) (by simp)).trans (t5.trans (t6.mono (by simp))))
    have HO6:=Lib.hid o6
    have HW5:Hid (w4.heap.size≤w5.heap.size):=t5.size
    clear hW6 h5 t5 HPUT o6 t6
    refine wp_loop_rounds 2 ?_
    rw [rounds_succ]; go_wp2_with fail
    refine (HPU.out _ ((Tch.refl _ _).alloc _)).mono ?_
    rintro e w8 ⟨rfl,hdr,t8⟩
    have tA:Tch [] W6 (W6.alloc (.cells #[.bool zleaf,.slice zka zkn zkc,.slice zva zvn zvc,.slice zia zim zic] 138)):=(Tch.refl _ _).alloc _
    have T8:=(HT6.out.mono (L':=[db,d.mb]) (by simp)).trans ((tA.mono (by simp)).trans t8)
    have hB8:w.heap.size≤w8.heap.size:=T8.size
    have o8:=own_keep (HO6.out.alloc (.cells #[.bool zleaf,.slice zka zkn zkc,.slice zva zvn zvc,.slice zia zim zic] 138)) t8 (fun k hk hm=>by
     have:=(HO6.out.lt k hk).1
     simp only [List.mem_cons,List.not_mem_nil,or_false] at hm
     rcases hm with rfl | rfl <;> omega)
    have HDR8:=Lib.hid hdr
    have HT8:=Lib.hid T8
    clear hdr t8 tA T8 g0 g1 g2 g3
    go_wp2_with (at_builtin; refine wpList_append_own _ rfl _ _ 50 rfl w.heap.size 3 i0 _ 1 8 Tryz.underlying50 hi hz0 hz1 hz2 rfl (by decide) _ 1 _ rfl (o8.alloc _) ⟨w8.heap.size,0,none⟩ 1 1 [.int .i64 nx] rfl rfl (cell_one_new _ _ _) (by simp [Value.oneCell']) (by unfold maxLen; omega) (by omega) (by simp; omega) ?_; intro v9 w9 o9 hg9 _)
    rw [rounds_succ]; go_wp2_with fail
    go_ret
    have t9:Tch [w5.heap.size] w8 w9:=⟨hg9.os,hg9.tape,hg9.output,Nat.le_trans (by simp) hg9.size,fun q hq hn=>by
     rw [hg9.block q (by simp; omega) (show some q≠some w5.heap.size from fun e=>hn (by cases e; simp))]
     exact Below.heap_alloc _ _ _ hq⟩
    have hw5:w4.heap.size≤w5.heap.size:=HW5.out
    have hle:=T4.size
    refine HFIN.out w9 v9 (HDR8.out.keepR t9 (by omega) (by simp only; omega) (HOFF.out _ hw5)) (by simpa using o9) (HT8.out.transNew t9 (fun m hm=>Or.inr (by simp at hm; omega)))
theorem settle_any (db H0:Nat) (d:Dv) (v:Nv) (a:Int) (w:World) (hd:IsDr w db d H0) (h0:H0≤w.heap.size) (hv:Gd w v) (ha:0≤a∧a < topN) (hfr:d.fresh < 199999999) :
 Calls Tryz.prog 169 #[.pointer (some ⟨db,0,none⟩),.int .i64 a,vNv v] w (SetPost w db H0 d (settle d.ov a v.nod)):=by
 by_cases h:v.es=[]
 · exact settle_none_any db H0 d v a w hd hv ha h
 · exact settle_some_any db H0 d v a w hd h0 hv ha h hfr
end Go.Proofs.YtlkgnljdpakkcaaGreatDoor
/-
 What each step of a change asks of what it calls. Plain; of no program.
-/
namespace Go.Proofs.YtlkgnljdpakkcaaGreatDoor
structure StepOk (B:Int→Nod) (s:Ov) (h:Nat) (a:Int) (c:Ch):Prop where
 leaf:(s.m B a).leaf=false
 val:∀ e ∈ (s.m B a).es,e.val=⟨#[]⟩
 srt:Srt (s.m B a).es
 rng:1≤kidAt (s.m B a).es (plcN (s.m B a).es c.key)∧kidAt (s.m B a).es (plcN (s.m B a).es c.key) < topN
 len:(s.m B a).es.length≤400
 pl:plcN (s.m B a).es c.key < (s.m B a).es.length
 k1:Sh (s.m B) h (kidAt (s.m B a).es (plcN (s.m B a).es c.key))
 k2:Srt (flat (s.m B) h (kidAt (s.m B a).es (plcN (s.m B a).es c.key)))
 k3:∀ x,(nums (s.m B) h (kidAt (s.m B a).es (plcN (s.m B a).es c.key))).count x≤1
 k4:∀ x ∈ nums (s.m B) h (kidAt (s.m B a).es (plcN (s.m B a).es c.key)),x < s.nx
 k5:1≤h→2≤(s.m B (kidAt (s.m B a).es (plcN (s.m B a).es c.key))).es.length
 same:(altB B h s (kidAt (s.m B a).es (plcN (s.m B a).es c.key)) c).1.m B a=s.m B a
 num:∀ t ∈ (altB B h s (kidAt (s.m B a).es (plcN (s.m B a).es c.key)) c).2,Sh ((altB B h s (kidAt (s.m B a).es (plcN (s.m B a).es c.key)) c).1.m B) h t∧1≤t∧t < topN
 two:(altB B h s (kidAt (s.m B a).es (plcN (s.m B a).es c.key)) c).2.length≤2
 m1:∀ e' ∈ withKids B (altB B h s (kidAt (s.m B a).es (plcN (s.m B a).es c.key)) c).1 (s.m B a).es (plcN (s.m B a).es c.key) (plcN (s.m B a).es c.key+1) (altB B h s (kidAt (s.m B a).es (plcN (s.m B a).es c.key)) c).2,Sh ((altB B h s (kidAt (s.m B a).es (plcN (s.m B a).es c.key)) c).1.m B) h e'.kid∧KE ((altB B h s (kidAt (s.m B a).es (plcN (s.m B a).es c.key)) c).1.m B) e'
 m2:plcN (s.m B a).es c.key < (withKids B (altB B h s (kidAt (s.m B a).es (plcN (s.m B a).es c.key)) c).1 (s.m B a).es (plcN (s.m B a).es c.key) (plcN (s.m B a).es c.key+1) (altB B h s (kidAt (s.m B a).es (plcN (s.m B a).es c.key)) c).2).length
 m3:2≤(withKids B (altB B h s (kidAt (s.m B a).es (plcN (s.m B a).es c.key)) c).1 (s.m B a).es (plcN (s.m B a).es c.key) (plcN (s.m B a).es c.key+1) (altB B h s (kidAt (s.m B a).es (plcN (s.m B a).es c.key)) c).2).length
 m4:∀ j,j≠plcN (s.m B a).es c.key→∀ e',(withKids B (altB B h s (kidAt (s.m B a).es (plcN (s.m B a).es c.key)) c).1 (s.m B a).es (plcN (s.m B a).es c.key) (plcN (s.m B a).es c.key+1) (altB B h s (kidAt (s.m B a).es (plcN (s.m B a).es c.key)) c).2)[j]?=some e'→((altB B h s (kidAt (s.m B a).es (plcN (s.m B a).es c.key)) c).1.m B e'.kid).lean=false
 m5:∀ x,(bnums ((altB B h s (kidAt (s.m B a).es (plcN (s.m B a).es c.key)) c).1.m B) (h+1) (withKids B (altB B h s (kidAt (s.m B a).es (plcN (s.m B a).es c.key)) c).1 (s.m B a).es (plcN (s.m B a).es c.key) (plcN (s.m B a).es c.key+1) (altB B h s (kidAt (s.m B a).es (plcN (s.m B a).es c.key)) c).2)).count x≤1
 m6:∀ x ∈ bnums ((altB B h s (kidAt (s.m B a).es (plcN (s.m B a).es c.key)) c).1.m B) (h+1) (withKids B (altB B h s (kidAt (s.m B a).es (plcN (s.m B a).es c.key)) c).1 (s.m B a).es (plcN (s.m B a).es c.key) (plcN (s.m B a).es c.key+1) (altB B h s (kidAt (s.m B a).es (plcN (s.m B a).es c.key)) c).2),x < (altB B h s (kidAt (s.m B a).es (plcN (s.m B a).es c.key)) c).1.nx
 fr:(altB B h s (kidAt (s.m B a).es (plcN (s.m B a).es c.key)) c).1.fresh≤s.fresh+2 * (h+1)
theorem es_len {leaf:Bool} {es:List En} (hf:∀ e ∈ es,fitA leaf e) (hw:(ndb leaf es).length≤1024):es.length≤400:=by
 have h1:=w_ndb leaf es
 have h2:=wE_ge leaf 3 es (fun e he=>(fitA_w (hf e he)).1)
 omega
theorem step_ok {B:Int→Nod} {c:Ch} (hc:c.ok) (h:Nat) (s:Ov) (a:Int) (hs:Sh (s.m B) (h+1) a) (hsr:Srt (flat (s.m B) (h+1) a)) (hn:∀ x,(nums (s.m B) (h+1) a).count x≤1) (hlt:∀ x ∈ nums (s.m B) (h+1) a,x < s.nx) (h2:2≤(s.m B a).es.length) (htop:16384+(s.fresh:Int)+2 * (((h+1:Nat):Int)+1)≤topN) :
 StepOk B s h a c:=by
 have hlen:=es_len hs.fit (sh_body.1 hs).2.2
 have hleaf0:=hs.1.1
 have hsame0:=hs
 obtain ⟨⟨hleaf,hkids⟩,hne,hw⟩:=hs
 have hK:∀ e ∈ (s.m B a).es,Sh (s.m B) h e.kid∧KE (s.m B) e:=fun e he=>⟨(hkids e he).1,(hkids e he).2.1⟩
 rw [flat_body] at hsr
 obtain ⟨A,e,C,hsp,hp,hA,hC⟩:=kid_place c.key hK hsr hne
 have hfl0:flat (s.m B) (h+1) a=bflat (s.m B) (h+1) (s.m B a).es:=flat_body _ _ _
 have hnu0:nums (s.m B) (h+1) a=a :: bnums (s.m B) (h+1) (s.m B a).es:=nums_body _ _ _
 rw [hnu0] at hn hlt
 have hwf:(ndb false (s.m B a).es).length≤1024:=by rw [hleaf] at hw; exact hw
 clear hw
 rw [hsp] at hK hsr h2 hwf hkids hn hlt
 rw [hsp] at hnu0 hfl0
 obtain ⟨ke1,ke2⟩:=hK e (by simp)
 have hle:=(hkids e (by simp)).2.2
 rw [bflat_app,bflat_app,show bflat (s.m B) (h+1) [e]=flat (s.m B) h e.kid from by simp [bflat]] at hsr
 have hse:Srt (flat (s.m B) h e.kid):=(Srt.app.1 (Srt.app.1 hsr).1).2.1
 rw [bnums_app,bnums_app,show bnums (s.m B) (h+1) [e]=nums (s.m B) h e.kid from by simp [bnums]] at hn hlt
 have hlt':∀ x,(x=a∨x ∈ bnums (s.m B) (h+1) A∨x ∈ nums (s.m B) h e.kid∨x ∈ bnums (s.m B) (h+1) C)→x < s.nx:=fun x hx=>hlt x (by
  simp only [List.mem_cons,List.mem_append]; rcases hx with h | h | h | h
  · exact Or.inl h
  · exact Or.inr (Or.inl (Or.inl h))
  · exact Or.inr (Or.inl (Or.inr h))
  · exact Or.inr (Or.inr h))
 have hb:∀ x,(if a=x then 1 else 0)+(bnums (s.m B) (h+1) A).count x+(nums (s.m B) h e.kid).count x+(bnums (s.m B) (h+1) C).count x≤1:=fun x=>by
  have:=hn x
  simp only [List.count_append,List.count_cons,beq_iff_eq] at this
  omega
 have two:=nonlean_two ke1 hle
 have r:=altB_ok hc h s e.kid ke1 hse (fun x=>by have:=hb x; omega) (fun x hx=>hlt' x (Or.inr (Or.inr (Or.inl hx)))) (fun _=>two.1) (by push_cast at htop ⊢; omega)
 have hrne:(altB B h s e.kid c).2≠[]:=r.ne (fun e0=>by
  have:=(altL_w hc hse).2.2
  rw [e0] at this; simp at this; omega)
 generalize hst:altB B h s e.kid c=st at r hrne
 obtain ⟨R1,cnt1,nil1⟩:=r.cnt
 have hfr0:=r.fr0
 have hfr1:=r.fr1
 have hnx:s.nx≤st.1.nx:=by unfold Ov.nx; omega
 have hAC:∀ x,x=a∨x ∈ bnums (s.m B) (h+1) A∨x ∈ bnums (s.m B) (h+1) C→st.1.N x=s.N x:=fun x hx=>by
  have hx1:1≤(if a=x then 1 else 0)+(bnums (s.m B) (h+1) A).count x+(bnums (s.m B) (h+1) C).count x:=by
   rcases hx with hx | hx | hx
   · rw [if_pos hx.symm]; omega
   · have:=count_mem hx; omega
   · have:=count_mem hx; omega
  have:=hb x
  refine r.same x (fun hm=>?_) (fun hm=>?_)
  · have:=count_mem hm; omega
  · have h3:=(frs_mem.1 hm).1
    have h4:=hlt' x (by rcases hx with h | h | h; exact Or.inl h; exact Or.inr (Or.inl h); exact Or.inr (Or.inr (Or.inr h)))
    unfold Ov.nx at h4; omega
 obtain ⟨a1,a2,a3,a4⟩:=kids_keep (M':=st.1.m B) (h:=h) (es:=A) (fun x hx=>m_same (hAC x (Or.inr (Or.inl hx))))
 obtain ⟨d1,d2,d3,d4⟩:=kids_keep (M':=st.1.m B) (h:=h) (es:=C) (fun x hx=>m_same (hAC x (Or.inr (Or.inr hx))))
 have hold:∀ t ∈ st.2,t ∈ nums (s.m B) h e.kid++frs s.fresh st.1.fresh:=fun t ht=>by
  refine mem_count ?_
  rw [← cnt1 t,List.count_append]
  have:=count_mem (List.mem_flatMap.2 ⟨t,ht,nums_self (st.1.m B) h t⟩)
  omega
 have hup:∀ x,x ∈ nums (s.m B) h e.kid++frs s.fresh st.1.fresh→x < st.1.nx:=fun x hx=>by
  rcases List.mem_append.1 hx with h6 | h6
  · have:=hlt' x (Or.inr (Or.inr (Or.inl h6))); omega
  · have:=frs_mem.1 h6; unfold Ov.nx; omega
 have htn:∀ t ∈ st.2,1≤t∧t < topN:=fun t ht=>by
  have h3:=hup t (hold t ht)
  refine ⟨?_,by unfold Ov.nx at h3; push_cast at htop; omega⟩
  rcases r.one with h4 | h4 | ⟨b,h4,h5,_⟩
  · rw [h4] at ht; simp at ht
  · rw [h4] at ht; simp at ht; subst ht; exact ke2.2.1
  · rw [h4] at ht
    simp only [List.mem_cons,List.not_mem_nil,or_false] at ht
    rcases ht with rfl | rfl
    · exact ke2.2.1
    · omega
 have hkt:∀ t ∈ st.2,Sh (st.1.m B) h t∧1≤t∧t < topN:=fun t ht=>⟨r.sh t ht,htn t ht⟩
 have hb1:bnums (st.1.m B) (h+1) (A++st.2.map (kidE B st.1)++C)=bnums (s.m B) (h+1) A++st.2.flatMap (nums (st.1.m B) h)++bnums (s.m B) (h+1) C:=by rw [bnums_app,bnums_app,kids_nums,a2,d2]
 have hf1:bflat (st.1.m B) (h+1) (A++st.2.map (kidE B st.1)++C)=altL (flat (s.m B) (h+1) a) c:=by
  rw [bflat_app,bflat_app,kids_flat,r.flat,a1,d1,hfl0,bflat_app,bflat_app,show bflat (s.m B) (h+1) [e]=flat (s.m B) h e.kid from by simp [bflat],altL_mid _ _ _ c hA hC]
 have hcx:∀ x,(st.2.flatMap (nums (st.1.m B) h)).count x+R1.count x=(nums (s.m B) h e.kid).count x+(frs s.fresh st.1.fresh).count x:=fun x=>by
  have:=cnt1 x
  simp only [List.count_append] at this
  exact this
 have hf01:∀ (x:Int) (i j:Nat),(frs i j).count x≤1:=fun x i j=>(List.nodup_iff_count.1 (frs_nodup i j)) x
 have hfz:∀ (x:Int) (i j:Nat),(x < 16384+(i:Int)∨16384+(j:Int)≤x)→(frs i j).count x=0:=fun x i j hx=>count_not (fun hm=>by have:=frs_mem.1 hm; omega)
 have hn1:∀ x,(bnums (st.1.m B) (h+1) (A++st.2.map (kidE B st.1)++C)).count x≤1:=fun x=>by
  rw [hb1]
  simp only [List.count_append]
  have q1:=hcx x
  have q2:=hb x
  have q3:=hf01 x s.fresh st.1.fresh
  by_cases hx:x < s.nx
  · have:=hfz x s.fresh st.1.fresh (Or.inl hx); omega
  · have g1:(bnums (s.m B) (h+1) A).count x=0:=count_not (fun hm=>hx (hlt' x (Or.inr (Or.inl hm))))
    have g2:(nums (s.m B) h e.kid).count x=0:=count_not (fun hm=>hx (hlt' x (Or.inr (Or.inr (Or.inl hm)))))
    have g3:(bnums (s.m B) (h+1) C).count x=0:=count_not (fun hm=>hx (hlt' x (Or.inr (Or.inr (Or.inr hm)))))
    omega
 have hl1:∀ x ∈ bnums (st.1.m B) (h+1) (A++st.2.map (kidE B st.1)++C),x < st.1.nx:=fun x hx=>by
  rw [hb1] at hx
  rcases List.mem_append.1 hx with hx | hx
  · rcases List.mem_append.1 hx with hx | hx
    · have:=hlt' x (Or.inr (Or.inl hx)); omega
    · refine hup x (mem_count ?_)
      rw [List.count_append]
      have:=count_mem hx
      have:=hcx x
      omega
  · have:=hlt' x (Or.inr (Or.inr (Or.inr hx))); omega
 have hts:1≤st.2.length∧st.2.length≤2:=by
  rcases r.one with h4 | h4 | ⟨b,h4,_⟩
  · exact absurd h4 hrne
  · rw [h4]; simp
  · rw [h4]; simp
 have hK1:∀ e' ∈ A++st.2.map (kidE B st.1)++C,Sh (st.1.m B) h e'.kid∧KE (st.1.m B) e':=fun e' he=>by
  simp only [List.mem_append] at he
  rcases he with (he | he) | he
  · exact a3 e' he (hK e' (by simp [he]))
  · exact kids_ok hkt e' he
  · exact d3 e' he (hK e' (by simp [he]))
 have hlean1:∀ j,j≠A.length→∀ e',(A++st.2.map (kidE B st.1)++C)[j]?=some e'→(st.1.m B e'.kid).lean=false:=by
  have hAl:∀ e' ∈ A,(st.1.m B e'.kid).lean=false:=fun e' he=>by rw [a4 e' he]; exact (hkids e' (by simp [he])).2.2
  have hCl:∀ e' ∈ C,(st.1.m B e'.kid).lean=false:=fun e' he=>by rw [d4 e' he]; exact (hkids e' (by simp [he])).2.2
  intro j hj e' he'
  rcases r.one with h4 | h4 | ⟨b,h4,_,h5,h6⟩
  · exact absurd h4 hrne
  · rw [h4] at he'
    rcases Nat.lt_or_ge j A.length with h7 | h7
    · rw [List.append_assoc,List.getElem?_append_left h7] at he'
      exact hAl e' (List.mem_of_getElem? he')
    · rw [List.getElem?_append_right (by simp; omega)] at he'
      exact hCl e' (List.mem_of_getElem? he')
  · have:=List.mem_of_getElem? he'
    rw [h4] at this
    simp only [List.mem_append,List.map_cons,List.map_nil,List.mem_cons,List.not_mem_nil,or_false] at this
    rcases this with (h7 | h7 | h7) | h7
    · exact hAl e' h7
    · subst h7; exact h5
    · subst h7; exact h6
    · exact hCl e' h7
 have hval:∀ e' ∈ (s.m B a).es,e'.val=⟨#[]⟩:=fun e' he=>by rw [hsp] at he; exact (hK e' he).2.1
 have hsrt:Srt (s.m B a).es:=by
  rw [hsp]
  refine kids_srt hK ?_
  rw [bflat_app,bflat_app,show bflat (s.m B) (h+1) [e]=flat (s.m B) h e.kid from by simp [bflat]]
  exact hsr
 have hkid:kidAt (s.m B a).es (plcN (s.m B a).es c.key)=e.kid:=by rw [hp,hsp,kidAt_at]
 have hwk:withKids B st.1 (s.m B a).es (plcN (s.m B a).es c.key) (plcN (s.m B a).es c.key+1) st.2=A++st.2.map (kidE B st.1)++C:=by rw [hp,hsp,withKids_at]
 have hpl:plcN (s.m B a).es c.key < (s.m B a).es.length:=by rw [hp,hsp]; simp
 refine ⟨hleaf0,hval,hsrt,?_,hlen,hpl,?_,?_,?_,?_,?_,?_,?_,?_,?_,?_,?_,?_,?_,?_,?_⟩
 all_goals first | rw [hkid] | skip
 all_goals first | rw [hst] | skip
 all_goals first | rw [hwk] | skip
 · exact ⟨ke2.2.1,ke2.2.2.1⟩
 · exact ke1
 · exact hse
 · exact fun x=>by have:=hb x; omega
 · exact fun x hx=>hlt' x (Or.inr (Or.inr (Or.inl hx)))
 · exact fun _=>two.1
 · exact m_same (hAC a (Or.inl rfl))
 · exact hkt
 · exact hts.2
 · exact hK1
 · rw [hp]; simp; omega
 · simp at h2 ⊢; omega
 · rw [hp]; exact hlean1
 · exact hn1
 · exact hl1
 · exact hfr1
theorem kid_fit {M:Int→Nod} {h:Nat} {e:En} (hk:Sh M h e.kid∧KE M e):fitA false e:=by
 obtain ⟨h1,h2,h3,h4,h5⟩:=hk
 have:=fk_size h1
 rw [← h5] at this
 unfold fitA
 rw [if_neg (by simp)]
 exact ⟨this.1,this.2,by omega,h4⟩
structure MendSide (B:Int→Nod) (s:Ov) (h:Nat) (es:List En) (i:Nat) (S:Ov × List Int):Prop where
 f:i - 1+1 < es.length
 l:1≤kidAt es (i - 1)∧kidAt es (i - 1) < topN
 r:1≤kidAt es (i - 1+1)∧kidAt es (i - 1+1) < topN
 leaf:(s.m B (kidAt es (i - 1+1))).leaf=(s.m B (kidAt es (i - 1))).leaf
 sl:Sh (s.m B) h (kidAt es (i - 1))
 sr:Sh (s.m B) h (kidAt es (i - 1+1))
 num:∀ t ∈ S.2,Sh (S.1.m B) h t∧1≤t∧t < topN
 fit:∀ e ∈ withKids B S.1 es (i - 1) (i - 1+2) S.2,fitA false e
 fr:S.1.fresh≤s.fresh+1
theorem mend_side {B:Int→Nod} {s:Ov} {h:Nat} {es:List En} {i:Nat} (hk:∀ e ∈ es,Sh (s.m B) h e.kid∧KE (s.m B) e) (hi:i < es.length) (h2:2≤es.length)
 (hl:∀ j,j≠i→∀ e,es[j]?=some e→(s.m B e.kid).lean=false) (hn:∀ x,(bnums (s.m B) (h+1) es).count x≤1) (hlt:∀ x ∈ bnums (s.m B) (h+1) es,x < s.nx) (htop:16384+(s.fresh:Int)+1≤topN) (hlean:(s.m B (kidAt es i)).lean=true) :
 MendSide B s h es i (settle (s.set (kidAt es (i - 1+1)) nod0) (kidAt es (i - 1)) ⟨(s.m B (kidAt es (i - 1))).leaf,(s.m B (kidAt es (i - 1))).es++(s.m B (kidAt es (i - 1+1))).es⟩):=by
 have m:=mended_ok hk hi h2 hl hn hlt htop
 have hf:i - 1+1 < es.length:=by omega
 have hmem:∀ j,j < es.length→∃ e ∈ es,e.kid=kidAt es j:=fun j hj=>⟨es[j],List.getElem_mem hj,by unfold kidAt; rw [List.getD_eq_getElem?_getD,List.getElem?_eq_getElem hj]; rfl⟩
 obtain ⟨e1,h3,h4⟩:=hmem (i - 1) (by omega)
 obtain ⟨e2,h5,h6⟩:=hmem (i - 1+1) hf
 obtain ⟨a1,a2⟩:=hk e1 h3
 obtain ⟨b1,b2⟩:=hk e2 h5
 rw [h4] at a1
 rw [h6] at b1
 have hmd:mended B s es i=((settle (s.set (kidAt es (i - 1+1)) nod0) (kidAt es (i - 1)) ⟨(s.m B (kidAt es (i - 1))).leaf,(s.m B (kidAt es (i - 1))).es++(s.m B (kidAt es (i - 1+1))).es⟩).1,
  withKids B (settle (s.set (kidAt es (i - 1+1)) nod0) (kidAt es (i - 1)) ⟨(s.m B (kidAt es (i - 1))).leaf,(s.m B (kidAt es (i - 1))).es++(s.m B (kidAt es (i - 1+1))).es⟩).1 es (i - 1) (i - 1+2)
   (settle (s.set (kidAt es (i - 1+1)) nod0) (kidAt es (i - 1)) ⟨(s.m B (kidAt es (i - 1))).leaf,(s.m B (kidAt es (i - 1))).es++(s.m B (kidAt es (i - 1+1))).es⟩).2):=by
  unfold mended; rw [if_neg (by rw [hlean]; simp)]
 rw [hmd] at m
 generalize settle (s.set (kidAt es (i - 1+1)) nod0) (kidAt es (i - 1)) ⟨(s.m B (kidAt es (i - 1))).leaf,(s.m B (kidAt es (i - 1))).es++(s.m B (kidAt es (i - 1+1))).es⟩=S at m ⊢
 have hkd:=m.kids
 simp only at hkd
 refine ⟨hf,by rw [← h4]; exact ⟨a2.2.1,a2.2.2.1⟩,by rw [← h6]; exact ⟨b2.2.1,b2.2.2.1⟩,?_,a1,b1,fun t ht=>?_,fun e he=>kid_fit ⟨(hkd e he).1,(hkd e he).2.1⟩,m.fr1⟩
 · rw [(sh_body.1 a1).1.leaf_is,(sh_body.1 b1).1.leaf_is]
 · have:=hkd (kidE B S.1 t) (by unfold withKids; simp only [List.mem_append,List.mem_map]; exact Or.inl (Or.inr ⟨t,ht,rfl⟩))
   exact ⟨this.1,this.2.1.2.1,this.2.1.2.2.1⟩
end Go.Proofs.YtlkgnljdpakkcaaGreatDoor
