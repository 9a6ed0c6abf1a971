/-
  Parts of the proof: Men, Nwp.
-/
import Derived.Test.YtlkgnljdpakkcaaGreatDoorM14
import Derived.Test.YtlkgnljdpakkcaaGreatDoorM06
import Derived.BigQuiet
import Derived.Test.YtlkgnljdpakkcaaGreatDoorM05
import Derived.OwnWalk
set_option linter.unusedVariables false
set_option linter.unusedSimpArgs false
/-
 'mended' of a draft: a lean kid is joined with a neighbour. Conditions: those of the tree's shape.
-/
namespace Go.Proofs.YtlkgnljdpakkcaaGreatDoor
open Go.RowKit
def MenPost (w:World) (db H0:Nat) (d:Dv) (s:Ov × List En) (e:Ending) (w':World):Prop :=
 ∃ (d2:Dv) (u:Nv),e=.returned (vNv u)∧Gd w' u∧u.nod=⟨false,s.2⟩∧IsDr w' db d2 H0∧d2.ov=s.1∧d2.root=d.root∧d2.tb=d.tb∧d2.mb=d.mb∧Tch [db,d.mb] w w'
theorem gd_over {w w':World} {db H0:Nat} {d:Dv} {v:Nv} (h:Gd w v) (hd:IsDr w db d H0) (t:Tch [db,d.mb] w w'):Gd w' v:=h.kept t (fun b hb cs=>by
 simp only [List.mem_cons,List.not_mem_nil,or_false] at hb
 rcases hb with rfl | rfl
 · rw [hd.blk]; exact ⟨by simp,by simp⟩
 · exact ⟨fun e=>hd.ns.mp.ne e rfl,fun e=>hd.ns.mp.ne e rfl⟩)
theorem es_upto {w:World} {v:Nv} (h:Gd w v) (hf:∀ e ∈ v.es,fitA v.leaf e) (hv:v.leaf=false→∀ e ∈ v.es,e.val=⟨#[]⟩) (hl:v.es.length≤2000):v.upto 10000000:=by
 have hs:ksum v.es≤v.es.length * 48:=ksum_mem (fun e he=>(fitA_key (hf e he)).2)
 have hvs:vsum v.es≤v.es.length * 200:=vsum_mem (fun e he=>by
  have:=hf e he
  cases hl:v.leaf
  · rw [hv hl e he]; decide
  · rw [hl] at this; unfold fitA at this; simp only [if_true] at this; exact this.2.2.1)
 have h1:(v.keys.map ByteArray.size).sum=ksum v.es:=by rw [← v.keysE]; unfold ksum; rw [List.map_map]; rfl
 have hk:=v.es_len
 have hln:=h.lens
 unfold Nv.lens at hln
 cases hlf:v.leaf
 · rw [hlf] at hln
   simp only [Bool.false_eq_true,if_false,Bool.and_eq_true,beq_iff_eq] at hln
   have h2:v.vals=[]:=List.eq_nil_of_length_eq_zero hln.2
   refine ⟨by omega,by omega,by omega,?_⟩
   rw [h1,h2]; simp; omega
 · rw [hlf] at hln
   simp only [if_true,Bool.and_eq_true,beq_iff_eq] at hln
   have h2:(v.vals.map ByteArray.size).sum=vsum v.es:=by rw [← Nv.valsE h.lens hlf]; unfold vsum; rw [List.map_map]; rfl
   refine ⟨by omega,by omega,by omega,?_⟩
   rw [h1,h2]; omega
theorem sh_upto {M:Int→Nod} {h:Nat} {a:Int} {w:World} {v:Nv} (hg:Gd w v) (hn:v.nod=M a) (hs:Sh M h a):v.upto 10000000:=by
 have e1:v.leaf=(M a).leaf:=by rw [← hn]; rfl
 have e2:v.es=(M a).es:=by rw [← hn]; rfl
 have hl:=es_len hs.fit (sh_body.1 hs).2.2
 refine es_upto hg (by rw [e1,e2]; exact hs.fit) (fun hlf=>?_) (by rw [e2]; omega)
 rw [e2]
 rw [e1] at hlf
 cases h with
 | zero=>rw [hs.1.1] at hlf; cases hlf
 | succ h=>exact fun e he=>(hs.1.2 e he).2.1.1
theorem settle_len (s:Ov) (a:Int) (n:Nod):(settle s a n).2.length≤2:=by
 by_cases h:n.es=[]
 · rw [settle_none s a n h]; simp
 · unfold settle; rw [if_neg h]
   unfold splitN
   split
   · rename_i h1; split at h1 <;> simp at h1
   · rename_i h1
     split at h1 <;> · cases h1; simp [puts]
theorem Gd.offk {w:World} {v:Nv} {r:Nat} (h:Gd w v) (hr:∀ cs,w.heap[r]?≠some (.cells cs 9 (0,0))∧w.heap[r]?≠some (.cells cs 3 (0,0))):Off r v:=by
 refine ⟨fun b hb hm=>?_,fun b hb hm=>?_,fun b hb hm=>?_⟩
 · obtain ⟨cs,hc⟩:=own_kind h.row.hk hb; simp at hm; subst hm; exact (hr cs).1 hc
 · obtain ⟨cs,hc⟩:=own_kind h.row.hv hb; simp at hm; subst hm; exact (hr cs).1 hc
 · obtain ⟨cs,hc⟩:=own_kind h.row.hi hb; simp at hm; subst hm; exact (hr cs).2 hc
theorem kidAt_is {v:Nv} (hl:v.lens=true) (hlf:v.leaf=false) (i:Nat) (h:i < v.es.length):v.kids[i]?=some (kidAt v.es i):=by
 have hk:=Nv.kidsE hl hlf
 rw [← hk,List.getElem?_map]
 unfold kidAt
 rw [List.getD_eq_getElem?_getD,List.getElem?_eq_getElem h]
 rfl
set_option maxRecDepth 100000 in
set_option maxHeartbeats 4000000 in
theorem mended_not (db H0:Nat) (d:Dv) (T:Tv) (v:Nv) (i:Nat) (w:World) (hd:IsDr w db d H0) (ht:IsTr w d.tb T) (hv:Gd w v) (hleaf:v.leaf=false) (hi:i < v.es.length) (hr:0≤kidAt v.es i∧kidAt v.es i < topN) (hil:v.es.length≤2000)
 (hlean:(d.ov.m (mN T.f) (kidAt v.es i)).lean=false) :
 Calls Tryz.prog 170 #[.pointer (some ⟨db,0,none⟩),vNv v,.int .i64 i] w (MenPost w db H0 d (mended (mN T.f) d.ov v.es i)):=by
 obtain ⟨W0,hW0⟩:∃ W0,W0=(w.alloc (.cells #[.bool v.leaf,.slice v.ka v.kn v.kc,.slice v.va v.vn v.vc,.slice v.ia v.im v.ic] 138)).alloc (.cells #[.bool false,.slice none 0 0,.slice none 0 0,.slice none 0 0] 138):=⟨_,rfl⟩
 have T0:Tch [] w W0:=by rw [hW0]; exact ((Tch.refl _ _).alloc _).alloc _
 have hbN:W0.heap[w.heap.size]?=some (.cells #[.bool v.leaf,.slice v.ka v.kn v.kc,.slice v.va v.vn v.vc,.slice v.ia v.im v.ic] 138 (0,0)):=by rw [hW0]; exact blk_alloc (blk_new _ _) _
 have hbR:W0.heap[w.heap.size+1]?=some (.cells #[.bool false,.slice none 0 0,.slice none 0 0,.slice none 0 0] 138 (0,0)):=by
  rw [hW0,show w.heap.size+1=(w.alloc (.cells #[.bool v.leaf,.slice v.ka v.kn v.kc,.slice v.va v.vn v.vc,.slice v.ia v.im v.ic] 138)).heap.size from by simp]; exact blk_new _ _
 have HND:Hid (∀ W,Tch [] w W→Calls Tryz.prog 100 #[.pointer (some ⟨db,0,none⟩),.int .i64 (kidAt v.es i)] W fun e w'=>e=.returned (vNv (d.at_ T (kidAt v.es i)))∧Tch [] W w'):=fun W t=>node_any db H0 d T _ W (hd.keep0 t) (ht.keep0 t) hr
 have HLN:Hid (∀ W,Tch [] w W→Calls Tryz.prog 158 #[vNv (d.at_ T (kidAt v.es i))] W fun e w'=>e=.returned (.bool false)∧Tch [] W w'):=fun W t=>by
  have:=isLean_any (d.at_ T (kidAt v.es i)) W (at_gd (hd.keep0 t) (ht.keep0 t) _)
  rw [at_nod,hlean] at this
  exact this
 have HF:Hid (∀ W,Tch [w.heap.size+1] w W→MenPost w db H0 d (mended (mN T.f) d.ov v.es i) (.returned (vNv v)) W):=fun W t=>by
  have t0:Tch [] w W:=(Tch.refl [] w).transNew t (fun m hm=>Or.inr (by simp at hm; omega))
  refine ⟨d,v,rfl,hv.keep0 t0,?_,hd.keep0 t0,?_,rfl,rfl,rfl,t0.mono (by simp)⟩
  · unfold mended; rw [if_pos hlean]; unfold Nv.nod; rw [hleaf]
  · unfold mended; rw [if_pos hlean]
 have hki:=kidAt_is hv.lens hleaf i hi
 have HK:Hid (∀ W,Tch [] w W→W.cell? ⟨v.ib,v.io+i,none⟩=some (.int .i64 (kidAt v.es i))∧v.ia=some ⟨v.ib,v.io,none⟩):=fun W t=>by
  have r:=(hv.keep0 t).nv.ri
  have hl:=r.hlen
  have:=(List.getElem?_eq_some_iff.1 hki).1
  exact ⟨r.one hki rfl,r.some_ (by omega)⟩
 have hin:(i:Int) < (v.im:Int):=by have:=hv.nv.ri.hlen; have:=(List.getElem?_eq_some_iff.1 hki).1; omega
 have hi0:(0:Int)≤(i:Int):=by omega
 clear hd ht hv hleaf hr hlean hki
 generalize MenPost w db H0 d (mended (mN T.f) d.ov v.es i)=Q at *
 generalize d.at_ T (kidAt v.es i)=u at *
 generalize kidAt v.es i=k at *
 have HCB:Hid (∀ W,Tch [] W0 W→(W.cell? ⟨w.heap.size,0,none⟩=some (.bool v.leaf)∧W.cell? ⟨w.heap.size,1,none⟩=some (.slice v.ka v.kn v.kc)∧W.cell? ⟨w.heap.size,2,none⟩=some (.slice v.va v.vn v.vc)∧W.cell? ⟨w.heap.size,3,none⟩=some (.slice v.ia v.im v.ic)) ∧
  W.heap[w.heap.size+1]?=some (.cells #[.bool false,.slice none 0 0,.slice none 0 0,.slice none 0 0] 138 (0,0))):=fun W t=>by
  have h:=t.keep hbN (by simp)
  exact ⟨⟨by rw [blk_cell h]; rfl,by rw [blk_cell h]; rfl,by rw [blk_cell h]; rfl,by rw [blk_cell h]; rfl⟩,t.keep hbR (by simp)⟩
 obtain ⟨q1,q2⟩:=HK.out W0 T0
 obtain ⟨⟨b0,b1,b2,b3⟩,_⟩:=HCB.out W0 (Tch.refl _ _)
 have HQ2:=Lib.hid q2
 rw [q2] at b3
 have HT0:=Lib.hid T0
 clear hbN hbR q2 T0
 unfold vNv at *
 generalize v.leaf=vleaf at *
 generalize v.ka=vka at *
 generalize v.kn=vkn at *
 generalize v.kc=vkc at *
 generalize v.va=vva at *
 generalize v.vn=vvn at *
 generalize v.vc=vvc at *
 generalize v.ia=via at *
 generalize v.im=vim at *
 generalize v.ic=vic at *
 generalize u.leaf=uleaf at *
 generalize u.ka=uka at *
 generalize u.kn=ukn at *
 generalize u.kc=ukc at *
 generalize u.va=uva at *
 generalize u.vn=uvn at *
 generalize u.vc=uvc at *
 generalize u.ia=uia at *
 generalize u.im=uim at *
 generalize u.ic=uic at *
 go_enter Tryz.func170,Tryz.ntmps170
 go_upto_region 1 with fail
 rw [← hW0]
 clear hW0
 go_wp2_with (first | (refine (HND.out _ HT0.out).mono ?_; rintro e w3 ⟨rfl,t3⟩) | (go_at_call 158; (with_reducible refine (HLN.out _ (HT0.out.trans t3)).mono ?_); rintro e w4 ⟨rfl,t4⟩; obtain ⟨⟨c0,c1,c2,c3⟩,hR⟩:=HCB.out _ (t3.trans t4); have r0:=blk_cell hR 0; have r1:=blk_cell hR 1; have r2:=blk_cell hR 2; have r3:=blk_cell hR 3; simp only [gA,gZ,gS] at r0 r1 r2 r3; have f0:=blk_free hR 0; have f1:=blk_free hR 1; have f2:=blk_free hR 2; have f3:=blk_free hR 3))
 have hW:=blk_put4 hR (.bool vleaf) (.slice vka vkn vkc) (.slice vva vvn vvc) (.slice via vim vic)
 have T7:=(((HT0.out.trans (t3.trans t4)).mono (L':=[w.heap.size+1]) (by simp)).put4 (b:=w.heap.size+1) (by simp) (.bool vleaf) (.slice vka vkn vkc) (.slice vva vvn vvc) (.slice via vim vic))
 have q0:=blk_cell hW 0
 have q1:=blk_cell hW 1
 have q2:=blk_cell hW 2
 have q3:=blk_cell hW 3
 simp only [gA,gZ,gS] at q0 q1 q2 q3
 exact bodyPost_ret (v:=.agg #[.bool vleaf,.slice vka vkn vkc,.slice vva vvn vvc,.slice via vim vic]) (by simp [results,Tryz.results170,go_sem,q0,q1,q2,q3]) rfl (HF.out _ T7)
set_option maxRecDepth 100000 in
set_option maxHeartbeats 4000000 in
theorem mended_lean (db H0 h:Nat) (d:Dv) (T:Tv) (v:Nv) (i:Nat) (w:World) (hd:IsDr w db d H0) (hT:∀ W,Tch [db,d.mb] w W→IsTr W d.tb T) (h0:H0≤w.heap.size) (hv:Gd w v) (hleaf:v.leaf=false) (hi:i < v.es.length) (hr:0≤kidAt v.es i∧kidAt v.es i < topN) (hil:v.es.length≤1000) (hval:∀ e ∈ v.es,e.val=⟨#[]⟩)
 (hlean:(d.ov.m (mN T.f) (kidAt v.es i)).lean=true) (hfr:d.fresh < 199999990)
 (hm:MendSide (mN T.f) d.ov h v.es i (settle (d.ov.set (kidAt v.es (i - 1+1)) nod0) (kidAt v.es (i - 1)) ⟨(d.ov.m (mN T.f) (kidAt v.es (i - 1))).leaf,(d.ov.m (mN T.f) (kidAt v.es (i - 1))).es++(d.ov.m (mN T.f) (kidAt v.es (i - 1+1))).es⟩)) :
 Calls Tryz.prog 170 #[.pointer (some ⟨db,0,none⟩),vNv v,.int .i64 i] w (MenPost w db H0 d (mended (mN T.f) d.ov v.es i)):=by
 have ht:IsTr w d.tb T:=hT w (Tch.refl _ _)
 obtain ⟨W0,hW0⟩:∃ W0,W0=(w.alloc (.cells #[.bool v.leaf,.slice v.ka v.kn v.kc,.slice v.va v.vn v.vc,.slice v.ia v.im v.ic] 138)).alloc (.cells #[.bool false,.slice none 0 0,.slice none 0 0,.slice none 0 0] 138):=⟨_,rfl⟩
 have T0:Tch [] w W0:=by rw [hW0]; exact ((Tch.refl _ _).alloc _).alloc _
 have hbN:W0.heap[w.heap.size]?=some (.cells #[.bool v.leaf,.slice v.ka v.kn v.kc,.slice v.va v.vn v.vc,.slice v.ia v.im v.ic] 138 (0,0)):=by rw [hW0]; exact blk_alloc (blk_new _ _) _
 have hbR:W0.heap[w.heap.size+1]?=some (.cells #[.bool false,.slice none 0 0,.slice none 0 0,.slice none 0 0] 138 (0,0)):=by
  rw [hW0,show w.heap.size+1=(w.alloc (.cells #[.bool v.leaf,.slice v.ka v.kn v.kc,.slice v.va v.vn v.vc,.slice v.ia v.im v.ic] 138)).heap.size from by simp]; exact blk_new _ _
 have HND:Hid (∀ (k:Int) W,Tch [] w W→0≤k∧k < (topN:Int)→Calls Tryz.prog 100 #[.pointer (some ⟨db,0,none⟩),.int .i64 k] W fun e w'=>e=.returned (vNv (d.at_ T k))∧Tch [] W w'):=fun k W t hk=>node_any db H0 d T _ W (hd.keep0 t) (ht.keep0 t) hk
 have HLN:Hid (∀ W,Tch [] w W→Calls Tryz.prog 158 #[vNv (d.at_ T (kidAt v.es i))] W fun e w'=>e=.returned (.bool true)∧Tch [] W w'):=fun W t=>by
  have:=isLean_any (d.at_ T (kidAt v.es i)) W (at_gd (hd.keep0 t) (ht.keep0 t) _)
  rw [at_nod,hlean] at this
  exact this
 obtain ⟨l,hl⟩:∃ l,l=kidAt v.es (i - 1):=⟨_,rfl⟩
 obtain ⟨r,hrr⟩:∃ r,r=kidAt v.es (i - 1+1):=⟨_,rfl⟩
 have hls:=at_nod d T l
 have hrs:=at_nod d T r
 have hjl:∀ W,Tch [] w W→Gd W (d.at_ T l):=fun W t=>at_gd (hd.keep0 t) (ht.keep0 t) l
 have hjr:∀ W,Tch [] w W→Gd W (d.at_ T r):=fun W t=>at_gd (hd.keep0 t) (ht.keep0 t) r
 have hul:(d.at_ T l).upto 10000000:=sh_upto (hjl w (Tch.refl _ _)) hls (by rw [hl]; exact hm.sl)
 have hur:(d.at_ T r).upto 10000000:=sh_upto (hjr w (Tch.refl _ _)) hrs (by rw [hrr]; exact hm.sr)
 have HJN:Hid (∀ W,Tch [] w W→Calls Tryz.prog 206 #[vNv (d.at_ T l),vNv (d.at_ T r)] W fun e w'=>∃ u:Nv,e=.returned (vNv u)∧Gd w' u∧u.nod=⟨(d.ov.m (mN T.f) l).leaf,(d.ov.m (mN T.f) l).es++(d.ov.m (mN T.f) r).es⟩∧Tch [] W w'):=fun W t=>by
  refine (njoin_any (d.at_ T l) (d.at_ T r) W (hjl W t).nv (hjr W t).nv (hjl W t).ok (hjr W t).ok hul hur).mono ?_
  rintro e w' ⟨t1,u,he,hg,hn,_⟩
  refine ⟨u,he,⟨hg.nv,hg.lens,hg.ok,hg.caps,hn.base (Nat.zero_le _)⟩,?_,t1⟩
  have hlf:(d.at_ T r).leaf=(d.at_ T l).leaf:=by
   have e1:(d.at_ T r).leaf=(d.ov.m (mN T.f) r).leaf:=by rw [← hrs]; rfl
   have e2:(d.at_ T l).leaf=(d.ov.m (mN T.f) l).leaf:=by rw [← hls]; rfl
   rw [e1,e2,hl,hrr]; exact hm.leaf
  rw [← hls,← hrs]
  unfold Nv.nod
  rw [hg.leaf,hg.es,← hlf]
  rfl
 have hne:d.mb≠db:=hd.ns.mp.ne hd.blk
 have hl0:=lt_of_block hd.blk
 have hmbl:d.mb < w.heap.size:=by obtain ⟨D,⟨es,clock,hb,_⟩,_⟩:=hd.ns.mp; exact lt_of_block hb
 have hlr:1≤l∧l < topN:=by rw [hl]; exact hm.l
 have hrr2:1≤r∧r < topN:=by rw [hrr]; exact hm.r
 obtain ⟨S,hS⟩:∃ S,S=settle (d.ov.set r nod0) l ⟨(d.ov.m (mN T.f) l).leaf,(d.ov.m (mN T.f) l).es++(d.ov.m (mN T.f) r).es⟩:=⟨_,rfl⟩
 have hmS:MendSide (mN T.f) d.ov h v.es i S:=by rw [hS,hl,hrr]; exact hm
 have hmd:mended (mN T.f) d.ov v.es i=(S.1,withKids (mN T.f) S.1 v.es (i - 1) (i - 1+2) S.2):=by
  unfold mended; rw [if_neg (by rw [hlean]; simp),hS,hl,hrr]
 clear hm
 have HDR:Hid (∀ W,Tch [] w W→Calls Tryz.prog 171 #[.pointer (some ⟨db,0,none⟩),.int .i64 r] W fun e w'=>e=.returned (.tuple #[])∧(IsDr w' db { d with f:=updN d.f r (some nvz) } H0∧Tch [d.mb] W w')):=fun W t=>drop_any db H0 d r W (hd.keep0 t) ⟨by omega,hrr2.2⟩
 have HST:Hid (∀ W u,IsDr W db { d with f:=updN d.f r (some nvz) } H0→w.heap.size≤W.heap.size→Gd W u→u.nod=⟨(d.ov.m (mN T.f) l).leaf,(d.ov.m (mN T.f) l).es++(d.ov.m (mN T.f) r).es⟩→Calls Tryz.prog 169 #[.pointer (some ⟨db,0,none⟩),.int .i64 l,vNv u] W fun e w'=>∃ (d2:Dv) (x:Option Addr) (c:Nat),e=.returned (.slice x S.2.length c)∧w'.ownsRow W.heap.size 3 1 (.slice x S.2.length c) S.2.length (S.2.map (Value.int .i64))∧IsDr w' db d2 H0∧d2.ov=S.1∧d2.root=d.root∧d2.tb=d.tb∧d2.mb=d.mb∧Tch [db,d.mb] W w'):=fun W u h1 h2 h3 h4=>by
  refine (settle_any db H0 { d with f:=updN d.f r (some nvz) } u l W h1 (Nat.le_trans h0 h2) h3 ⟨by omega,hlr.2⟩ (by simp only; omega)).mono ?_
  rintro e w' ⟨d2,x,rfl,hx,hd2,ho,e1,e2,e3,t⟩
  rw [ov_put,h4,nvz_nod,← hS] at ho hx
  obtain ⟨y,c,rfl⟩:=own_slice hx
  exact ⟨d2,y,c,rfl,hx,hd2,ho,e1,e2,e3,t⟩
 have HWK:Hid (∀ W (d2:Dv) (x:Option Addr) (c B:Nat),Tch [db,d.mb] w W→IsDr W db d2 H0→d2.tb=d.tb→d2.ov=S.1→Gd W v→W.ownsRow B 3 1 (.slice x S.2.length c) S.2.length (S.2.map (Value.int .i64))→Calls Tryz.prog 140 #[.pointer (some ⟨db,0,none⟩),vNv v,.int .i64 (i - 1:Nat),.int .i64 (((i - 1:Nat):Int)+2),.slice x S.2.length c] W (NodePost W ⟨false,(mended (mN T.f) d.ov v.es i).2⟩)):=fun W d2 x c B t h1 h2 h3 h4 h5=>by
  have hS2:S.2.length≤2:=by rw [hS]; exact settle_len _ _ _
  have hcap:=own_caps h5
  obtain ⟨b,hb,_⟩:=IsR.own (f:=fInt) (sz:=1) (fun _=>rfl) (show W.ownsRow B 3 1 (.slice x S.2.length c) S.2.length (S.2.flatMap fInt) from by rw [show S.2.flatMap fInt=S.2.map (Value.int .i64) from fl_one _ _]; exact h5) rfl
  rw [show (((i - 1:Nat):Int)+2)=((i - 1+2:Nat):Int) from by omega]
  rw [hmd,← h3]
  refine withKids_any db H0 d2 T v (i - 1) (i - 1+2) x S.2.length c b 0 S.2 W h1 (by rw [h2]; exact hT W t) h4 hleaf (by omega) (by have:=hmS.f; omega) hb hcap.2.2.2 (fun k hk=>?_) (by omega) (by omega) (by rw [h3]; exact hmS.fit) hval
  have:=hmS.num k hk
  rw [h3]
  exact ⟨by omega,this.2.2,this.1.ne⟩
 have hki:=kidAt_is hv.lens hleaf i hi
 have HK:Hid (∀ W,Tch [] w W→∀ j,j < v.es.length→W.cell? ⟨v.ib,v.io+j,none⟩=some (.int .i64 (kidAt v.es j))∧v.ia=some ⟨v.ib,v.io,none⟩):=fun W t j hj=>by
  have r:=(hv.keep0 t).nv.ri
  have hl:=r.hlen
  have hki:=kidAt_is hv.lens hleaf j hj
  have:=(List.getElem?_eq_some_iff.1 hki).1
  exact ⟨r.one hki rfl,r.some_ (by omega)⟩
 have him:v.im=v.es.length:=by rw [hv.im,hleaf]; rfl
 have hin:(i:Int) < (v.im:Int):=by omega
 have hin1:((i - 1:Nat):Int) < (v.im:Int):=by omega
 have hin2:((i - 1+1:Nat):Int) < (v.im:Int):=by have:=hmS.f; omega
 have hi0:(0:Int)≤(i:Int):=by omega
 have hi2:(i:Int)≤1000:=by omega
 have HCB:Hid (∀ W,Tch [db,d.mb] W0 W→(W.cell? ⟨w.heap.size,0,none⟩=some (.bool v.leaf)∧W.cell? ⟨w.heap.size,1,none⟩=some (.slice v.ka v.kn v.kc)∧W.cell? ⟨w.heap.size,2,none⟩=some (.slice v.va v.vn v.vc)∧W.cell? ⟨w.heap.size,3,none⟩=some (.slice v.ia v.im v.ic)) ∧
  W.heap[w.heap.size+1]?=some (.cells #[.bool false,.slice none 0 0,.slice none 0 0,.slice none 0 0] 138 (0,0))):=fun W t=>by
  have h:=t.keep hbN (by simp; omega)
  exact ⟨⟨by rw [blk_cell h]; rfl,by rw [blk_cell h]; rfl,by rw [blk_cell h]; rfl,by rw [blk_cell h]; rfl⟩,t.keep hbR (by simp; omega)⟩
 have HCC:Hid (∀ W,Tch [db,d.mb,w.heap.size+1] W0 W→(W.cell? ⟨w.heap.size,0,none⟩=some (.bool v.leaf)∧W.cell? ⟨w.heap.size,1,none⟩=some (.slice v.ka v.kn v.kc)∧W.cell? ⟨w.heap.size,2,none⟩=some (.slice v.va v.vn v.vc)∧W.cell? ⟨w.heap.size,3,none⟩=some (.slice v.ia v.im v.ic))):=fun W t=>by
  have h:=t.keep hbN (by simp; omega)
  exact ⟨by rw [blk_cell h]; rfl,by rw [blk_cell h]; rfl,by rw [blk_cell h]; rfl,by rw [blk_cell h]; rfl⟩
 have hXR0:w.heap.size+1 < W0.heap.size:=lt_of_block hbR
 have HV:Hid (∀ W,Tch [db,d.mb] w W→Gd W v):=fun W t=>gd_over hv hd t
 have HGU:Hid (∀ W W' u,Tch [] w W→Gd W u→Tch [db,d.mb] W W'→Gd W' u):=fun W W' u t h t'=>gd_over h (hd.keep0 t) t'
 have HF:Hid (∀ W (d2:Dv),IsDr W db d2 H0→d2.ov=S.1→d2.root=d.root→d2.tb=d.tb→d2.mb=d.mb→Tch [db,d.mb] w W→∀ w11 u,Gd w11 u→u.nod=⟨false,(mended (mN T.f) d.ov v.es i).2⟩→Tch [] W w11→W.heap[w.heap.size+1]?=some (.cells #[.bool false,.slice none 0 0,.slice none 0 0,.slice none 0 0] 138 (0,0))→NwN W.heap.size u w11→∀ w12,Tch [w.heap.size+1] w11 w12→MenPost w db H0 d (mended (mN T.f) d.ov v.es i) (.returned (vNv u)) w12):=fun W d2 a1 a2 a3 a4 a5 a6 w11 u a7 a8 a9 a10 a11 w12 a12=>by
  have hrow:∀ {e:TypeId} {x:Value} {n:Nat} {xs:List Value},w11.ownsRow W.heap.size e 1 x n xs→∀ b,x.ownBlock=some b→b ∉ [w.heap.size+1]:=fun hr b hb hm=>by
   have:=(hr.lt b hb).1
   have:=lt_of_block a10
   simp at hm
   omega
  have hk:IsDr w12 db d2 H0:=(a1.keep0 a9).keepR a12 (by omega) (by rw [a5]; omega) (fun x q hq=>?_)
  · refine ⟨d2,u,rfl,a7.keep a12 (hrow a11.hk) (hrow a11.hv) (hrow a11.hi),by rw [hmd] at a8 ⊢; exact a8,hk,by rw [hmd]; exact a2,a3,a4,a5,(a6.trans (a9.mono (by simp))).transNew a12 (fun m hm=>Or.inr (by simp at hm; omega))⟩
  · exact (a1.ns.gd x q hq).offk (fun cs=>by rw [a10]; exact ⟨by simp,by simp⟩)
 obtain ⟨q1,q2⟩:=HK.out W0 T0 i hi
 obtain ⟨⟨b0,b1,b2,b3⟩,_⟩:=HCB.out W0 (Tch.refl _ _)
 have HQ2:=Lib.hid q2
 rw [q2] at b3
 have HT0:=Lib.hid T0
 have hlN:0≤l∧l < (topN:Int):=⟨by omega,hlr.2⟩
 have hrN:0≤r∧r < (topN:Int):=⟨by omega,hrr2.2⟩
 have hiN:0≤kidAt v.es i∧kidAt v.es i < (topN:Int):=hr
 have hil1:i - 1 < v.es.length:=by omega
 have hil2:i - 1+1 < v.es.length:=hmS.f
 clear hS hbN hbR q2 T0 hd hT ht hv hleaf hr hlean hval hls hrs hjl hjr hul hur hmS hmd hki
 generalize MenPost w db H0 d (mended (mN T.f) d.ov v.es i)=Q at *
 generalize (mended (mN T.f) d.ov v.es i).2=es2 at *
 have HKK:Hid (∀ W,Tch [] w W→W.cell? ⟨v.ib,v.io+(i - 1),none⟩=some (.int .i64 l)∧W.cell? ⟨v.ib,v.io+(i - 1+1),none⟩=some (.int .i64 r)):=fun W t=>by
  rw [hl,hrr]
  exact ⟨(HK.out W t (i - 1) hil1).1,(HK.out W t (i - 1+1) hil2).1⟩
 clear hl hrr HK him
 have HN0:=Lib.hid (fun W t=>HND.out _ W t hiN)
 have HN1:=Lib.hid (fun W t=>HND.out _ W t hlN)
 have HN2:=Lib.hid (fun W t=>HND.out _ W t hrN)
 clear HND
 generalize d.at_ T (kidAt v.es i)=ui at *
 generalize kidAt v.es i=ki at *
 generalize d.at_ T l=ul at *
 generalize d.at_ T r=ur at *
 unfold vNv at HN0 HN1 HN2 HLN HJN HST HWK HF ⊢
 generalize ui.leaf=uileaf at *
 generalize ui.ka=uika at *
 generalize ui.kn=uikn at *
 generalize ui.kc=uikc at *
 generalize ui.va=uiva at *
 generalize ui.vn=uivn at *
 generalize ui.vc=uivc at *
 generalize ui.ia=uiia at *
 generalize ui.im=uiim at *
 generalize ui.ic=uiic at *
 generalize ul.leaf=ulleaf at *
 generalize ul.ka=ulka at *
 generalize ul.kn=ulkn at *
 generalize ul.kc=ulkc at *
 generalize ul.va=ulva at *
 generalize ul.vn=ulvn at *
 generalize ul.vc=ulvc at *
 generalize ul.ia=ulia at *
 generalize ul.im=ulim at *
 generalize ul.ic=ulic at *
 generalize ur.leaf=urleaf at *
 generalize ur.ka=urka at *
 generalize ur.kn=urkn at *
 generalize ur.kc=urkc at *
 generalize ur.va=urva at *
 generalize ur.vn=urvn at *
 generalize ur.vc=urvc at *
 generalize ur.ia=uria at *
 generalize ur.im=urim at *
 generalize ur.ic=uric at *
 go_enter Tryz.func170,Tryz.ntmps170
 go_upto_region 1 with fail
 rw [← hW0]
 clear hW0
 go_upto_region 4 with (first | (go_at_call 100; (with_reducible refine (HN0.out _ HT0.out).mono ?_); rintro e w3 ⟨rfl,t3⟩) | (go_at_call 158; (with_reducible refine (HLN.out _ (HT0.out.trans t3)).mono ?_); rintro e w4 ⟨rfl,t4⟩; obtain ⟨⟨c0,c1,c2,c3⟩,hR⟩:=HCB.out _ ((t3.trans t4).mono (by simp))))
 have hmx:max ((i:Int) - 1) 0=((i - 1:Nat):Int):=by omega
 rw [hmx]
 clear hmx
 have hf9:i - 1≤1000:=by omega
 generalize i - 1=f at *
 have T4:=HT0.out.trans (t3.trans t4)
 obtain ⟨kl1,kl2⟩:=HKK.out w4 T4
 have c3':=c3
 rw [HQ2.out] at c3
 have hf0:(0:Int)≤(f:Int):=by omega
 have hf1:(0:Int)≤(f:Int)+1:=by omega
 have hf2:(f:Int)+1 < (v.im:Int):=by omega
 have hwf:IntKind.i64.wrap ((f:Int)+1)=(f:Int)+1:=IntWalk.i64_in _ (by omega)
 have htn:((f:Int)+1).toNat=f+1:=by omega
 go_quiet (fail)
 clear hwf htn
 go_upto_region 6 with (first | (go_at_call 100; (with_reducible refine (HN1.out _ (tdrewN T4 _)).mono ?_); rintro e w5 ⟨rfl,t5⟩) | (go_at_call 100; (with_reducible refine (HN2.out _ ((tdrewN T4 _).trans t5)).mono ?_); rintro e w6 ⟨rfl,t6⟩) | (go_at_call 206; (with_reducible refine (HJN.out _ (((tdrewN T4 _).trans t5).trans t6)).mono ?_); rintro e w7 ⟨u,rfl,hgu,hun,t7⟩))
 obtain ⟨W8,hW8⟩:∃ W8,W8=w7.alloc (.cells #[.bool u.leaf,.slice u.ka u.kn u.kc,.slice u.va u.vn u.vc,.slice u.ia u.im u.ic] 138):=⟨_,rfl⟩
 rw [← hW8]
 have t8:Tch [] w7 W8:=by rw [hW8]; exact (Tch.refl _ _).alloc _
 have hb8:W8.heap[w7.heap.size]?=some (.cells #[.bool u.leaf,.slice u.ka u.kn u.kc,.slice u.va u.vn u.vc,.slice u.ia u.im u.ic] 138 (0,0)):=by rw [hW8]; exact blk_new _ _
 have T7:=((tdrewN T4 _).trans (t5.trans (t6.trans t7)))
 have T8:=T7.trans t8
 have hs7:w.heap.size≤w7.heap.size:=T7.size
 have hgu8:=hgu.keep0 t8
 clear hW8 c0 c1 c2 c3 c3' kl1 kl2 hR
 go_upto_region 7 with (first | (go_at_call 171; (with_reducible refine (HDR.out _ T8).mono ?_); rintro e w9 ⟨rfl,hdr,t9⟩))
 have t9m:Tch [db,d.mb] W8 w9:=t9.mono (by simp)
 have T9:Tch [db,d.mb] w w9:=(T8.mono (by simp)).trans t9m
 have TW9:Tch [db,d.mb] W0 w9:=((((t3.trans t4).trans ((tdrewN (Tch.refl [] w4) _).trans (t5.trans (t6.trans t7)))).trans t8).mono (by simp)).trans t9m
 have hXR7:w.heap.size+1 < w7.heap.size:=Nat.lt_of_lt_of_le hXR0 ((t3.trans t4).trans ((tdrewN (Tch.refl [] w4) _).trans (t5.trans (t6.trans t7)))).size
 have HS:Hid (∀ W,Tch [db,d.mb,w.heap.size+1] w9 W→(W.cell? ⟨w.heap.size,0,none⟩=some (.bool v.leaf)∧W.cell? ⟨w.heap.size,1,none⟩=some (.slice v.ka v.kn v.kc)∧W.cell? ⟨w.heap.size,2,none⟩=some (.slice v.va v.vn v.vc)∧W.cell? ⟨w.heap.size,3,none⟩=some (.slice v.ia v.im v.ic)) ∧
  (W.cell? ⟨w7.heap.size,0,none⟩=some (.bool u.leaf)∧W.cell? ⟨w7.heap.size,1,none⟩=some (.slice u.ka u.kn u.kc)∧W.cell? ⟨w7.heap.size,2,none⟩=some (.slice u.va u.vn u.vc)∧W.cell? ⟨w7.heap.size,3,none⟩=some (.slice u.ia u.im u.ic))):=fun W t=>by
  have hh:=((t9m.mono (L':=[db,d.mb,w.heap.size+1]) (by simp)).trans t).keep hb8 (by simp; omega)
  exact ⟨HCC.out W ((TW9.mono (by simp)).trans t),by rw [blk_cell hh]; rfl,by rw [blk_cell hh]; rfl,by rw [blk_cell hh]; rfl,by rw [blk_cell hh]; rfl⟩
 have hdr9:=hdr.keep0 ((Tch.refl [] w9).drew)
 have hgu9:=HGU.out W8 w9.drew u T8 hgu8 t9m.drew
 have HSET:=Lib.hid (HST.out w9.drew u hdr9 T9.size hgu9 hun)
 have HR9:Hid (∀ W,Tch [db,d.mb] w9 W→W.heap[w.heap.size+1]?=some (.cells #[.bool false,.slice none 0 0,.slice none 0 0,.slice none 0 0] 138 (0,0))):=fun W t=>(HCB.out W (TW9.trans t)).2
 have hXR:w.heap.size+1 < w9.heap.size:=lt_of_block (HR9.out w9 (Tch.refl _ _))
 have hwf2:IntKind.i64.wrap ((f:Int)+2)=(f:Int)+2:=IntWalk.i64_in _ (by omega)
 have HWK2:Hid (∀ (W:World) (d2:Dv) (x:Option Addr) (c B:Nat),Tch [db,d.mb] w9 W→IsDr W db d2 H0→d2.tb=d.tb→d2.ov=S.1→W.ownsRow B 3 1 (.slice x S.2.length c) S.2.length (S.2.map (Value.int .i64))→Calls Tryz.prog 140 #[.pointer (some ⟨db,0,none⟩),.agg #[.bool v.leaf,.slice v.ka v.kn v.kc,.slice v.va v.vn v.vc,.slice v.ia v.im v.ic],.int .i64 (f:Nat),.int .i64 ((f:Int)+2),.slice x S.2.length c] W fun e w'=>∃ u3:Nv,e=.returned (.agg #[.bool u3.leaf,.slice u3.ka u3.kn u3.kc,.slice u3.va u3.vn u3.vc,.slice u3.ia u3.im u3.ic])∧Gd w' u3∧u3.nod=⟨false,es2⟩∧NwN W.heap.size u3 w'∧Tch [] W w'):=fun W d2 x c B t h1 h2 h3 h5=>HWK.out W d2 x c B (T9.trans t) h1 h2 h3 (HV.out W (T9.trans t)) h5
 have HT9:=Lib.hid T9
 have td9:Tch [db,d.mb] w9 w9.drew:=(Tch.refl _ w9).drew
 clear hb8 hgu hun hgu8 hdr hdr9 hgu9 t9 T9 TW9 T7 T8 HCB HCC HV HST HWK HGU HN0 HN1 HN2 HLN HDR HJN HKK HQ2 HT0
 generalize u.leaf=uleaf at *
 generalize u.ka=uka at *
 generalize u.kn=ukn at *
 generalize u.kc=ukc at *
 generalize u.va=uva at *
 generalize u.vn=uvn at *
 generalize u.vc=uvc at *
 generalize u.ia=uia at *
 generalize u.im=uim at *
 generalize u.ic=uic at *
 generalize w7.heap.size=Y at *
 go_region_held3 (fun w'=>w'.cell? ⟨w.heap.size,0,none⟩=some (.bool v.leaf)∧w'.cell? ⟨w.heap.size,1,none⟩=some (.slice v.ka v.kn v.kc)∧w'.cell? ⟨w.heap.size,2,none⟩=some (.slice v.va v.vn v.vc)∧w'.cell? ⟨w.heap.size,3,none⟩=some (.slice v.ia v.im v.ic)∧w'.cell? ⟨Y,0,none⟩=some (.bool uleaf)∧w'.cell? ⟨Y,1,none⟩=some (.slice uka ukn ukc)∧w'.cell? ⟨Y,2,none⟩=some (.slice uva uvn uvc)∧w'.cell? ⟨Y,3,none⟩=some (.slice uia uim uic))
  (first | (obtain ⟨⟨s0,s1,s2,s3⟩,s4,s5,s6,s7⟩:=HS.out _ (td9.mono (by simp)); exact ⟨s0,s1,s2,s3,s4,s5,s6,s7⟩) | (obtain ⟨⟨s0,s1,s2,s3⟩,s4,s5,s6,s7⟩:=HS.out _ ((td9.trans t10).mono (by simp)); exact ⟨s0,s1,s2,s3,s4,s5,s6,s7⟩) | (obtain ⟨⟨s0,s1,s2,s3⟩,s4,s5,s6,s7⟩:=HS.out _ (((td9.trans t10).trans (t11.mono (by simp))).mono (by simp)); exact ⟨s0,s1,s2,s3,s4,s5,s6,s7⟩) | (obtain ⟨⟨s0,s1,s2,s3⟩,s4,s5,s6,s7⟩:=HS.out _ ((((td9.trans t10).trans (t11.mono (by simp))).mono (by simp)).put4 (b:=w.heap.size+1) (by simp) _ _ _ _); exact ⟨s0,s1,s2,s3,s4,s5,s6,s7⟩))
  (first | (go_at_call 169; (with_reducible refine HSET.out.mono ?_); rintro e w10 ⟨d2,x,c,rfl,hx,hd2,ho,e1,e2,e3,t10⟩) | (go_at_call 140; (with_reducible refine (HWK2.out _ d2 x c _ (td9.trans t10) hd2 e2 ho hx).mono ?_); rintro e w11 ⟨u3,rfl,hg3,hun3,hnw3,t11⟩; have hR10:=HR9.out _ (td9.trans t10); have hR:=t11.keep hR10 (by simp); have r0:=blk_cell hR 0; have r1:=blk_cell hR 1; have r2:=blk_cell hR 2; have r3:=blk_cell hR 3; simp only [gA,gZ,gS] at r0 r1 r2 r3; have f0:=blk_free hR 0; have f1:=blk_free hR 1; have f2:=blk_free hR 2; have f3:=blk_free hR 3))
 have hW:=blk_put4 hR (.bool u3.leaf) (.slice u3.ka u3.kn u3.kc) (.slice u3.va u3.vn u3.vc) (.slice u3.ia u3.im u3.ic)
 have T12:=(Tch.refl [w.heap.size+1] w11).put4 (b:=w.heap.size+1) (by simp) (.bool u3.leaf) (.slice u3.ka u3.kn u3.kc) (.slice u3.va u3.vn u3.vc) (.slice u3.ia u3.im u3.ic)
 have q0:=blk_cell hW 0
 have q1:=blk_cell hW 1
 have q2:=blk_cell hW 2
 have q3:=blk_cell hW 3
 simp only [gA,gZ,gS] at q0 q1 q2 q3
 have HEND:=Lib.hid (HF.out w10 d2 hd2 ho e1 e2 e3 (HT9.out.trans (td9.trans t10)) w11 u3 hg3 hun3 t11 hR10 hnw3 _ T12)
 clear hW T12 hR hR10 hg3 hun3 hnw3
 go_wp2_with fail
 exact bodyPost_ret (v:=.agg #[.bool u3.leaf,.slice u3.ka u3.kn u3.kc,.slice u3.va u3.vn u3.vc,.slice u3.ia u3.im u3.ic]) (by simp [results,Tryz.results170,go_sem,q0,q1,q2,q3]) rfl HEND.out
theorem mended_any (db H0 h:Nat) (d:Dv) (T:Tv) (v:Nv) (i:Nat) (w:World) (hd:IsDr w db d H0) (hT:∀ W,Tch [db,d.mb] w W→IsTr W d.tb T) (h0:H0≤w.heap.size) (hv:Gd w v) (hleaf:v.leaf=false) (hil:v.es.length≤1000) (hfr:d.fresh < 199999990)
 (hk:∀ e ∈ v.es,Sh (d.ov.m (mN T.f)) h e.kid∧KE (d.ov.m (mN T.f)) e) (hi:i < v.es.length) (h2:2≤v.es.length)
 (hl:∀ j,j≠i→∀ e,v.es[j]?=some e→(d.ov.m (mN T.f) e.kid).lean=false) (hn:∀ x,(bnums (d.ov.m (mN T.f)) (h+1) v.es).count x≤1) (hlt:∀ x ∈ bnums (d.ov.m (mN T.f)) (h+1) v.es,x < d.ov.nx) :
 Calls Tryz.prog 170 #[.pointer (some ⟨db,0,none⟩),vNv v,.int .i64 i] w (MenPost w db H0 d (mended (mN T.f) d.ov v.es i)):=by
 have hr:0≤kidAt v.es i∧kidAt v.es i < topN:=by
  have hm:kidAt v.es i=v.es[i].kid:=by unfold kidAt; rw [List.getD_eq_getElem?_getD,List.getElem?_eq_getElem hi]; rfl
  have:=(hk _ (List.getElem_mem hi)).2
  rw [hm]
  exact ⟨by have:=this.2.1; omega,this.2.2.1⟩
 cases hlean:(d.ov.m (mN T.f) (kidAt v.es i)).lean
 · exact mended_not db H0 d T v i w hd (hT w (Tch.refl _ _)) hv hleaf hi hr (by omega) hlean
 · exact mended_lean db H0 h d T v i w hd hT h0 hv hleaf hi hr hil (fun e he=>(hk e he).2.1) hlean hfr (mend_side hk hi h2 hl hn hlt (by show 16384+(d.fresh:Int)+1≤_; unfold topN; omega) hlean)
end Go.Proofs.YtlkgnljdpakkcaaGreatDoor
/-
 Place of package node answers where a key belongs,as the document has it,in nodes whose keys rise. Conditions: the lists and texts are short (Nv.Ok).
-/
namespace Go.Proofs.YtlkgnljdpakkcaaGreatDoor
open Go.RowKit
theorem less_trans:∀ (x y z:List UInt8),Go.Op.bytesLess x y=true→Go.Op.bytesLess y z=true→Go.Op.bytesLess x z=true:=by
 intro x
 induction x with
 | nil=>intro y z h1 h2; cases z with
  | nil=>cases y <;> simp [Go.Op.bytesLess] at h2
  | cons c z=>simp [Go.Op.bytesLess]
 | cons a x ih=>intro y z h1 h2; cases y with
  | nil=>simp [Go.Op.bytesLess] at h1
  | cons b y=>cases z with
   | nil=>simp [Go.Op.bytesLess] at h2
   | cons c z =>
    simp only [Go.Op.bytesLess,Bool.or_eq_true,Bool.and_eq_true,decide_eq_true_eq,beq_iff_eq] at h1 h2 ⊢
    rcases h1 with h1 | ⟨rfl,h1⟩
    · rcases h2 with h2 | ⟨rfl,h2⟩
      · exact Or.inl (UInt8.lt_trans h1 h2)
      · exact Or.inl h1
    · rcases h2 with h2 | ⟨rfl,h2⟩
      · exact Or.inl h2
      · exact Or.inr ⟨rfl,ih y z h1 h2⟩
theorem slt_trans {a b c:ByteArray} (h1:slt a b=true) (h2:slt b c=true):slt a c=true:=less_trans _ _ _ h1 h2
theorem rise_mono (keys:List ByteArray) (key:ByteArray) (hr:Rise keys):∀ (d a:Nat) x y,keys[a]?=some x→keys[a+d]?=some y→slt key x=true→slt key y=true
 | 0,a,x,y,hx,hy,h=>by rw [Nat.add_zero,hx] at hy; cases hy; exact h
 | d+1,a,x,y,hx,hy,h=>by
  have hlt:a+d < keys.length:=by have:=(List.getElem?_eq_some_iff.1 hy).1; omega
  have hz:=List.getElem?_eq_getElem hlt
  have ih:=rise_mono keys key hr d a x _ hx hz h
  exact slt_trans ih (hr (a+d) _ y hz (by rw [show a+d+1=a+(d+1) from by omega]; exact hy))
def abv (keys:List ByteArray) (key:ByteArray) (i:Nat):Bool:=match keys[i]? with
 | some x=>slt key x
 | none=>true
theorem abv_mono (keys:List ByteArray) (key:ByteArray) (hr:Rise keys) (a b:Nat) (hab:a≤b) (hb:b < keys.length) (h:abv keys key a=true):abv keys key b=true:=by
 have h1:=List.getElem?_eq_getElem (show a < keys.length by omega)
 have h2:=List.getElem?_eq_getElem hb
 unfold abv at h ⊢
 rw [h1] at h
 rw [h2]
 exact rise_mono keys key hr (b - a) a _ _ h1 (by rw [show a+(b - a)=b from by omega]; exact h2) h
set_option maxRecDepth 100000 in
theorem nplaceFn_any (pn pk i:Nat) (a:Option Addr) (n c b o:Nat) (keys:List ByteArray) (key:ByteArray) (w:World) (hr:IsR fStr 1 w a n b o keys) (c1:w.cell? ⟨pn,1,none⟩=some (.slice a n c)) (ck:w.cell? ⟨pk,0,none⟩=some (.string key)) (hi:i < keys.length) (hn:keys.length≤1000000000) :
 Calls Tryz.prog 92 #[.int .i64 i,.pointer (some ⟨pn,0,none⟩),.pointer (some ⟨pk,0,none⟩)] w fun e w'=>e=.returned (.bool (abv keys key i))∧∃ m,w'=w.drewN m:=by
 obtain rfl:=hr.hlen
 have hget:=List.getElem?_eq_getElem hi
 have x0:=hr.one hget (v:=.string keys[i]) rfl
 have ha:=hr.some_ (by omega)
 have hbl:=hr.lt (by omega)
 have hI:(i:Int) < (keys.length:Int):=by omega
 have hI0:(0:Int)≤(i:Int):=by omega
 have hv:abv keys key i=slt key keys[i]:=by unfold abv; rw [hget]
 have hln:pn < w.heap.size:=World.block_lt_of_cell? _ _ c1
 have hlk:pk < w.heap.size:=World.block_lt_of_cell? _ _ ck
 subst ha
 generalize keys[i]=x at x0 hv
 rw [hv]
 have HS:Hid (slt key x=(!Go.Op.bytesLess x.toList key.toList && !(x.toList == key.toList))):=by
  show _=_
  rw [show slt key x=!sle x key from by rw [sle_slt,Bool.not_not]]
  unfold sle slt
  rw [Bool.not_or]
 clear hget hv hr
 go_enter Tryz.func92,Tryz.ntmps92
 go_wp2_with fail
 go_quiet (fail)
 go_wp2
 go_ret
 refine ⟨?_,_,rfl⟩
 rw [HS.out]
 rfl
set_option maxRecDepth 100000 in
set_option maxHeartbeats 1000000 in
theorem nsearch_any (n pn pk:Nat) (p:Nat→Bool) (w:World) (hn:n≤1000000000) (hf:∀ m i,i < n→Calls Tryz.prog 92 #[.int .i64 (i:Nat),.pointer (some ⟨pn,0,none⟩),.pointer (some ⟨pk,0,none⟩)] (w.drewN m) fun e w'=>e=.returned (.bool (p i))∧∃ q,w'=(w.drewN m).drewN q) (hm:∀ a b,a≤b→b < n→p a=true→p b=true) :
 Calls Tryz.prog 91 #[.int .i64 n,.func (.func 92) #[] #[.pointer (some ⟨pn,0,none⟩),.pointer (some ⟨pk,0,none⟩)]] w fun e w'=>∃ r m,e=.returned (.int .i64 (r:Nat))∧w'=w.drewN m∧r≤n∧(∀ t,t < r→p t=false)∧∀ t,r≤t→t < n→p t=true:=by
 have HF:=Lib.hid hf
 have HM:=Lib.hid hm
 clear hf hm
 go_enter Tryz.func91,Tryz.ntmps91
 go_wp2_with fail
 go_loopw [5,6] (fun v5 v6 wr=>∃ lo hi m:Nat,v5=.int .i64 lo∧v6=.int .i64 hi∧lo≤hi∧hi≤n∧wr=w.drewN m∧(∀ t,t < lo→p t=false)∧∀ t,hi≤t→t < n→p t=true) (fun v5 v6 _=>(intOf v6).toNat - (intOf v5).toNat)
 case atStart=>exact ⟨0,n,0,rfl,rfl,by omega,by omega,rfl,fun t ht=>by omega,fun t h1 h2=>by omega⟩
 case round =>
  obtain ⟨lo,hi,m,rfl,rfl,hlh,hin,rfl,hlo,hhi⟩:=hrel
  by_cases hlt:lo < hi
  · have hc:=HF.out m ((lo+hi) / 2) (by omega)
    rw [show (((lo+hi) / 2:Nat):Int)=((lo:Int)+(hi:Int)) / 2 by omega] at hc
    cases hp:p ((lo+hi) / 2) <;> rw [hp] at hc
    · have HL:Hid (∀ t,t < (lo+hi) / 2+1→p t=false):=fun t ht=>by
       cases h:p t with
       | false=>rfl
       | true=>have:=HM.out t ((lo+hi) / 2) (by omega) (by omega) h; rw [hp] at this; cases this
      have HC:=Lib.hid hc
      have HH:=Lib.hid hhi
      clear hp hc hlo hhi
      go_wp2_with fail
      refine HC.out.mono ?_
      rintro e w2 ⟨rfl,q,rfl⟩
      go_wp2_with fail
      go_roundw
      case rel=>exact ⟨(lo+hi) / 2+1,hi,m+q,by rw [show ((lo:Int)+(hi:Int)) / 2+1=(((lo+hi) / 2+1:Nat):Int) by omega],rfl,by omega,hin,rfl,HL.out,HH.out⟩
      case measure=>simp [intOf]; omega
    · have HL:Hid (∀ t,(lo+hi) / 2≤t→t < n→p t=true):=fun t ht htn=>HM.out ((lo+hi) / 2) t ht htn hp
      have HC:=Lib.hid hc
      have HH:=Lib.hid hlo
      clear hp hc hlo hhi
      go_wp2_with fail
      refine HC.out.mono ?_
      rintro e w2 ⟨rfl,q,rfl⟩
      go_wp2_with fail
      go_roundw
      case rel=>exact ⟨lo,(lo+hi) / 2,m+q,rfl,by rw [show ((lo:Int)+(hi:Int)) / 2=(((lo+hi) / 2:Nat):Int) by omega],by omega,by omega,rfl,HH.out,HL.out⟩
      case measure=>simp [intOf]; omega
  · obtain rfl:hi=lo:=by omega
    have HR:Hid ((∀ t,t < hi→p t=false)∧∀ t,hi≤t→t < n→p t=true):=⟨hlo,hhi⟩
    clear hlo hhi
    go_wp2_with fail
    go_ret
    exact ⟨hi,m,rfl,rfl,hin,HR.out.1,HR.out.2⟩
theorem abv_of (v:Nv) (key:ByteArray) (k:Nat) (e:En) (h:v.es[k]?=some e):abv v.keys key k=!sle e.key key:=by
 have hk:k < v.keys.length:=by rw [← v.es_len]; exact (List.getElem?_eq_some_iff.1 h).1
 have h1:=List.getElem?_eq_getElem hk
 rw [es_get v k _ h1] at h
 cases h
 unfold abv mkE
 rw [h1,sle_slt]
 simp
theorem plc_none (v:Nv) (key:ByteArray) (h:∀ t,t < v.keys.length→abv v.keys key t=true):plcN v.es key=0∧hitN v.es key=false:=by
 have hs:=plcN_spec v.es key
 have hno:∀ (k:Nat) (e:En),v.es[k]?=some e→sle e.key key=false:=fun k e he=>by
  have h1:=abv_of v key k e he
  rw [h k (by rw [← v.es_len]; exact (List.getElem?_eq_some_iff.1 he).1)] at h1
  simpa using h1.symm
 have h0:plcN v.es key=0:=by
  rcases hs.1 with h1 | ⟨e,h1,h2⟩
  · exact h1
  · rw [hno _ _ h1] at h2; cases h2
 refine ⟨h0,?_⟩
 unfold hitN
 rcases he:v.es[plcN v.es key]? with _ | e
 · rfl
 · have:=hno _ _ he
   unfold sle at this
   simp at this
   simpa using this.2
theorem plc_some (v:Nv) (key x:ByteArray) (r:Nat) (hx:v.keys[r]?=some x) (h0:abv v.keys key r=false) (h:∀ t,r < t→t < v.keys.length→abv v.keys key t=true):plcN v.es key=r∧hitN v.es key=(x.toList == key.toList):=by
 have hs:=plcN_spec v.es key
 have he:=es_get v r x hx
 have h1:plcN v.es key=r:=by
  have hle:r≤plcN v.es key:=by
   by_cases hlt:plcN v.es key < r
   · have:=hs.2.1 r _ hlt he
     have h3:=abv_of v key r _ he
     rw [h0,this] at h3
     cases h3
   · omega
  rcases hs.1 with h2 | ⟨e,h2,h3⟩
  · omega
  · by_cases hgt:r < plcN v.es key
    · have h4:=abv_of v key _ e h2
      rw [h _ hgt (by rw [← v.es_len]; exact (List.getElem?_eq_some_iff.1 h2).1),h3] at h4
      cases h4
    · omega
 refine ⟨h1,?_⟩
 unfold hitN
 rw [h1,he]
 rfl
set_option maxRecDepth 100000 in
set_option maxHeartbeats 1000000 in
theorem place_any:PlaSpec:=by
 intro v key w h ho hc hk hr
 have T0:Tch [] w ((w.alloc (.cells #[.bool v.leaf,.slice v.ka v.kn v.kc,.slice v.va v.vn v.vc,.slice v.ia v.im v.ic] 138)).alloc (.cells #[.string key] 9)):=((Tch.refl _ _).alloc _).alloc _
 have hb:((w.alloc (.cells #[.bool v.leaf,.slice v.ka v.kn v.kc,.slice v.va v.vn v.vc,.slice v.ia v.im v.ic] 138)).alloc (.cells #[.string key] 9)).heap[w.heap.size]?=some (.cells #[.bool v.leaf,.slice v.ka v.kn v.kc,.slice v.va v.vn v.vc,.slice v.ia v.im v.ic] 138 (0,0)):=blk_alloc (blk_new w _) _
 have hg:((w.alloc (.cells #[.bool v.leaf,.slice v.ka v.kn v.kc,.slice v.va v.vn v.vc,.slice v.ia v.im v.ic] 138)).alloc (.cells #[.string key] 9)).heap[w.heap.size+1]?=some (.cells #[.string key] 9 (0,0)):=by
  rw [show w.heap.size+1=(w.alloc (.cells #[.bool v.leaf,.slice v.ka v.kn v.kc,.slice v.va v.vn v.vc,.slice v.ia v.im v.ic] 138)).heap.size from by simp]; exact blk_new _ _
 obtain ⟨W2,hW2⟩:∃ W2,W2=(w.alloc (.cells #[.bool v.leaf,.slice v.ka v.kn v.kc,.slice v.va v.vn v.vc,.slice v.ia v.im v.ic] 138)).alloc (.cells #[.string key] 9):=⟨_,rfl⟩
 rw [← hW2] at T0 hb hg
 have hkl:=h.rk.hlen
 have hk8:=ho.lk
 have HS:Hid (∀ n,n=v.kn→Calls Tryz.prog 91 _ W2 _):=fun n hn=>by
  subst hn
  exact nsearch_any v.kn w.heap.size (w.heap.size+1) (abv v.keys key) W2 (by omega)
   (fun m i hi=>nplaceFn_any w.heap.size (w.heap.size+1) i v.ka v.kn v.kc v.kb v.ko v.keys key (W2.drewN m) ((h.keep0 T0).keep0 (tdrewN (Tch.refl [] W2) m)).rk (blk_cell hb 1) (blk_cell hg 0) (by omega) (by omega))
   (fun a b h1 h2 h3=>abv_mono v.keys key hr a b h1 (by omega) h3)
 have HKN:=Lib.hid hkl
 have HIS:Hid (∀ m,IsR fStr 1 (W2.drewN m) v.ka v.kn v.kb v.ko v.keys):=fun m=>((h.keep0 T0).keep0 (tdrewN (Tch.refl [] W2) m)).rk
 have HQ:Hid (∀ m,(W2.drewN m).heap[w.heap.size]?=some (.cells #[.bool v.leaf,.slice v.ka v.kn v.kc,.slice v.va v.vn v.vc,.slice v.ia v.im v.ic] 138 (0,0))∧(W2.drewN m).heap[w.heap.size+1]?=some (.cells #[.string key] 9 (0,0))∧Tch [] w (W2.drewN m)):=fun m=>⟨hb,hg,tdrewN T0 m⟩
 have HZ:Hid ((∀ t,t < v.keys.length→abv v.keys key t=true)→plcN v.es key=0∧hitN v.es key=false):=plc_none v key
 have HP:Hid (∀ r x,v.keys[r]?=some x→abv v.keys key r=false→(∀ t,r < t→t < v.keys.length→abv v.keys key t=true)→plcN v.es key=r∧hitN v.es key=(x.toList == key.toList)):=fun r x=>plc_some v key x r
 have HSC:=Lib.hid (HS.out _ rfl)
 generalize abv v.keys key=p at *
 generalize plcN v.es key=pl at *
 generalize hitN v.es key=ht at *
 generalize hka:v.ka=ka at *
 generalize hkn:v.kn=kn at *
 have hk9:kn≤100000000:=by omega
 clear h ho hc hr hb hg T0 HS hkl hk8
 go_enter Tryz.func49,Tryz.ntmps49
 go_wp2_with fail
 rw [← hW2]
 clear hW2
 refine HSC.out.mono ?_
 rintro e w3 ⟨r,m,rfl,rfl,hrn,hlo,hhi⟩
 obtain ⟨hb,hg,T3⟩:=HQ.out m
 have hr3:=HIS.out m
 generalize W2.drewN m=w3 at hb hg T3 hr3 ⊢
 have c0:=blk_cell hb 0
 have c1:=blk_cell hb 1
 have ck:=blk_cell hg 0
 have l1:=lt_of_block hb
 have l2:=lt_of_block hg
 simp only [gA,gZ,gS] at c0 c1 ck
 clear hb hg HSC HQ HIS
 by_cases h0:r=0
 · subst h0
   obtain ⟨rfl,rfl⟩:=HZ.out (fun t ht=>hhi t (by omega) (by rw [HKN.out]; exact ht))
   clear hr3 HP HZ hlo hhi
   go_wp2_with fail
   go_ret2
   exact ⟨rfl,T3⟩
 · have hlt:r - 1 < v.keys.length:=by have:=HKN.out; omega
   have hget:=List.getElem?_eq_getElem hlt
   have hE:=HP.out (r - 1) _ hget (hlo _ (by omega)) (fun t h1 h2=>hhi t (by omega) (by rw [HKN.out]; exact h2))
   have x0:=hr3.one hget (v:=.string v.keys[r - 1]) rfl
   have ha:=hr3.some_ (by omega)
   have hbl:=hr3.lt (by omega)
   have hd:((r:Int) == 0)=false:=beq_eq_false_iff_ne.2 (by omega)
   have hd2:(r == 0)=false:=beq_eq_false_iff_ne.2 h0
   have hI1:(0:Int)≤(r:Int) - 1:=by omega
   have hI2:(r:Int) - 1 < (kn:Int):=by omega
   have hwr:IntKind.i64.wrap ((r:Int) - 1)=(r:Int) - 1:=IntWalk.i64_in _ (by omega)
   have HRR:Hid (((r:Int) - 1)=((r - 1:Nat):Int)):=by show _=_; omega
   subst ha
   generalize v.keys[r - 1]=x at x0 hE
   have HE:Hid _:=hE
   clear hE hget hr3 HP HZ hlo hhi
   go_wp2_with fail
   go_quiet (fail)
   go_wp2
   go_ret2
   refine ⟨?_,tdrewN T3 _⟩
   rw [HE.out.1,HE.out.2,← HRR.out]
   rfl
end Go.Proofs.YtlkgnljdpakkcaaGreatDoor
