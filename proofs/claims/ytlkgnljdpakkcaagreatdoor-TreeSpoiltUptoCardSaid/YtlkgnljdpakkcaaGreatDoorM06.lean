/-
  Parts of the proof: Npb, Nsm, Nq, NU, NHm, Nsp, Atom.
-/
import Derived.Test.YtlkgnljdpakkcaaGreatDoorM05
import Derived.Test.YtlkgnljdpakkcaaGreatDoorM04
import Derived.Test.YtlkgnljdpakkcaaGreatDoorRows
import Derived.WalkKit
import Derived.WalkSpells
import Derived.WalkLawsBesides
import Derived.Defers
import Derived.Laws.Pointers
import Derived.Laws.LoneSync
import Derived.RegionTactic
import Derived.RegionCalls
import Derived.ChangeAlike
set_option linter.unusedVariables false
set_option linter.unusedSimpArgs false
/-
 'part' of package node,walked: the entries from one number on to another,in new memory. Conditions: the node's lists and texts are short (Nv.Ok).
-/
namespace Go.Proofs.YtlkgnljdpakkcaaGreatDoor
open Go.RowKit
theorem OwE.start {B nb:Nat} {leaf:Bool} {w:World} (h:w.heap[nb]?=some (.cells #[.bool leaf,.slice none 0 0,.slice none 0 0,.slice none 0 0] 138 (0,0))):OwE B nb leaf [] w:=by
 refine ⟨_,_,_,h,World.ownsRow_nil _ _ _ _,?_,?_,Apart.nil _,Apart.nil _,Apart.nil _⟩
 · cases leaf <;> exact World.ownsRow_nil _ _ _ _
 · cases leaf <;> exact World.ownsRow_nil _ _ _ _
def NwPost (w:World) (leaf:Bool) (es:List En) (e:Ending) (w':World):Prop :=
 Tch [] w w'∧∃ u:Nv,e=.returned (.agg #[.bool u.leaf,.slice u.ka u.kn u.kc,.slice u.va u.vn u.vc,.slice u.ia u.im u.ic])∧u.Good w' leaf es∧NwN w.heap.size u w'∧u.keys=es.map En.key∧u.vals=(if leaf then es.map En.val else [])∧u.kids=(if leaf then [] else es.map En.kid)
theorem NwPost.stored {w w4:World} {leaf:Bool} {es:List En} {q nb B:Nat} {u:Nv} (hu:u.Good w4 leaf es) (hn:NwN B u w4) (hq:w.heap.size≤q) (hqB:q < B) (T:Tch [] w w4) (hl:u.keys=es.map En.key∧u.vals=(if leaf then es.map En.val else [])∧u.kids=(if leaf then [] else es.map En.kid)) (a b c d:Value) :
 NwPost w leaf es (.returned (.agg #[.bool u.leaf,.slice u.ka u.kn u.kc,.slice u.va u.vn u.vc,.slice u.ia u.im u.ic])) ((((w4.setCell ⟨q,0,none⟩ a).setCell ⟨q,1,none⟩ b).setCell ⟨q,2,none⟩ c).setCell ⟨q,3,none⟩ d):=by
 have t:Tch [q] w4 ((((w4.setCell ⟨q,0,none⟩ a).setCell ⟨q,1,none⟩ b).setCell ⟨q,2,none⟩ c).setCell ⟨q,3,none⟩ d):=((((Tch.refl [q] w4).setCell (by simp) a).setCell (by simp) b).setCell (by simp) c).setCell (by simp) d
 have hlt:∀ {e:TypeId} {v:Value} {n:Nat} {xs:List Value},w4.ownsRow B e 1 v n xs→∀ k,v.ownBlock=some k→k≠q:=fun hr k hk he=>by have:=(hr.lt k hk).1; omega
 refine ⟨T.transNew t (by simp; omega),u,rfl,?_,(hn.keep t (by simp; omega)).base (by omega),hl⟩
 refine ⟨⟨hu.nv.rk.keep t (fun h0=>?_),hu.nv.rv.keep t (fun h0=>?_),hu.nv.ri.keep t (fun h0=>?_)⟩,hu.leaf,hu.es,hu.lens,hu.ok,hu.caps⟩
 · have:=hu.nv.rk.some_ h0
   have:=hlt hn.hk u.kb (by rw [this]; rfl)
   simpa using this
 · have:=hu.nv.rv.some_ h0
   have:=hlt hn.hv u.vb (by rw [this]; rfl)
   simpa using this
 · have:=hu.nv.ri.some_ h0
   have:=hlt hn.hi u.ib (by rw [this]; rfl)
   simpa using this
set_option maxRecDepth 100000 in
set_option maxHeartbeats 1000000 in
theorem npart_any (i0 i1:Nat) (v:Nv) (w:World) (h:IsNv w v) (ho:v.Ok) (h01:i0≤i1) (h1:i1≤v.keys.length) :
 Calls Tryz.prog 228 #[.agg #[.bool v.leaf,.slice v.ka v.kn v.kc,.slice v.va v.vn v.vc,.slice v.ia v.im v.ic],.int .i64 i0,.int .i64 i1] w (NwPost w v.leaf ((v.es.drop i0).take (i1 - i0))):=by
 obtain ⟨W3,hW3⟩:∃ W3,W3=((w.alloc (.cells #[.bool v.leaf,.slice v.ka v.kn v.kc,.slice v.va v.vn v.vc,.slice v.ia v.im v.ic] 138)).alloc (.cells #[.bool false,.slice none 0 0,.slice none 0 0,.slice none 0 0] 138)).alloc (.cells #[.bool v.leaf,.slice none 0 0,.slice none 0 0,.slice none 0 0] 138):=⟨_,rfl⟩
 have T0:Tch [] w W3:=by rw [hW3]; exact (((Tch.refl _ _).alloc _).alloc _).alloc _
 have hb0:W3.heap[w.heap.size]?=some (.cells #[.bool v.leaf,.slice v.ka v.kn v.kc,.slice v.va v.vn v.vc,.slice v.ia v.im v.ic] 138 (0,0)):=by rw [hW3]; exact blk_alloc (blk_alloc (blk_new _ _) _) _
 have hb1:W3.heap[w.heap.size+1]?=some (.cells #[.bool false,.slice none 0 0,.slice none 0 0,.slice none 0 0] 138 (0,0)):=by
  rw [hW3,show w.heap.size+1=(w.alloc (.cells #[.bool v.leaf,.slice v.ka v.kn v.kc,.slice v.va v.vn v.vc,.slice v.ia v.im v.ic] 138)).heap.size from by simp]; exact blk_alloc (blk_new _ _) _
 have hb2:W3.heap[w.heap.size+1+1]?=some (.cells #[.bool v.leaf,.slice none 0 0,.slice none 0 0,.slice none 0 0] 138 (0,0)):=by
  rw [hW3,show w.heap.size+1+1=((w.alloc (.cells #[.bool v.leaf,.slice v.ka v.kn v.kc,.slice v.va v.vn v.vc,.slice v.ia v.im v.ic] 138)).alloc (.cells #[.bool false,.slice none 0 0,.slice none 0 0,.slice none 0 0] 138)).heap.size from by simp]; exact blk_new _ _
 have HAD:=Lib.hid (nadd_any (w.heap.size+1+1) (w.heap.size+1+1) i0 i1 v.leaf [] v W3 (OwE.start hb2) (Nat.le_refl _) (fun w' b=>h.keep0 (below_tch T0 b (by omega))) ho h01 h1 (by simp))
 have HND:Hid (∀ w4,OwE (w.heap.size+1+1) (w.heap.size+1+1) v.leaf ([]++((mkN v.leaf v.keys v.vals v.kids).drop i0).take (i1 - i0)) w4→_):=fun w4 hO=>OwE.node hO (fun e he=>mkN_nrm _ _ _ _ e (List.mem_of_mem_drop (List.mem_of_mem_take (by simpa using he)))) (by rw [List.nil_append]; exact (short_mkN v.leaf ho).part _ _)
 have HIS:=Lib.hid h
 rw [show v.es=mkN v.leaf v.keys v.vals v.kids from rfl]
 generalize (mkN v.leaf v.keys v.vals v.kids).drop i0=seg at *
 generalize seg.take (i1 - i0)=es at *
 clear ho h h1 h01 hb2
 have p0:=blk_cell hb0 0
 have plt:=lt_of_block hb0
 go_enter Tryz.func228,Tryz.ntmps228
 go_wp2_with fail
 rw [← hW3]
 refine HAD.out.mono ?_
 rintro e w4 ⟨rfl,hO,hbl⟩
 obtain ⟨u,hub,hug,hun,hul⟩:=HND.out w4 hO
 rw [List.nil_append] at hug hul
 have T4:=below_tch T0 hbl (by omega)
 have hr:w4.heap[w.heap.size+1]?=some (.cells #[.bool false,.slice none 0 0,.slice none 0 0,.slice none 0 0] 138 (0,0)):=by rw [hbl.block _ (by omega)]; exact hb1
 have r0:=blk_cell hr 0
 have r1:=blk_cell hr 1
 have r2:=blk_cell hr 2
 have r3:=blk_cell hr 3
 have f0:=blk_free hr 0
 have f1:=blk_free hr 1
 have f2:=blk_free hr 2
 have f3:=blk_free hr 3
 have rlt:=lt_of_block hr
 have u0:=blk_cell hub 0
 have u1:=blk_cell hub 1
 have u2:=blk_cell hub 2
 have u3:=blk_cell hub 3
 have ult:=lt_of_block hub
 simp only [gA,gZ,gS] at r0 r1 r2 r3 u0 u1 u2 u3
 have HF:Hid (∀ a b c d,NwPost w v.leaf es (.returned (.agg #[.bool u.leaf,.slice u.ka u.kn u.kc,.slice u.va u.vn u.vc,.slice u.ia u.im u.ic])) ((((w4.setCell ⟨w.heap.size+1,0,none⟩ a).setCell ⟨w.heap.size+1,1,none⟩ b).setCell ⟨w.heap.size+1,2,none⟩ c).setCell ⟨w.heap.size+1,3,none⟩ d)):=fun a b c d=>NwPost.stored (nb:=0) hug hun (by omega) (by omega) T4 hul a b c d
 clear hO hbl hub hug hun hul T4 hr HND HAD HIS hb0 hb1 hW3 T0 p0 plt
 go_wp2_with fail
 refine bodyPost_ret (v:=.agg #[.bool u.leaf,.slice u.ka u.kn u.kc,.slice u.va u.vn u.vc,.slice u.ia u.im u.ic]) (by simp [results,Tryz.results228,go_sem,r0,r1,r2,r3]) rfl (HF.out _ _ _ _)
theorem short_app {v u:Nv} (ho:v.Ok) (hu:u.Ok) (hlv:v.upto 10000000) (hlu:u.upto 10000000):Short (v.es++mkN v.leaf u.keys u.vals u.kids):=by
 obtain ⟨a1,a2⟩:=mkN_sums v.leaf v.keys v.vals v.kids
 obtain ⟨b1,b2⟩:=mkN_sums v.leaf u.keys u.vals u.kids
 have h1:=hlv.1
 have h2:=hlv.2.2.2
 have h3:=hlu.1
 have h4:=hlu.2.2.2
 refine ⟨?_,?_,fun e he=>?_⟩
 · rw [List.length_append,v.es_len,mkN_len]; omega
 · rw [ksum_app,vsum_app,show v.es=mkN v.leaf v.keys v.vals v.kids from rfl]; omega
 · rcases List.mem_append.1 he with h | h
   · exact mkN_kidb _ _ _ _ ho.is e h
   · exact mkN_kidb _ _ _ _ hu.is e h
theorem NwN.own {B nb:Nat} {leaf:Bool} {es:List En} {u:Nv} {w:World} (h:NwN B u w) (hb:w.heap[nb]?=some (.cells #[.bool leaf,.slice u.ka u.kn u.kc,.slice u.va u.vn u.vc,.slice u.ia u.im u.ic] 138 (0,0)))
 (hl:u.keys=es.map En.key∧u.vals=(if leaf then es.map En.val else [])∧u.kids=(if leaf then [] else es.map En.kid)):OwE B nb leaf es w:=by
 refine ⟨_,_,_,hb,?_,?_,?_,h.akv,h.aki,h.avi⟩
 · rw [← hl.1]; exact h.hk
 · rw [← hl.2.1]; exact h.hv
 · rw [← hl.2.2]; exact h.hi
set_option maxRecDepth 100000 in
set_option maxHeartbeats 1000000 in
theorem njoin_any (v u:Nv) (w:World) (hv:IsNv w v) (hu:IsNv w u) (hov:v.Ok) (hou:u.Ok) (hlv:v.upto 10000000) (hlu:u.upto 10000000) :
 Calls Tryz.prog 206 #[.agg #[.bool v.leaf,.slice v.ka v.kn v.kc,.slice v.va v.vn v.vc,.slice v.ia v.im v.ic],.agg #[.bool u.leaf,.slice u.ka u.kn u.kc,.slice u.va u.vn u.vc,.slice u.ia u.im u.ic]] w (NwPost w v.leaf (v.es++mkN v.leaf u.keys u.vals u.kids)):=by
 obtain ⟨W3,hW3⟩:∃ W3,W3=((w.alloc (.cells #[.bool v.leaf,.slice v.ka v.kn v.kc,.slice v.va v.vn v.vc,.slice v.ia v.im v.ic] 138)).alloc (.cells #[.bool u.leaf,.slice u.ka u.kn u.kc,.slice u.va u.vn u.vc,.slice u.ia u.im u.ic] 138)).alloc (.cells #[.bool false,.slice none 0 0,.slice none 0 0,.slice none 0 0] 138):=⟨_,rfl⟩
 have T0:Tch [] w W3:=by rw [hW3]; exact (((Tch.refl _ _).alloc _).alloc _).alloc _
 have hb0:W3.heap[w.heap.size]?=some (.cells #[.bool v.leaf,.slice v.ka v.kn v.kc,.slice v.va v.vn v.vc,.slice v.ia v.im v.ic] 138 (0,0)):=by rw [hW3]; exact blk_alloc (blk_alloc (blk_new _ _) _) _
 have hb1:W3.heap[w.heap.size+1]?=some (.cells #[.bool u.leaf,.slice u.ka u.kn u.kc,.slice u.va u.vn u.vc,.slice u.ia u.im u.ic] 138 (0,0)):=by
  rw [hW3,show w.heap.size+1=(w.alloc (.cells #[.bool v.leaf,.slice v.ka v.kn v.kc,.slice v.va v.vn v.vc,.slice v.ia v.im v.ic] 138)).heap.size from by simp]; exact blk_alloc (blk_new _ _) _
 have hb2:W3.heap[w.heap.size+1+1]?=some (.cells #[.bool false,.slice none 0 0,.slice none 0 0,.slice none 0 0] 138 (0,0)):=by
  rw [hW3,show w.heap.size+1+1=((w.alloc (.cells #[.bool v.leaf,.slice v.ka v.kn v.kc,.slice v.va v.vn v.vc,.slice v.ia v.im v.ic] 138)).alloc (.cells #[.bool u.leaf,.slice u.ka u.kn u.kc,.slice u.va u.vn u.vc,.slice u.ia u.im u.ic] 138)).heap.size from by simp]; exact blk_new _ _
 have hsz:W3.heap.size=w.heap.size+1+1+1:=by rw [hW3]; simp
 have hkl:=hv.rk.hlen
 have hul:=hu.rk.hlen
 have hvk:=hlv.1
 have huk:=hlu.1
 have HPA:=Lib.hid (npart_any 0 v.keys.length v W3 (hv.keep0 T0) hov (by omega) (Nat.le_refl _))
 rw [show (v.es.drop 0).take (v.keys.length - 0)=v.es from by rw [List.drop_zero,Nat.sub_zero,← v.es_len,List.take_length],← hkl] at HPA
 have HAD:Hid (∀ (nb:Nat) (W5:World),Tch [] W3 W5→W3.heap.size≤nb→OwE W3.heap.size nb v.leaf v.es W5→Calls Tryz.prog 230 _ W5 fun e w'=>e=.returned (.tuple #[])∧OwE W3.heap.size nb v.leaf (v.es++((mkN v.leaf u.keys u.vals u.kids).drop 0).take (u.keys.length - 0)) w'∧Below W3.heap.size W5 w'):=fun nb W5 t hnb hO =>
  nadd_any W3.heap.size nb 0 u.keys.length v.leaf v.es u W5 hO hnb (fun w' b=>hu.keep0 (below_tch (T0.trans t) b (by omega))) hou (by omega) (Nat.le_refl _) (by rw [v.es_len]; omega)
 rw [show ((mkN v.leaf u.keys u.vals u.kids).drop 0).take (u.keys.length - 0)=mkN v.leaf u.keys u.vals u.kids from by rw [List.drop_zero,Nat.sub_zero,List.take_of_length_le (by rw [mkN_len]; exact Nat.le_refl _)],← hul] at HAD
 have HND:Hid (∀ nb w4,OwE W3.heap.size nb v.leaf (v.es++mkN v.leaf u.keys u.vals u.kids) w4→_):=fun nb w4 hO=>OwE.node hO (fun e he=>by
  rcases List.mem_append.1 he with h | h
  · exact mkN_nrm _ _ _ _ e h
  · exact mkN_nrm _ _ _ _ e h) (short_app hov hou hlv hlu)
 have HBK:Hid (∀ w',Below W3.heap.size W3 w'→w'.heap[w.heap.size]?=_∧w'.heap[w.heap.size+1]?=_∧w'.heap[w.heap.size+1+1]?=_):=fun w' b=>⟨(b.block _ (by omega)).trans hb0,(b.block _ (by omega)).trans hb1,(b.block _ (by omega)).trans hb2⟩
 generalize v.es++mkN v.leaf u.keys u.vals u.kids=es2 at *
 generalize v.es=es1 at *
 have hk9:v.kn≤100000000:=by omega
 have hu9:u.kn≤100000000:=by omega
 clear hv hu hov hou hlv hlu hkl hul hvk huk hb1 hb2
 have p1:=blk_cell hb0 1
 have plt:=lt_of_block hb0
 go_enter Tryz.func206,Tryz.ntmps206
 go_wp2_with fail
 rw [← hW3]
 refine HPA.out.mono ?_
 rintro e w4 ⟨t4,z,rfl,hzg,hzn,hzl⟩
 have hbl4:Below W3.heap.size W3 w4:=t4.below (Nat.le_refl _) (by simp)
 obtain ⟨hc0,hc1,hc2⟩:=HBK.out _ hbl4
 have hzb:=blk_new w4 (.cells #[.bool z.leaf,.slice z.ka z.kn z.kc,.slice z.va z.vn z.vc,.slice z.ia z.im z.ic] 138)
 have hz2:NwN W3.heap.size z (w4.alloc (.cells #[.bool z.leaf,.slice z.ka z.kn z.kc,.slice z.va z.vn z.vc,.slice z.ia z.im z.ic] 138)):=hzn.keep (L:=[]) ((Tch.refl [] w4).alloc _) (by simp)
 have hO5:OwE W3.heap.size w4.heap.size v.leaf es1 (w4.alloc (.cells #[.bool z.leaf,.slice z.ka z.kn z.kc,.slice z.va z.vn z.vc,.slice z.ia z.im z.ic] 138)):=hz2.own (by rw [hzg.leaf] at hzb ⊢; exact hzb) hzl
 have HC5:=Lib.hid (HAD.out w4.heap.size _ (t4.alloc _) t4.size hO5)
 have T5:Tch [] W3 (w4.alloc (.cells #[.bool z.leaf,.slice z.ka z.kn z.kc,.slice z.va z.vn z.vc,.slice z.ia z.im z.ic] 138)):=t4.alloc _
 obtain ⟨hd0,hd1,hd2⟩:=HBK.out _ (T5.below (Nat.le_refl _) (by simp))
 have q0:=blk_cell hd1 0
 have q1:=blk_cell hd1 1
 have q2:=blk_cell hd1 2
 have q3:=blk_cell hd1 3
 have qlt:=lt_of_block hd1
 have q0':=blk_cell hc1 0
 have q1':=blk_cell hc1 1
 have q2':=blk_cell hc1 2
 have q3':=blk_cell hc1 3
 have qlt':=lt_of_block hc1
 simp only [gA,gZ,gS] at q0 q1 q2 q3 q0' q1' q2' q3'
 have HB4:=Lib.hid T5
 clear hzg hzn hzl hzb hz2 hO5 hd0 hd1 hd2 hc0 hc1 hc2 hbl4 HPA HAD
 go_wp2_with fail
 refine HC5.out.mono ?_
 rintro e w6 ⟨rfl,hO6,hbl6⟩
 obtain ⟨x,hxb,hxg,hxn,hxl⟩:=HND.out _ w6 hO6
 have T6:=below_tch (T0.trans HB4.out) hbl6 (by omega)
 have hr:w6.heap[w.heap.size+1+1]?=some (.cells #[.bool false,.slice none 0 0,.slice none 0 0,.slice none 0 0] 138 (0,0)):=by
  rw [hbl6.block _ (by omega)]; exact (HBK.out _ (HB4.out.below (Nat.le_refl _) (by simp))).2.2
 have r0:=blk_cell hr 0
 have r1:=blk_cell hr 1
 have r2:=blk_cell hr 2
 have r3:=blk_cell hr 3
 have f0:=blk_free hr 0
 have f1:=blk_free hr 1
 have f2:=blk_free hr 2
 have f3:=blk_free hr 3
 have rlt:=lt_of_block hr
 have x0:=blk_cell hxb 0
 have x1:=blk_cell hxb 1
 have x2:=blk_cell hxb 2
 have x3:=blk_cell hxb 3
 have xlt:=lt_of_block hxb
 simp only [gA,gZ,gS] at r0 r1 r2 r3 x0 x1 x2 x3
 have HF:Hid (∀ a b c d,NwPost w v.leaf es2 (.returned (.agg #[.bool x.leaf,.slice x.ka x.kn x.kc,.slice x.va x.vn x.vc,.slice x.ia x.im x.ic])) ((((w6.setCell ⟨w.heap.size+1+1,0,none⟩ a).setCell ⟨w.heap.size+1+1,1,none⟩ b).setCell ⟨w.heap.size+1+1,2,none⟩ c).setCell ⟨w.heap.size+1+1,3,none⟩ d)):=fun a b c d=>NwPost.stored (nb:=0) hxg hxn (by omega) (by omega) T6 hxl a b c d
 clear hO6 hbl6 hxb hxg hxn hxl T6 hr HND HBK HC5 HB4 hb0 hW3 T0 p1 plt q0 q1 q2 q3 q0' q1' q2' q3' qlt qlt'
 go_wp2_with fail
 refine bodyPost_ret (v:=.agg #[.bool x.leaf,.slice x.ka x.kn x.kc,.slice x.va x.vn x.vc,.slice x.ia x.im x.ic]) (by simp [results,Tryz.results206,go_sem,r0,r1,r2,r3]) rfl (HF.out _ _ _ _)
end Go.Proofs.YtlkgnljdpakkcaaGreatDoor
/-
 'middle' of package node: where a node is cut. Conditions: the node's lists and texts are short (Nv.Ok),and it has two entries at least.
-/
namespace Go.Proofs.YtlkgnljdpakkcaaGreatDoor
open Go.RowKit
set_option maxRecDepth 100000 in
set_option maxHeartbeats 1000000 in
theorem nmiddle_any (v:Nv) (w:World) (h:IsNv w v) (ho:v.Ok) (h2:2≤v.keys.length) :
 Calls Tryz.prog 229 #[.agg #[.bool v.leaf,.slice v.ka v.kn v.kc,.slice v.va v.vn v.vc,.slice v.ia v.im v.ic]] w fun e w'=>e=.returned (.int .i64 (cutN v.leaf v.es:Nat))∧Tch [] w w':=by
 have T0:Tch [] w (w.alloc (.cells #[.bool v.leaf,.slice v.ka v.kn v.kc,.slice v.va v.vn v.vc,.slice v.ia v.im v.ic] 138)):=(Tch.refl _ _).alloc _
 have HK:Hid (∀ k key w',v.keys[k]?=some key→Tch [] w w'→Calls Tryz.prog 232 _ w' fun e w2=>e=.returned (.int .i64 ((enb v.leaf (mkE v.leaf v.keys v.vals v.kids k key)).length:Nat))∧Tch [] w' w2):=fun k key w' hk t=>nweight_any v k key w' (h.keep0 t) ho hk
 have HW:Hid (∀ w',Tch [] w w'→Calls Tryz.prog 208 _ w' fun e w2=>e=.returned (.int .i64 ((v.es.flatMap (enb v.leaf)).length:Nat))∧Tch [] w' w2):=fun w' t=>nweights_any v w' (h.keep0 t) ho
 have HB:Hid (∀ w',Tch [] (w.alloc (.cells #[.bool v.leaf,.slice v.ka v.kn v.kc,.slice v.va v.vn v.vc,.slice v.ia v.im v.ic] 138)) w'→_):=fun w' t=>nvb_cells w v.leaf v.ka v.va v.ia v.kn v.kc v.vn v.vc v.im v.ic t
 have hn:v.kn≤100000000:=by have:=h.rk.hlen; have:=ho.lk; omega
 have hn2:2≤v.kn:=by have:=h.rk.hlen; omega
 have HLN:Hid (v.kn=v.keys.length):=h.rk.hlen
 have HLE:Hid (∀ k,wsum v.leaf v.es k≤1000000000000000000):=fun k=>by
  have h1:=wsum_le v.leaf v.es k
  have h2:=flat_fine (leaf:=v.leaf) (Nv.fine ho)
  have h3:=v.es_len
  have h4:=ho.lk
  have h5:v.es.length * 2000000020≤100000000 * 2000000020:=Nat.mul_le_mul_right _ (by omega)
  omega
 have hWb:(v.es.flatMap (enb v.leaf)).length≤1000000000000000000:=by
  have:=HLE.out v.es.length
  rw [wsum_all] at this
  exact this
 have H0:Hid (wsum v.leaf v.es 0=0):=by show _=_; simp [wsum]
 have HST:Hid (∀ k key,v.keys[k]?=some key→wsum v.leaf v.es (k+1)=wsum v.leaf v.es k+(enb v.leaf (mkE v.leaf v.keys v.vals v.kids k key)).length):=fun k key hk=>wsum_step _ _ _ _ (es_get v k key hk)
 have HCS:Hid (∀ k key,v.keys[k]?=some key→cutE v.leaf (v.es.flatMap (enb v.leaf)).length (v.kn - 2) k (wsum v.leaf v.es k) (v.es.drop k)=if (v.es.flatMap (enb v.leaf)).length≤2 * wsum v.leaf v.es (k+1)∨k=v.kn - 2 then k+1 else cutE v.leaf (v.es.flatMap (enb v.leaf)).length (v.kn - 2) (k+1) (wsum v.leaf v.es (k+1)) (v.es.drop (k+1))):=fun k key hk=>by
  rw [cut_step _ _ _ _ _ _ _ (es_get v k key hk),HST.out k key hk]
 have HC0:Hid (cutN v.leaf v.es=cutE v.leaf (v.es.flatMap (enb v.leaf)).length (v.kn - 2) 0 (wsum v.leaf v.es 0) (v.es.drop 0)):=by
  show _=_
  rw [H0.out,List.drop_zero,HLN.out,← v.es_len]
  rfl
 generalize hcn:cutN v.leaf v.es=r at HC0 ⊢
 obtain ⟨C,hC⟩:∃ C:Nat→Nat,C=fun k=>cutE v.leaf (v.es.flatMap (enb v.leaf)).length (v.kn - 2) k (wsum v.leaf v.es k) (v.es.drop k):=⟨_,rfl⟩
 have HC0':Hid (r=C 0):=by show _=_; rw [hC]; exact HC0.out
 have HCS':Hid (∀ k key,v.keys[k]?=some key→C k=if (v.es.flatMap (enb v.leaf)).length≤2 * wsum v.leaf v.es (k+1)∨k=v.kn - 2 then k+1 else C (k+1)):=fun k key hk=>by
  rw [hC]; exact HCS.out k key hk
 clear hC HC0 HCS hcn
 generalize wsum v.leaf v.es=ws at *
 generalize (v.es.flatMap (enb v.leaf)).length=WW at *
 generalize v.leaf=leaf at *
 generalize hkn2:v.kn=kn at *
 clear ho h h2
 obtain ⟨W1,hW1⟩:∃ W1,W1=w.alloc (.cells #[.bool leaf,.slice v.ka kn v.kc,.slice v.va v.vn v.vc,.slice v.ia v.im v.ic] 138):=⟨_,rfl⟩
 rw [← hW1] at HB T0
 have HC1:=Lib.hid (HW.out _ T0)
 go_enter Tryz.func229,Tryz.ntmps229
 go_wp2_with fail
 rw [← hW1]
 clear hW1
 refine HC1.out.mono ?_
 rintro e w2 ⟨rfl,t2⟩
 clear HC1 HW
 go_wp2_with fail
 go_loopw [5,14] (fun v5 v14 wr=>∃ k:Nat,k≤kn - 1∧v14=.int .i64 k∧v5=.int .i64 (ws k:Nat)∧(k < kn - 1→r=C k)∧(k=kn - 1→r=kn - 1)∧Tch [] W1 wr) (fun _ v14 _=>kn - (intOf v14).toNat)
 case atStart=>exact ⟨0,by omega,rfl,by rw [H0.out]; rfl,fun _=>HC0'.out,fun h=>by omega,t2⟩
 case round =>
  obtain ⟨k,hk,rfl,rfl,hr1,hr2,T⟩:=hrel
  obtain ⟨c0,c1,c2,c3,clt⟩:=HB.out _ T
  have HLAST:Hid ((kn:Int) - 1=((kn - 1:Nat):Int)):=by show _=_; omega
  by_cases hkl:k < kn - 1
  · have hkk:k < v.keys.length:=by rw [← HLN.out]; omega
    have hget:=List.getElem?_eq_getElem hkk
    have HC:=Lib.hid (HK.out k _ wr hget (T0.trans T))
    have hst:=HST.out k _ hget
    have hcs:=HCS'.out k _ hget
    have hle:=HLE.out (k+1)
    generalize (enb leaf (mkE leaf v.keys v.vals v.kids k (v.keys[k]'hkk))).length=m at HC hst
    have HS:Hid ((ws k:Int)+(m:Int)=((ws (k+1):Nat):Int)):=by show _=_; omega
    have hb1:(ws k:Int)+(m:Int)≤1000000000000000000:=by omega
    have hI:(k:Int) < (kn:Int) - 1:=by omega
    have hd:decide ((k:Int) < (kn:Int) - 1)=true:=decide_eq_true hI
    rw [← hr1 hkl] at hcs
    by_cases hc:WW≤2 * ws (k+1)
    · have HR:Hid (r=k+1):=by show _=_; rw [hcs,if_pos (Or.inl hc)]
      have hd2:decide ((WW:Int)≤2 * ((ws k:Int)+(m:Int)))=true:=decide_eq_true (by omega)
      clear hget hst hcs hr1 hr2 hc
      go_wp2_with fail
      refine HC.out.mono ?_
      rintro e w3 ⟨rfl,t3⟩
      go_wp2_with fail
      go_ret
      exact ⟨by rw [HR.out]; rfl,T0.trans (T.trans t3)⟩
    · have hd2:decide ((WW:Int)≤2 * ((ws k:Int)+(m:Int)))=false:=decide_eq_false (by omega)
      have HR1:Hid (k+1 < kn - 1→r=C (k+1)):=fun h=>by rw [hcs,if_neg (by omega)]
      have HR2:Hid (k+1=kn - 1→r=kn - 1):=fun h=>by rw [hcs,if_pos (Or.inr (by omega))]; omega
      clear hget hst hcs hr1 hr2 hc
      go_wp2_with fail
      refine HC.out.mono ?_
      rintro e w3 ⟨rfl,t3⟩
      go_wp2_with fail
      go_roundw
      case rel=>exact ⟨k+1,by omega,by go_num,by rw [HS.out],HR1.out,HR2.out,T.trans t3⟩
      case measure=>simp [intOf]; omega
  · obtain rfl:k=kn - 1:=by omega
    have HR:Hid (r=kn - 1):=hr2 rfl
    have hd:decide (((kn - 1:Nat):Int) < (kn:Int) - 1)=false:=decide_eq_false (by omega)
    clear hr1 hr2
    go_wp2_with fail
    go_ret
    exact ⟨by rw [HR.out,← HLAST.out]; rfl,T0.trans T⟩
end Go.Proofs.YtlkgnljdpakkcaaGreatDoor
/-
 What is written is read back,and what is read was written: numbers,texts,entries,nodes as bytes. Plain mathematics.
-/
namespace Go.Proofs.YtlkgnljdpakkcaaGreatDoor
/-! ### what is written is read back -/
theorem rtx_tx (s:ByteArray) (r:List UInt8) (hs:s.size≤1000000000):rtx (tx s++r)=(0,s,(tx s).length):=by
 have h:=rdu_ub64 s.size (by omega) (s.data.toList++r)
 have hl:(tx s).length=(ub s.size).length+s.size:=by unfold tx; rw [List.length_append,← Lib.size_eq]
 have e:tx s++r=ub s.size++(s.data.toList++r):=by unfold tx; rw [List.append_assoc]
 have hle:(tx s++r).length - (ub s.size).length=s.size+r.length:=by rw [List.length_append,hl]; omega
 unfold rtx
 rw [e,h]
 simp only
 rw [if_neg (by omega),← e,hle,if_neg (by omega),e]
 have hd:(ub s.size++(s.data.toList++r)).drop (ub s.size).length=s.data.toList++r:=List.drop_left
 rw [hd]
 have ht:(s.data.toList++r).take s.size=s.data.toList:=by
  rw [List.take_append_of_le_length (by rw [← Lib.size_eq]; omega),List.take_of_length_le (by rw [← Lib.size_eq]; omega)]
 rw [ht,hl]
def Norm (leaf:Bool) (e:En):Prop:=if leaf then e.kid=0 else e.val=⟨#[]⟩∧0≤e.kid∧e.kid < 16384
theorem rde_enb (leaf:Bool) (e:En) (r:List UInt8) (hk:e.key.size≤1000000000) (hv:e.val.size≤1000000000) (hn:Norm leaf e):rde leaf (enb leaf e++r)=some (e,(enb leaf e).length):=by
 obtain ⟨key,val,kid⟩:=e
 simp only at hk hv
 unfold rde enb
 cases leaf
 · obtain ⟨hval,h0,h1⟩:val=⟨#[]⟩∧0≤kid∧kid < 16384:=hn
   obtain ⟨m,rfl⟩:=Int.eq_ofNat_of_zero_le h0
   simp only [Bool.false_eq_true,if_false,List.append_assoc]
   rw [rtx_tx key _ hk]
   simp only
   have hd:(tx key++(ub (m:Int).toNat++r)).drop (tx key).length=ub (m:Int).toNat++r:=List.drop_left
   rw [hd,Int.toNat_natCast,rdu_ub64 m (by omega) r]
   simp only
   rw [if_neg (by omega),if_neg (by omega),List.length_append,hval]
 · have hkid:kid=0:=hn
   simp only [if_true,List.append_assoc]
   rw [rtx_tx key _ hk]
   simp only
   have hd:(tx key++(tx val++r)).drop (tx key).length=tx val++r:=List.drop_left
   rw [hd,rtx_tx val r hv]
   simp only
   rw [if_neg (by omega),if_neg (by omega),List.length_append,hkid]
theorem rdes_flat (leaf:Bool) (r:List UInt8):∀ (es pre:List En) (L:List UInt8) (p:Nat),L.drop p=es.flatMap (enb leaf)++r→(∀ e ∈ es,e.key.size≤1000000000∧e.val.size≤1000000000∧Norm leaf e)→rdes leaf L es.length p pre=some (pre++es,p+(es.flatMap (enb leaf)).length)
 | [],pre,L,p,h,_=>by simp [rdes]
 | e :: es,pre,L,p,h,hf=>by
  have he:=hf e (List.mem_cons_self ..)
  rw [List.flatMap_cons,List.append_assoc] at h
  rw [List.length_cons,rdes,h,rde_enb leaf e _ he.1 he.2.1 he.2.2]
  simp only
  have h2:L.drop (p+(enb leaf e).length)=es.flatMap (enb leaf)++r:=by
   rw [← List.drop_drop,h,List.drop_left]
  rw [rdes_flat leaf r es (pre++[e]) L _ h2 (fun a ha=>hf a (List.mem_cons_of_mem _ ha)),List.flatMap_cons,List.length_append]
  simp; omega
theorem ddec_ndb (leaf:Bool) (es:List En) (z:List UInt8) (hn:es.length < 1000000000) (hf:∀ e ∈ es,e.key.size≤1000000000∧e.val.size≤1000000000∧Norm leaf e) (hfit:fitN leaf es=true):ddec (ndb leaf es++z)=if nil0 z then some (leaf,es) else none:=by
 have hu:=rdu_ub64 es.length (by omega) (es.flatMap (enb leaf)++z)
 have hbb:(((if leaf then 1 else 2):UInt8) == 1)=leaf:=by cases leaf <;> decide
 have e0:ndb leaf es++z=(if leaf then 1 else 2) :: (ub es.length++(es.flatMap (enb leaf)++z)):=by unfold ndb; simp
 rw [e0,ddec_cons (by cases leaf <;> simp) hu,hbb]
 have hd:((if leaf then 1 else 2) :: (ub es.length++(es.flatMap (enb leaf)++z)):List UInt8).drop (1+(ub es.length).length)=es.flatMap (enb leaf)++z:=by
  rw [Nat.add_comm,List.drop_succ_cons,List.drop_left]
 rw [rdes_flat leaf z es [] _ _ hd hf]
 simp only
 rw [← List.drop_drop,hd,List.drop_left,List.nil_append,hfit,Bool.and_true]
/-! ### what is read was written -/
theorem rdu_inv:∀ (l:List UInt8) (i a w n:Nat),rdu l i a=(0,w,n)→∃ u,w=a+u * 128 ^ i∧n=i+(ub u).length∧l.take (ub u).length=ub u∧(i≠0→u≠0)
 | [],i,a,w,n,h=>by
  by_cases hi:i=10
  · subst hi; rw [rdu_10] at h; simp at h
  · rw [rdu_nil a hi] at h; simp at h
 | b :: l,i,a,w,n,h=>by
  have hb:=b.toNat_lt
  by_cases hi:i=10
  · subst hi; rw [rdu_10] at h; simp at h
  by_cases h128:128≤b.toNat
  · rw [rdu_more l a hi h128] at h
    obtain ⟨u,h1,h2,h3,h4⟩:=rdu_inv l (i+1) _ w n h
    have hu0:=h4 (by omega)
    have hq:¬ (b.toNat % 128+128 * u) < 128:=by omega
    have hub:ub (b.toNat % 128+128 * u)=b :: ub u:=by
     rw [ub_big hq,show (b.toNat % 128+128 * u) % 128+128=b.toNat from by omega,show (b.toNat % 128+128 * u) / 128=u from by omega]
     simp
    refine ⟨b.toNat % 128+128 * u,?_,?_,?_,fun _=>by omega⟩
    · rw [h1,Nat.pow_succ,Nat.add_mul,Nat.add_assoc,Nat.mul_comm (128 ^ i) 128,← Nat.mul_assoc,Nat.mul_comm u 128]
    · rw [hub,h2,List.length_cons]; omega
    · rw [hub,List.length_cons,List.take_succ_cons,h3]
  · have hlt:b.toNat < 128:=by omega
    by_cases h0:b.toNat=0∧i≠0
    · rw [rdu_zero l a hi h0.1 h0.2] at h; simp at h
    by_cases h9:i=9∧1 < b.toNat
    · obtain ⟨rfl,h9⟩:=h9
      rw [rdu_ten l a hlt h9] at h; simp at h
    rw [rdu_last l a hi hlt h0 h9] at h
    simp only [Prod.mk.injEq,true_and] at h
    refine ⟨b.toNat,by omega,?_,?_,fun hi0 hb0=>h0 ⟨hb0,hi0⟩⟩
    · rw [ub_small hlt]; simp; omega
    · rw [ub_small hlt]; simp
theorem rdu_pre {L:List UInt8} {v n:Nat} (h:rdu L 0 0=(0,v,n)):n=(ub v).length∧L.take n=ub v:=by
 obtain ⟨u,h1,h2,h3,_⟩:=rdu_inv L 0 0 v n h
 have:u=v:=by rw [h1]; simp
 subst this
 rw [Nat.zero_add] at h2
 exact ⟨h2,by rw [h2]; exact h3⟩
theorem pre_drop {L a:List UInt8} {n:Nat} (h:L.take n=a) (hn:n=a.length):L=a++L.drop n:=by
 conv=>lhs; rw [← List.take_append_drop n L,h]
theorem rtx_pre {L:List UInt8} {t:ByteArray} {n:Nat} (h:rtx L=(0,t,n)):n=(tx t).length∧L=tx t++L.drop n:=by
 unfold rtx at h
 rcases hr:rdu L 0 0 with ⟨c,v,m⟩
 rw [hr] at h
 simp only at h
 by_cases hc:c=0
 · subst hc
   rw [if_neg (by omega)] at h
   by_cases hl:L.length - m < v
   · rw [if_pos hl] at h; simp at h
   · rw [if_neg hl] at h
     simp only [Prod.mk.injEq,true_and] at h
     obtain ⟨rfl,rfl⟩:=h
     obtain ⟨h1,h2⟩:=rdu_pre hr
     have hml:m≤L.length:=by have:=rdu_bound L 0 0 0 v m hr (by simp) (by omega) rfl; omega
     have hsz:(⟨((L.drop m).take v).toArray⟩:ByteArray).size=v:=by
      show (List.toArray _).size=v
      rw [List.size_toArray,List.length_take,List.length_drop]; omega
     have htx:tx ⟨((L.drop m).take v).toArray⟩=ub v++(L.drop m).take v:=by unfold tx; rw [hsz]
     have hlen:(tx ⟨((L.drop m).take v).toArray⟩).length=m+v:=by
      rw [htx,List.length_append,← h1,List.length_take,List.length_drop]; omega
     refine ⟨hlen.symm,?_⟩
     have hp:L.take (m+v)=ub v++(L.drop m).take v:=by rw [List.take_add,h2]
     conv=>lhs; rw [← List.take_append_drop (m+v) L,hp]
     rw [htx]
 · rw [if_pos hc] at h; simp only [Prod.mk.injEq] at h; exact absurd h.1 hc
theorem rde_pre {leaf:Bool} {L:List UInt8} {e:En} {n:Nat} (h:rde leaf L=some (e,n)):n=(enb leaf e).length∧L=enb leaf e++L.drop n∧Norm leaf e:=by
 unfold rde at h
 rcases hr:rtx L with ⟨c,t,m⟩
 rw [hr] at h
 simp only at h
 by_cases hc:c=0
 · subst hc
   rw [if_neg (by omega)] at h
   obtain ⟨h1,h2⟩:=rtx_pre hr
   cases leaf
   · simp only [Bool.false_eq_true,if_false] at h
     rcases hq:rdu (L.drop m) 0 0 with ⟨c2,v,m2⟩
     rw [hq] at h
     simp only at h
     by_cases hc2:c2≠0∨16384≤v
     · rw [if_pos hc2] at h; cases h
     · rw [if_neg hc2] at h
       have hc20:c2=0:=by omega
       subst hc20
       cases h
       obtain ⟨h3,h4⟩:=rdu_pre hq
       have h5:=pre_drop h4 h3
       refine ⟨by simp [enb,← h1,← h3],?_,⟨rfl,by simp,by simp; omega⟩⟩
       unfold enb
       simp only [Bool.false_eq_true,if_false,Int.toNat_natCast,List.append_assoc]
       conv=>lhs; rw [h2,h5]
       rw [List.drop_drop]
   · simp only [if_true] at h
     rcases hq:rtx (L.drop m) with ⟨c2,t2,m2⟩
     rw [hq] at h
     simp only at h
     by_cases hc2:c2≠0
     · rw [if_pos hc2] at h; cases h
     · rw [if_neg hc2] at h
       have hc20:c2=0:=by omega
       subst hc20
       cases h
       obtain ⟨h3,h4⟩:=rtx_pre hq
       refine ⟨by simp [enb,← h1,← h3],?_,rfl⟩
       unfold enb
       simp only [if_true,List.append_assoc]
       conv=>lhs; rw [h2,h4]
       rw [List.drop_drop]
 · rw [if_pos hc] at h; cases h
theorem rdes_pre {leaf:Bool} {L:List UInt8}:∀ (c p:Nat) (pre es:List En) (q:Nat),rdes leaf L c p pre=some (es,q)→p≤L.length→∃ tl,es=pre++tl∧tl.length=c∧L.drop p=tl.flatMap (enb leaf)++L.drop q∧∀ e ∈ tl,Norm leaf e
 | 0,p,pre,es,q,h,_=>by
  simp only [rdes,Option.some.injEq,Prod.mk.injEq] at h
  obtain ⟨rfl,rfl⟩:=h
  exact ⟨[],by simp,rfl,by simp,fun e he=>by cases he⟩
 | c+1,p,pre,es,q,h,hp=>by
  rw [rdes] at h
  rcases hd:rde leaf (L.drop p) with _ | ⟨e,n⟩
  · rw [hd] at h; cases h
  · rw [hd] at h
    simp only at h
    obtain ⟨h1,h2,h3⟩:=rde_pre hd
    have hle:p+n≤L.length:=by
     have:=congrArg List.length h2
     rw [List.length_append,List.length_drop,← h1] at this
     omega
    obtain ⟨tl,g1,g2,g3,g4⟩:=rdes_pre c (p+n) (pre++[e]) es q h hle
    refine ⟨e :: tl,by rw [g1]; simp,by simp [g2],?_,fun a ha=>?_⟩
    · rw [List.flatMap_cons,List.append_assoc,← g3,← List.drop_drop]
      exact h2
    · rcases List.mem_cons.1 ha with rfl | ha
      · exact h3
      · exact g4 a ha
theorem ddec_pre {L:List UInt8} {leaf:Bool} {es:List En} (h:ddec L=some (leaf,es)):fitN leaf es=true∧(∃ z,L=ndb leaf es++z)∧∀ e ∈ es,Norm leaf e:=by
 cases L with
 | nil=>simp [ddec] at h
 | cons b M =>
  unfold ddec at h
  simp only at h
  by_cases hb:b≠1∧b≠2
  · rw [if_pos hb] at h; cases h
  rw [if_neg hb] at h
  rcases hr:rdu M 0 0 with ⟨c,v,m⟩
  rw [hr] at h
  simp only at h
  by_cases hc:c=0
  · subst hc
    rw [if_neg (by omega)] at h
    rcases hd:rdes (b == 1) (b :: M) v (1+m) [] with _ | ⟨es2,q⟩
    · rw [hd] at h; cases h
    · rw [hd] at h
      simp only at h
      split at h
      · rename_i hcond
        rw [Bool.and_eq_true] at hcond
        cases h
        obtain ⟨h1,h2⟩:=rdu_pre hr
        have hml:m≤M.length:=by have:=rdu_bound M 0 0 0 v m hr (by simp) (by omega) rfl; omega
        obtain ⟨tl,g1,g2,g3,g4⟩:=rdes_pre v (1+m) [] es q hd (by simp; omega)
        rw [List.nil_append] at g1
        subst g1
        refine ⟨hcond.2,⟨(b :: M).drop q,?_⟩,g4⟩
        rw [Nat.add_comm,List.drop_succ_cons] at g3
        have hb1:b=(if (b == 1)=true then 1 else 2):=by
         by_cases h:b=1
         · subst h; rfl
         · have:b=2:=by
            by_cases h2:b=2
            · exact h2
            · exact absurd ⟨h,h2⟩ hb
           subst this; rfl
        unfold ndb
        rw [g2,List.cons_append,← hb1,List.append_assoc,← g3]
        congr 1
        exact pre_drop h2 h1
      · cases h
  · rw [if_pos hc] at h; cases h
theorem Nv.norm {v:Nv} (h:v.fits=true):∀ e ∈ v.es,Norm v.leaf e:=by
 intro e he
 unfold Nv.fits fitN at h
 rw [Bool.and_eq_true,Bool.and_eq_true,Bool.and_eq_true] at h
 have hff:=h.2.1.1
 have hE:∀ (es:List En) prev,fitFrom v.leaf prev es=true→∀ e ∈ es,fitE v.leaf e=true:=by
  intro es
  induction es with
  | nil=>intro prev _ e he; cases he
  | cons a es ih =>
   intro prev hp e he
   rw [show fitFrom v.leaf prev (a :: es)=(fitE v.leaf a && (match prev with | none=>true | some p=>!sle a.key p) && fitFrom v.leaf (some a.key) es) from by cases prev <;> rfl,Bool.and_eq_true,Bool.and_eq_true] at hp
   rcases List.mem_cons.1 he with rfl | he
   · exact hp.1.1
   · exact ih _ hp.2 e he
 have h1:=hE _ _ hff e he
 unfold Nv.es mkN at he
 obtain ⟨p,_,rfl⟩:=List.mem_map.1 he
 unfold Norm
 unfold fitE at h1
 unfold mkE at h1 ⊢
 cases hl:v.leaf
 · rw [hl] at h1
   simp at h1 ⊢
   omega
 · simp
end Go.Proofs.YtlkgnljdpakkcaaGreatDoor
/-
 The law NodeSums,walked: it answers true and turns nothing that was there,if package node answers as the document has it. Condition: lists and texts of fewer than 10^7 parts.
-/
namespace Go.Proofs.YtlkgnljdpakkcaaGreatDoor
open Go.RowKit
theorem flat_pos (leaf:Bool) (es:List En):es.length≤(es.flatMap (enb leaf)).length:=by
 induction es with
 | nil=>simp
 | cons e es ih =>
  rw [List.flatMap_cons,List.length_append,List.length_cons]
  have:0 < (enb leaf e).length:=by
   unfold enb tx
   have:=List.length_pos_iff.2 (ub_ne e.key.size)
   simp only [List.length_append]; omega
  omega
end Go.Proofs.YtlkgnljdpakkcaaGreatDoor
/-
 The arithmetic of halves: a fit leaf with one entry more,behind its last key,is cut in two parts that are fit and heavy.
-/
namespace Go.Proofs.YtlkgnljdpakkcaaGreatDoor
open Go.RowKit
theorem cut_facts (leaf:Bool) (es:List En) (W last:Nat) (hlast:last+1 < es.length):∀ (d k:Nat),last - k=d→k≤last→2 * wsum leaf es k < W →
 ∃ r:Nat,cutE leaf W last k (wsum leaf es k) (es.drop k)=r∧1≤r∧r≤last+1∧(W≤2 * wsum leaf es r∨r=last+1)∧2 * wsum leaf es (r - 1) < W:=by
 intro d
 induction d with
 | zero =>
  intro k hd hk hw
  have hk2:k < es.length:=by omega
  have hget:=List.getElem?_eq_getElem hk2
  rw [cut_step _ _ _ _ _ _ _ hget,← wsum_step _ _ _ _ hget,if_pos (Or.inr (by omega))]
  exact ⟨k+1,rfl,by omega,by omega,Or.inr (by omega),by simpa using hw⟩
 | succ d ih =>
  intro k hd hk hw
  have hk2:k < es.length:=by omega
  have hget:=List.getElem?_eq_getElem hk2
  rw [cut_step _ _ _ _ _ _ _ hget,← wsum_step _ _ _ _ hget]
  by_cases h:W≤2 * wsum leaf es (k+1)∨k=last
  · rw [if_pos h]
    exact ⟨k+1,rfl,by omega,by omega,by omega,by simpa using hw⟩
  · rw [if_neg h]
    exact ih (k+1) (by omega) (by omega) (by omega)
theorem ndb_len (leaf:Bool) (es:List En):(ndb leaf es).length=1+((ub es.length).length+(es.flatMap (enb leaf)).length):=by unfold ndb; rw [List.length_cons,List.length_append]; omega
end Go.Proofs.YtlkgnljdpakkcaaGreatDoor
/-
 Split of package node: the node alone,or as two,in new memory. Conditions: the node's lists and texts are short (Nv.Ok).
-/
namespace Go.Proofs.YtlkgnljdpakkcaaGreatDoor
open Go.RowKit
def SpNewA (w:World) (leaf:Bool) (es:List En) (e:Ending) (w':World):Prop :=
 Tch [] w w'∧∃ (us:List Nv) (g:Nat),e=.returned (.slice (some ⟨g,0,none⟩) us.length us.length)∧w.heap.size≤g∧w'.heap[g]?=some (.cells (us.flatMap fNv).toArray 138 (0,0))∧us.map Nv.es=splitN leaf es∧(∀ u ∈ us,u.Good w' leaf u.es∧NwN w.heap.size u w')∧us.Pairwise (fun u z=>Apart (.slice u.ia u.im u.ic) (.slice z.ia z.im z.ic))
theorem SpNewA.one {w w2 w4:World} {leaf:Bool} {es:List En} {u:Nv} (h1:splitN leaf es=[es]) (T:Tch [] w w2) (t:Tch [] w2 w4) (hg:u.Good w4 leaf es) (hn:NwN w2.heap.size u w4) :
 SpNewA w leaf es (.returned (.slice (some ⟨w4.heap.size,0,none⟩) 1 1)) (w4.alloc (.cells #[.bool u.leaf,.slice u.ka u.kn u.kc,.slice u.va u.vn u.vc,.slice u.ia u.im u.ic] 138)):=by
 have tA:Tch [] w4 (w4.alloc (.cells #[.bool u.leaf,.slice u.ka u.kn u.kc,.slice u.va u.vn u.vc,.slice u.ia u.im u.ic] 138)):=(Tch.refl [] w4).alloc _
 have h2:=T.size
 have h3:=t.size
 refine ⟨(T.trans t).trans tA,[u],w4.heap.size,rfl,by omega,blk_new _ _,?_,?_,?_⟩
 · rw [h1]; simp [hg.es]
 · intro x hx
   simp only [List.mem_singleton] at hx
   subst hx
   rw [hg.es]
   exact ⟨hg.keep0 tA,(hn.keep tA (by simp)).base h2⟩
 · simp
theorem SpNewA.two {w w2 w3 w4:World} {leaf:Bool} {es xs ys:List En} {u z:Nv} (h1:splitN leaf es=[xs,ys]) (T:Tch [] w w2) (t:Tch [] w2 w3) (t2:Tch [] w3 w4) (hg:u.Good w3 leaf xs) (hn:NwN w2.heap.size u w3) (hg2:z.Good w4 leaf ys) (hn2:NwN w3.heap.size z w4) :
 SpNewA w leaf es (.returned (.slice (some ⟨w4.heap.size,0,none⟩) 2 2)) (w4.alloc (.cells #[.bool u.leaf,.slice u.ka u.kn u.kc,.slice u.va u.vn u.vc,.slice u.ia u.im u.ic,.bool z.leaf,.slice z.ka z.kn z.kc,.slice z.va z.vn z.vc,.slice z.ia z.im z.ic] 138)):=by
 have tA:Tch [] w4 (w4.alloc (.cells #[.bool u.leaf,.slice u.ka u.kn u.kc,.slice u.va u.vn u.vc,.slice u.ia u.im u.ic,.bool z.leaf,.slice z.ka z.kn z.kc,.slice z.va z.vn z.vc,.slice z.ia z.im z.ic] 138)):=(Tch.refl [] w4).alloc _
 have h2:=T.size
 have h3:=t.size
 have h4:=t2.size
 refine ⟨((T.trans t).trans t2).trans tA,[u,z],w4.heap.size,rfl,by omega,blk_new _ _,?_,?_,?_⟩
 · rw [h1]; simp [hg.es,hg2.es]
 · intro x hx
   rcases List.mem_cons.1 hx with rfl | hx
   · rw [hg.es]
     exact ⟨(hg.keep0 t2).keep0 tA,((hn.keep t2 (by simp)).keep tA (by simp)).base h2⟩
   · simp only [List.mem_singleton] at hx
     subst hx
     rw [hg2.es]
     exact ⟨hg2.keep0 tA,(hn2.keep tA (by simp)).base (by omega)⟩
 · refine List.pairwise_cons.2 ⟨fun y hy=>?_,by simp⟩
   simp only [List.mem_singleton] at hy
   subst hy
   intro b h5 h6
   have:=(hn.hi.lt b h5).2
   have:=(hn2.hi.lt b h6).1
   omega
set_option maxRecDepth 100000 in
set_option maxHeartbeats 1000000 in
theorem nsplit_new (v:Nv) (w:World) (h:IsNv w v) (ho:v.Ok) (hc:v.caps):Calls Tryz.prog 205 #[.agg #[.bool v.leaf,.slice v.ka v.kn v.kc,.slice v.va v.vn v.vc,.slice v.ia v.im v.ic]] w (SpNewA w v.leaf v.es):=by
 have T0:Tch [] w (w.alloc (.cells #[.bool v.leaf,.slice v.ka v.kn v.kc,.slice v.va v.vn v.vc,.slice v.ia v.im v.ic] 138)):=(Tch.refl _ _).alloc _
 have HB:Hid (∀ w',Tch [] (w.alloc (.cells #[.bool v.leaf,.slice v.ka v.kn v.kc,.slice v.va v.vn v.vc,.slice v.ia v.im v.ic] 138)) w'→_):=fun w' t=>nvb_cells w v.leaf v.ka v.va v.ia v.kn v.kc v.vn v.vc v.im v.ic t
 have hkl:=h.rk.hlen
 have hk8:=ho.lk
 have hel:=v.es_len
 have HPA:Hid (∀ i0 i1 w',i0≤i1→i1≤v.kn→Tch [] w w'→Calls Tryz.prog 228 _ w' (NwPost w' v.leaf ((v.es.drop i0).take (i1 - i0)))):=fun i0 i1 w' h01 h1 t=>npart_any i0 i1 v w' (h.keep0 t) ho h01 (by omega)
 have HWT:Hid (∀ w',Tch [] w w'→Calls Tryz.prog 176 _ w' fun e w2=>e=.returned (.int .i64 ((ndb v.leaf v.es).length:Nat))∧Tch [] w' w2):=fun w' t=>weight_any v w' (h.keep0 t) ho hc
 have hsm:=ndb_small (leaf:=v.leaf) (Nv.fine ho) (by rw [v.es_len]; exact ho.lk)
 have hall:(v.es.drop 0).take (v.kn - 0)=v.es:=by rw [List.drop_zero,Nat.sub_zero,hkl,← hel,List.take_length]
 obtain ⟨W1,hW1⟩:∃ W1,W1=w.alloc (.cells #[.bool v.leaf,.slice v.ka v.kn v.kc,.slice v.va v.vn v.vc,.slice v.ia v.im v.ic] 138):=⟨_,rfl⟩
 rw [← hW1] at HB T0
 obtain ⟨c0,c1,c2,c3,clt⟩:=HB.out W1 (Tch.refl _ _)
 by_cases hk2:v.kn < 2
 · have HS:Hid (splitN v.leaf v.es=[v.es]):=by show _=_; unfold splitN; rw [if_pos (Or.inr (by omega))]
   have HC:=Lib.hid (HPA.out 0 v.kn W1 (by omega) (Nat.le_refl _) T0)
   rw [hall] at HC
   have hd:decide (v.kn < 2)=true:=decide_eq_true hk2
   have hdi:decide ((v.kn:Int) < 2)=true:=decide_eq_true (by omega)
   clear h ho hc hkl hk8 hel hall HPA HWT hsm HB
   go_enter Tryz.func205,Tryz.ntmps205
   go_wp2_with fail
   rw [← hW1]
   refine HC.out.mono ?_
   rintro e w4 ⟨t4,u,rfl,hg,hn,_⟩
   have HF:=Lib.hid (SpNewA.one HS.out T0 t4 hg hn)
   clear hg hn HC hW1
   go_wp2_with fail
   go_ret
   exact HF.out
 have hd:decide (v.kn < 2)=false:=decide_eq_false hk2
 have hdi:decide ((v.kn:Int) < 2)=false:=decide_eq_false (by omega)
 have HCW:=Lib.hid (HWT.out W1 T0)
 by_cases hw:(ndb v.leaf v.es).length≤1024
 · have HS:Hid (splitN v.leaf v.es=[v.es]):=by show _=_; unfold splitN; rw [if_pos (Or.inl hw)]
   have HC:Hid (∀ w',Tch [] w w'→Calls Tryz.prog 228 _ w' (NwPost w' v.leaf v.es)):=fun w' t=>by
    have:=HPA.out 0 v.kn w' (by omega) (Nat.le_refl _) t
    rw [hall] at this
    exact this
   generalize (ndb v.leaf v.es).length=m at HCW hw
   have hdw:decide ((m:Int)≤1024)=true:=decide_eq_true (by omega)
   have hdw2:decide (m≤1024)=true:=decide_eq_true hw
   clear h ho hc hkl hk8 hel hall HPA HWT hsm
   go_enter Tryz.func205,Tryz.ntmps205
   go_wp2_with fail
   rw [← hW1]
   refine HCW.out.mono ?_
   rintro e w2 ⟨rfl,t2⟩
   obtain ⟨d0,d1,d2,d3,dlt⟩:=HB.out _ t2
   have T2:=T0.trans t2
   have HC2:=Lib.hid (HC.out _ T2)
   clear HC HCW hW1
   go_wp2_with fail
   refine HC2.out.mono ?_
   rintro e w4 ⟨t4,u,rfl,hg,hn,_⟩
   have HF:=Lib.hid (SpNewA.one HS.out T2 t4 hg hn)
   clear hg hn HC2
   go_wp2_with fail
   go_ret
   exact HF.out
 · have hcf:=cut_facts v.leaf v.es (v.es.flatMap (enb v.leaf)).length (v.es.length - 2) (by omega) (v.es.length - 2) 0 (by omega) (by omega) (by
    have h1:wsum v.leaf v.es 0=0:=by simp [wsum]
    rw [h1]
    have h2:=ndb_head v
    have:(hdN v.leaf v.keys.length).size≤1000:=by
     unfold hdN
     show (List.toArray _).size≤_
     rw [List.size_toArray,List.length_cons]
     have:=ub10 v.keys.length (by omega)
     omega
    omega)
   obtain ⟨r,hr0,hr1,hr2,_⟩:=hcf
   have hcut:cutN v.leaf v.es=r:=by
    rw [← hr0]
    unfold cutN
    have h1:wsum v.leaf v.es 0=0:=by simp [wsum]
    rw [h1,List.drop_zero]
   have HMD:Hid (∀ w',Tch [] w w'→Calls Tryz.prog 229 _ w' fun e w2=>e=.returned (.int .i64 (r:Nat))∧Tch [] w' w2):=fun w' t=>by
    have:=nmiddle_any v w' (h.keep0 t) ho (by omega)
    rw [hcut] at this
    exact this
   have HS:Hid (splitN v.leaf v.es=[(v.es.drop 0).take (r - 0),(v.es.drop r).take (v.kn - r)]):=by
    show _=_
    unfold splitN
    rw [if_neg (by omega),hcut,List.drop_zero,Nat.sub_zero,hkl,← hel,List.take_of_length_le (l:=v.es.drop r) (by rw [List.length_drop]; omega)]
   have HP1:Hid (∀ w',Tch [] w w'→Calls Tryz.prog 228 #[.agg #[.bool v.leaf,.slice v.ka v.kn v.kc,.slice v.va v.vn v.vc,.slice v.ia v.im v.ic],.int .i64 0,.int .i64 (r:Nat)] w' (NwPost w' v.leaf ((v.es.drop 0).take (r - 0)))):=fun w' t=>HPA.out 0 r w' (by omega) (by omega) t
   have HP2:Hid (∀ w',Tch [] w w'→Calls Tryz.prog 228 #[.agg #[.bool v.leaf,.slice v.ka v.kn v.kc,.slice v.va v.vn v.vc,.slice v.ia v.im v.ic],.int .i64 (r:Nat),.int .i64 (v.kn:Nat)] w' (NwPost w' v.leaf ((v.es.drop r).take (v.kn - r)))):=fun w' t=>HPA.out r v.kn w' (by omega) (Nat.le_refl _) t
   have hr9:r≤100000000:=by omega
   generalize (ndb v.leaf v.es).length=m at HCW hw hsm
   generalize (v.es.drop 0).take (r - 0)=es1 at *
   generalize (v.es.drop r).take (v.kn - r)=es2 at *
   generalize v.es=es at HS hr2 ⊢
   have hdw:decide ((m:Int)≤1024)=false:=decide_eq_false (by omega)
   have hdw2:decide (m≤1024)=false:=decide_eq_false hw
   clear h ho hc hkl hel hall HPA HWT hcut hr0
   go_enter Tryz.func205,Tryz.ntmps205
   go_wp2_with fail
   rw [← hW1]
   refine HCW.out.mono ?_
   rintro e w2 ⟨rfl,t2⟩
   obtain ⟨d0,d1,d2,d3,dlt⟩:=HB.out _ t2
   have T2:=T0.trans t2
   have HM2:=Lib.hid (HMD.out _ T2)
   clear HMD HCW hW1
   go_wp2_with fail
   refine HM2.out.mono ?_
   rintro e w3 ⟨rfl,t3⟩
   have T3:=T2.trans t3
   have HC:Hid (∀ w',Tch [] w3.drew w'→w'.cell? ⟨w.heap.size,0,none⟩=some (.bool v.leaf)∧w'.cell? ⟨w.heap.size,1,none⟩=some (.slice v.ka v.kn v.kc)∧w'.cell? ⟨w.heap.size,2,none⟩=some (.slice v.va v.vn v.vc)∧w'.cell? ⟨w.heap.size,3,none⟩=some (.slice v.ia v.im v.ic)):=fun w' t=>by
    obtain ⟨c0,c1,c2,c3,_⟩:=HB.out w' (((t2.trans t3).drew).trans t)
    exact ⟨c0,c1,c2,c3⟩
   have T3d:=T3.drew
   have HF:Hid (∀ w7 w8 u z,Tch [] w3.drew w7→u.Good w7 v.leaf es1→NwN w3.drew.heap.size u w7→Tch [] w7 w8→z.Good w8 v.leaf es2→NwN w7.heap.size z w8→_):=fun w7 w8 u z t7 hg hn t8 hg2 hn2=>SpNewA.two HS.out T3d t7 t8 hg hn hg2 hn2
   clear HM2 d0 d1 d2 d3 dlt
   go_wp2_with fail
   go_region_held3 (fun w'=>w'.cell? ⟨w.heap.size,0,none⟩=some (.bool v.leaf)∧w'.cell? ⟨w.heap.size,1,none⟩=some (.slice v.ka v.kn v.kc)∧w'.cell? ⟨w.heap.size,2,none⟩=some (.slice v.va v.vn v.vc)∧w'.cell? ⟨w.heap.size,3,none⟩=some (.slice v.ia v.im v.ic))
    (first | exact HC.out _ ((t7.trans t8).alloc _) | exact HC.out _ (t7.trans t8) | exact HC.out _ t7 | exact HC.out _ (Tch.refl _ _))
    (first
     | (go_at_call 228; (with_reducible refine (HP1.out _ T3d).mono ?_); rintro e w7 ⟨t7,u,rfl,hg,hn,_⟩)
     | (go_at_call 228; (with_reducible refine (HP2.out _ (T3d.trans t7)).mono ?_); rintro e w8 ⟨t8,z,rfl,hg2,hn2,_⟩))
   have HFF:=Lib.hid (HF.out w7 w8 u z t7 hg hn t8 hg2 hn2)
   clear hg hn hg2 hn2
   go_wp2_with fail
   go_ret
   exact HFF.out
end Go.Proofs.YtlkgnljdpakkcaaGreatDoor
/-
 The atomic counters of a disk,its lock and its sync.Once,each call as a contract on the cells that it reads and writes. Run of one goroutine. No condition on the program's inputs.
-/
namespace Go.Proofs.YtlkgnljdpakkcaaGreatDoor
open Go.RowKit
theorem disable (w:World):(callFunc 236 #[]).run Tryz.prog w=.ok (.value (.tuple #[])) w:=run_call_mark0 Tryz.func236 (by kernel_rfl) (by kernel_rfl) (by kernel_rfl) .disable (by kernel_rfl) w
theorem enable (w:World):(callFunc 238 #[]).run Tryz.prog w=.ok (.value (.tuple #[])) w:=run_call_mark0 Tryz.func238 (by kernel_rfl) (by kernel_rfl) (by kernel_rfl) .enable (by kernel_rfl) w
theorem acquire (a:Addr) (w:World):(callFunc 239 #[.pointer (some a)]).run Tryz.prog w=.ok (.value (.tuple #[])) w:=run_call_marked Tryz.func239 (by kernel_rfl) (by kernel_rfl) (by kernel_rfl) .acquire (by kernel_rfl) a w
theorem releaseMerge (a:Addr) (w:World):(callFunc 241 #[.pointer (some a)]).run Tryz.prog w=.ok (.value (.tuple #[])) w:=run_call_marked Tryz.func241 (by kernel_rfl) (by kernel_rfl) (by kernel_rfl) .releaseMerge (by kernel_rfl) a w
theorem ald (b o:Nat) (x:Int) (w:World) (hc:w.cell? ⟨b,o,none⟩=some (.int .i64 x)) :
 Calls Tryz.prog 63 #[.pointer (some ⟨b,o,none⟩)] w fun e w'=>e=.returned (.int .i64 x)∧w=w':=by
 have hl:=run_call_load (P:=Tryz.prog) Tryz.func109 (by kernel_rfl) (by kernel_rfl) (by kernel_rfl) .i64 (by kernel_rfl) hc
 go_enter Tryz.func63,Tryz.ntmps63
 go_wp2
 go_ret
 exact ⟨rfl,rfl⟩
theorem ast (b o:Nat) (x:Value) (y:Int) (w:World) (hc:w.cell? ⟨b,o,none⟩=some x) (hz:w.frozen? ⟨b,o,none⟩=false) :
 Calls Tryz.prog 53 #[.pointer (some ⟨b,o,none⟩),.int .i64 y] w fun e w'=>e=.returned (.tuple #[])∧w'=w.setCell ⟨b,o,none⟩ (.int .i64 y):=by
 have hst:=run_call_store (P:=Tryz.prog) Tryz.func96 (by kernel_rfl) (by kernel_rfl) (by kernel_rfl) (by kernel_rfl) (k:=.i64) (y:=y) hc hz
 go_enter Tryz.func53,Tryz.ntmps53
 go_wp2
 go_end0
 exact ⟨rfl,rfl⟩
theorem aad (b o:Nat) (x y:Int) (w:World) (hc:w.cell? ⟨b,o,none⟩=some (.int .i64 x)) (hz:w.frozen? ⟨b,o,none⟩=false) :
 Calls Tryz.prog 67 #[.pointer (some ⟨b,o,none⟩),.int .i64 y] w fun e w'=>e=.returned (.int .i64 (wrap64 (x+y)))∧w'=w.setCell ⟨b,o,none⟩ (.int .i64 (wrap64 (x+y))):=by
 have hadd:=run_call_add (P:=Tryz.prog) Tryz.func110 (by kernel_rfl) (by kernel_rfl) (by kernel_rfl) .i64 (by kernel_rfl) (y:=y) (s:=wrap64 (x+y)) hc hz (by simp [go_sem,IntKind.wrap_i64,wrap64])
 go_enter Tryz.func67,Tryz.ntmps67
 go_wp2
 go_ret
 exact ⟨rfl,rfl⟩
theorem bst_deferred (a:Addr) (x:Value) (u:FrameMode) (w:World) (hc:w.cell? a=some x) (hz:w.frozen? a=false) :
 CallsD Tryz.prog 196 #[.pointer (some a),.bool true] u w fun e u' w'=>u'=u∧(e=.returned (.tuple #[])∧w'=w.drew.setCell a (.int .u32 1)):=by
 have hc':w.drew.cell? a=some x:=by go_simp
 have hz':w.drew.frozen? a=false:=by go_simp
 have hst:=run_call_store (P:=Tryz.prog) Tryz.func222 (by kernel_rfl) (by kernel_rfl) (by kernel_rfl) (by kernel_rfl) (k:=.u32) (y:=1) hc' hz'
 go_enter_d Tryz.func196,Tryz.ntmps196
 go_wp2
 go_region_calls
 all_goals (go_end0; exact ⟨rfl,rfl⟩)
set_option maxRecDepth 100000 in
theorem unlock_deferred (a:Addr) (u:FrameMode) (w:World) (hc:w.cell? a=some (.int .i32 1)) (hz:w.frozen? a=false) :
 CallsD Tryz.prog 195 #[.pointer (some a)] u w fun e u' w'=>u'=u∧(e=.returned (.tuple #[])∧w'=w.setCell a (.int .i32 0)):=by
 have hd:=disable
 have he:=enable
 have hr:=releaseMerge
 have hadd:=run_call_add (P:=Tryz.prog) Tryz.func242 (by kernel_rfl) (by kernel_rfl) (by kernel_rfl) .i32 (by kernel_rfl) (y := -1) (s:=0) hc hz (by simp [go_sem]; rfl)
 have hcv:=run_convert_to_unsafe (P:=Tryz.prog) (src:=340) (dst:=304) Tryz.underlying340 Tryz.underlying304 (by kernel_rfl) hc
 go_enter_d Tryz.func195,Tryz.ntmps195
 go_wp2
 go_end0
 go_wp2
 go_end0
 exact ⟨rfl,rfl⟩
set_option maxRecDepth 100000 in
theorem lock_free (a:Addr) (w:World) (hc:w.cell? a=some (.int .i32 0)) (hz:w.frozen? a=false) :
 Calls Tryz.prog 194 #[.pointer (some a)] w fun e w'=>e=.returned (.tuple #[])∧w'=w.setCell a (.int .i32 1):=by
 have hd:=disable
 have he:=enable
 have ha:=acquire
 have hcas:=run_call_cas_hit (P:=Tryz.prog) Tryz.func237 (by kernel_rfl) (by kernel_rfl) (by kernel_rfl) .i32 (by kernel_rfl) (y:=1) hc hz
 have hc':(w.setCell a (.int .i32 1)).cell? a=some (.int .i32 1):=World.cell?_setCell_same w a _ hc
 have hcv:=run_convert_to_unsafe (P:=Tryz.prog) (src:=340) (dst:=304) Tryz.underlying340 Tryz.underlying304 (by kernel_rfl) hc'
 go_enter Tryz.func194,Tryz.ntmps194
 go_wp2
 first | go_end0 | (simp only [Exit.inBlock,Exit.then]; refine bodyPost_ret (results_none rfl _ _ _) rfl ?_) | refine bodyPost_ret (results_none rfl _ _ _) rfl ?_
 go_wp2
 go_end0
 exact ⟨rfl,rfl⟩
theorem bld (a:Addr) (x:Int) (w:World) (hc:w.cell? a=some (.int .u32 x)) (t:Bool) (ht:(x != 0)=t) :
 Calls Tryz.prog 159 #[.pointer (some a)] w fun e w'=>e=.returned (.bool t)∧w=w':=by
 have hl:=run_call_load (P:=Tryz.prog) Tryz.func193 (by kernel_rfl) (by kernel_rfl) (by kernel_rfl) .u32 (by kernel_rfl) hc
 go_enter Tryz.func159,Tryz.ntmps159
 go_wp2
 go_ret
 exact ⟨rfl,rfl⟩
end Go.Proofs.YtlkgnljdpakkcaaGreatDoor
