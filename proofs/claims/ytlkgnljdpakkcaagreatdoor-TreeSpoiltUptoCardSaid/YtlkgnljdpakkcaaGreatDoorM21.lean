/-
  Parts of the proof: All, Scn.
-/
import Derived.Test.YtlkgnljdpakkcaaGreatDoorM20
import Derived.Test.YtlkgnljdpakkcaaGreatDoorM16
import Derived.Test.YtlkgnljdpakkcaaGreatDoorM05
set_option linter.unusedVariables false
set_option linter.unusedSimpArgs false
/-
 'alterAll' of a draft: all changes come about,those that take room away ahead of those that want more. Conditions: the tree is right,the changes' keys and values are short,their number is at most 1,048,576.
-/
namespace Go.Proofs.YtlkgnljdpakkcaaGreatDoor
open Go.RowKit
theorem alter_any (db H0 h:Nat) (d:Dv) (T:Tv) (c:Ch) (F:List En) (S:List Int) (w:World) (hd:IsDr w db d H0) (hT:∀ W,Tch [db,d.mb] w W→IsTr W d.tb T) (h0:H0≤w.heap.size) (hfr:d.fresh+2 * (h+1) < 199999980) (hc:c.ok) (dok:Dok (mN T.f) d.ov d.root h F S) :
 Calls Tryz.prog 98 #[.pointer (some ⟨db,0,none⟩),.agg #[.string c.key,.string c.val,.bool c.gone]] w (AlrPost w db H0 d (alt (mN T.f) h d.ov d.root c)):=by
 obtain ⟨ck,cv,cg⟩:=c
 by_cases hr:d.root=0
 · cases cg
   · exact alter_first db H0 h d T ck cv w hd h0 hr (by omega) hc
   · exact alter_gone db H0 h d T ck cv w hd hr
 · exact alter_some db H0 h d T ck cv cg F S w hd hT h0 hr hfr hc dok
def fChg (c:Ch):List Value:=[.string c.key,.string c.val,.bool c.gone]
theorem fChg_one (c:Ch):∀ v ∈ fChg c,v.oneCell'=true:=fun v hv=>by
 unfold fChg at hv
 simp only [List.mem_cons,List.not_mem_nil,or_false] at hv
 rcases hv with rfl | rfl | rfl <;> rfl
theorem IsDr.keepK {w w':World} {db H0 r:Nat} {d:Dv} {cs:Array Value} {e:TypeId} {z:Nat × Nat} (h:IsDr w db d H0) (hb:w.heap[r]?=some (.cells cs e z)) (he:e≠200∧e≠9∧e≠3) (t:Tch [r] w w'):IsDr w' db d H0 :=
 h.keepR t (fun e1=>by subst e1; rw [h.blk] at hb; simp at hb; exact he.1 hb.2.1.symm) (h.ns.mp.ne hb) (fun x v hv=>(h.ns.gd x v hv).offk (fun cs=>by rw [hb]; exact ⟨fun e1=>by simp at e1; exact he.2.1 e1.2.1,fun e1=>by simp at e1; exact he.2.2 e1.2.1⟩))
theorem own_kindK {w:World} {B b k:Nat} {e:TypeId} {v:Value} {n:Nat} {xs:List Value} (h:w.ownsRow B e k v n xs) (hv:v.ownBlock=some b):∃ cs,w.heap[b]?=some (.cells cs e (0,0)):=by
 rcases h.2 with ⟨rfl,_⟩ | ⟨g,cap,cur,rfl,_,hg,_⟩
 · simp [Value.ownBlock] at hv
 · simp [Value.ownBlock] at hv; subst hv; exact ⟨_,hg⟩
theorem IsDr.grow {w w':World} {db H0 B k n:Nat} {d:Dv} {v:Value} {xs:List Value} (h:IsDr w db d H0) (ho:w.ownsRow B 62 k v n xs) (hg:w.grownBy w' v.ownBlock):IsDr w' db d H0:=by
 cases hv:v.ownBlock with
 | none =>
  rw [hv] at hg
  exact h.keep0 ⟨hg.os,hg.tape,hg.output,hg.size,fun q hq _=>hg.block q hq (by simp)⟩
 | some r =>
  obtain ⟨cs,hc⟩:=own_kindK ho hv
  rw [hv] at hg
  exact h.keepK hc ⟨by decide,by decide,by decide⟩ ⟨hg.os,hg.tape,hg.output,hg.size,fun q hq hn=>hg.block q hq (by simpa using hn)⟩
def AllRel (T:Tv) (cs:List Ch) (F0:List En) (S0:List Int) (db H0:Nat) (d:Dv) (w:World) (v4 v11:Value) (wr:World):Prop :=
 ∃ (k h1:Nat) (d1:Dv) (S1:List Int),k≤cs.length∧v11=.int .i64 (k:Nat)∧Din (mN T.f) F0 S0 ((cs.take k).filter fun c=>!gr F0 c) d1.ov d1.root h1 S1∧IsDr wr db d1 H0∧d1.tb=d.tb∧d1.mb=d.mb ∧
  wr.ownsRow w.heap.size 62 3 v4 ((cs.take k).filter (gr F0)).length (((cs.take k).filter (gr F0)).flatMap fChg)∧Tch [db,d.mb] w wr
def AllRel2 (T:Tv) (done gs:List Ch) (F0:List En) (S0:List Int) (db H0:Nat) (d:Dv) (w:World) (v28:Value) (wr:World):Prop :=
 ∃ (k h1:Nat) (d1:Dv) (S1:List Int),k≤gs.length∧v28=.int .i64 (k:Nat)∧Din (mN T.f) F0 S0 (done++gs.take k) d1.ov d1.root h1 S1∧IsDr wr db d1 H0∧d1.tb=d.tb∧d1.mb=d.mb∧Tch [db,d.mb] w wr
def AllPost (w:World) (T:Tv) (db H0:Nat) (d:Dv) (F0:List En) (S0:List Int) (cs:List Ch) (e:Ending) (w':World):Prop :=
 ∃ (d2:Dv) (h2:Nat) (S2:List Int),e=.returned (.tuple #[])∧Din (mN T.f) F0 S0 (ords F0 cs) d2.ov d2.root h2 S2∧IsDr w' db d2 H0∧d2.tb=d.tb∧d2.mb=d.mb∧Tch [db,d.mb] w w'
theorem take_snoc {cs:List Ch} {k:Nat} (hk:k < cs.length):cs.take (k+1)=cs.take k++[cs[k]]:=by
 rw [List.take_add_one,List.getElem?_eq_getElem hk]; rfl
theorem cells_three (w:World) (x y z:Value) (T:TypeId):∀ j u,[x,y,z][j]?=some u→(w.alloc (.cells #[x,y,z] T)).cell? ((⟨w.heap.size,0,none⟩:Addr).add j)=some u:=fun j u hu=>by
 rw [add_mk,blk_cell (blk_new w _),Nat.zero_add]; simpa using hu
theorem Tch.grownL {L:List Nat} {w a b:World} {row:Option Nat} (t:Tch L w a) (hg:a.grownBy b row) (h:∀ k,row=some k→w.heap.size≤k):Tch L w b :=
 ⟨hg.os.trans t.os,hg.tape.trans t.tape,hg.output.trans t.output,Nat.le_trans t.size hg.size,fun q hq hn=>(hg.block q (Nat.lt_of_lt_of_le hq t.size) (fun e=>by have:=h q e.symm; omega)).trans (t.block q hq hn)⟩
theorem Tryz.info_tch:(Tryz.prog.info? 62).map (fun i=>(i.zero,i.size,i.bytes))=some (some (.agg #[.string ⟨#[]⟩,.string ⟨#[]⟩,.bool false]),3,40):=by kernel_rfl
set_option maxRecDepth 100000 in
set_option maxHeartbeats 8000000 in
theorem alterAll_any (db H0 h:Nat) (d:Dv) (T:Tv) (cs:List Ch) (F0:List En) (S0:List Int) (a:Option Addr) (n c b o:Nat) (w:World) (hd:IsDr w db d H0) (hT:∀ W,Tch [db,d.mb] w W→IsTr W d.tb T) (h0:H0≤w.heap.size) (hin:Din (mN T.f) F0 S0 [] d.ov d.root h S0) (hS0:S0.length≤16383)
 (hst:Stands (mN T.f) h T.root) (hrt:0≤T.root∧T.root < (topN:Int)) (hF:∀ key,getT (mN T.f) h T.root key=look F0 key) (hcs:∀ c ∈ cs,c.ok) (hlen:cs.length≤1048576) (hr:IsR fChg 3 w a n b o cs) (hz:a=none→n=0∧c=0) (hb:0 < n→b≠db∧b≠d.mb) :
 Calls Tryz.prog 56 #[.pointer (some ⟨db,0,none⟩),.slice a n c] w (AllPost w T db H0 d F0 S0 cs):=by
 obtain rfl:=hr.hlen
 have hl0:=lt_of_block hd.blk
 have hmbl:d.mb < w.heap.size:=by obtain ⟨D,⟨es,clock,hb,_⟩,_⟩:=hd.ns.mp; exact lt_of_block hb
 have HAL:Hid (∀ W (d1:Dv) (done:List Ch) (h1:Nat) (S1:List Int) (c:Ch),IsDr W db d1 H0→d1.tb=d.tb→d1.mb=d.mb→Tch [db,d.mb] w W→Din (mN T.f) F0 S0 done d1.ov d1.root h1 S1→c.ok→done.length < 1048576→Calls Tryz.prog 98 #[.pointer (some ⟨db,0,none⟩),.agg #[.string c.key,.string c.val,.bool c.gone]] W fun e w'=>∃ (d2:Dv) (h2:Nat) (S2:List Int),e=.returned (.tuple #[])∧IsDr w' db d2 H0∧Din (mN T.f) F0 S0 (done++[c]) d2.ov d2.root h2 S2∧d2.tb=d.tb∧d2.mb=d.mb∧Tch [db,d.mb] W w'):=fun W d1 done h1 S1 c g1 g2 g3 g4 g5 g6 g7=>by
  have h9:=(g5.h9 (by omega)).1
  have hfr:=g5.fr
  have e1:d1.ov.fresh=d1.fresh:=rfl
  refine (alter_any db H0 h1 d1 T c _ _ W g1 (fun W' t'=>by rw [g2]; exact hT W' (g4.trans (by rw [g3] at t'; exact t'))) (Nat.le_trans h0 g4.size) (by omega) g6 g5.ok).mono ?_
  rintro e w' ⟨d2,rfl,k1,k2,k3,k4,k5,k6⟩
  obtain ⟨h2,S2,k7⟩:=g5.step g6 hS0 g7
  rw [← k2,← k3] at k7
  rw [g3] at k6
  exact ⟨d2,h2,S2,rfl,k1,k7,k4.trans g2,k5.trans g3,k6⟩
 have HGR:Hid (∀ W (d1:Dv) (c:Ch),IsDr W db d1 H0→d1.tb=d.tb→Tch [db,d.mb] w W→c.ok→Calls Tryz.prog 97 #[.pointer (some ⟨db,0,none⟩),.agg #[.string c.key,.string c.val,.bool c.gone]] W fun e w'=>e=.returned (.bool (gr F0 c))∧Tch [] W w'):=fun W d1 c g1 g2 g4 g6=>by
  have:=grows_any db H0 h d1 T c.key c.val c.gone W g1 (by rw [g2]; exact hT W g4) hst hrt (by have:=g6.k2; omega) (by have:=g6.v; omega)
  rw [hF,← grO_is] at this
  exact this
 have HCE:Hid (∀ W,Tch [db,d.mb] w W→∀ k (hk:k < cs.length),W.cell? ⟨b,o+k * 3,none⟩=some (.string cs[k].key)∧W.cell? ⟨b,o+k * 3+1,none⟩=some (.string cs[k].val)∧W.cell? ⟨b,o+k * 3+2,none⟩=some (.bool cs[k].gone)∧a=some ⟨b,o,none⟩):=fun W t k hk=>by
  have r:=hr.keep t (fun hp=>by have:=hb hp; simp; exact this)
  have hg:=List.getElem?_eq_getElem hk
  exact ⟨r.c hg 0 rfl,r.c hg 1 rfl,r.c hg 2 rfl,r.some_ (by omega)⟩
 have HST:Hid (AllRel T cs F0 S0 db H0 d w (.slice none 0 0) (.int .i64 0) w):=⟨0,h,d,S0,Nat.zero_le _,rfl,hin,hd,rfl,rfl,World.ownsRow_nil _ _ _ _,Tch.refl _ _⟩
 have HCS:Hid (∀ k (hk:k < cs.length),cs[k].ok):=fun k hk=>hcs _ (List.getElem_mem hk)
 obtain ⟨i0,hi,hz0,hz1,hz2⟩:=info_parts Tryz.info_tch
 have HZ:=Lib.hid hz
 clear hd hT hin hst hrt hF hcs hr hz hb
 go_enter Tryz.func56,Tryz.ntmps56
 go_wp2_with fail
 go_loopw [4,11] (fun v4 v11 wr=>AllRel T cs F0 S0 db H0 d w v4 v11 wr) (fun _ v11 _=>cs.length - (intOf v11).toNat)
 case atStart=>exact HST.out
 case round =>
  obtain ⟨k,h1,d1,S1,hk,rfl,hdin,hd1,e1,e2,hown,t⟩:=hrel
  by_cases hlt:k < cs.length
  · obtain ⟨c0,c1,c2,ha⟩:=HCE.out wr t k hlt
    have hI:(k:Int) < (cs.length:Int):=by omega
    have hI0:(0:Int)≤(k:Int):=by omega
    have hok:=HCS.out k hlt
    have htk:=take_snoc hlt
    generalize cs[k]=ce at *
    subst ha
    obtain ⟨W1,hW1⟩:∃ W1,W1=wr.alloc (.cells #[.string ce.key,.string ce.val,.bool ce.gone] 62):=⟨_,rfl⟩
    go_upto_region 4 with fail
    rw [← hW1]
    have t1:Tch [] wr W1:=by rw [hW1]; exact (Tch.refl _ _).alloc _
    have hb1:W1.heap[wr.heap.size]?=some (.cells #[.string ce.key,.string ce.val,.bool ce.gone] 62 (0,0)):=by rw [hW1]; exact blk_new _ _
    have HG1:=Lib.hid (HGR.out W1 d1 ce (hd1.keep0 t1) e1 (t.trans (t1.mono (by simp))) hok)
    have HDN:=Lib.hid hdin
    have HB1:=Lib.hid hb1
    have hlw:w.heap.size≤wr.heap.size:=t.size
    clear hW1 hb1 hdin c0 c1 c2
    have hk1:=blk_cell HB1.out 0
    have hk2:=blk_cell HB1.out 1
    have hk3:=blk_cell HB1.out 2
    simp only [gA,gZ,gS] at hk1 hk2 hk3
    cases hgr:gr F0 ce
    · rw [hgr] at HG1
      have hf1:(cs.take (k+1)).filter (gr F0)=(cs.take k).filter (gr F0):=by rw [htk,List.filter_append]; simp [hgr]
      have hf2:(cs.take (k+1)).filter (fun c=>!gr F0 c)=(cs.take k).filter (fun c=>!gr F0 c)++[ce]:=by rw [htk,List.filter_append]; simp [hgr]
      have hdl:((cs.take k).filter fun c=>!gr F0 c).length < 1048576:=by
       have:=List.length_filter_le (fun c=>!gr F0 c) (cs.take k)
       rw [List.length_take] at this; omega
      have HF1:=Lib.hid hf1
      have HF2:=Lib.hid hf2
      clear hf1 hf2 htk
      go_wp2_with (first | (go_at_call 97; (with_reducible refine HG1.out.mono ?_); rintro e w2 ⟨rfl,t2⟩; have hb2:=t2.keep HB1.out (by simp); have q1:=blk_cell hb2 0; have q2:=blk_cell hb2 1; have q3:=blk_cell hb2 2; simp only [gA,gZ,gS] at q1 q2 q3) | (go_at_call 98; (with_reducible refine (HAL.out w2 d1 _ h1 S1 ce (hd1.keep0 (t1.trans t2)) e1 e2 (t.trans ((t1.trans t2).mono (by simp))) HDN.out hok hdl).mono ?_); rintro e w3 ⟨d2,h2,S2,rfl,hd2,hdin2,e3,e4,t3⟩))
      go_roundw
      case rel =>
       refine ⟨k+1,h2,d2,S2,by omega,by go_num,by rw [HF2.out]; exact hdin2,hd2,e3,e4,?_,(t.trans ((t1.trans t2).mono (by simp))).trans t3⟩
       rw [HF1.out]
       exact own_keep (own_keep hown (t1.trans t2) (fun _ _=>by simp)) t3 (fun q hq hm=>by
        have:=(hown.lt q hq).1
        simp only [List.mem_cons,List.not_mem_nil,or_false] at hm
        rcases hm with rfl | rfl <;> omega)
      case measure=>simp [intOf]; omega
    · rw [hgr] at HG1
      have hf1:(cs.take (k+1)).filter (gr F0)=(cs.take k).filter (gr F0)++[ce]:=by rw [htk,List.filter_append]; simp [hgr]
      have hf2:(cs.take (k+1)).filter (fun c=>!gr F0 c)=(cs.take k).filter (fun c=>!gr F0 c):=by rw [htk,List.filter_append]; simp [hgr]
      have hgl:((cs.take k).filter (gr F0)).length≤k:=by
       have:=List.length_filter_le (gr F0) (cs.take k)
       rw [List.length_take] at this; omega
      have HF1:=Lib.hid hf1
      have HF2:=Lib.hid hf2
      clear hf1 hf2 htk
      generalize (cs.take k).filter (gr F0)=G at *
      obtain ⟨x4,c4,rfl⟩:=own_slice hown
      go_wp2_with (first | (go_at_call 97; (with_reducible refine HG1.out.mono ?_); rintro e w2 ⟨rfl,t2⟩; have hb2:=t2.keep HB1.out (by simp); have q1:=blk_cell hb2 0; have q2:=blk_cell hb2 1; have q3:=blk_cell hb2 2; simp only [gA,gZ,gS] at q1 q2 q3; have o2:=own_keep hown (t1.trans t2) (fun _ _=>by simp); have hs2:=t2.size; have hs1:=t1.size) | (at_builtin; refine wpList_append_own _ rfl _ _ 35 rfl w.heap.size 62 i0 _ 3 40 Tryz.underlying35 hi hz0 hz1 hz2 rfl (by decide) _ _ _ rfl (o2.alloc (.cells #[.string ce.key,.string ce.val,.bool ce.gone] 62)) ⟨w2.heap.size,0,none⟩ 1 1 (fChg ce) rfl rfl (cells_three _ _ _ _ _) (fChg_one ce) (by unfold maxLen; omega) (by omega) (by simp; omega) ?_; intro v3 w3 ho3 hg3 _))
      go_roundw
      case rel =>
       have g3:(w2.alloc (.cells #[.string ce.key,.string ce.val,.bool ce.gone] 62)).grownBy w3 (Value.slice x4 G.length c4).ownBlock:=hg3
       have o3:=o2.alloc (.cells #[.string ce.key,.string ce.val,.bool ce.gone] 62)
       refine ⟨k+1,h1,d1,S1,by omega,by go_num,by rw [HF2.out]; exact HDN.out,((hd1.keep0 (t1.trans t2)).keep0 ((Tch.refl _ _).alloc _)).grow o3 g3,e1,e2,?_,((t.trans ((t1.trans t2).mono (by simp))).alloc _).grownL g3 (fun q hq=>(o3.lt q hq).1)⟩
       rw [HF1.out]
       simpa using ho3
      case measure=>simp [intOf]; omega
  · obtain rfl:k=cs.length:=by omega
    rw [List.take_length] at hdin hown
    obtain ⟨x4,c4,rfl⟩:=own_slice hown
    generalize hG0:cs.filter (gr F0)=G at hown ⊢
    have hG:=hG0.symm
    clear hG0
    obtain ⟨A,hA⟩:∃ A,A=cs.filter (fun c=>!gr F0 c):=⟨_,rfl⟩
    have hsum:A.length+G.length=cs.length:=by rw [hA,hG,← List.length_append]; exact ords_len F0 cs
    have hGok:∀ k (hk:k < G.length),G[k].ok:=fun k hk=>by
     have hm:G[k] ∈ cs:=by
      have:G[k] ∈ cs.filter (gr F0):=by rw [← hG]; exact List.getElem_mem hk
      exact (List.mem_filter.1 this).1
     obtain ⟨j,hj,e⟩:=List.mem_iff_getElem.1 hm
     rw [← e]; exact HCS.out j hj
    have hords:ords F0 cs=A++G:=by rw [hA,hG]; rfl
    rw [← hA] at hdin
    obtain ⟨bg,hrg,hx1,hx2⟩:=IsR.own (f:=fChg) (sz:=3) (fun _=>rfl) hown rfl
    have hbg:0 < G.length→bg≠db∧bg≠d.mb:=fun hp=>by
     have e:=hrg.some_ hp
     have:=(hown.lt bg (by rw [e]; rfl)).1
     constructor <;> omega
    have HCG:Hid (∀ W,Tch [db,d.mb] wr W→∀ k (hk:k < G.length),W.cell? ⟨bg,k * 3,none⟩=some (.string G[k].key)∧W.cell? ⟨bg,k * 3+1,none⟩=some (.string G[k].val)∧W.cell? ⟨bg,k * 3+2,none⟩=some (.bool G[k].gone)∧x4=some ⟨bg,0,none⟩):=fun W t k hk=>by
     have r:=hrg.keep t (fun hp=>by have:=hbg hp; simp; exact this)
     have hg:=List.getElem?_eq_getElem hk
     have r0:=r.c hg 0 (v:=.string G[k].key) rfl
     have r1:=r.c hg 1 (v:=.string G[k].val) rfl
     have r2:=r.c hg 2 (v:=.bool G[k].gone) rfl
     rw [Nat.zero_add] at r0 r1 r2
     exact ⟨r0,r1,r2,r.some_ (by omega)⟩
    have HGO:=Lib.hid hGok
    have HST2:Hid (AllRel2 T A G F0 S0 db H0 d wr (.int .i64 0) wr):=⟨0,h1,d1,S1,Nat.zero_le _,rfl,by simpa using hdin,hd1,e1,e2,Tch.refl _ _⟩
    have HTW:=Lib.hid t
    have HOR:=Lib.hid hords
    clear hx1 hx2 hG hA hords hown hdin hrg hbg hGok hd1 HCE HGR HCS HST
    go_wp2_with fail
    go_loopw [28] (fun v28 wx=>AllRel2 T A G F0 S0 db H0 d wr v28 wx) (fun v28 _=>G.length - (intOf v28).toNat)
    case atStart=>exact HST2.out
    case round =>
     obtain ⟨k,h3,d3,S3,hk,rfl,hdin,hd3,g1,g2,t3⟩:=hrel
     have T3:=HTW.out.trans t3
     by_cases hlt:k < G.length
     · obtain ⟨c0,c1,c2,ha⟩:=HCG.out wr t3 k hlt
       have hI:(k:Int) < (G.length:Int):=by omega
       have hI0:(0:Int)≤(k:Int):=by omega
       have hok:=HGO.out k hlt
       have htk:=Lib.hid (take_snoc hlt)
       generalize G[k]=ce at *
       subst ha
       obtain ⟨W1,hW1⟩:∃ W1,W1=wr.alloc (.cells #[.string ce.key,.string ce.val,.bool ce.gone] 62):=⟨_,rfl⟩
       go_upto_region 11 with fail
       rw [← hW1]
       have t1:Tch [] wr W1:=by rw [hW1]; exact (Tch.refl _ _).alloc _
       have hb1:W1.heap[wr.heap.size]?=some (.cells #[.string ce.key,.string ce.val,.bool ce.gone] 62 (0,0)):=by rw [hW1]; exact blk_new _ _
       have HA3:=Lib.hid (HAL.out W1 d3 _ h3 S3 ce (hd3.keep0 t1) g1 g2 (T3.trans (t1.mono (by simp))) hdin hok (by rw [List.length_append,List.length_take]; omega))
       have q1:=blk_cell hb1 0
       have q2:=blk_cell hb1 1
       have q3:=blk_cell hb1 2
       simp only [gA,gZ,gS] at q1 q2 q3
       clear hW1 hb1 c0 c1 c2 hdin
       go_wp2_with (go_at_call 98; (with_reducible refine HA3.out.mono ?_); rintro e w4 ⟨d4,h4,S4,rfl,hd4,hdin4,g3,g4,t4⟩)
       go_roundw
       case rel=>exact ⟨k+1,h4,d4,S4,by omega,by go_num,by rw [htk.out,← List.append_assoc]; exact hdin4,hd4,g3,g4,(t3.trans (t1.mono (by simp))).trans t4⟩
       case measure=>simp [intOf]; omega
     · obtain rfl:k=G.length:=by omega
       rw [List.take_length,← HOR.out] at hdin
       have HP:Hid (AllPost w T db H0 d F0 S0 cs (.returned (.tuple #[])) wr):=⟨d3,h3,S3,rfl,hdin,hd3,g1,g2,T3⟩
       clear hdin hd3 T3 t3
       go_wp2_with fail
       go_end0
       exact HP.out
end Go.Proofs.YtlkgnljdpakkcaaGreatDoor
/-
 'Scan' of a tree: the first pairs from a key on.
-/
namespace Go.Proofs.YtlkgnljdpakkcaaGreatDoor
open Go.RowKit Go.Shelf
set_option linter.unusedVariables false
set_option linter.unusedSimpArgs false
attribute [local go_sem] Oper.semAt_some
def fPr (e:En):List Value:=[.string e.key,.string e.val]
theorem Tryz.info_pair:(Tryz.prog.info? 67).map (fun i=>(i.zero,i.size,i.bytes))=some (some (.agg #[.string ⟨#[]⟩,.string ⟨#[]⟩]),2,32):=by kernel_rfl
abbrev SmE:={ e:En // e.key.size≤1000000∧e.val.size≤1000000 }
def fSm (x:SmE):List Value:=fPr x.1
def ScnPost (w:World) (L:List En) (e:Ending) (w':World):Prop:=∃ v,e=.returned v∧w'.ownsRow w.heap.size 67 2 v L.length (L.flatMap fPr)∧Tch [] w w'
set_option maxRecDepth 100000 in
set_option maxHeartbeats 4000000 in
theorem scan_nil (k:ByteArray) (m:Int) (w:World):Calls Tryz.prog 20 #[.pointer none,.string k,.int .i64 m] w (ScnPost w []):=by
 have HF:Hid (∀ W,Tch [] w W→ScnPost w [] (.returned (.slice none 0 0)) W):=fun W t=>⟨_,rfl,World.ownsRow_nil _ _ _ _,t⟩
 generalize ScnPost w []=Q at *
 go_enter Tryz.func20,Tryz.ntmps20
 go_wp2_with fail
 first | exact HF.out _ ((Tch.refl _ _).alloc _) | (go_ret; exact HF.out _ ((Tch.refl _ _).alloc _))
set_option maxRecDepth 100000 in
set_option maxHeartbeats 4000000 in
theorem scan_none (tb:Nat) (k:ByteArray) (m:Int) (w:World) (hm:m < 1):Calls Tryz.prog 20 #[.pointer (some ⟨tb,0,none⟩),.string k,.int .i64 m] w (ScnPost w []):=by
 have HF:Hid (∀ W,Tch [] w W→ScnPost w [] (.returned (.slice none 0 0)) W):=fun W t=>⟨_,rfl,World.ownsRow_nil _ _ _ _,t⟩
 have hd:decide (m < 1)=true:=decide_eq_true hm
 generalize ScnPost w []=Q at *
 go_enter Tryz.func20,Tryz.ntmps20
 go_wp2_with fail
 first | exact HF.out _ ((Tch.refl _ _).alloc _) | (go_ret; exact HF.out _ ((Tch.refl _ _).alloc _))
theorem cells_two (w:World) (x y:Value) (T:TypeId):∀ j u,[x,y][j]?=some u→(w.alloc (.cells #[x,y] T)).cell? ((⟨w.heap.size,0,none⟩:Addr).add j)=some u:=fun j u hu=>by
 rw [add_mk,blk_cell (blk_new w _),Nat.zero_add]; simpa using hu
theorem scan_step {w W W3 w5:World} {B:Nat} {v v' m:Value} {n n':Nat} {xs ys:List Value} (hv:Boxed W (w.heap.size+1) 44 v) (hrow:W.ownsRow w.heap.size 67 2 v n xs) (h0:Boxed W w.heap.size 3 m) (hB:Below w.heap.size w W) (t:Tch [] W W3) (hg:W3.grownBy w5 v.ownBlock) (ho:w5.ownsRow w.heap.size 67 2 v' n' ys) :
 w5.cell? ⟨w.heap.size+1,0,none⟩=some v∧w5.frozen? ⟨w.heap.size+1,0,none⟩=false∧Boxed (w5.setCell ⟨w.heap.size+1,0,none⟩ v') (w.heap.size+1) 44 v'∧(w5.setCell ⟨w.heap.size+1,0,none⟩ v').ownsRow w.heap.size 67 2 v' n' ys∧Boxed (w5.setCell ⟨w.heap.size+1,0,none⟩ v') w.heap.size 3 m ∧
 KeepsFrom B W (w5.setCell ⟨w.heap.size+1,0,none⟩ v')∧KpN w.heap.size W (w5.setCell ⟨w.heap.size+1,0,none⟩ v')∧Below w.heap.size w (w5.setCell ⟨w.heap.size+1,0,none⟩ v'):=by
 have hv3:Boxed W3 (w.heap.size+1) 44 v:=t.keep hv (by simp)
 have h03:Boxed W3 w.heap.size 3 m:=t.keep h0 (by simp)
 have hr3:=own_keep hrow t (fun _ _=>by simp)
 have hv5:Boxed w5 (w.heap.size+1) 44 v:=hv3.kept hg (hv3.not_row (by decide) hr3)
 have h05:Boxed w5 w.heap.size 3 m:=h03.kept hg (h03.not_row (by decide) hr3)
 have hrest:∀ i,i < W.heap.size→i≠w.heap.size+1→some i≠v.ownBlock→(w5.setCell ⟨w.heap.size+1,0,none⟩ v').heap[i]?=W.heap[i]?:=fun i hi h1 h2 =>
  (Below.heap_setCell _ _ _ _ h1).trans ((hg.block i (Nat.lt_of_lt_of_le hi t.size) h2).trans (t.block i hi (by simp)))
 have hsz:W.heap.size≤(w5.setCell ⟨w.heap.size+1,0,none⟩ v').heap.size:=by
  have:=t.size
  have:=hg.size
  show _≤(w5.heap.modify _ _).size
  rw [Array.size_modify]; omega
 have hown:∀ k,v.ownBlock=some k→w.heap.size≤k∧∃ cs,W.heap[k]?=some (.cells cs 67 (0,0)):=fun k hk=>⟨(hrow.lt k hk).1,own_kindK hrow hk⟩
 have hk:KpN w.heap.size W (w5.setCell ⟨w.heap.size+1,0,none⟩ v'):=⟨hg.os.trans t.os,hg.tape.trans t.tape,hg.output.trans t.output,hsz,fun i hi h=>hrest i hi (fun e=>by
  rcases h with h | ⟨cs,h⟩
  · omega
  · rw [e,show W.heap[w.heap.size+1]?=_ from hv] at h; simp at h) (fun e=>by
  obtain ⟨e1,cs',e2⟩:=hown i e.symm
  rcases h with h | ⟨cs,h⟩
  · omega
  · rw [e2] at h; simp at h)⟩
 refine ⟨hv5.cell,hv5.frozen,hv5.set v',ho.kept (grownBy_setCell' w5 (w.heap.size+1) v') (.inr (hv5.not_row (by decide) ho).symm),h05.other (by omega) _,⟨hsz,fun i o hBi hi ho=>?_⟩,hk,hB.trans (hk.below hB.size)⟩
 refine (hrest i (Array.getElem?_eq_some_iff.1 hi).1 (fun e=>?_) (fun e=>?_)).trans hi
 · rw [e,show W.heap[w.heap.size+1]?=_ from hv] at hi; cases hi; cases ho
 · obtain ⟨_,cs',e2⟩:=hown i e.symm
   rw [e2] at hi; cases hi; cases ho
set_option maxRecDepth 100000 in
set_option maxHeartbeats 4000000 in
theorem scan_any (tb h m:Nat) (T:Tv) (k:ByteArray) (w:World) (ht:IsTr w tb T) (s:Sth (mN T.f) h T.root) (hr:0≤T.root∧T.root < (topN:Int)) (hk:k.size≤10000000) (hm:1≤m) (hl:(ho (mN T.f) h T.root k).length≤1000000000) (hsz:∀ e ∈ ho (mN T.f) h T.root k,e.key.size≤1000000∧e.val.size≤1000000) :
 Calls Tryz.prog 20 #[.pointer (some ⟨tb,0,none⟩),.string k,.int .i64 (m:Nat)] w (ScnPost w ((ho (mN T.f) h T.root k).take m)):=by
 have hd:decide (((m:Nat):Int) < 1)=false:=decide_eq_false (by omega)
 have hd2:¬ ((m:Nat):Int) < 1:=by omega
 have hd3:decide (m < 1)=false:=decide_eq_false (by omega)
 refine (callsIn_wide (n:=9)).1 ?_
 refine callsIn_of_wp_marks Tryz.func20 rfl trivial ?_ rfl
 simp only [Tryz.ntmps20,List.size_toArray,List.length_cons,List.length_nil,Nat.reduceAdd,Nat.reduceSub,Array.replicate_succ,Array.replicate_zero,List.push_toArray,List.append_toArray,List.nil_append,List.cons_append]
 gi_wp2_with ((refine ⟨trivial,?_⟩); gi_at_call 51; (with_reducible refine (callsIn_wide.2 (pairs_any tb k _)).mono ?_); rintro e w' ⟨rfl,rfl⟩)
 obtain ⟨W4,hW4⟩:∃ W4,W4=(((w.alloc (.cells #[.int .i64 (m:Nat)] 3)).alloc (.cells #[.slice none 0 0] 44)).alloc (.cells #[.pointer (some ⟨tb,0,none⟩)] 25)).alloc (.cells #[.string k] 9):=⟨_,rfl⟩
 rw [← hW4]
 have hz4:W4.heap.size=w.heap.size+4:=by rw [hW4]; simp
 have q0:Boxed W4 w.heap.size 3 (.int .i64 (m:Nat)):=by rw [hW4]; exact (((Boxed.new w 3 (.int .i64 (m:Nat))).alloc _).alloc _).alloc _
 have q1:Boxed W4 (w.heap.size+1) 44 (.slice none 0 0):=by
  have:=Boxed.new (w.alloc (.cells #[.int .i64 (m:Nat)] 3)) 44 (.slice none 0 0)
  rw [World.size_alloc] at this
  rw [hW4]; exact (this.alloc _).alloc _
 have q2:Boxed W4 (w.heap.size+2) 25 (.pointer (some ⟨tb,0,none⟩)):=by
  have:=Boxed.new ((w.alloc (.cells #[.int .i64 (m:Nat)] 3)).alloc (.cells #[.slice none 0 0] 44)) 25 (.pointer (some ⟨tb,0,none⟩))
  rw [show ((w.alloc (.cells #[.int .i64 (m:Nat)] 3)).alloc (.cells #[.slice none 0 0] 44)).heap.size=w.heap.size+2 from by simp] at this
  rw [hW4]; exact this.alloc _
 have q3:Boxed W4 (w.heap.size+3) 9 (.string k):=by
  have:=Boxed.new (((w.alloc (.cells #[.int .i64 (m:Nat)] 3)).alloc (.cells #[.slice none 0 0] 44)).alloc (.cells #[.pointer (some ⟨tb,0,none⟩)] 25)) 9 (.string k)
  rw [show (((w.alloc (.cells #[.int .i64 (m:Nat)] 3)).alloc (.cells #[.slice none 0 0] 44)).alloc (.cells #[.pointer (some ⟨tb,0,none⟩)] 25)).heap.size=w.heap.size+3 from by simp] at this
  rw [hW4]; exact this
 have B4:Below w.heap.size w W4:=by rw [hW4]; exact ((((Below.refl _ w).alloc (Nat.le_refl _) _).alloc (by simp) _).alloc (by simp; omega) _).alloc (by simp; omega) _
 clear hW4
 generalize hL:ho (mN T.f) h T.root k=L at *
 have hst:=pairs_stopsP (fun e=>e.key.size≤1000000∧e.val.size≤1000000) 8 tb h T w W4 k (w.heap.size+2) (w.heap.size+3) ht hk B4 s hr (by rw [hL]; exact hsz) q2 q3
 rw [hL] at hst
 refine wpIn_rangeFunc_ownG rfl (by omega) (gf:=94) (lb:=#[.pointer (some ⟨w.heap.size+2,0,none⟩),.pointer (some ⟨w.heap.size+3,0,none⟩)]) rfl trivial (enters_of Tryz.func94 (by kernel_rfl) rfl)
  hst kpn_t (kpn_b (by omega)) (Below.refl _ _) (fun _=>rfl)
  (fun (pre:List SmE) W=>(∃ v,Boxed W (w.heap.size+1) 44 v∧W.ownsRow w.heap.size 67 2 v pre.length (pre.flatMap fSm)∧True)∧Boxed W w.heap.size 3 (.int .i64 (m:Nat))∧pre.length < m∧Below w.heap.size w W)
  (fun c (pre:List SmE) W=>c=.exit 0∧(∃ v,Boxed W (w.heap.size+1) 44 v∧W.ownsRow w.heap.size 67 2 v pre.length (pre.flatMap fSm)∧True)∧pre.length=m∧Below w.heap.size w W)
  (OwnFrom.and (Own.from (holdsRow_own w.heap.size (w.heap.size+1) 44 67 2 (fun pre:List SmE=>pre.length) (fun pre=>pre.flatMap fSm) (fun _ _=>True)) _) (OwnFrom.and (Own.from (boxed_own _ _ (fun _=>.int .i64 (m:Nat))) _) (OwnFrom.and (ownFrom_pure _ (fun (pre:List SmE)=>pre.length < m)) (ownFrom_below (Nat.le_refl _) (by omega)))))
  (fun c=>OwnFrom.and (ownFrom_pure _ (fun _=>c=.exit 0)) (OwnFrom.and (Own.from (holdsRow_own w.heap.size (w.heap.size+1) 44 67 2 (fun pre:List SmE=>pre.length) (fun pre=>pre.flatMap fSm) (fun _ _=>True)) _) (OwnFrom.and (ownFrom_pure _ (fun (pre:List SmE)=>pre.length=m)) (ownFrom_below (Nat.le_refl _) (by omega)))))
  ⟨⟨_,q1,World.ownsRow_nil _ _ _ _,trivial⟩,q0,hm,B4⟩
  (fun x:SmE=>{ tmps:=#[.pointer (some ⟨tb,0,none⟩),.string k,.int .i64 (m:Nat),undef,undef,.pointer (some ⟨w.heap.size,0,none⟩),.slice none 0 0,.pointer (some ⟨w.heap.size+1,0,none⟩),.string x.1.key,.string x.1.val,.pointer (some ⟨tb,0,none⟩),.bool false,.bool false,.int .i64 (m:Nat),.bool false,.bool false,.pointer (some ⟨tb,0,none⟩),.string k,.func (.func 94) #[] #[.pointer (some ⟨w.heap.size+2,0,none⟩),.pointer (some ⟨w.heap.size+3,0,none⟩)],.string x.1.key,.string x.1.val,undef,undef,undef,undef,undef,undef,undef,undef,undef,undef,undef,undef,undef],defers:=[] }) ?assign ?body ?done ?stop
 case assign =>
  intro l x W K hK
  gi_wp2
  exact hK
 case body =>
  rintro l pre x W ⟨⟨v,hv,hrow,_⟩,h0,hlt,hB⟩ hlN
  obtain ⟨⟨key,val,kid⟩,hxk,hxv⟩:=x
  obtain ⟨i0,hi,hz0,hz1,hz2⟩:=info_parts Tryz.info_pair
  obtain ⟨xa,xc,rfl⟩:=own_slice hrow
  have HBX:Hid (∀ W',Tch [] W W'→Boxed W' (w.heap.size+1) 44 (.slice xa pre.length xc)∧W'.ownsRow w.heap.size 67 2 (.slice xa pre.length xc) pre.length (pre.flatMap fSm)):=fun W' t=>⟨t.keep hv (by simp),own_keep hrow t (fun _ _=>by simp)⟩
  have HCK:Hid (∀ W',Calls Tryz.prog 50 #[.string key] W' fun e w'=>e=.returned (.string key)∧Tch [] W' w'):=fun W'=>clone_any key W' (by simp only at hxk; omega)
  have HCV:Hid (∀ W',Calls Tryz.prog 50 #[.string val] W' fun e w'=>e=.returned (.string val)∧Tch [] W' w'):=fun W'=>clone_any val W' (by simp only at hxv; omega)
  have T0:Tch [] W W.drew:=(Tch.refl [] W).drew
  have hlN2:pre.length≤1000000000:=by omega
  gi_wp2
  refine round_plain (by kernel_rfl) (by kernel_rfl) ?_
  refine wpAny_take (i:=1) (v:=.string key) rfl (by kernel_rfl) (by kernel_rfl) (by kernel_rfl) (fun _ _ _ h=>h) (Or.inl ⟨by rfl,by intro w; go_simp⟩) ?_
  try simp only [Act.put,List.setIfInBounds_toArray,List.set_cons_zero,List.set_cons_succ]
  refine wpAny_take (i:=3) (v:=.string val) rfl (by kernel_rfl) (by kernel_rfl) (by kernel_rfl) (fun _ _ _ h=>h) (Or.inl ⟨by rfl,by intro w; go_simp⟩) ?_
  try simp only [Act.put,List.setIfInBounds_toArray,List.set_cons_zero,List.set_cons_succ]
  refine wpAny_ready (rs:=[0,2]) (by kernel_rfl) (by simp) (AllReady.cons rfl (fun KA hKA=>?_) (AllReady.cons rfl (fun KB hKB=>?_) AllReady.nil))
  · have c7:=(HBX.out _ T0).1.cell
    go_simp
    refine hKA _ _ ?_
    clear hKA KA
    try simp only [Act.put,List.setIfInBounds_toArray,List.set_cons_zero,List.set_cons_succ]
    clear c7
    refine wpAny_ready (rs:=[2]) (by kernel_rfl) (by simp) (AllReady.cons rfl (fun KK1 hKK1=>?_) AllReady.nil)
    go_simp
    refine (HCK.out _).mono ?_
    rintro e W1 ⟨rfl,t1⟩
    have T1:=T0.trans t1
    refine hKK1 _ _ ?_
    clear hKK1 KK1
    try simp only [Act.put,List.setIfInBounds_toArray,List.set_cons_zero,List.set_cons_succ]
    refine wpAny_ready (rs:=[4]) (by kernel_rfl) (by simp) (AllReady.cons rfl (fun KK2 hKK2=>?_) AllReady.nil)
    go_simp
    refine (HCV.out _).mono ?_
    rintro e W2 ⟨rfl,t2⟩
    have T2:=T1.trans t2
    refine hKK2 _ _ ?_
    clear hKK2 KK2
    try simp only [Act.put,List.setIfInBounds_toArray,List.set_cons_zero,List.set_cons_succ]
    refine wpAny_take (i:=5) (v:=.agg #[.string key,.string val]) rfl (by kernel_rfl) (by kernel_rfl) (by kernel_rfl) (fun _ _ _ h=>h) (Or.inl ⟨by rfl,by intro w; go_simp⟩) ?_
    try simp only [Act.put,List.setIfInBounds_toArray,List.set_cons_zero,List.set_cons_succ]
    refine wpAny_ready (rs:=[6]) (by kernel_rfl) (by simp) (AllReady.cons rfl (fun KK3 hKK3=>?_) AllReady.nil)
    go_simp
    refine hKK3 _ _ ?_
    clear hKK3 KK3
    try simp only [Act.put,List.setIfInBounds_toArray,List.set_cons_zero,List.set_cons_succ]
    have T3:=T2.alloc (.cells #[.string key,.string val] 67)
    refine wpAny_ready (rs:=[7]) (by kernel_rfl) (by simp) (AllReady.cons rfl (fun KK4 hKK4=>?_) AllReady.nil)
    refine step_append_apart rfl _ _ 44 rfl w.heap.size 67 i0 _ 2 32 Tryz.underlying44 hi hz0 hz1 hz2 rfl (by decide) _ pre.length _ rfl (HBX.out _ T3).2 ⟨W2.heap.size,0,none⟩ 1 1 [.string key,.string val] rfl rfl (cells_two W2 _ _ _) (by simp [Value.oneCell']) (by omega) (by unfold maxLen; omega) (by omega) (Nat.le_trans hB.size T3.size) ?_
    intro v' w5 ho5 hg5 _
    obtain ⟨s1,s2,s3,s4,s5,s6,s7,s8⟩:=scan_step (B:=W4.heap.size) hv hrow h0 hB T3 hg5 ho5
    obtain ⟨ya,yc,rfl⟩:=own_slice ho5
    refine hKK4 _ _ ?_
    clear hKK4 KK4
    try simp only [Act.put,List.setIfInBounds_toArray,List.set_cons_zero,List.set_cons_succ]
    refine wpAny_ready (rs:=[8]) (by kernel_rfl) (by simp) (AllReady.cons rfl (fun KK5 hKK5=>?_) AllReady.nil)
    go_simp
    refine hKK5 _ _ ?_
    clear hKK5 KK5
    try simp only [Act.put,List.setIfInBounds_toArray,List.set_cons_zero,List.set_cons_succ]
    refine wpAny_done (by kernel_rfl) ?_ _
    have HFIN:=Lib.hid (show _∧_∧_∧_∧_∧_ from ⟨s3,s4,s5,s6,s7,s8⟩)
    clear s1 s2 s4 s6 s7 s8
    have e7:=s3.cell
    have e5:=s5.cell
    clear s3 s5
    dsimp only [oK]
    by_cases hlm:pre.length+1=m
    · have hd8:((pre.length:Int)+1 == (m:Int))=true:=by simp; omega
      have HLM:=Lib.hid hlm
      clear hlm
      gi_wp2
      exact ⟨HFIN.out.2.2.2.1,rfl,⟨_,HFIN.out.1,by rw [List.length_append,List.flatMap_append]; exact HFIN.out.2.1,trivial⟩,by rw [List.length_append]; exact HLM.out,HFIN.out.2.2.2.2.2⟩
    · have hd8:((pre.length:Int)+1 == (m:Int))=false:=by simp; omega
      have HLM:=Lib.hid hlm
      clear hlm
      gi_wp2
      exact ⟨HFIN.out.2.2.2.1,HFIN.out.2.2.2.2.1,⟨_,HFIN.out.1,by rw [List.length_append,List.flatMap_append]; exact HFIN.out.2.1,trivial⟩,HFIN.out.2.2.1,by rw [List.length_append]; show pre.length+1 < m; have:=HLM.out; omega,HFIN.out.2.2.2.2.2⟩
  · go_simp
    refine (HCK.out _).mono ?_
    rintro e W1 ⟨rfl,t1⟩
    have T1:=T0.trans t1
    refine hKB _ _ ?_
    clear hKB KB
    try simp only [Act.put,List.setIfInBounds_toArray,List.set_cons_zero,List.set_cons_succ]
    refine wpAny_ready (rs:=[0,4]) (by kernel_rfl) (by simp) (AllReady.cons rfl (fun KC hKC=>?_) (AllReady.cons rfl (fun KD hKD=>?_) AllReady.nil))
    · have c7:=(HBX.out _ T1).1.cell
      go_simp
      refine hKC _ _ ?_
      clear hKC KC
      try simp only [Act.put,List.setIfInBounds_toArray,List.set_cons_zero,List.set_cons_succ]
      clear c7
      refine wpAny_ready (rs:=[4]) (by kernel_rfl) (by simp) (AllReady.cons rfl (fun KK6 hKK6=>?_) AllReady.nil)
      go_simp
      refine (HCV.out _).mono ?_
      rintro e W2 ⟨rfl,t2⟩
      have T2:=T1.trans t2
      refine hKK6 _ _ ?_
      clear hKK6 KK6
      try simp only [Act.put,List.setIfInBounds_toArray,List.set_cons_zero,List.set_cons_succ]
      refine wpAny_take (i:=5) (v:=.agg #[.string key,.string val]) rfl (by kernel_rfl) (by kernel_rfl) (by kernel_rfl) (fun _ _ _ h=>h) (Or.inl ⟨by rfl,by intro w; go_simp⟩) ?_
      try simp only [Act.put,List.setIfInBounds_toArray,List.set_cons_zero,List.set_cons_succ]
      refine wpAny_ready (rs:=[6]) (by kernel_rfl) (by simp) (AllReady.cons rfl (fun KK7 hKK7=>?_) AllReady.nil)
      go_simp
      refine hKK7 _ _ ?_
      clear hKK7 KK7
      try simp only [Act.put,List.setIfInBounds_toArray,List.set_cons_zero,List.set_cons_succ]
      have T3:=T2.alloc (.cells #[.string key,.string val] 67)
      refine wpAny_ready (rs:=[7]) (by kernel_rfl) (by simp) (AllReady.cons rfl (fun KK8 hKK8=>?_) AllReady.nil)
      refine step_append_apart rfl _ _ 44 rfl w.heap.size 67 i0 _ 2 32 Tryz.underlying44 hi hz0 hz1 hz2 rfl (by decide) _ pre.length _ rfl (HBX.out _ T3).2 ⟨W2.heap.size,0,none⟩ 1 1 [.string key,.string val] rfl rfl (cells_two W2 _ _ _) (by simp [Value.oneCell']) (by omega) (by unfold maxLen; omega) (by omega) (Nat.le_trans hB.size T3.size) ?_
      intro v' w5 ho5 hg5 _
      obtain ⟨s1,s2,s3,s4,s5,s6,s7,s8⟩:=scan_step (B:=W4.heap.size) hv hrow h0 hB T3 hg5 ho5
      obtain ⟨ya,yc,rfl⟩:=own_slice ho5
      refine hKK8 _ _ ?_
      clear hKK8 KK8
      try simp only [Act.put,List.setIfInBounds_toArray,List.set_cons_zero,List.set_cons_succ]
      refine wpAny_ready (rs:=[8]) (by kernel_rfl) (by simp) (AllReady.cons rfl (fun KK9 hKK9=>?_) AllReady.nil)
      go_simp
      refine hKK9 _ _ ?_
      clear hKK9 KK9
      try simp only [Act.put,List.setIfInBounds_toArray,List.set_cons_zero,List.set_cons_succ]
      refine wpAny_done (by kernel_rfl) ?_ _
      have HFIN:=Lib.hid (show _∧_∧_∧_∧_∧_ from ⟨s3,s4,s5,s6,s7,s8⟩)
      clear s1 s2 s4 s6 s7 s8
      have e7:=s3.cell
      have e5:=s5.cell
      clear s3 s5
      dsimp only [oK]
      by_cases hlm:pre.length+1=m
      · have hd8:((pre.length:Int)+1 == (m:Int))=true:=by simp; omega
        have HLM:=Lib.hid hlm
        clear hlm
        gi_wp2
        exact ⟨HFIN.out.2.2.2.1,rfl,⟨_,HFIN.out.1,by rw [List.length_append,List.flatMap_append]; exact HFIN.out.2.1,trivial⟩,by rw [List.length_append]; exact HLM.out,HFIN.out.2.2.2.2.2⟩
      · have hd8:((pre.length:Int)+1 == (m:Int))=false:=by simp; omega
        have HLM:=Lib.hid hlm
        clear hlm
        gi_wp2
        exact ⟨HFIN.out.2.2.2.1,HFIN.out.2.2.2.2.1,⟨_,HFIN.out.1,by rw [List.length_append,List.flatMap_append]; exact HFIN.out.2.1,trivial⟩,HFIN.out.2.2.1,by rw [List.length_append]; show pre.length+1 < m; have:=HLM.out; omega,HFIN.out.2.2.2.2.2⟩
    · go_simp
      refine (HCV.out _).mono ?_
      rintro e W2 ⟨rfl,t2⟩
      have T2:=T1.trans t2
      refine hKD _ _ ?_
      clear hKD KD
      try simp only [Act.put,List.setIfInBounds_toArray,List.set_cons_zero,List.set_cons_succ]
      refine wpAny_take (i:=5) (v:=.agg #[.string key,.string val]) rfl (by kernel_rfl) (by kernel_rfl) (by kernel_rfl) (fun _ _ _ h=>h) (Or.inl ⟨by rfl,by intro w; go_simp⟩) ?_
      try simp only [Act.put,List.setIfInBounds_toArray,List.set_cons_zero,List.set_cons_succ]
      refine wpAny_ready (rs:=[0,6]) (by kernel_rfl) (by simp) (AllReady.cons rfl (fun KE hKE=>?_) (AllReady.cons rfl (fun KF hKF=>?_) AllReady.nil))
      · have c7:=(HBX.out _ T2).1.cell
        go_simp
        refine hKE _ _ ?_
        clear hKE KE
        try simp only [Act.put,List.setIfInBounds_toArray,List.set_cons_zero,List.set_cons_succ]
        clear c7
        refine wpAny_ready (rs:=[6]) (by kernel_rfl) (by simp) (AllReady.cons rfl (fun KK10 hKK10=>?_) AllReady.nil)
        go_simp
        refine hKK10 _ _ ?_
        clear hKK10 KK10
        try simp only [Act.put,List.setIfInBounds_toArray,List.set_cons_zero,List.set_cons_succ]
        have T3:=T2.alloc (.cells #[.string key,.string val] 67)
        refine wpAny_ready (rs:=[7]) (by kernel_rfl) (by simp) (AllReady.cons rfl (fun KK11 hKK11=>?_) AllReady.nil)
        refine step_append_apart rfl _ _ 44 rfl w.heap.size 67 i0 _ 2 32 Tryz.underlying44 hi hz0 hz1 hz2 rfl (by decide) _ pre.length _ rfl (HBX.out _ T3).2 ⟨W2.heap.size,0,none⟩ 1 1 [.string key,.string val] rfl rfl (cells_two W2 _ _ _) (by simp [Value.oneCell']) (by omega) (by unfold maxLen; omega) (by omega) (Nat.le_trans hB.size T3.size) ?_
        intro v' w5 ho5 hg5 _
        obtain ⟨s1,s2,s3,s4,s5,s6,s7,s8⟩:=scan_step (B:=W4.heap.size) hv hrow h0 hB T3 hg5 ho5
        obtain ⟨ya,yc,rfl⟩:=own_slice ho5
        refine hKK11 _ _ ?_
        clear hKK11 KK11
        try simp only [Act.put,List.setIfInBounds_toArray,List.set_cons_zero,List.set_cons_succ]
        refine wpAny_ready (rs:=[8]) (by kernel_rfl) (by simp) (AllReady.cons rfl (fun KK12 hKK12=>?_) AllReady.nil)
        go_simp
        refine hKK12 _ _ ?_
        clear hKK12 KK12
        try simp only [Act.put,List.setIfInBounds_toArray,List.set_cons_zero,List.set_cons_succ]
        refine wpAny_done (by kernel_rfl) ?_ _
        have HFIN:=Lib.hid (show _∧_∧_∧_∧_∧_ from ⟨s3,s4,s5,s6,s7,s8⟩)
        clear s1 s2 s4 s6 s7 s8
        have e7:=s3.cell
        have e5:=s5.cell
        clear s3 s5
        dsimp only [oK]
        by_cases hlm:pre.length+1=m
        · have hd8:((pre.length:Int)+1 == (m:Int))=true:=by simp; omega
          have HLM:=Lib.hid hlm
          clear hlm
          gi_wp2
          exact ⟨HFIN.out.2.2.2.1,rfl,⟨_,HFIN.out.1,by rw [List.length_append,List.flatMap_append]; exact HFIN.out.2.1,trivial⟩,by rw [List.length_append]; exact HLM.out,HFIN.out.2.2.2.2.2⟩
        · have hd8:((pre.length:Int)+1 == (m:Int))=false:=by simp; omega
          have HLM:=Lib.hid hlm
          clear hlm
          gi_wp2
          exact ⟨HFIN.out.2.2.2.1,HFIN.out.2.2.2.2.1,⟨_,HFIN.out.1,by rw [List.length_append,List.flatMap_append]; exact HFIN.out.2.1,trivial⟩,HFIN.out.2.2.1,by rw [List.length_append]; show pre.length+1 < m; have:=HLM.out; omega,HFIN.out.2.2.2.2.2⟩
      · go_simp
        refine hKF _ _ ?_
        clear hKF KF
        try simp only [Act.put,List.setIfInBounds_toArray,List.set_cons_zero,List.set_cons_succ]
        have T3:=T2.alloc (.cells #[.string key,.string val] 67)
        refine wpAny_ready (rs:=[0]) (by kernel_rfl) (by simp) (AllReady.cons rfl (fun KK13 hKK13=>?_) AllReady.nil)
        have c7:=(HBX.out _ T3).1.cell
        go_simp
        refine hKK13 _ _ ?_
        clear hKK13 KK13
        try simp only [Act.put,List.setIfInBounds_toArray,List.set_cons_zero,List.set_cons_succ]
        clear c7
        refine wpAny_ready (rs:=[7]) (by kernel_rfl) (by simp) (AllReady.cons rfl (fun KK14 hKK14=>?_) AllReady.nil)
        refine step_append_apart rfl _ _ 44 rfl w.heap.size 67 i0 _ 2 32 Tryz.underlying44 hi hz0 hz1 hz2 rfl (by decide) _ pre.length _ rfl (HBX.out _ T3).2 ⟨W2.heap.size,0,none⟩ 1 1 [.string key,.string val] rfl rfl (cells_two W2 _ _ _) (by simp [Value.oneCell']) (by omega) (by unfold maxLen; omega) (by omega) (Nat.le_trans hB.size T3.size) ?_
        intro v' w5 ho5 hg5 _
        obtain ⟨s1,s2,s3,s4,s5,s6,s7,s8⟩:=scan_step (B:=W4.heap.size) hv hrow h0 hB T3 hg5 ho5
        obtain ⟨ya,yc,rfl⟩:=own_slice ho5
        refine hKK14 _ _ ?_
        clear hKK14 KK14
        try simp only [Act.put,List.setIfInBounds_toArray,List.set_cons_zero,List.set_cons_succ]
        refine wpAny_ready (rs:=[8]) (by kernel_rfl) (by simp) (AllReady.cons rfl (fun KK15 hKK15=>?_) AllReady.nil)
        go_simp
        refine hKK15 _ _ ?_
        clear hKK15 KK15
        try simp only [Act.put,List.setIfInBounds_toArray,List.set_cons_zero,List.set_cons_succ]
        refine wpAny_done (by kernel_rfl) ?_ _
        have HFIN:=Lib.hid (show _∧_∧_∧_∧_∧_ from ⟨s3,s4,s5,s6,s7,s8⟩)
        clear s1 s2 s4 s6 s7 s8
        have e7:=s3.cell
        have e5:=s5.cell
        clear s3 s5
        dsimp only [oK]
        by_cases hlm:pre.length+1=m
        · have hd8:((pre.length:Int)+1 == (m:Int))=true:=by simp; omega
          have HLM:=Lib.hid hlm
          clear hlm
          gi_wp2
          exact ⟨HFIN.out.2.2.2.1,rfl,⟨_,HFIN.out.1,by rw [List.length_append,List.flatMap_append]; exact HFIN.out.2.1,trivial⟩,by rw [List.length_append]; exact HLM.out,HFIN.out.2.2.2.2.2⟩
        · have hd8:((pre.length:Int)+1 == (m:Int))=false:=by simp; omega
          have HLM:=Lib.hid hlm
          clear hlm
          gi_wp2
          exact ⟨HFIN.out.2.2.2.1,HFIN.out.2.2.2.2.1,⟨_,HFIN.out.1,by rw [List.length_append,List.flatMap_append]; exact HFIN.out.2.1,trivial⟩,HFIN.out.2.2.1,by rw [List.length_append]; show pre.length+1 < m; have:=HLM.out; omega,HFIN.out.2.2.2.2.2⟩
 case done =>
  rintro D ys W hD hys ⟨⟨v,hv,hrow,_⟩,h0,hlt,hB⟩ hK
  have hc:=hv.cell
  gi_wp2
  refine ⟨by simp,.inl ⟨_,_,rfl,run_takeDeferred hK,?_⟩⟩
  refine ⟨_,results_tmp rfl _ _ _,v,rfl,?_,Tch.ofBelow (hB.trans (belowK_b (w:=w) (Nat.le_refl _) W D _ _ (by omega) hK rfl rfl))⟩
  have hyl:L.length=ys.length:=by rw [← hys,List.length_map]
  have hyf:L.flatMap fPr=ys.flatMap fSm:=by rw [← hys,List.flatMap_map]; rfl
  rw [List.take_of_length_le (by omega),hyl,hyf]
  exact ownsRow_putObj hrow _ hK rfl
 case stop =>
  rintro D c pre W hD hp ⟨rfl,⟨v,hv,hrow,_⟩,hlen,hB⟩ hK
  have hc:=hv.cell
  gi_wp2
  refine ⟨by simp,.inl ⟨_,_,rfl,run_takeDeferred hK,?_⟩⟩
  refine ⟨_,results_tmp rfl _ _ _,v,rfl,?_,Tch.ofBelow (hB.trans (belowK_b (w:=w) (Nat.le_refl _) W D _ _ (by omega) hK rfl rfl))⟩
  have hyl:(List.take m L).length=pre.length:=by obtain ⟨z,rfl⟩:=hp; rw [← hlen,List.length_take,List.length_append,List.length_map]; omega
  have hyf:(List.take m L).flatMap fPr=pre.flatMap fSm:=by
   obtain ⟨z,rfl⟩:=hp
   rw [← hlen,show pre.length=(pre.map (·.1)).length from by rw [List.length_map],List.take_left,List.flatMap_map]; rfl
  rw [hyl,hyf]
  exact ownsRow_putObj hrow _ hK rfl
end Go.Proofs.YtlkgnljdpakkcaaGreatDoor
