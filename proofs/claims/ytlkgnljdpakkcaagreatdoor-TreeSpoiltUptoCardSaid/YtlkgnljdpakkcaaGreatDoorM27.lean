/-
  Parts of the proof: Apy, Apw, Say, Sld, Sto, Ast, Opt, Osd, Prm.
-/
import Derived.Test.YtlkgnljdpakkcaaGreatDoorM26
import Derived.Test.YtlkgnljdpakkcaaGreatDoorM08
import Derived.Test.YtlkgnljdpakkcaaGreatDoorM09
import Derived.Test.YtlkgnljdpakkcaaGreatDoorM10
import Derived.Test.YtlkgnljdpakkcaaGreatDoorM23
set_option linter.unusedVariables false
set_option linter.unusedSimpArgs false
/-
 'Apply' of a tree: the calls that it makes,and its walk.
-/
namespace Go.Proofs.YtlkgnljdpakkcaaGreatDoor
open Go.RowKit
theorem Tch.belowUp {w W W':World} {B:Nat} (t:Tch [] w W) (h:Below B W W') (hb:w.heap.size≤B):Tch [] w W' :=
 ⟨h.os.trans t.os,h.tape.trans t.tape,h.output.trans t.output,Nat.le_trans t.size h.size,fun k hk hn=>(h.block k (by omega)).trans (t.block k hk hn)⟩
theorem Tch.upTo {w W W':World} {L:List Nat} (t:Tch [] w W) (h:Tch L W W') (hb:∀ k ∈ L,w.heap.size≤k):Tch [] w W' :=
 ⟨h.os.trans t.os,h.tape.trans t.tape,h.output.trans t.output,Nat.le_trans t.size h.size,fun k hk hn=>(h.block k (Nat.lt_of_lt_of_le hk t.size) (fun hm=>by have:=hb k hm; omega)).trans (t.block k hk hn)⟩
theorem WrL.mem {d:Dv} {T:Tv} {L:List (Int × ByteArray)} (h:WrL d T L) (hfit:∀ x v,d.f x=some v→v.es≠[]→v.fits=true) (hsup:∀ x v,d.f x=some v→0≤x∧x < (topN:Int)) (hrt:0≤d.root∧d.root < (topN:Int)):∀ c ∈ L,0≤c.1∧c.1 < (topN:Int)∧c.2.size≤1024:=by
 intro c hc
 obtain ⟨seen,_,_,_,hp⟩:=h
 have hm:=hp.mem_iff.1 hc
 rcases List.mem_append.1 hm with hm | hm
 · unfold anc at hm
   split at hm
   · simp at hm
   · simp only [List.mem_singleton] at hm
     subst hm
     refine ⟨by simp,by unfold topN; simp,?_⟩
     have:=ub_le d.root.toNat (by unfold topN at hrt; omega)
     show (ub d.root.toNat).toArray.size≤1024
     simp; omega
 · obtain ⟨x,_,hx⟩:=List.mem_filterMap.1 hm
   unfold chN at hx
   cases hf:d.f x with
   | none=>rw [hf] at hx; cases hx
   | some v =>
    rw [hf] at hx
    simp only at hx
    by_cases he:v.es=[]
    · rw [if_pos he] at hx; cases hx
    · rw [if_neg he] at hx
      split at hx
      · cases hx
      · simp only [Option.some.injEq] at hx
        subst hx
        have h1:=hsup x v hf
        have h2:=hfit x v hf he
        unfold Nv.fits fitN at h2
        simp only [Bool.and_eq_true,decide_eq_true_eq] at h2
        exact ⟨h1.1,h1.2,by show (ndb v.leaf v.es).toArray.size≤1024; simpa using h2.2.1.2⟩
def SecPost (w:World) (db H0 sec tb mb:Nat) (T:Tv) (s:Ov) (root:Int) (h2:Nat) (F2:List En) (S2:List Int) (e:Ending) (w':World):Prop :=
 Tch [] w w'∧((e=.returned (.bool true)∧∃ (d:Dv) (free:Nat) (N:Nm) (g:Int→Option Int),IsDr w' db d H0∧d.tb=tb∧d.mb=mb∧Fs (mN T.f) s S2 sec s.fresh N free g∧(∀ x,(d.f x).map Nv.nod=(N x).map (mapK g))∧FinD d T sec h2 F2 (S2.map (tn g)))∨(e=.returned (.bool false)∧sec≤S2.length))
theorem tsec_any (w W:World) (db tb H0 h2 sec:Nat) (d:Dv) (T:Tv) (F2:List En) (S2:List Int) (t:Tch [] w W) (ht:IsTr w tb T) (hH:w.heap.size≤H0) (h0:H0≤W.heap.size) (hdb:H0≤db) (hmb:H0≤d.mb) (hd:IsDr W db d H0) (htb:d.tb=tb) (dok:Dok (mN T.f) d.ov d.root h2 F2 S2) (hk:∀ x,∀ e ∈ (mN T.f x).es,e.kid < 16384) (hlow:∀ x,(mN T.f x).es≠[]→x < sec) (s1:1≤sec) (s2:sec≤16384) :
 Calls Tryz.prog 57 #[.pointer (some ⟨db,0,none⟩),.int .i64 (sec:Nat)] W (SecPost w db H0 sec tb d.mb T d.ov d.root h2 F2 S2):=by
 subst htb
 have hrt:0≤d.root∧d.root < (topN:Int):=by
  have hfr:=hd.fr
  rcases dok.tr.rootIn with h | h
  · rw [h]; unfold topN; omega
  · have:=dok.inn _ h
    unfold Ov.nx at this
    have e:d.ov.fresh=d.fresh:=rfl
    rw [e] at this
    unfold topN; omega
 refine (findSectors_any db H0 h2 sec d T F2 S2 W hd h0 hdb hmb (fun W' hb=>ht.keep0 (t.belowUp hb hH)) dok hrt s2 s1).mono ?_
 rintro e w' ⟨hb,⟨rfl,free,g,fk,hfs,hd3⟩ | ⟨rfl,hf⟩⟩
 · refine ⟨t.belowUp hb hH,Or.inl ⟨rfl,_,free,nmf fk,g,hd3,rfl,rfl,hfs,?_,?_⟩⟩
   · intro x
     have h0:g 0=none:=by
      cases hg:g 0 with
      | none=>rfl
      | some y=>have:=(hfs.dom 0 y hg).1; omega
     unfold nmf
     simp only
     cases hx:fk x with
     | none=>rfl
     | some v =>
      have hl:=(hd3.ns.gd x (trn g v) (by simp only [hx,Option.map_some])).lens
      simp only [Option.map_some]
      rw [trn_nod h0 (trn_lens hl)]
   · exact fin_d dok hfs hk s2 hlow (fun x v hx=>trn_lens (hd3.ns.gd x (trn g v) (by simp only [hx,Option.map_some])).lens)
 · exact ⟨t.belowUp hb hH,Or.inr ⟨rfl,hf⟩⟩
def WriPost (w W:World) (d:Dv) (T:Tv) (e:Ending) (w':World):Prop :=
 Tch [] w w'∧Tch [] W w'∧∃ (a:Option Addr) (c cb:Nat) (L:List (Int × ByteArray)),e=.returned (.tuple #[.slice a L.length c,.int .i64 0])∧IsChs w' a L.length cb 0 L∧(0 < L.length→w.heap.size≤cb)∧L.length≤maxLen∧WrL d T L
theorem FinD.root {d:Dv} {T:Tv} {sec h:Nat} {F:List En} {S:List Int} (f:FinD d T sec h F S) (hs:sec≤16384):0≤d.root∧d.root < (topN:Int):=by
 rcases f.tr.rootIn with h | h
 · rw [h]; unfold topN; omega
 · have:=f.inn _ h
   unfold topN; omega
theorem twri_any (w W:World) (db tb H0 h2 sec:Nat) (d:Dv) (T:Tv) (F2:List En) (S3:List Int) (t:Tch [] w W) (ht:IsTr w tb T) (hd:IsDr W db d H0) (htb:d.tb=tb) (f:FinD d T sec h2 F2 S3) (s2:sec≤16384) :
 Calls Tryz.prog 59 #[.pointer (some ⟨db,0,none⟩)] W (WriPost w W d T):=by
 subst htb
 have hfit:=f.fit s2 (fun x v hx=>(hd.ns.gd x v hx).lens)
 refine (written_any db H0 d T W hd (ht.keep0 t) hfit (f.root s2)).mono ?_
 rintro e w' ⟨a,c,L,seen,rfl,ho,t',h1,h2,h3,h4⟩
 have hL:WrL d T L:=⟨seen,h1,h2,h3,h4⟩
 obtain ⟨cb,hc1,hc2,hc3⟩:=chs_own ho (fun c hc=>by have:=hL.mem hfit hd.ns.sup (f.root s2) c hc; unfold topN at this; omega)
 exact ⟨t.trans t',t',a,c,cb,L,rfl,hc1,fun hl=>Nat.le_trans t.size (hc2 hl),hc3,hL⟩
theorem apply_nil (a:Option Addr) (n c:Nat) (w:World):Calls Tryz.prog 24 #[.pointer none,.slice a n c] w fun e w'=>e=.returned (.int .i64 1)∧w=w':=by
 go_enter Tryz.func24,Tryz.ntmps24
 go_wp2_with fail
 go_ret
 exact ⟨rfl,rfl⟩
theorem apply_lost (tb:Nat) (T:Tv) (a:Option Addr) (n c:Nat) (w:World) (ht:IsTr w tb T) (hl:T.lost=true):Calls Tryz.prog 24 #[.pointer (some ⟨tb,0,none⟩),.slice a n c] w fun e w'=>e=.returned (.int .i64 12)∧w=w':=by
 have c3:=blk_cell ht.blk 3
 simp only [gA,gZ,gS] at c3
 rw [hl] at c3
 go_enter Tryz.func24,Tryz.ntmps24
 go_wp2_with fail
 go_ret
 exact ⟨rfl,rfl⟩
end Go.Proofs.YtlkgnljdpakkcaaGreatDoor
/-
 'Apply' of a tree: its walk.
-/
namespace Go.Proofs.YtlkgnljdpakkcaaGreatDoor
open Go.RowKit
set_option maxRecDepth 100000 in
set_option maxHeartbeats 4000000 in
theorem apply_ref (tb:Nat) (T:Tv) (cs:List Ch) (a:Option Addr) (n c b o:Nat) (w:World) (ht:IsTr w tb T) (hl:T.lost=false) (hlen:cs.length≤1048576) (hr:IsR fChg 3 w a n b o cs) (hc:chk cs []≠0) :
 Calls Tryz.prog 24 #[.pointer (some ⟨tb,0,none⟩),.slice a n c] w fun e w'=>e=.returned (.int .i64 (chk cs []))∧Tch [] w w':=by
 have c3:=blk_cell ht.blk 3
 simp only [gA,gZ,gS] at c3
 rw [hl] at c3
 have HR:Hid (∀ W,W=w→Calls Tryz.prog 54 #[.slice a n c] W fun e w'=>e=.returned (.int .i64 (chk cs []))∧Tch [] W w'):=fun W e=>by subst e; exact refusal_any cs a n c b o W hlen hr
 generalize chk cs []=k at *
 have hk:(k != 0)=true:=by simpa using hc
 have hk2:(k == 0)=false:=by simpa using hc
 clear ht hr hc
 go_enter Tryz.func24,Tryz.ntmps24
 go_wp2_with (go_at_call 54; (with_reducible refine (HR.out _ rfl).mono ?_); rintro e w1 ⟨rfl,t1⟩)
 go_ret
 exact ⟨rfl,t1⟩
theorem IsTr.lostT {w:World} {tb:Nat} {T:Tv} (h:IsTr w tb T) (x:Bool):IsTr (w.setCell ⟨tb,3,none⟩ (.bool x)) tb { T with lost:=x }:=by
 have t:Tch [tb] w (w.setCell ⟨tb,3,none⟩ (.bool x)):=(Tch.refl [tb] w).setCell (by simp) _
 obtain ⟨⟨a1,a2⟩,_,_,a3,a4,_⟩:=h.apartB
 refine ⟨?_,h.jn.keep t (by simpa using a3.symm),h.ds.keep t (by simpa using a1.symm) (by simpa using a2.symm),h.ns.keep t (by simpa using a4.symm) (fun b hb cs=>by
  simp only [List.mem_singleton] at hb
  subst hb
  rw [h.blk]; exact ⟨by simp,by simp⟩),h.room⟩
 exact blk_set h.blk 3 (.bool x)
set_option maxRecDepth 100000 in
set_option maxHeartbeats 8000000 in
theorem apply_go (tb B h:Nat) (T:Tv) (F:List En) (S:List Int) (cs:List Ch) (a:Option Addr) (n c b o:Nat) (w:World) (ht:IsTr w tb T) (hl:T.lost=false) (hok:TrOk T h F S (jlen T.D T.room)) (hB:T.b < B∧T.bs < B∧B≤w.heap.size) (hh:∀ x v,T.f x=some v→Hig B v) (hlen:cs.length≤1048576) (hr:IsR fChg 3 w a n b o cs) (hz:a=none→n=0∧c=0) (hbl:0 < n→b < w.heap.size) (hdone:T.D.done+1002 < 9223372036854775807) (hc:chk cs []=0) :
 Calls Tryz.prog 24 #[.pointer (some ⟨tb,0,none⟩),.slice a n c] w (ApPost w tb B h (jlen T.D T.room) T F S cs):=by
 obtain ⟨sec,hsec⟩:∃ sec,sec=jlen T.D T.room:=⟨_,rfl⟩
 rw [← hsec] at hok ⊢
 obtain ⟨⟨a1,a2⟩,⟨a3,a4⟩,⟨a5,a6⟩,a7,a8,a9⟩:=ht.apartB
 have hok2:=(chk_ok hc).1
 have htl:=lt_of_block ht.blk
 have hml:=ht.ns.mp.lt
 have c1:=blk_cell ht.blk 1
 have c3:=blk_cell ht.blk 3
 simp only [gA,gZ,gS] at c1 c3
 rw [hl] at c3
 have HC1:Hid (∀ W,Tch [] w W→W.cell? ⟨tb,1,none⟩=some (.pointer (some ⟨T.jb,0,none⟩))):=fun W t=>by
  have:=blk_cell (t.keep ht.blk (by simp)) 1
  simpa using this
 have HR:Hid (∀ W,W=w→Calls Tryz.prog 54 #[.slice a n c] W fun e w'=>e=.returned (.int .i64 0)∧Tch [] w w'):=fun W e=>by
  subst e
  refine (refusal_any cs a n c b o W hlen hr).mono ?_
  rintro e w' ⟨rfl,t⟩
  rw [hc]; exact ⟨rfl,t⟩
 have HN:Hid (∀ W,Tch [] w W→Calls Tryz.prog 55 #[.pointer (some ⟨tb,0,none⟩)] W fun e w'=>∃ (db mb H0:Nat),e=.returned (.pointer (some ⟨db,0,none⟩))∧w.heap.size≤H0∧H0≤db∧H0≤mb∧H0≤w'.heap.size∧IsDr w' db ⟨T.root,tb,mb,0,fun _=>none⟩ H0∧Tch [] w w'):=fun W t=>by
  refine (newDraft_any tb T W (ht.keep0 t)).mono ?_
  rintro e w' ⟨db,mb,rfl,h1,h2,h3,t'⟩
  exact ⟨db,mb,W.heap.size,rfl,t.size,h1,h2,t'.size,h3,t.trans t'⟩
 have HA:Hid (∀ W (db mb H0:Nat),Tch [] w W→w.heap.size≤H0→H0≤db→H0≤mb→H0≤W.heap.size→IsDr W db ⟨T.root,tb,mb,0,fun _=>none⟩ H0→Calls Tryz.prog 56 #[.pointer (some ⟨db,0,none⟩),.slice a n c] W fun e w'=>∃ (d2:Dv) (h2:Nat) (S2:List Int),e=.returned (.tuple #[])∧Din (mN T.f) F S (ords F cs) d2.ov d2.root h2 S2∧IsDr w' db d2 H0∧d2.tb=tb∧H0≤d2.mb∧H0≤w'.heap.size∧Tch [] w w'):=fun W db mb H0 t h1 h2 h3 h4 h5=>by
  have hm:∀ k ∈ [db,mb],w.heap.size≤k:=fun k hk=>by
   simp only [List.mem_cons,List.not_mem_nil,or_false] at hk
   rcases hk with rfl | rfl <;> omega
  refine (alterAll_any db H0 h ⟨T.root,tb,mb,0,fun _=>none⟩ T cs F S a n c b o W h5 (fun W' t'=>ht.keep0 (t.upTo t' hm)) h4 hok.hin hok.hS hok.hst hok.hrt hok.hF hok2 hlen (hr.keep t (fun _=>by simp)) hz (fun hn=>⟨by have:=hbl hn; omega,by have:=hbl hn; show b≠mb; omega⟩)).mono ?_
  rintro e w' ⟨d2,h2',S2,rfl,g1,g2,g3,g4,t'⟩
  exact ⟨d2,h2',S2,rfl,g1,g2,g3,by rw [g4]; exact h3,Nat.le_trans h4 t'.size,t.upTo t' hm⟩
 have HJ:Hid (∀ W,Tch [] w W→Calls Tryz.prog 58 #[.pointer (some ⟨T.jb,0,none⟩)] W fun e w'=>e=.returned (.int .i64 (sec:Nat))∧W=w'):=fun W t=>by
  rw [hsec]; exact jlen_any T.jb T.b T.bs T.room T.D W (ht.keep0 t).jn (ht.keep0 t).ds ht.room
 have HS:Hid (∀ W (db H0 h2:Nat) (d2:Dv) (S2:List Int),Tch [] w W→w.heap.size≤H0→H0≤W.heap.size→H0≤db→H0≤d2.mb→IsDr W db d2 H0→d2.tb=tb→Din (mN T.f) F S (ords F cs) d2.ov d2.root h2 S2→Calls Tryz.prog 57 #[.pointer (some ⟨db,0,none⟩),.int .i64 (sec:Nat)] W (SecPost w db H0 sec tb d2.mb T d2.ov d2.root h2 (altsL F (ords F cs)) S2)):=fun W db H0 h2 d2 S2 t h1 h3 h4 h5 h6 h7 h8=>tsec_any w W db tb H0 h2 sec d2 T _ S2 t ht h1 h3 h4 h5 h6 h7 h8.ok hok.hk hok.hlow hok.s1 hok.s2
 have HW:Hid (∀ W (db H0 h2:Nat) (d3:Dv) (S3:List Int),Tch [] w W→IsDr W db d3 H0→d3.tb=tb→FinD d3 T sec h2 (altsL F (ords F cs)) S3→Calls Tryz.prog 59 #[.pointer (some ⟨db,0,none⟩)] W (WriPost w W d3 T)):=fun W db H0 h2 d3 S3 t h1 h3 h4=>twri_any w W db tb H0 h2 sec d3 T _ S3 t ht h1 h3 h4 hok.s2
 have HCM:Hid (∀ W a c cb (L:List (Int × ByteArray)),Tch [] w W→IsChs W a L.length cb 0 L→(0 < L.length→w.heap.size≤cb)→L.length≤maxLen→Calls Tryz.prog 60 #[.pointer (some ⟨T.jb,0,none⟩),.slice a L.length c] W fun e w'=>e=.returned (.int .i64 (jcommit T.room L T.D).1)∧IsTr w' tb { T with D:=(jcommit T.room L T.D).2 }∧Tch [T.b,T.bs] W w'):=fun W a c cb L t h1 h2 h3=>by
  refine (commit_any T.jb T.b T.bs T.room T.D a L.length c cb 0 L W (ht.keep0 t).jn (ht.keep0 t).ds ⟨a3,a4⟩ ht.room h1 (fun hp=>by have:=h2 hp; omega) (by unfold maxLen at h3; omega) hdone).mono ?_
  rintro e w' ⟨rfl,g1,g2⟩
  exact ⟨rfl,(ht.keep0 t).commit g1 g2 ⟨hB.1,hB.2.1⟩ hh,g2⟩
 have HTK:Hid (∀ W W' db H0 (d3:Dv) (D':Ds),w.heap.size≤H0→H0≤db→H0≤d3.mb→IsDr W db d3 H0→Tch [T.b,T.bs] W W'→IsTr W' tb { T with D:=D' }→Calls Tryz.prog 61 #[.pointer (some ⟨tb,0,none⟩),.pointer (some ⟨db,0,none⟩)] W' (TakPost W' tb d3 { T with D:=D' })):=fun W W' db H0 d3 D' h1 h2 h3 h4 t h5=>by
  refine take_any db tb H0 d3 { T with D:=D' } W' (h4.low t (by simp only [List.mem_cons,List.not_mem_nil,or_false]; omega) (by simp only [List.mem_cons,List.not_mem_nil,or_false]; omega) (fun k hk=>?_)) h5 (by show d3.mb≠T.mb; omega) (by omega)
  simp only [List.mem_cons,List.not_mem_nil,or_false] at hk
  rcases hk with rfl | rfl <;> omega
 have HFULL:Hid (∀ W s root h2 S2,Tch [] w W→Din (mN T.f) F S (ords F cs) s root h2 S2→sec≤S2.length→ApPost w tb B h sec T F S cs (.returned (.int .i64 52)) W):=fun W s root h2 S2 t h1 h2'=>Or.inr (Or.inl ⟨hc,rfl,ht.keep0 t,t,s,root,h2,S2,h1,h2'⟩)
 have HBAD:Hid (∀ (W W':World) (d3:Dv) s root h2 S2 L free N g H0 db,Tch [] w W→IsDr W db d3 H0→Din (mN T.f) F S (ords F cs) s root h2 S2→Fs (mN T.f) s S2 sec s.fresh N free g→(∀ x,(d3.f x).map Nv.nod=(N x).map (mapK g))→FinD d3 T sec h2 (altsL F (ords F cs)) (S2.map (tn g))→WrL d3 T L→Tch [T.b,T.bs] W W'→IsTr W' tb { T with D:=(jcommit T.room L T.D).2 }→(jcommit T.room L T.D).1≠0→ApPost w tb B h sec T F S cs (.returned (.int .i64 (jcommit T.room L T.D).1)) (W'.setCell ⟨tb,3,none⟩ (.bool ((jcommit T.room L T.D).1 == 12)))):=fun W W' d3 s root h2 S2 L free N g H0 db t h1 h3 h4 h5 h6 h7 t2 h8 h9 =>
  Or.inr (Or.inr ⟨hc,d3,s,root,h2,S2,_,L,free,N,g,h3,h4,rfl,h5,h6,h7,fun x v hx=>(h1.ns.gd x v hx).lens,rfl,((t.mono (by simp)).trans (t2.mono (by simp))).setCell (by simp) _,Or.inr ⟨h9,h8.lostT _⟩⟩)
 have HGOOD:Hid (∀ (W W' W2:World) (d3:Dv) s root h2 S2 L free N g H0 db,w.heap.size≤H0→Tch [] w W→IsDr W db d3 H0→Din (mN T.f) F S (ords F cs) s root h2 S2→Fs (mN T.f) s S2 sec s.fresh N free g→(∀ x,(d3.f x).map Nv.nod=(N x).map (mapK g))→FinD d3 T sec h2 (altsL F (ords F cs)) (S2.map (tn g))→WrL d3 T L→Tch [T.b,T.bs] W W'→(jcommit T.room L T.D).1=0→TakPost W' tb d3 { T with D:=(jcommit T.room L T.D).2 } (.returned (.tuple #[])) W2→ApPost w tb B h sec T F S cs (.returned (.int .i64 0)) W2):=fun W W' W2 d3 s root h2 S2 L free N g H0 db h0 t h1 h3 h4 h5 h6 h7 t2 h9 ⟨_,k1,k2⟩ =>
  Or.inr (Or.inr ⟨hc,d3,s,root,h2,S2,_,L,free,N,g,h3,h4,rfl,h5,h6,h7,fun x v hx=>(h1.ns.gd x v hx).lens,by rw [h9],((t.mono (by simp)).trans (t2.mono (by simp))).trans (k2.mono (by simp)),Or.inl ⟨h9,k1,fun x v hx=>by
   unfold tkF at hx
   split at hx
   · exact hh x v hx
   · rename_i u hu
     split at hx
     · cases hx
     · cases hx; exact (h1.hig x v hu).base (by omega)⟩⟩)
 have HC3:Hid (∀ W' (D':Ds),IsTr W' tb { T with D:=D' }→W'.cell? ⟨tb,3,none⟩=some (.bool false)∧W'.frozen? ⟨tb,3,none⟩=false):=fun W' D' g=>by
  have e:=blk_cell g.blk 3
  have e2:=blk_free g.blk 3
  simp only [gA,gZ,gS] at e
  exact ⟨by rw [e]; show some (Value.bool T.lost)=_; rw [hl],e2⟩
 clear hsec ht hok hr hc hh hok2 a1 a2 a3 a4 a5 a6 a7 a8 a9 hl
 generalize ApPost w tb B h sec T F S cs=Q at *
 go_enter Tryz.func24,Tryz.ntmps24
 go_upto_region 10 with (first
  | (go_at_call 54; (with_reducible refine (HR.out _ rfl).mono ?_); rintro e w1 ⟨rfl,t1⟩)
  | (go_at_call 55; (with_reducible refine (HN.out _ t1).mono ?_); rintro e w2 ⟨db,mb,H0,rfl,g1,g2,g3,g4,g5,t2⟩)
  | (go_at_call 56; (with_reducible refine (HA.out _ db mb H0 t2 g1 g2 g3 g4 g5).mono ?_); rintro e w3 ⟨d2,h2,S2,rfl,i1,i2,i3,i4,i5,t3⟩; have q1:=HC1.out w3 t3))
 go_upto_region 11 with (first
  | (go_at_call 58; (with_reducible refine (HJ.out _ t3).mono ?_); rintro e w4 ⟨rfl,rfl⟩)
  | (go_at_call 57; (with_reducible refine (HS.out _ db H0 h2 d2 S2 t3 g1 i5 g2 i4 i2 i3 i1).mono ?_); rintro e w5 ⟨t5,⟨rfl,d3,free,N,g,j1,j2,j3,j4,j5,j6⟩ | ⟨rfl,hfull⟩⟩))
 · go_upto_region 17 with (first
    | (go_at_call 59; (with_reducible refine (HW.out _ db H0 h2 d3 _ t5 j1 j2 j6).mono ?_); rintro e w6 ⟨t6,t56,wa,wc,wcb,L,rfl,k1,k2,k3,k4⟩; have q2:=HC1.out w6 t6)
    | (go_at_call 60; (with_reducible refine (HCM.out _ wa wc wcb L t6 k1 k2 k3).mono ?_); rintro e w7 ⟨rfl,m1,m2⟩; have q3:=(HC3.out w7 _ m1).1; have q4:=(HC3.out w7 _ m1).2)
    | (go_at_call 61; (with_reducible refine (HTK.out w6 w7 db H0 d3 _ g1 g2 (by omega) (j1.keep0 t56) m2 m1).mono ?_); rintro e w8 ⟨rfl,m3⟩))
   · have hcd:(jcommit T.room L T.D).1≠0:=by
      have:=‹((jcommit T.room L T.D).fst != 0)=true›
      simpa using this
     have HE:=Lib.hid (HBAD.out w6 w7 d3 _ _ _ _ L free N g H0 db t6 (j1.keep0 t56) i1 j4 j5 j6 k4 m2 m1 hcd)
     clear hcd
     go_wp2_with fail
     first | exact HE.out | (go_ret2; exact HE.out)
   · have hcd:(jcommit T.room L T.D).1=0:=by
      have:=‹((jcommit T.room L T.D).fst != 0)=false›
      simpa using this
     have HE:=HGOOD.out w6 w7 w8 d3 _ _ _ _ L free N g H0 db g1 t6 (j1.keep0 t56) i1 j4 j5 j6 k4 m2 hcd ⟨rfl,m3⟩
     first | exact HE | (go_ret2; exact HE)
 · have HE:=Lib.hid (HFULL.out w5 _ _ _ _ t5 i1 hfull)
   go_wp2_with fail
   first | exact HE.out | (go_ret2; exact HE.out)
end Go.Proofs.YtlkgnljdpakkcaaGreatDoor
/-
 What the journal's sectors say of a tree,and what they say behind what was written.
-/
namespace Go.Proofs.YtlkgnljdpakkcaaGreatDoor
open Go.RowKit
theorem ckc_fits (n:Nat):∀ (l:List (Int × ByteArray)) (met:List Int),(∀ p ∈ l,0≤p.1∧p.1 < (n:Int)∧p.2.size≤1024)→(met++l.map Prod.fst).Nodup→ckc n l met=0
 | [],_,_,_=>rfl
 | p :: l,met,h,hn=>by
  have h1:=h p (by simp)
  have hm:p.1 ∉ met:=fun hm=>by
   rw [List.nodup_append] at hn
   exact hn.2.2 _ hm p.1 (by simp) rfl
  rw [ckc,if_neg (by omega),if_neg (by omega),if_neg hm]
  exact ckc_fits n l _ (fun q hq=>h q (by simp [hq])) (by simpa [List.append_assoc] using hn)
theorem alk_nod {v u:Nv} (hv:v.lens=true) (hu:u.lens=true):alk v u=true↔v.nod=u.nod:=by
 rw [nod_alike hv hu]
 unfold alk
 simp [and_assoc]
theorem chN_fst {T:Tv} {f:Int→Option Nv} {x:Int} {p:Int × ByteArray} (h:chN T f x=some p):p.1=x∧∃ v,f x=some v∧v.es≠[]∧alk v ((T.f x).getD nvz)=false∧p.2=⟨(ndb v.leaf v.es).toArray⟩:=by
 unfold chN at h
 cases hf:f x with
 | none=>rw [hf] at h; cases h
 | some v =>
  rw [hf] at h
  simp only at h
  by_cases he:v.es=[]
  · rw [if_pos he] at h; cases h
  · rw [if_neg he] at h
    cases ha:alk v ((T.f x).getD nvz) with
    | true=>rw [ha] at h; simp at h
    | false =>
     rw [ha] at h
     simp only [Bool.false_eq_true,if_false,Option.some.injEq] at h
     subst h
     exact ⟨rfl,v,rfl,he,ha,rfl⟩
theorem fm_nodup (T:Tv) (f:Int→Option Nv):∀ (l:List Int),l.Nodup→((l.filterMap (chN T f)).map Prod.fst).Nodup∧∀ y ∈ (l.filterMap (chN T f)).map Prod.fst,y ∈ l∧(chN T f y).isSome=true
 | [],_=>by simp
 | x :: l,h=>by
  obtain ⟨h1,h2⟩:=List.nodup_cons.1 h
  obtain ⟨i1,i2⟩:=fm_nodup T f l h2
  cases hc:chN T f x with
  | none=>rw [List.filterMap_cons_none hc]; exact ⟨i1,fun y hy=>⟨by simp [(i2 y hy).1],(i2 y hy).2⟩⟩
  | some p =>
   have hp:=(chN_fst hc).1
   rw [List.filterMap_cons_some hc,List.map_cons,hp]
   refine ⟨List.nodup_cons.2 ⟨fun hm=>h1 (i2 x hm).1,i1⟩,fun y hy=>?_⟩
   rcases List.mem_cons.1 hy with rfl | hy
   · exact ⟨by simp,by rw [hc]; rfl⟩
   · exact ⟨by simp [(i2 y hy).1],(i2 y hy).2⟩
theorem WrL.nodup {d:Dv} {T:Tv} {L:List (Int × ByteArray)} (h:WrL d T L) (hz:chN T d.f 0=none):(L.map Prod.fst).Nodup:=by
 obtain ⟨seen,h1,_,_,hp⟩:=h
 refine (hp.map Prod.fst).nodup_iff.2 ?_
 rw [List.map_append]
 obtain ⟨i1,i2⟩:=fm_nodup T d.f seen h1
 rw [List.nodup_append]
 refine ⟨by unfold anc; split <;> simp,i1,fun a ha b hb e=>?_⟩
 subst e
 have h0:a=0:=by unfold anc at ha; split at ha <;> simp at ha; exact ha
 subst h0
 have:=(i2 _ hb).2
 rw [hz] at this
 cases this
theorem WrL.iff {d:Dv} {T:Tv} {L:List (Int × ByteArray)} (h:WrL d T L) (p:Int × ByteArray):p ∈ L↔p ∈ anc d T∨chN T d.f p.1=some p:=by
 obtain ⟨seen,h1,h2,_,hp⟩:=h
 rw [hp.mem_iff,List.mem_append,List.mem_filterMap]
 constructor
 · rintro (h | ⟨x,_,hx⟩)
   · exact Or.inl h
   · right; rw [(chN_fst hx).1]; exact hx
 · rintro (h | h)
   · exact Or.inl h
   · refine Or.inr ⟨p.1,h2 p.1 ?_,h⟩
     obtain ⟨_,v,hv,_⟩:=chN_fst h
     rw [hv]; simp
structure Says (now:List ByteArray) (M:Int→Nod) (root:Int) (S:List Int):Prop where
 anc:pad (now.getD 0 ⟨#[]⟩)=pad ⟨(ub root.toNat).toArray⟩
 nod:∀ x ∈ S,pad (now.getD x.toNat ⟨#[]⟩)=pad ⟨(ndb (M x).leaf (M x).es).toArray⟩
theorem idx_get:∀ (cs:List (Int × ByteArray)) (i:Nat) (p:Int × ByteArray),(ats cs).Nodup→p ∈ cs→p.1.toNat=i→(cs.getD ((ats cs).idxOf i) (0,⟨#[]⟩)).2=p.2
 | [],_,_,_,h,_=>by simp at h
 | q :: cs,i,p,hn,h,hi=>by
  have e:ats (q :: cs)=q.1.toNat :: ats cs:=rfl
  rw [e] at hn ⊢
  obtain ⟨h1,h2⟩:=List.nodup_cons.1 hn
  rw [List.idxOf_cons]
  rcases List.mem_cons.1 h with rfl | h
  · rw [hi]; simp
  · have hne:q.1.toNat≠i:=fun e2=>h1 (by rw [e2,← hi]; exact List.mem_map.2 ⟨p,h,rfl⟩)
    rw [show (q.1.toNat == i)=false from by simpa using hne]
    simp only [cond_false,List.getD_cons_succ]
    exact idx_get cs i p h2 h hi
theorem mN_nvz (f:Int→Option Nv) (x:Int):((f x).getD nvz).nod=mN f x:=by unfold mN; cases f x <;> rfl
theorem says_next {T:Tv} {d:Dv} {now:List ByteArray} {L:List (Int × ByteArray)} {sec h:Nat} {F:List En} {S S3:List Int} (hs:Says now (mN T.f) T.root S) (hlen:now.length=sec) (h1:1≤sec) (h2:sec≤16384) (hout:∀ x,x ∉ S→(mN T.f x).es=[]) (hlT:∀ x v,T.f x=some v→v.lens=true) (hld:∀ x v,d.f x=some v→v.lens=true) (fd:FinD d T sec h F S3) (hw:WrL d T L) :
 ckc sec L []=0∧Says (upd now L) (ovM d T) d.root S3:=by
 have hfit:=fd.fit h2 hld
 have hrt:=fd.root h2
 have hin:∀ x p,chN T d.f x=some p→x ∈ S3:=fun x p hp=>by
  obtain ⟨_,v,hv,he,_⟩:=chN_fst hp
  exact Decidable.byContradiction fun hn=>he (by have:=fd.out x hn; unfold ovM at this; rw [hv] at this; exact this)
 have hz:chN T d.f 0=none:=by
  cases hc:chN T d.f 0 with
  | none=>rfl
  | some p=>have:=fd.inn 0 (hin 0 p hc); omega
 have hanc:∀ p ∈ anc d T,p=(0,⟨(ub d.root.toNat).toArray⟩)∧d.root≠T.root:=fun p hp=>by
  unfold anc at hp
  split at hp
  · simp at hp
  · rename_i hne; simp at hp; exact ⟨hp,hne⟩
 have hb:∀ p ∈ L,0≤p.1∧p.1 < (sec:Int)∧p.2.size≤1024:=fun p hp=>by
  rcases (hw.iff p).1 hp with hp | hp
  · obtain ⟨rfl,_⟩:=hanc p hp
    refine ⟨by simp,by show (0:Int) < sec; omega,?_⟩
    have:=ub_le d.root.toNat (by unfold topN at hrt; omega)
    show (ub d.root.toNat).toArray.size≤1024
    simp; omega
  · have h3:=fd.inn _ (hin _ _ hp)
    obtain ⟨_,v,hv,he,_,h4⟩:=chN_fst hp
    have h5:=hfit _ v hv he
    unfold Nv.fits fitN at h5
    simp only [Bool.and_eq_true,decide_eq_true_eq] at h5
    exact ⟨by omega,h3.2,by rw [h4]; show (ndb v.leaf v.es).toArray.size≤1024; simpa using h5.2.1.2⟩
 have hnd:=hw.nodup hz
 have hna:(ats L).Nodup:=by
  unfold ats
  rw [List.nodup_iff_pairwise_ne,List.pairwise_map] at hnd ⊢
  refine hnd.imp_of_mem (fun {a b} ha hb' hab e=>hab ?_)
  have:=hb a ha
  have:=hb b hb'
  omega
 refine ⟨ckc_fits sec L [] hb (by simpa using hnd),?_,fun x hx=>?_⟩
 · rw [upd_get L now 0 (by omega) hna]
   by_cases h0:0 ∈ ats L
   · rw [if_pos h0]
     obtain ⟨p,hp,hp0⟩:=List.mem_map.1 h0
     rw [idx_get L 0 p hna hp hp0]
     have hp1:=(hb p hp).1
     have e:p.1=0:=by omega
     rcases (hw.iff p).1 hp with hp | hp
     · rw [(hanc p hp).1]
     · rw [e,hz] at hp; cases hp
   · rw [if_neg h0]
     have e:d.root=T.root:=Decidable.byContradiction fun hne=>h0 (List.mem_map.2 ⟨(0,⟨(ub d.root.toNat).toArray⟩),(hw.iff _).2 (Or.inl (by unfold anc; rw [if_neg hne]; simp)),rfl⟩)
     rw [e]; exact hs.anc
 · have hxi:=fd.inn x hx
   have hne:=fd.tr.ne x hx
   rw [upd_get L now x.toNat (by omega) hna]
   by_cases h0:x.toNat ∈ ats L
   · rw [if_pos h0]
     obtain ⟨p,hp,hp0⟩:=List.mem_map.1 h0
     rw [idx_get L x.toNat p hna hp hp0]
     have hp1:=(hb p hp).1
     have e:p.1=x:=by omega
     rcases (hw.iff p).1 hp with hp | hp
     · have:=(hanc p hp).1; rw [this] at e; simp at e; omega
     · rw [e] at hp
       obtain ⟨_,v,hv,_,_,h4⟩:=chN_fst hp
       have e2:ovM d T x=v.nod:=by unfold ovM; rw [hv]; rfl
       rw [h4,e2]; rfl
   · rw [if_neg h0]
     have hcn:chN T d.f x=none:=by
      cases hc:chN T d.f x with
      | none=>rfl
      | some p =>
       have e:=(chN_fst hc).1
       exact absurd (List.mem_map.2 ⟨p,(hw.iff p).2 (Or.inr (by rw [e]; exact hc)),by rw [e]⟩) h0
     have hov:ovM d T x=mN T.f x:=by
      unfold ovM
      cases hf:d.f x with
      | none=>rfl
      | some v =>
       have hve:v.es≠[]:=by unfold ovM at hne; rw [hf] at hne; exact hne
       unfold chN at hcn
       rw [hf] at hcn
       simp only at hcn
       rw [if_neg hve] at hcn
       cases ha:alk v ((T.f x).getD nvz) with
       | false=>rw [ha] at hcn; simp at hcn
       | true =>
        have hu:((T.f x).getD nvz).lens=true:=by
         cases ht:T.f x with
         | none=>rfl
         | some u=>exact hlT x u ht
        have:=(alk_nod (hld x v hf) hu).1 ha
        rw [mN_nvz] at this
        exact this
     rw [hov] at hne ⊢
     exact hs.nod x (Decidable.byContradiction fun hn=>hne (hout x hn))
end Go.Proofs.YtlkgnljdpakkcaaGreatDoor
/-
 A tree on the disk is what a load of it gives.
-/
namespace Go.Proofs.YtlkgnljdpakkcaaGreatDoor
open Go.RowKit
theorem LdOk.uniq {D:Ds} {room:Nat} {x y:Int} {N N':Nm} {h h':Nat} (a:LdOk D room x N h) (b:LdOk D room y N' h'):x=y∧N=N'∧h=h':=by
 obtain ⟨_,r,a1,rfl,a2⟩:=a
 obtain ⟨_,r',b1,rfl,b2⟩:=b
 rw [a1] at b1
 cases b1
 refine ⟨rfl,?_⟩
 rcases a2 with ⟨a3,rfl,rfl⟩ | ⟨a3,a4,_⟩
 · rcases b2 with ⟨b3,rfl,rfl⟩ | ⟨b3,_⟩
   · exact ⟨rfl,rfl⟩
   · exact absurd a3 b3
 · rcases b2 with ⟨b3,_⟩ | ⟨_,b4,_⟩
   · exact absurd b3 a3
   · rw [a4] at b4
     simp only [Option.some.injEq,Prod.mk.injEq] at b4
     exact ⟨b4.2,by omega⟩
theorem jr_says {D:Ds} {room:Nat} {now:List ByteArray} (hon:D.on=true) (hs:Seen D room [] now) (i:Nat) (hi:i < now.length):jrtext room D (i:Int)=pad (now.getD i ⟨#[]⟩)∧jrcode room D (i:Int)=0:=by
 have hj:jlen D room=now.length:=by unfold jlen; rw [hs.len]; omega
 have h1:=rd_in (D:=D) (i:=(room:Int)+1+i) hon (by omega) (by rw [hs.len]; omega)
 unfold jrtext jrcode
 rw [if_neg (by rw [hj]; omega),if_neg (by rw [hj]; omega)]
 refine ⟨?_,h1.1⟩
 rw [h1.2,← hs.held i hi]
 unfold cont
 rw [if_neg (by simp)]
 congr 2
theorem pad_list (l:List UInt8):(pad ⟨l.toArray⟩).data.toList=l++List.replicate (1024 - l.length) 0:=by
 unfold pad
 simp
 rfl
theorem rd_says {D:Ds} {room h:Nat} {now:List ByteArray} {M:Int→Nod} {root:Int} {F:List En} {S:List Int} (hon:D.on=true) (hs:Seen D room [] now) (hsy:Says now M root S) (t:Tr M root h F S) (hin:∀ x ∈ S,1≤x∧x < (now.length:Int)) (hl:now.length≤16384):∀ x ∈ S,rdN D room x=some (M x):=by
 intro x hx
 have h1:=hin x hx
 obtain ⟨f1,f2⟩:=t.fit (fun y hy=>⟨(hin y hy).1,by have:=(hin y hy).2; omega⟩) x hx
 have hj:=(jr_says hon hs x.toNat (by omega)).1
 rw [Int.toNat_of_nonneg (by omega),hsy.nod x hx] at hj
 obtain ⟨g1,_,g3,_⟩:=fitN_parts f1
 unfold rdN
 rw [hj,pad_list]
 rw [ddec_ndb (M x).leaf (M x).es _ (by
  have e1:=ndb_len (M x).leaf (M x).es
  have e2:=flat_pos (M x).leaf (M x).es
  omega) (fun e he=>by
  have k1:=g1 e he
  have k2:=f2 e he
  unfold fitE at k1
  unfold Norm
  cases hl':(M x).leaf with
  | true =>
   rw [hl'] at k1 k2
   simp only [if_true,Bool.and_eq_true,decide_eq_true_eq] at k1 k2 ⊢
   exact ⟨by omega,by omega,k2⟩
  | false =>
   rw [hl'] at k1 k2
   simp only [Bool.false_eq_true,if_false,Bool.and_eq_true,decide_eq_true_eq] at k1 k2 ⊢
   refine ⟨by omega,?_,k2⟩
   rw [k2.1]
   show (0:Nat)≤_
   omega) f1,nil0_rep]
 rfl
theorem slt_empty {k:ByteArray} (h:1≤k.size):slt ⟨#[]⟩ k=true:=by
 unfold slt
 rw [ByteArray.toList_eq,ByteArray.toList_eq]
 cases hk:k.data.toList with
 | nil =>
  have:k.data.toList.length=0:=by rw [hk]; rfl
  have e:k.size=k.data.toList.length:=by rw [Array.length_toList]; rfl
  omega
 | cons b l=>rfl
theorem flat_fitL {M:Int→Nod}:∀ {h:Nat} {a:Int},Sh M h a→∀ e ∈ flat M h a,fitL e:=by
 intro h
 induction h with
 | zero=>intro a hs e he; exact hs.1.2 e he
 | succ h ih =>
  intro a hs e he
  obtain ⟨x,hx,hxe⟩:=List.mem_flatMap.1 he
  exact ih (hs.1.2 x hx).1 e hxe
theorem says_load {D:Ds} {room h:Nat} {now:List ByteArray} {M:Int→Nod} {root:Int} {F:List En} {S:List Int} (hon:D.on=true) (hs:Seen D room [] now) (hsy:Says now M root S) (t:Tr M root h F S) (h1:∀ x,S.count x≤1) (hin:∀ x ∈ S,1≤x∧x < (now.length:Int)) (hl:now.length≤16384) (h0:1≤now.length) :
 ∃ N:Nm,LdOk D room root N h∧∀ x,N x=if x ∈ S then some (M x) else none:=by
 have hj:jlen D room=now.length:=by unfold jlen; rw [hs.len]; omega
 have hrd:=rd_says hon hs hsy t hin hl
 have hr0:0≤root∧root < (now.length:Int):=by
  rcases t.rootIn with h | h
  · rw [h]; omega
  · have:=hin _ h; omega
 have ha:rAnc (jrtext room D 0).data.toList (jlen D room)=some root.toNat:=by
  have e:=(jr_says hon hs 0 (by omega)).1
  rw [show ((0:Nat):Int)=0 from rfl,hsy.anc] at e
  rw [e,pad_list,hj]
  unfold rAnc
  rw [rdu_ub64 root.toNat (by omega)]
  simp only [List.drop_left,true_and]
  rw [if_pos ⟨by omega,nil0_rep _⟩]
 have hra:root=(root.toNat:Int):=(Int.toNat_of_nonneg hr0.1).symm
 have hlow:=t.low 14 (by
  have:=nodup_len now.length 0 S h1 (fun x hx=>by have:=hin x hx; omega)
  have:(8:Nat) ^ 14=4398046511104:=by decide
  omega)
 rcases t with ⟨rfl,rfl,rfl,rfl⟩ | ⟨t1,t2,t3,t4,t5,t6⟩
 · exact ⟨nm0,⟨by omega,0,ha,rfl,Or.inl ⟨rfl,rfl,rfl⟩⟩,fun x=>by simp [nm0]⟩
 · subst t4 t5
   obtain ⟨N,n1,n2⟩:=lb_full (R:=rdN D room) (sec:=jlen D room) h 16385 nm0 root (by omega) t2 (fun x hx=>⟨hrd x hx,by have:=hin x hx; omega,rfl⟩) h1
   have hN:∀ x,N x=if x ∈ nums M h root then some (M x) else none:=fun x=>by rw [n2 x]; rfl
   have hg:∀ x ∈ nums M h root,gM N x=M x:=fun x hx=>by unfold gM; rw [hN x,if_pos hx]; rfl
   obtain ⟨c1,c2,c3⟩:=sh_congr hg
   have hsh:=c3 t2
   have hb:=sh_body.1 hsh
   refine ⟨N,⟨by omega,root.toNat,ha,hra,Or.inr ⟨by omega,by rw [← hra]; exact n1,?_,?_⟩⟩,hN⟩
   · rw [← hra]
     refine (isRt_is ⟨hb.1,hb.2.2⟩).2 ⟨hb.2.1,?_⟩
     rw [hg root (by cases h <;> simp [nums])]
     exact t3
   · rw [← hra,ho_all rfl hsh,c1]
     exact rzs_srt.2 ⟨t6,fun e he=>slt_empty (flat_fitL t2 e he).1⟩
end Go.Proofs.YtlkgnljdpakkcaaGreatDoor
/-
 A tree that stands: what must be so of its nodes; that an Apply keeps it.
-/
namespace Go.Proofs.YtlkgnljdpakkcaaGreatDoor
open Go.RowKit
structure Std (T:Tv) (h:Nat) (F:List En) (S:List Int) (n:Nat):Prop where
 tr:Tr (mN T.f) T.root h F S
 one:∀ x,S.count x≤1
 inn:∀ x ∈ S,1≤x∧x < (n:Int)
 out:∀ x,x ∉ S→mN T.f x=nod0
theorem Std.ok {T:Tv} {h n:Nat} {F:List En} {S:List Int} (s:Std T h F S n) (h1:1≤n) (h2:n≤16384):TrOk T h F S n:=by
 have hne:=s.tr.ne
 have hin:=Din.start s.tr s.one (fun x hx=>⟨(s.inn x hx).1,by have:=(s.inn x hx).2; omega⟩) s.out hne
 have hS:S.length≤16383:=by
  have:=nodup_len (n - 1) 1 S s.one (fun x hx=>by have:=s.inn x hx; omega)
  omega
 have hrt:0≤T.root∧T.root < (topN:Int):=by
  rcases s.tr.rootIn with h | h
  · rw [h]; unfold topN; omega
  · have:=s.inn _ h; unfold topN; omega
 have hk:∀ x,∀ e ∈ (mN T.f x).es,e.kid < 16384:=fun x e he=>by
  by_cases hx:x ∈ S
  · have:=(s.tr.fit (fun y hy=>⟨(s.inn y hy).1,by have:=(s.inn y hy).2; omega⟩) x hx).2 e he
    cases hl:(mN T.f x).leaf with
    | true=>rw [hl] at this; simp only [if_true] at this; omega
    | false=>rw [hl] at this; simp only [Bool.false_eq_true,if_false] at this; exact this.2.2
  · rw [s.out x hx] at he; simp [nod0] at he
 have hlow:∀ x,(mN T.f x).es≠[]→x < (n:Int):=fun x he=>by
  by_cases hx:x ∈ S
  · exact (s.inn x hx).2
  · exact absurd (by rw [s.out x hx]; rfl) he
 have hst:Stands (mN T.f) h T.root:=by
  rcases s.tr with ⟨h3,_,h4,h5⟩ | ⟨_,h4,_,rfl,_,h5⟩
  · right
    refine ⟨h5,?_⟩
    rw [s.out T.root (by rw [h4]; simp)]; rfl
  · exact Or.inl ⟨h4,h5⟩
 have hF:∀ key,getT (mN T.f) h T.root key=look F key:=fun key=>by
  rcases s.tr with ⟨h3,h6,h4,h5⟩ | ⟨_,h4,_,rfl,_,h5⟩
  · subst h5 h6
    have hz:=s.out T.root (by rw [h4]; simp)
    unfold getT
    rw [hz]
    first | rfl | (unfold look; rfl) | simp [nod0,look]
  · exact getT_is h4 h5
 exact ⟨hin,hS,hst,hrt,hF,hk,hlow,h1,h2⟩
theorem Tr.congr {M M':Int→Nod} {root:Int} {h:Nat} {F:List En} {S:List Int} (t:Tr M root h F S) (he:∀ x ∈ S,M' x=M x):Tr M' root h F S:=by
 rcases t with h1 | ⟨h1,h2,h3,rfl,rfl,h4⟩
 · exact Or.inl h1
 · obtain ⟨c1,c2,c3⟩:=sh_congr he
   exact Or.inr ⟨h1,c3 h2,by rw [he root (by cases h <;> simp [nums])]; exact h3,c1.symm,c2.symm,h4⟩
theorem mN_tkF {T:Tv} {d:Dv} {h0 h n:Nat} {F0 F:List En} {S S3:List Int} (s:Std T h0 F0 S n) (f:FinD d T n h F S3) (x:Int):mN (tkF T.f d.f) x=if x ∈ S3 then ovM d T x else nod0:=by
 unfold mN tkF ovM
 cases hf:d.f x with
 | none =>
  simp only [Option.map_none,Option.getD_none]
  by_cases hx:x ∈ S3
  · rw [if_pos hx]; rfl
  · rw [if_neg hx]
    have ho:=f.out x hx
    unfold ovM at ho
    rw [hf] at ho
    simp only [Option.map_none,Option.getD_none] at ho
    by_cases hs:x ∈ S
    · exact absurd ho (s.tr.ne x hs)
    · exact s.out x hs
 | some v =>
  simp only [Option.map_some,Option.getD_some]
  by_cases hx:x ∈ S3
  · have hne:=f.tr.ne x hx
    unfold ovM at hne
    rw [hf] at hne
    rw [if_pos hx,if_neg (show v.es≠[] from hne)]; rfl
  · rw [if_neg hx]
    have ho:=f.out x hx
    unfold ovM at ho
    rw [hf] at ho
    rw [if_pos (show v.es=[] from ho)]; rfl
theorem std_take {T:Tv} {d:Dv} {h0 h n:Nat} {F0 F:List En} {S S3:List Int} (s:Std T h0 F0 S n) (f:FinD d T n h F S3) (D':Ds):Std { T with root:=d.root,f:=tkF T.f d.f,D:=D' } h F S3 n:=by
 have he:=mN_tkF s f
 refine ⟨f.tr.congr (fun x hx=>?_),f.one,f.inn,fun x hx=>?_⟩
 · show mN (tkF T.f d.f) x=_; rw [he x,if_pos hx]
 · show mN (tkF T.f d.f) x=_; rw [he x,if_neg hx]
theorem says_congr {now:List ByteArray} {M M':Int→Nod} {root:Int} {S:List Int} (h:Says now M root S) (he:∀ x ∈ S,M' x=M x):Says now M' root S:=⟨h.anc,fun x hx=>by rw [he x hx]; exact h.nod x hx⟩
theorem says_take {T:Tv} {d:Dv} {h0 h n:Nat} {F0 F:List En} {S S3:List Int} {now:List ByteArray} {L:List (Int × ByteArray)} (s:Std T h0 F0 S n) (f:FinD d T n h F S3) (hs:Says now (mN T.f) T.root S) (hlen:now.length=n) (h1:1≤n) (h2:n≤16384) (hlT:∀ x v,T.f x=some v→v.lens=true) (hld:∀ x v,d.f x=some v→v.lens=true) (hw:WrL d T L) :
 ckc n L []=0∧Says (upd now L) (mN (tkF T.f d.f)) d.root S3:=by
 obtain ⟨g1,g2⟩:=says_next hs hlen h1 h2 (fun x hx=>by rw [s.out x hx]; rfl) hlT hld f hw
 exact ⟨g1,says_congr g2 (fun x hx=>by rw [mN_tkF s f x,if_pos hx])⟩
end Go.Proofs.YtlkgnljdpakkcaaGreatDoor
/-
 'Apply' of a tree that stands,over a journal that says it.
-/
namespace Go.Proofs.YtlkgnljdpakkcaaGreatDoor
open Go.RowKit
structure Hand (T:Tv) (now:List ByteArray) (h:Nat) (F:List En) (S:List Int):Prop where
 on:T.D.on=true
 seen:Seen T.D T.room [] now
 std:Std T h F S now.length
 says:Says now (mN T.f) T.root S
 r1:1≤T.room
 r2:T.room≤500
 l1:1≤now.length
 l2:now.length≤16384
theorem Hand.jl {T:Tv} {now:List ByteArray} {h:Nat} {F:List En} {S:List Int} (H:Hand T now h F S):jlen T.D T.room=now.length:=by unfold jlen; rw [H.seen.len]; omega
theorem Hand.ok {T:Tv} {now:List ByteArray} {h:Nat} {F:List En} {S:List Int} (H:Hand T now h F S):TrOk T h F S (jlen T.D T.room):=by
 rw [H.jl]; exact H.std.ok H.l1 H.l2
def Ful (T:Tv):Prop:=∀ x v,T.f x=some v→v.es≠[]
theorem ful_tk {f g:Int→Option Nv} (h:∀ x v,f x=some v→v.es≠[]):∀ x v,tkF f g x=some v→v.es≠[]:=fun x v hx=>by
 unfold tkF at hx
 split at hx
 · exact h x v hx
 · split at hx
   · cases hx
   · rename_i he; cases hx; exact he
theorem hand_next {T:Tv} {now:List ByteArray} {h h2:Nat} {F F2:List En} {S S3:List Int} {d:Dv} {L:List (Int × ByteArray)} (H:Hand T now h F S) (f:FinD d T now.length h2 F2 S3) (hlT:∀ x v,T.f x=some v→v.lens=true) (hld:∀ x v,d.f x=some v→v.lens=true) (hw:WrL d T L) (hsz:∀ j,(T.D.texts.getD j ⟨#[]⟩).size≤1024) (hl:L.length≤T.room) :
 (jcommit T.room L T.D).1=0∧Hand { T with root:=d.root,f:=tkF T.f d.f,D:=(jcommit T.room L T.D).2 } (upd now L) h2 F2 S3∧(T.D.left = -1→(jcommit T.room L T.D).2.left = -1) ∨
 T.D.left ≠ -1∧(jcommit T.room L T.D).1=12∧(jcommit T.room L T.D).2.on=false∧Says (upd now L) (mN (tkF T.f d.f)) d.root S3∧Std { T with root:=d.root,f:=tkF T.f d.f } h2 F2 S3 now.length∧∃ l,Seen (jcommit T.room L T.D).2 T.room l now∨Seen (jcommit T.room L T.D).2 T.room l (upd now L):=by
 obtain ⟨g1,g2⟩:=says_take H.std f H.says rfl H.l1 H.l2 hlT hld hw
 obtain ⟨c1,c2⟩:=jcommit_seen H.on H.seen H.r1 H.r2 H.l2 hsz hl g1
 have hul:=upd_len L now
 rcases c1 with ⟨e1,e2,e3⟩ | ⟨e1,e2,l,e3⟩
 · refine Or.inl ⟨e1,⟨e2,e3,?_,g2,H.r1,H.r2,by rw [hul]; exact H.l1,by rw [hul]; exact H.l2⟩,fun hl=>(c2 hl).2.1⟩
   rw [hul]; exact std_take H.std f _
 · refine Or.inr ⟨fun hl=>?_,e1,e2,g2,std_take H.std f T.D,l,e3⟩
   have:=(c2 hl).1
   rw [e1] at this
   cases this
theorem jcommit_big {room:Nat} {D:Ds} {L:List (Int × ByteArray)} (h:room < L.length):jcommit room L D=(31,D):=by unfold jcommit; rw [if_pos (by omega)]
theorem jc_done5 (room:Nat) (cs:List (Int × ByteArray)) (D:Ds) (hr:room≤500):(jcommit room cs D).2.done≤D.done+1002:=by
 unfold jcommit
 split
 · simp; omega
 · split
   · simp; omega
   · have:=wrs_done (cws room cs) D
     have hl2:(cws room cs).length=2 * cs.length+2:=by
      unfold cws scs
      simp [cps_len]
      omega
     omega
theorem wr_few {d:Dv} {T:Tv} {sec h:Nat} {F:List En} {S:List Int} {L:List (Int × ByteArray)} (f:FinD d T sec h F S) (hw:WrL d T L):L.length≤1+S.length:=by
 obtain ⟨seen,q1,q2,q3,q4⟩:=hw
 have q6:=q4.length_eq
 rw [List.length_append] at q6
 have q7:(anc d T).length≤1:=by unfold anc; split <;> simp
 obtain ⟨n1,n2⟩:=fm_nodup T d.f seen q1
 have n3:=n1.length_le_of_subset (l₂:=S) (fun y hy=>by
  obtain ⟨_,hs⟩:=n2 y hy
  obtain ⟨p,hp⟩:=Option.isSome_iff_exists.1 hs
  obtain ⟨_,v,hv,hne,_⟩:=chN_fst hp
  refine Decidable.byContradiction fun hn=>hne ?_
  have:=f.out y hn
  unfold ovM at this
  rw [hv] at this
  exact this)
 rw [List.length_map] at n3
 omega
def AsPost (w:World) (tb B:Nat) (T:Tv) (now:List ByteArray) (F:List En) (S:List Int) (cs:List Ch) (e:Ending) (w':World):Prop :=
 (chk cs []≠0∧e=.returned (.int .i64 (chk cs []))∧IsTr w' tb T∧Tch [] w w') ∨
 (chk cs []=0∧e=.returned (.int .i64 52)∧now.length≤S.length+9 * cs.length∧IsTr w' tb T∧Tch [] w w') ∨
 (chk cs []=0∧e=.returned (.int .i64 31)∧T.room < 24 * cs.length+1∧T.room < 3+bys (altsL F (ords F cs)) / 100∧IsTr w' tb T∧Tch [tb,T.mb,T.b,T.bs] w w') ∨
 (chk cs []=0∧∃ (T':Tv) (now':List ByteArray) (h2:Nat) (S3:List Int),T'.jb=T.jb∧T'.b=T.b∧T'.bs=T.bs∧T'.room=T.room∧T'.mb=T.mb∧now'.length=now.length∧IsTr w' tb T'∧Tch [tb,T.mb,T.b,T.bs] w w'∧T'.D.done≤T.D.done+1002∧(Ful T→Ful T') ∧
  ((e=.returned (.int .i64 0)∧T'.lost=false∧Hand T' now' h2 (altsL F (ords F cs)) S3∧(∀ x v,T'.f x=some v→Hig B v)∧(T.D.left = -1→T'.D.left = -1)) ∨
   (e=.returned (.int .i64 12)∧T.D.left ≠ -1∧T'.lost=true∧T'.D.on=false∧(∃ (M:Int→Nod) (root:Int),Says now' M root S3∧Tr M root h2 (altsL F (ords F cs)) S3∧(∀ x,S3.count x≤1)∧(∀ x ∈ S3,1≤x∧x < (now.length:Int)))∧∃ l,Seen T'.D T.room l now∨Seen T'.D T.room l now')))
theorem apply_std (tb B h:Nat) (T:Tv) (now:List ByteArray) (F:List En) (S:List Int) (cs:List Ch) (a:Option Addr) (n c b o:Nat) (w:World) (ht:IsTr w tb T) (hl:T.lost=false) (H:Hand T now h F S) (hB:T.b < B∧T.bs < B∧B≤w.heap.size) (hh:∀ x v,T.f x=some v→Hig B v) (hlen:cs.length≤1048576) (hr:IsR fChg 3 w a n b o cs) (hz:a=none→n=0∧c=0) (hbl:0 < n→b < w.heap.size) (hdone:T.D.done+1002 < 9223372036854775807) :
 Calls Tryz.prog 24 #[.pointer (some ⟨tb,0,none⟩),.slice a n c] w (AsPost w tb B T now F S cs):=by
 have hlT:∀ x v,T.f x=some v→v.lens=true:=fun x v hx=>(ht.ns.gd x v hx).lens
 have hsz:=seen_size ht.ds
 by_cases hc:chk cs []=0
 · have hon:=ords_len F cs
   refine (apply_go tb B h T F S cs a n c b o w ht hl H.ok hB hh hlen hr hz hbl hdone hc).mono ?_
   rintro e w' (⟨k,hk,hk2,_⟩ | ⟨_,rfl,h3,h4,s,root,h2,S2,hdi,hS2⟩ | ⟨_,d,s,root,h2,S2,S3,L,free,N,g,hdi,hfs,rfl,hN,hf,hw,hld,rfl,ht',hend⟩)
   · exact absurd (hk2.symm.trans hc) hk
   · refine Or.inr (Or.inl ⟨hc,rfl,?_,h3,h4⟩)
     rw [H.jl] at hS2
     have h5:=H.l2
     rcases Nat.lt_or_ge 2000 cs.length with h6 | h6
     · omega
     · have:=(hdi.sm (by omega)).1
       omega
   · rw [H.jl] at hf hfs
     rcases Nat.lt_or_ge T.room L.length with hbig | hfit
     · have e:=jcommit_big (D:=T.D) hbig
       rw [e] at hend
       refine Or.inr (Or.inr (Or.inl ⟨hc,by rw [e],?_,(by have q1:=wr_few hf hw; have q2:=hf.tr.few; omega),?_,ht'⟩))
       · have h5:=H.r2
         rcases Nat.lt_or_ge 2000 cs.length with h6 | h6
         · omega
         · obtain ⟨l,hl1,hl2⟩:=(hdi.sm (by omega)).2
           obtain ⟨seen,q1,q2,q3,q4⟩:=hw
           have q5:=fs_few hdi.ok hfs hl2 q1 (fun x hx e2=>q3 x hx (by
            have:=hN x
            rw [e2] at this
            simp only [Option.map_none,Option.map_eq_none_iff] at this
            exact this))
           have q6:=q4.length_eq
           rw [List.length_append] at q6
           have q7:(anc d T).length≤1:=by unfold anc; split <;> simp
           have q8:=List.length_filterMap_le (chN T d.f) seen
           omega
       · rcases hend with ⟨e2,_⟩ | ⟨_,h7⟩
         · simp at e2
         · have e3:({ T with lost:=((31:Int) == 12),D:=T.D }:Tv)=T:=by
            cases T; simp only at hl ⊢; subst hl; rfl
           rw [e3] at h7; exact h7
     · have hdn:=jc_done5 T.room L T.D H.r2
       rcases hand_next H hf hlT hld hw hsz hfit with ⟨e1,e2,e4⟩ | ⟨e0,e1,e2,e3,e4,e5⟩
       · rcases hend with ⟨_,k1,k2⟩ | ⟨k0,_⟩
         · refine Or.inr (Or.inr (Or.inr ⟨hc,{ T with root:=d.root,f:=tkF T.f d.f,D:=(jcommit T.room L T.D).2 },upd now L,h2,_,rfl,rfl,rfl,rfl,rfl,upd_len L now,k1,ht',hdn,fun hf1=>ful_tk hf1,Or.inl ⟨by rw [e1],hl,e2,k2,e4⟩⟩))
         · exact absurd e1 k0
       · rcases hend with ⟨k0,_⟩ | ⟨_,k1⟩
         · rw [e1] at k0; cases k0
         · refine Or.inr (Or.inr (Or.inr ⟨hc,{ T with lost:=(jcommit T.room L T.D).1 == 12,D:=(jcommit T.room L T.D).2 },upd now L,h2,_,rfl,rfl,rfl,rfl,rfl,upd_len L now,k1,ht',hdn,fun hf1=>hf1,Or.inr ⟨by rw [e1],e0,by rw [e1]; rfl,e2,⟨_,_,e3,e4.tr,e4.one,e4.inn⟩,e5⟩⟩))
 · refine (apply_ref tb T cs a n c b o w ht hl hlen hr hc).mono ?_
   rintro e w' ⟨rfl,t⟩
   exact Or.inl ⟨hc,rfl,ht.keep0 t,t⟩
end Go.Proofs.YtlkgnljdpakkcaaGreatDoor
/-
 'Open' of a tree. Condition: the disk's count of writes is no great number.
-/
namespace Go.Proofs.YtlkgnljdpakkcaaGreatDoor
open Go.RowKit
theorem jopen_on {room:Int} {D:Ds} (h:(jopen room D).1=0):(jopen room D).2.on=true∧1≤room∧room≤500:=by
 unfold jopen at h ⊢
 split at h
 · cases h
 · rename_i h1
   rw [if_neg h1]
   refine ⟨?_,by omega,by omega⟩
   split at h
   · rename_i h2; exact absurd h h2
   · rename_i h2
     rw [if_neg h2]
     have hon:D.on=true:=by
      cases ho:D.on
      · exfalso; apply h2; intro e; have:=(rd_off (D:=D) (i:=0) ho).1; rw [e] at this; cases this
      · rfl
     cases hr:rhead (D.rtext 0).data.toList room.toNat (jlen D room.toNat) with
     | none=>rw [hr] at h; cases h
     | some l =>
      rw [hr] at h
      cases l with
      | nil=>exact hon
      | cons a l =>
       simp only at h ⊢
       unfold fins at h ⊢
       split at h
       · rename_i h3
         rw [if_pos h3]
         unfold wrs at h ⊢
         split at h
         · rename_i h4; rw [if_pos h4]; exact wz_on h4
         · rename_i h4; exact absurd h h4
       · rename_i h3; exact absurd h h3
theorem lbOn_of {T:Tv} (h:T.D.on=true):LbOn T:=fun x h0 h1=>by
 unfold jrcode
 rw [if_neg (by omega)]
 unfold jlen at h1
 exact (rd_in h (by omega) (by omega)).1
def TopPost (w:World) (b bs:Nat) (room:Int) (D:Ds) (e:Ending) (w':World):Prop :=
 Tch [b,bs] w w'∧IsDs w' b bs (jopen room D).2 ∧
 (((jopen room D).1≠0∧e=.returned (.tuple #[.pointer none,.int .i64 (jopen room D).1])) ∨
  ((jopen room D).1=0∧∃ c:Int,c≠0∧e=.returned (.tuple #[.pointer none,.int .i64 c])∧(jlen (jopen room D).2 room.toNat=0∧c=10∨0 < jlen (jopen room D).2 room.toNat∧c=53∧∀ x N h,¬ LdOk (jopen room D).2 room.toNat x N h)) ∨
  ((jopen room D).1=0∧∃ (tb h:Nat) (T:Tv),e=.returned (.tuple #[.pointer (some ⟨tb,0,none⟩),.int .i64 0])∧IsTr w' tb T∧T.D=(jopen room D).2∧T.room=room.toNat∧T.b=b∧T.bs=bs∧T.lost=false∧LdOk (jopen room D).2 room.toNat T.root (nmf T.f) h∧(∀ y v,T.f y=some v→Hig w.heap.size v)∧w.heap.size≤tb∧w.heap.size≤T.jb∧w.heap.size≤T.mb))
set_option maxRecDepth 100000 in
set_option maxHeartbeats 4000000 in
theorem topen_any (b bs:Nat) (room:Int) (D:Ds) (w:World) (hd:IsDs w b bs D) (hn:D.done+502 < 9223372036854775807) :
 Calls Tryz.prog 12 #[.pointer (some ⟨b,0,none⟩),.int .i64 room] w (TopPost w b bs room D):=by
 have hOP:=open_any b bs room D w hd hn
 by_cases hc:(jopen room D).1=0
 case neg =>
  have HO:Hid (Calls Tryz.prog 13 #[.pointer (some ⟨b,0,none⟩),.int .i64 room] w fun e w'=>e=.returned (.tuple #[.pointer none,.int .i64 (jopen room D).1])∧TopPost w b bs room D (.returned (.tuple #[.pointer none,.int .i64 (jopen room D).1])) w'):=by
   refine hOP.mono ?_
   rintro e w' ⟨h1,h2,⟨h3,_⟩ | ⟨_,rfl⟩⟩
   · exact absurd h3 hc
   · exact ⟨rfl,h1,h2,Or.inl ⟨hc,rfl⟩⟩
  have hne:((jopen room D).1 != 0)=true:=by simpa using hc
  have hne2:((jopen room D).1 == 0)=false:=by simpa using hc
  clear hc hOP hd hn
  generalize (jopen room D).1=c at *
  generalize TopPost w b bs room D=Q at *
  go_enter Tryz.func12,Tryz.ntmps12
  go_wp2_with (go_at_call 13; (with_reducible refine HO.out.mono ?_); rintro e w3 ⟨rfl,hq⟩)
  first | exact hq | (go_ret2; exact hq)
 case pos =>
  obtain ⟨hon,h1,h5⟩:=jopen_on hc
  obtain ⟨r,rfl⟩:=Int.eq_ofNat_of_zero_le (by omega:0≤room)
  have HO:Hid (Calls Tryz.prog 13 #[.pointer (some ⟨b,0,none⟩),.int .i64 (r:Nat)] w fun e w'=>∃ jb,e=.returned (.tuple #[.pointer (some ⟨jb,0,none⟩),.int .i64 0])∧w.heap.size≤jb∧IsJn w' jb b r∧IsDs w' b bs (jopen (r:Nat) D).2∧Tch [b,bs] w w'):=by
   refine hOP.mono ?_
   rintro e w' ⟨h1,h2,⟨_,jb,rfl,h4,h6⟩ | ⟨h3,_⟩⟩
   · exact ⟨jb,rfl,h4,h6,h2,h1⟩
   · exact absurd hc h3
  have HLD:Hid (∀ W tb (T:Tv),IsTr W tb T→T.f=(fun _=>none)→T.D=(jopen (r:Nat) D).2→Calls Tryz.prog 45 #[.pointer (some ⟨tb,0,none⟩)] W (LdPost W tb T)):=fun W tb T ht hf hD=>by
   refine load_any tb T W ht hf (lbOn_of (by rw [hD]; exact hon)) ?_
   have:=ht.ds.len
   unfold jlen
   omega
  have HF:Hid (∀ W3 W jb e w',w.heap.size≤jb→IsJn W3 jb b r→IsDs W3 b bs (jopen (r:Nat) D).2→Tch [b,bs] w W3→W=(W3.alloc (.map #[] 0)).alloc (.cells #[.int .i64 0,.pointer (some ⟨jb,0,none⟩),.map (some W3.heap.size),.bool false] 128) →
   LdPost W (W3.heap.size+1) ⟨0,jb,b,bs,r,W3.heap.size,false,fun _=>none,(jopen (r:Nat) D).2⟩ e w' →
   (e=.returned (.int .i64 0)∧TopPost w b bs (r:Nat) D (.returned (.tuple #[.pointer (some ⟨W3.heap.size+1,0,none⟩),.int .i64 0])) w')∨∃ c:Int,e=.returned (.int .i64 c)∧c≠0∧TopPost w b bs (r:Nat) D (.returned (.tuple #[.pointer none,.int .i64 c])) w'):=fun W3 W jb e w' hjb hj hds t3 hW hp=>by
   have tw:Tch [] W3 W:=by rw [hW]; exact ((Tch.refl _ _).alloc _).alloc _
   have hT:∀ L,(∀ k ∈ L,k=W3.heap.size+1∨k=b∨k=W3.heap.size)→Tch L W w'→Tch [b,bs] w w':=fun L hL t=>((t3.trans (tw.mono (by simp)))).transNew t (fun k hk=>by
    have:=t3.size
    rcases hL k hk with rfl | rfl | rfl
    · right; omega
    · left; simp
    · right; omega)
   rcases hp with ⟨x,f',h,rfl,k1,k2,k3,k4⟩ | ⟨c,rfl,k0,k1,k2,k3⟩
   · refine Or.inl ⟨rfl,hT _ (by simp) k4,k1.ds,Or.inr (Or.inr ⟨hc,_,h,_,rfl,k1,rfl,by simp,rfl,rfl,rfl,by simpa using k2,fun y v hy=>(k3 y v hy).base (Nat.le_trans t3.size tw.size),by have:=t3.size; omega,hjb,t3.size⟩)⟩
   · refine Or.inr ⟨c,rfl,k0,hT _ (by simp) k2,k1,Or.inr (Or.inl ⟨hc,c,k0,rfl,?_⟩)⟩
     rcases k3 with ⟨k3,rfl⟩ | k3
     · refine Or.inl ⟨by simpa using k3,?_⟩
       have k3:jlen (jopen (r:Nat) D).2 r=0:=k3
       show jrcode r (jopen (r:Nat) D).2 0=10
       unfold jrcode
       rw [if_pos (Or.inr (by omega))]
     · exact Or.inr (by simpa using k3)
  have HTR:Hid (∀ W3 W jb,IsJn W3 jb b r→IsDs W3 b bs (jopen (r:Nat) D).2→W=(W3.alloc (.map #[] 0)).alloc (.cells #[.int .i64 0,.pointer (some ⟨jb,0,none⟩),.map (some W3.heap.size),.bool false] 128)→IsTr W (W3.heap.size+1) ⟨0,jb,b,bs,r,W3.heap.size,false,fun _=>none,(jopen (r:Nat) D).2⟩):=fun W3 W jb hj hds hW=>by
   have tw:Tch [] W3 W:=by rw [hW]; exact ((Tch.refl _ _).alloc _).alloc _
   have hs:(W3.alloc (.map #[] 0)).heap.size=W3.heap.size+1:=by simp
   have hm:=(IsMp.made W3).keep ((Tch.refl [] (W3.alloc (.map #[] 0))).alloc (.cells #[.int .i64 0,.pointer (some ⟨jb,0,none⟩),.map (some W3.heap.size),.bool false] 128)) (by simp)
   refine ⟨?_,hj.keep tw (by simp),hds.keep tw (by simp) (by simp),⟨?_,(fun x v h=>by cases h),(fun x v h=>by cases h)⟩,by show r≤500; omega⟩
   · rw [hW]; show ((W3.alloc (.map #[] 0)).alloc _).heap[W3.heap.size+1]?=_
     rw [← hs]; exact blk_new _ _
   · rw [hW]; exact hm.mono (by unfold mbnd; omega)
  have hmm:=@run_makeMap Tryz.prog
  clear hc hOP hd hn hon
  generalize hQ:TopPost w b bs (r:Nat) D=Q at *
  clear hQ
  generalize (jopen (r:Nat) D).2=E at *
  go_enter Tryz.func12,Tryz.ntmps12
  go_upto_region 5 with (go_at_call 13; (with_reducible refine HO.out.mono ?_); rintro e w3 ⟨jb,rfl,hjb,hj,hds,t3⟩)
  obtain ⟨W,hW⟩:∃ W,W=(w3.alloc (.map #[] 0)).alloc (.cells #[.int .i64 0,.pointer (some ⟨jb,0,none⟩),.map (some w3.heap.size),.bool false] 128):=⟨_,rfl⟩
  rw [← hW]
  have hTR:=HTR.out w3 W jb hj hds hW
  have HL:=Lib.hid ((HLD.out W _ _ hTR rfl rfl).mono (fun e w' h=>HF.out w3 W jb e w' hjb hj hds t3 hW h))
  clear hW hTR hj hds t3 hmm HLD HF HTR HO
  go_wp2_with (go_at_call 45; (with_reducible refine HL.out.mono ?_); rintro e w4 (⟨rfl,hq⟩ | ⟨c,rfl,hc,hq⟩))
  · first | exact hq | (go_ret2; exact hq)
  · have hne:(c != 0)=true:=by simpa using hc
    have hne2:(c == 0)=false:=by simpa using hc
    clear hc
    go_wp2_with fail
    first | exact hq | (go_ret2; exact hq)
end Go.Proofs.YtlkgnljdpakkcaaGreatDoor
/-
 'Open' of a disk whose journal says a tree: the tree stands.
-/
namespace Go.Proofs.YtlkgnljdpakkcaaGreatDoor
open Go.RowKit
def OsPost (w:World) (b bs room:Nat) (D:Ds) (now:List ByteArray) (h:Nat) (F:List En) (S:List Int) (l:List Nat) (e:Ending) (w':World):Prop :=
 Tch [b,bs] w w' ∧
 ((∃ (tb:Nat) (T:Tv),e=.returned (.tuple #[.pointer (some ⟨tb,0,none⟩),.int .i64 0])∧IsTr w' tb T∧Hand T now h F S∧Ful T∧T.D=(jopen room D).2∧T.room=room∧T.b=b∧T.bs=bs∧T.lost=false∧(∀ y v,T.f y=some v→Hig w.heap.size v)∧w.heap.size≤tb∧w.heap.size≤T.jb∧w.heap.size≤T.mb∧(D.left = -1→T.D.left = -1∧T.D.done=D.done+(if l=[] then 0 else l.length+1))) ∨
  (D.left ≠ -1∧e=.returned (.tuple #[.pointer none,.int .i64 12])∧(jopen room D).2.on=false∧Seen (jopen room D).2 room l now∧IsDs w' b bs (jopen room D).2))
theorem open_std (b bs room h:Nat) (D:Ds) (now:List ByteArray) (M:Int→Nod) (root:Int) (F:List En) (S:List Int) (l:List Nat) (w:World) (hd:IsDs w b bs D) (hn:D.done+502 < 9223372036854775807) (hon:D.on=true) (hs:Seen D room l now) (h1:1≤room) (h2:room≤500) (l1:1≤now.length) (l2:now.length≤16384) (hsy:Says now M root S) (t:Tr M root h F S) (c1:∀ x,S.count x≤1) (c2:∀ x ∈ S,1≤x∧x < (now.length:Int)) :
 Calls Tryz.prog 12 #[.pointer (some ⟨b,0,none⟩),.int .i64 (room:Nat)] w (OsPost w b bs room D now h F S l):=by
 obtain ⟨j1,j2⟩:=jopen_seen hon hs h1 h2 l2 (seen_size hd)
 refine (topen_any b bs room D w hd hn).mono ?_
 rintro e w' ⟨t1,t2,t3⟩
 refine ⟨t1,?_⟩
 have hroom:((room:Nat):Int).toNat=room:=by simp
 rw [hroom] at t3
 rcases j1 with ⟨g1,g2,g3⟩ | ⟨g1,g2,g3⟩
 · obtain ⟨N,n1,n2⟩:=says_load g2 g3 hsy t c1 c2 l2 l1
   have hj:jlen (jopen room D).2 room=now.length:=by unfold jlen; rw [g3.len]; omega
   rcases t3 with ⟨k1,_⟩ | ⟨_,c,_,_,k3⟩ | ⟨_,tb,h',T,k1,k2,k3,k4,k5,k6,k7,k8,k9,k10,k11,k12⟩
   · exact absurd g1 k1
   · rcases k3 with ⟨k3,_⟩ | ⟨_,_,k3⟩
     · omega
     · exact absurd n1 (k3 _ _ _)
   · obtain ⟨e1,e2,e3⟩:=k8.uniq n1
     subst e3
     have hm:∀ x,mN T.f x=if x ∈ S then M x else nod0:=fun x=>by
      show (nmf T.f x).getD nod0=_
      rw [e2,n2 x]
      split <;> rfl
     refine Or.inl ⟨tb,T,k1,k2,⟨by rw [k3]; exact g2,by rw [k3,k4]; exact g3,⟨?_,c1,c2,fun x hx=>by rw [hm x,if_neg hx]⟩,?_,by rw [k4]; exact h1,by rw [k4]; exact h2,l1,l2⟩,fun y v hy=>?_,k3,k4,k5,k6,k7,k9,k10,k11,k12,fun hl=>by rw [k3]; exact (j2 hl).2⟩
     · rw [e1]; exact t.congr (fun x hx=>by rw [hm x,if_pos hx])
     · rw [e1]; exact says_congr hsy (fun x hx=>by rw [hm x,if_pos hx])
     · have hy2:nmf T.f y=some v.nod:=by unfold nmf; rw [hy]; rfl
       rw [e2,n2 y] at hy2
       split at hy2
       · rename_i hin
         have:=t.ne y hin
         rw [Option.some.inj hy2] at this
         exact this
       · cases hy2
 · rcases t3 with ⟨_,k2⟩ | ⟨k1,_⟩ | ⟨k1,_⟩
   · refine Or.inr ⟨fun hl=>?_,by rw [k2,g1],g2,g3,t2⟩
     have:=(j2 hl).1
     rw [g1] at this; cases this
   · rw [g1] at k1; cases k1
   · rw [g1] at k1; cases k1
theorem says_new (n:Nat):Says (List.replicate n ⟨#[]⟩) (fun _=>nod0) 0 []:=by
 refine ⟨?_,fun x hx=>by simp at hx⟩
 have e:(List.replicate n (⟨#[]⟩:ByteArray)).getD 0 ⟨#[]⟩=⟨#[]⟩:=by cases n <;> rfl
 rw [e,show ((0:Int).toNat)=0 from rfl,ub_small (by omega)]
 rfl
end Go.Proofs.YtlkgnljdpakkcaaGreatDoor
/-
 Changes with keys that are apart: their order makes no difference; the document's list.
-/
namespace Go.Proofs.YtlkgnljdpakkcaaGreatDoor
open Go.RowKit
theorem altsL_ords {F:List En} {cs:List Ch} (hs:Srt F) (hc:chk cs []=0):altsL F (ords F cs)=altsL F cs:=by
 have hn:=(chk_ok hc).2 List.nodup_nil
 rw [List.nil_append] at hn
 exact altsL_perm hs hn (ords_perm F cs)
end Go.Proofs.YtlkgnljdpakkcaaGreatDoor
