/-
  Parts of the proof: Rap.
-/
import Derived.Test.YtlkgnljdpakkcaaGreatDoorRoneX
import Derived.Test.YtlkgnljdpakkcaaGreatDoorM29
set_option linter.unusedVariables false
set_option linter.unusedSimpArgs false
/-
 'Apply' of the document's list: the pairs behind changes; 'ref' of the law: the changes as the document's.
-/
namespace Go.Proofs.YtlkgnljdpakkcaaGreatDoor
open Go.RowKit
theorem altL_len (l:List En) (c:Ch) (hs:Srt l):(altL l c).length≤l.length+1:=by
 rw [← oneR_is c l hs]
 have:=oneR_len c l c.gone
 split at this <;> omega
theorem altsL_len (cs:List Ch):∀ (l:List En),Srt l→(altsL l cs).length≤l.length+cs.length:=by
 induction cs with
 | nil=>intro l _; simp [altsL]
 | cons c cs ih =>
  intro l hs
  have h1:=ih (altL l c) (altL_srt hs)
  have h2:=altL_len l c hs
  show (altsL (altL l c) cs).length≤_
  rw [List.length_cons]; omega
def ApsPost (w:World) (L:List En) (e:Ending) (w':World):Prop:=∃ v,e=.returned v∧IsL w' v L∧Tch [] w w'
def ApsRel (w:World) (l:List En) (cs:List Ch) (n:Nat) (v0 v5:Value) (wr:World):Prop :=
 ∃ (i:Nat),n+i=cs.length∧v5=.int .i64 (i:Nat)∧IsL wr v0 (altsL l (cs.take i))∧Tch [] w wr
set_option maxRecDepth 100000 in
set_option maxHeartbeats 4000000 in
theorem rtapply_any (l:List En) (cs:List Ch) (v:Value) (a:Option Addr) (n cap b o:Nat) (w:World) (hl:IsL w v l) (hs:Srt l) (hr:IsR fChg 3 w a n b o cs) (hlen:l.length+cs.length≤900000000) :
 Calls Tryz.prog 27 #[v,.slice a n cap] w (ApsPost w (altsL l cs)):=by
 obtain rfl:=hr.hlen
 have HCE:Hid (∀ W,Tch [] w W→∀ k (hk:k < cs.length),W.cell? ⟨b,o+k * 3,none⟩=some (.string cs[k].key)∧W.cell? ⟨b,o+k * 3+1,none⟩=some (.string cs[k].val)∧W.cell? ⟨b,o+k * 3+2,none⟩=some (.bool cs[k].gone)∧a=some ⟨b,o,none⟩):=fun W t k hk=>by
  have r:=hr.keep0 t
  have hg:cs[k]?=some cs[k]:=List.getElem?_eq_getElem hk
  exact ⟨r.c0 hg rfl,r.c hg 1 rfl,r.c hg 2 rfl,r.some_ (by omega)⟩
 have HF:Hid (∀ W v2,IsL W v2 (altsL l cs)→Tch [] w W→ApsPost w (altsL l cs) (.returned v2) W):=fun W v2 h1 t=>⟨v2,rfl,h1,t⟩
 have HST:Hid (ApsRel w l cs cs.length v (.int .i64 0) w):=⟨0,by simp,rfl,hl,Tch.refl _ _⟩
 have HSR:Hid (∀ i,Srt (altsL l (cs.take i))∧(altsL l (cs.take i)).length≤900000000):=fun i=>by
  have:=altsL_len (cs.take i) l hs
  rw [List.length_take] at this
  exact ⟨altsL_srt hs _,by omega⟩
 have HLN:Hid (cs.length≤900000000):=by show cs.length≤_; omega
 clear hr hs hlen hl
 generalize ApsPost w (altsL l cs)=Q at *
 go_enter Tryz.func27,Tryz.ntmps27
 go_wp2_with fail
 go_loopg [0,5] cs.length (fun n v0 v5 wr=>ApsRel w l cs n v0 v5 wr)
 case atStart=>exact HST.out
 case round =>
  obtain ⟨i,hni,rfl,hL,t⟩:=hrel
  have hln:=HLN.out
  match gk,hni with
  | 0,hni =>
   have hlt:decide (i < cs.length)=false:=decide_eq_false (by omega)
   rw [List.take_of_length_le (by omega)] at hL
   have HE:=HF.out wr _ hL t
   clear hL
   go_wp2_with fail
   first | exact HE | (go_ret; exact HE)
  | m+1,hni =>
   have hi':i < cs.length:=by omega
   have hlt:decide (i < cs.length)=true:=decide_eq_true hi'
   have hi1:(i:Int) < (cs.length:Int):=by omega
   obtain ⟨s0,s1,s2,ha⟩:=HCE.out wr t i hi'
   obtain ⟨q1,q2⟩:=HSR.out i
   have HN:Hid (altsL l (cs.take (i+1))=oneR cs[i] cs[i].gone (altsL l (cs.take i))):=by
    show _=_
    rw [List.take_succ_eq_append_getElem hi',altsL_snoc,oneR_is _ _ q1]
   obtain ⟨x,c,bb,oo,rfl,hrow,_⟩:=hL
   have HC:=Lib.hid (rtone_any _ cs[i] x _ c bb oo wr hrow (Nat.le_trans q2 (by omega)))
   subst ha
   generalize cs[i]=ci at s0 s1 s2 HN HC
   have hgo:∀ v2 W2,OnePost wr (oneR ci ci.gone (altsL l (cs.take i))) (.returned v2) W2→ApsRel w l cs m v2 (.int .i64 ((i:Int)+1)) W2:=fun v2 W2 h1=>by
    obtain ⟨v3,e3,h3,t3⟩:=h1
    cases e3
    refine ⟨i+1,by omega,by simp,?_,t.trans t3⟩
    rw [HN.out]
    exact IsL.own (own_base h3 (Nat.le_refl _))
   have HGO:=Lib.hid hgo
   clear hgo hrow q1 q2
   generalize oneR ci ci.gone (altsL l (cs.take i))=R at *
   generalize altsL l (cs.take i)=Lc at *
   go_wp2_with fail
   refine HC.out.mono ?_
   rintro e W2 ⟨v2,rfl,h2,t2⟩
   have HG:=Lib.hid (HGO.out v2 W2 ⟨v2,rfl,h2,t2⟩)
   clear h2 t2 s0 s1 s2 HC HGO
   go_wp2_with fail
   go_roundg m
   case measure=>omega
   case rel=>exact HG.out
/-! ### 'ref' -/
theorem Tryz.info_rtc:(Tryz.prog.info? 157).map (fun i=>(i.zero,i.size,i.bytes))=some (some (.agg #[.string ⟨#[]⟩,.string ⟨#[]⟩,.bool false]),3,40):=by kernel_rfl
def TrfRel (w:World) (cs:List Ch) (v3 v8:Value) (wr:World):Prop :=
 ∃ (k:Nat) (x:Option Addr) (c:Nat),k≤cs.length∧v8=.int .i64 (k:Nat)∧v3=.slice x k c∧wr.ownsRow w.heap.size 157 3 (.slice x k c) k ((cs.take k).flatMap fChg)∧Tch [] w wr
def TrfPost (w:World) (cs:List Ch) (e:Ending) (w':World):Prop:=∃ x c gb,e=.returned (.slice x cs.length c)∧(IsR fChg 3 w' x cs.length gb 0 cs∧Tch [] w w')
theorem cells_threeR (w:World) (x y z:Value) (T:TypeId):∀ j u,[x,y,z][j]?=some u→(w.alloc (.cells #[x,y,z] T)).cell? ((⟨w.heap.size,0,none⟩:Addr).add j)=some u:=fun j u hu=>by
 rw [add_mk,blk_cell (blk_new w _),Nat.zero_add]; simpa using hu
set_option maxRecDepth 100000 in
set_option maxHeartbeats 4000000 in
theorem tref_any (a:Option Addr) (n cap b o:Nat) (cs:List Ch) (w:World) (hr:IsR fChg 3 w a n b o cs) (hn:cs.length≤1000000000) :
 Calls Tryz.prog 26 #[.slice a n cap] w (TrfPost w cs):=by
 obtain rfl:=hr.hlen
 have HCE:Hid (∀ W,Tch [] w W→∀ k (hk:k < cs.length),W.cell? ⟨b,o+k * 3,none⟩=some (.string cs[k].key)∧W.cell? ⟨b,o+k * 3+1,none⟩=some (.string cs[k].val)∧W.cell? ⟨b,o+k * 3+2,none⟩=some (.bool cs[k].gone)∧a=some ⟨b,o,none⟩):=fun W t k hk=>by
  have r:=hr.keep0 t
  have hg:cs[k]?=some cs[k]:=List.getElem?_eq_getElem hk
  exact ⟨r.c0 hg rfl,r.c hg 1 rfl,r.c hg 2 rfl,r.some_ (by omega)⟩
 have HF:Hid (∀ W x c,W.ownsRow w.heap.size 157 3 (.slice x cs.length c) cs.length (cs.flatMap fChg)→Tch [] w W→TrfPost w cs (.returned (.slice x cs.length c)) W):=fun W x c h1 t=>by
  obtain ⟨gb,h2,_,_⟩:=IsR.own (f:=fChg) (fun _=>rfl) h1 rfl
  exact ⟨x,c,gb,rfl,h2,t⟩
 have HO0:=Lib.hid (World.ownsRow_nil w w.heap.size 157 3)
 have HLN:=Lib.hid hn
 obtain ⟨i0,hi,hz0,hz1,hz2⟩:=info_parts Tryz.info_rtc
 clear hr hn
 generalize TrfPost w cs=Q at *
 go_enter Tryz.func26,Tryz.ntmps26
 go_wp2_with fail
 go_loopw [3,8] (fun v3 v8 wr=>TrfRel w cs v3 v8 wr) (fun _ v8 _=>cs.length - (intOf v8).toNat)
 case atStart=>exact ⟨0,none,0,by omega,rfl,rfl,HO0.out,Tch.refl _ _⟩
 case round =>
  obtain ⟨k,x,c,hk,rfl,rfl,hown,T⟩:=hrel
  have hln:=HLN.out
  by_cases hkl:k < cs.length
  · obtain ⟨s0,s1,s2,ha⟩:=HCE.out wr T k hkl
    subst ha
    have HS:=Lib.hid (fm_snoc (f:=fChg) cs k _ (List.getElem?_eq_getElem hkl))
    generalize cs[k]=cc at s0 s1 s2 HS
    obtain ⟨q,y,g⟩:=cc
    simp only at s0 s1 s2
    have HOW:=Lib.hid hown
    have hws:=T.size
    clear hown
    go_wp2_with (at_builtin; refine wpList_append_own _ rfl _ _ 56 rfl w.heap.size 157 i0 (.agg #[.string ⟨#[]⟩,.string ⟨#[]⟩,.bool false]) 3 40 Tryz.underlying56 hi hz0 hz1 hz2 rfl (by decide) _ _ _ rfl ((HOW.out.alloc (.cells #[.string q,.string y,.bool g] 62)).alloc (.cells #[.string q,.string y,.bool g] 157)) ⟨wr.heap.size+1,0,none⟩ 1 1 [.string q,.string y,.bool g] rfl rfl (fun j u hu=>by have:=cells_threeR (wr.alloc (.cells #[.string q,.string y,.bool g] 62)) _ _ _ 157 j u hu; simpa using this) (by intro u hu; simp only [List.mem_cons,List.not_mem_nil,or_false] at hu; rcases hu with rfl | rfl | rfl <;> rfl) ?c3 ?c4 ?c5 ?_)
    case c3=>unfold maxLen; omega
    case c4=>omega
    case c5=>first | (simp; omega) | omega
    intro v' w2 hown2 hgrow _
    have T2:=((T.alloc (.cells #[.string q,.string y,.bool g] 62)).alloc (.cells #[.string q,.string y,.bool g] 157)).own ((HOW.out.alloc _).alloc _) (Nat.le_refl _) hgrow
    obtain ⟨x2,c2,rfl⟩:=own_slice hown2
    rw [show [Value.string q,.string y,.bool g]=fChg ⟨q,y,g⟩ from rfl,← HS.out] at hown2
    have HO:=Lib.hid hown2
    clear hown2 hgrow HOW s0 s1 s2
    go_wp2
    go_roundw
    case rel=>exact ⟨k+1,x2,c2,by omega,by go_num,rfl,HO.out,T2⟩
    case measure=>simp [intOf]; omega
  · obtain rfl:k=cs.length:=by omega
    rw [List.take_length] at hown
    have HE:=Lib.hid (HF.out wr x c hown T)
    clear hown
    go_wp2_with fail
    first | exact HE.out | (go_ret; exact HE.out)
end Go.Proofs.YtlkgnljdpakkcaaGreatDoor
