/-
  Parts of the proof: Tst, Twk, Clm.
-/
import Derived.Test.YtlkgnljdpakkcaaGreatDoorM27
import Derived.Test.YtlkgnljdpakkcaaGreatDoorM21
import Derived.Test.YtlkgnljdpakkcaaGreatDoorM23
set_option linter.unusedVariables false
set_option linter.unusedSimpArgs false
/-
 What a tree that stands answers: Len,Sectors,Get,Scan; and a tree that was loaded stands.
-/
namespace Go.Proofs.YtlkgnljdpakkcaaGreatDoor
open Go.RowKit
theorem std_dom {T:Tv} {h n:Nat} {F:List En} {S:List Int} (s:Std T h F S n) (f:Ful T):Dom T S:=by
 refine ⟨List.nodup_iff_count.2 s.one,fun x=>⟨fun hx hn=>?_,fun hx=>Decidable.byContradiction fun hn=>?_⟩⟩
 · have:=s.tr.ne x hx
   unfold mN at this
   rw [hn] at this
   exact this rfl
 · have h1:=s.out x hn
   cases hf:T.f x with
   | none=>exact hx hf
   | some v =>
    unfold mN at h1
    rw [hf] at h1
    have h2:v.nod=nod0:=h1
    have h3:=f x v hf
    apply h3
    show v.nod.es=[]
    rw [h2]; rfl
theorem std_cnt {T:Tv} {h n:Nat} {F:List En} {S:List Int} (s:Std T h F S n):cntL (mN T.f) S=F.length:=by
 rcases s.tr with ⟨_,rfl,rfl,_⟩ | ⟨_,hs,_,rfl,rfl,_⟩
 · rfl
 · exact cnt_nums hs
theorem flat_len {M:Int→Nod}:∀ {h:Nat} {a:Int},Sh M h a→(flat M h a).length≤400 * (nums M h a).length
 | 0,a,hs=>by
  have h1:=wE_ge true 3 (M a).es (fun e he=>(w_leaf_le (hs.1.2 e he)).1)
  have h2:=w_ndb true (M a).es
  have h3:=hs.2.2
  rw [hs.1.1] at h3
  simp only [flat,nums,List.length_singleton]
  omega
 | h+1,a,hs=>by
  rw [flat,nums,List.length_cons]
  have hk:∀ e ∈ (M a).es,Sh M h e.kid:=fun e he=>(hs.1.2 e he).1
  generalize (M a).es=l at hk
  have:(l.flatMap fun e=>flat M h e.kid).length≤400 * (l.flatMap fun e=>nums M h e.kid).length:=by
   induction l with
   | nil=>simp
   | cons e l ih =>
    rw [List.flatMap_cons,List.flatMap_cons,List.length_append,List.length_append]
    have i1:=flat_len (hk e (by simp))
    have i2:=ih (fun x hx=>hk x (by simp [hx]))
    omega
  omega
theorem Tr.fitL {M:Int→Nod} {root:Int} {h:Nat} {F:List En} {S:List Int} (t:Tr M root h F S):∀ e ∈ F,fitL e:=by
 rcases t with ⟨_,rfl,_,_⟩ | ⟨_,hs,_,rfl,_,_⟩
 · simp
 · exact flat_fitL hs
theorem Tr.len {M:Int→Nod} {root:Int} {h:Nat} {F:List En} {S:List Int} (t:Tr M root h F S):F.length≤400 * S.length:=by
 rcases t with ⟨_,rfl,_,_⟩ | ⟨_,hs,_,rfl,rfl,_⟩
 · simp
 · exact flat_len hs
theorem std_ho {T:Tv} {h n:Nat} {F:List En} {S:List Int} (s:Std T h F S n) (k:ByteArray):ho (mN T.f) h T.root k=fromL F k:=by
 rcases s.tr with ⟨h3,rfl,rfl,rfl⟩ | ⟨_,hs,_,rfl,_,hsr⟩
 · unfold ho
   rw [s.out T.root (by simp)]
   rfl
 · exact ho_srt hs hsr
theorem fromL_len (F:List En) (k:ByteArray):(fromL F k).length≤F.length:=List.length_filter_le _ _
section
variable {w:World} {tb h n:Nat} {T:Tv} {F:List En} {S:List Int}
theorem std_small (s:Std T h F S n) (h1:1≤n) (h2:n≤16384):S.length≤16383∧F.length≤6553200:=by
 have h3:=(s.ok h1 h2).hS
 have h4:=s.tr.len
 omega
theorem len_std (ht:IsTr w tb T) (s:Std T h F S n) (f:Ful T) (h1:1≤n) (h2:n≤16384):Calls Tryz.prog 30 #[.pointer (some ⟨tb,0,none⟩)] w (IntPost F.length w):=by
 have:=tlen_any tb T S w ht (std_dom s f) (by have:=(std_small s h1 h2).1; omega)
 rw [std_cnt s] at this
 exact this
theorem sectors_std (ht:IsTr w tb T) (s:Std T h F S n) (f:Ful T) (h1:1≤n) (h2:n≤16384):Calls Tryz.prog 31 #[.pointer (some ⟨tb,0,none⟩)] w (IntPost (1+S.length) w) :=
 sectors_any tb T S w ht (std_dom s f) (by have:=(std_small s h1 h2).1; omega)
theorem get_std (ht:IsTr w tb T) (s:Std T h F S n) (h1:1≤n) (h2:n≤16384) (key:ByteArray) (hk:key.size≤10000000) :
 Calls Tryz.prog 17 #[.pointer (some ⟨tb,0,none⟩),.string key] w fun e w'=>e=.returned (getV (look F key))∧Tch [] w w':=by
 have o:=s.ok h1 h2
 have:=get_any tb h T key w ht o.hst o.hrt hk
 rw [o.hF key] at this
 exact this
theorem scan_std (ht:IsTr w tb T) (s:Std T h F S n) (h1:1≤n) (h2:n≤16384) (key:ByteArray) (hk:key.size≤10000000) (m:Int) :
 Calls Tryz.prog 20 #[.pointer (some ⟨tb,0,none⟩),.string key,.int .i64 m] w (ScnPost w ((fromL F key).take m.toNat)):=by
 rcases Int.lt_or_le m 1 with hm | hm
 · rw [show m.toNat=0 from by omega,List.take_zero]
   exact scan_none tb key m w hm
 · obtain ⟨j,rfl⟩:∃ j:Nat,m=(j:Int):=⟨m.toNat,by omega⟩
   have o:=s.ok h1 h2
   have hl:=(std_small s h1 h2).2
   have e:=std_ho s key
   have:=scan_any tb h j T key w ht o.hst.sth o.hrt hk (by omega) (by rw [e]; have:=fromL_len F key; omega) (by
    rw [e]
    intro x hx
    obtain ⟨g1,g2,g3,_⟩:=s.tr.fitL x (List.mem_filter.1 hx).1
    omega)
   rw [e] at this
   exact this
end
theorem nums_pos {M:Int→Nod}:∀ {h:Nat} {a:Int},Sh M h a→∀ x ∈ nums M h a,x=a∨1≤x
 | 0,a,hs,x,hx=>by simp only [nums,List.mem_singleton] at hx; exact Or.inl hx
 | h+1,a,hs,x,hx=>by
  rw [nums] at hx
  rcases List.mem_cons.1 hx with rfl | hx
  · exact Or.inl rfl
  · obtain ⟨e,he,hx⟩:=List.mem_flatMap.1 hx
    obtain ⟨q1,q2,_⟩:=hs.1.2 e he
    rcases nums_pos q1 x hx with rfl | h1
    · exact Or.inr q2.2.1
    · exact Or.inr h1
theorem ld_std {T:Tv} {h:Nat} (hld:LdOk T.D T.room T.root (nmf T.f) h) (hl:jlen T.D T.room≤16384):∃ F S,Std T h F S (jlen T.D T.room)∧Ful T:=by
 have hmn:∀ x,mN T.f x=gM (nmf T.f) x:=fun _=>rfl
 obtain ⟨hpos,r,_,hr,⟨rfl,hN,rfl⟩ | ⟨hr0,hlb,hrt,hz⟩⟩:=hld
 · refine ⟨[],[],⟨Or.inl ⟨hr,rfl,rfl,rfl⟩,by simp,by simp,fun x _=>?_⟩,fun x v hv=>?_⟩
   · rw [hmn,hN]; rfl
   · have:nmf T.f x=some v.nod:=by unfold nmf; rw [hv]; rfl
     rw [hN] at this; cases this
 · obtain ⟨h',he,hs0,had,hroot,hall⟩:=lb_ok (rdN_ok T.D T.room) 16385 _ _ _ _ hlb
   obtain rfl:h=h':=by omega
   obtain ⟨g1,g2⟩:=(isRt_is hs0).1 hrt
   have hs:=sh0_sh hs0 g1
   have hsr:=(rzs_srt.1 hz).1
   rw [ho_all rfl hs] at hsr
   have ht:Tr (mN T.f) T.root h (flat (mN T.f) h T.root) (nums (mN T.f) h T.root):=by
    rw [hr]
    exact Or.inr ⟨by omega,hs,g2,rfl,rfl,hsr⟩
   have hin:∀ x,x ∈ nums (mN T.f) h T.root↔T.f x≠none:=fun x=>by
    rw [hr]
    constructor
    · intro hx hn
      have:=(had.inn x hx).2.1
      apply this
      unfold nmf; rw [hn]; rfl
    · intro hx
      refine Decidable.byContradiction fun hn=>?_
      have h5:=had.out x hn
      unfold nmf at h5
      cases hf:T.f x with
      | none=>exact hx hf
      | some v=>rw [hf] at h5; cases h5
   refine ⟨_,_,⟨ht,by rw [hr]; exact had.one,fun x hx=>?_,fun x hx=>?_⟩,fun x v hv=>?_⟩
   · rw [hr] at hx
     have h5:=(had.inn x hx).2.2
     rcases nums_pos hs x hx with rfl | h6
     · exact ⟨by omega,h5⟩
     · exact ⟨h6,h5⟩
   · have:T.f x=none:=Decidable.byContradiction fun hn=>hx ((hin x).2 hn)
     unfold mN; rw [this]; rfl
   · have h5:=ht.ne x ((hin x).2 (by rw [hv]; simp))
     unfold mN at h5
     rw [hv] at h5
     exact h5
end Go.Proofs.YtlkgnljdpakkcaaGreatDoor
/-
 Plain facts for the laws' 'wakes' of layer 5.
-/
namespace Go.Proofs.YtlkgnljdpakkcaaGreatDoor
open Go.RowKit
def wkC:List Ch:=[⟨⟨#[98]⟩,⟨#[50]⟩,false⟩,⟨⟨#[97]⟩,⟨#[49]⟩,false⟩]
def wkF:List En:=[⟨⟨#[97]⟩,⟨#[49]⟩,0⟩,⟨⟨#[98]⟩,⟨#[50]⟩,0⟩]
theorem wk_chk:chk wkC []=0:=by decide +kernel
theorem wk_bys:bys wkF=12:=by decide +kernel
theorem wk_alts:altsL [] wkC=wkF:=by
 have e:slt ⟨#[97]⟩ ⟨#[98]⟩=true:=by decide +kernel
 have e2:slt ⟨#[98]⟩ ⟨#[97]⟩=false:=by decide +kernel
 simp [altsL,wkC,wkF,altL,newE,e,e2]
theorem Tr.alone {M:Int→Nod} {root:Int} {h:Nat} {F:List En} {S:List Int} (t:Tr M root h F S) (hne:F≠[]) (hb:bys F < 100):S.length=1:=by
 have hf:=t.few
 rw [show bys F / 100=0 from by omega] at hf
 rcases t with ⟨_,rfl,_⟩ | ⟨_,hs,h2,rfl,rfl,_⟩
 · exact absurd rfl hne
 · cases h with
   | zero=>rfl
   | succ h =>
    exfalso
    have h3:=h2 (by omega)
    have h4:=sum_len (M:=M) (h:=h) (k:=1) (M root).es (fun e he=>List.length_pos_of_mem (nums_self M h e.kid))
    rw [nums_body,List.length_cons] at hf
    omega
end Go.Proofs.YtlkgnljdpakkcaaGreatDoor
/-
 A tree over a disk whose power stays on: what its methods answer,and what an Apply leaves.
-/
namespace Go.Proofs.YtlkgnljdpakkcaaGreatDoor
open Go.RowKit
structure Calm (w:World) (A tb B:Nat) (T:Tv) (now:List ByteArray) (h:Nat) (F:List En) (S:List Int):Prop where
 tr:IsTr w tb T
 hand:Hand T now h F S
 ful:Ful T
 lost:T.lost=false
 left:T.D.left = -1
 lo:T.b < B∧T.bs < B
 hig:∀ x v,T.f x=some v→Hig B v
 new:A≤tb∧A≤T.mb∧A≤T.b∧A≤T.bs
section
variable {w:World} {A tb B h:Nat} {T:Tv} {now:List ByteArray} {F:List En} {S:List Int}
theorem Calm.keep (c:Calm w A tb B T now h F S) {w':World} (t:Tch [] w w'):Calm w' A tb B T now h F S:=⟨c.tr.keep0 t,c.hand,c.ful,c.lost,c.left,c.lo,c.hig,c.new⟩
theorem Calm.len (c:Calm w A tb B T now h F S):Calls Tryz.prog 30 #[.pointer (some ⟨tb,0,none⟩)] w (IntPost F.length w):=len_std c.tr c.hand.std c.ful c.hand.l1 c.hand.l2
theorem Calm.sectors (c:Calm w A tb B T now h F S):Calls Tryz.prog 31 #[.pointer (some ⟨tb,0,none⟩)] w (IntPost (1+S.length) w):=sectors_std c.tr c.hand.std c.ful c.hand.l1 c.hand.l2
theorem Calm.get (c:Calm w A tb B T now h F S) (key:ByteArray) (hk:key.size≤10000000):Calls Tryz.prog 17 #[.pointer (some ⟨tb,0,none⟩),.string key] w fun e w'=>e=.returned (getV (look F key))∧Tch [] w w':=get_std c.tr c.hand.std c.hand.l1 c.hand.l2 key hk
theorem Calm.scan (c:Calm w A tb B T now h F S) (key:ByteArray) (hk:key.size≤10000000) (m:Int):Calls Tryz.prog 20 #[.pointer (some ⟨tb,0,none⟩),.string key,.int .i64 m] w (ScnPost w ((fromL F key).take m.toNat)):=scan_std c.tr c.hand.std c.hand.l1 c.hand.l2 key hk m
theorem Calm.srt (c:Calm w A tb B T now h F S):Srt F:=c.hand.std.tr.srt
theorem Calm.few (c:Calm w A tb B T now h F S):1+S.length≤3+bys F / 100:=c.hand.std.tr.few
theorem Calm.small (c:Calm w A tb B T now h F S):S.length≤16383∧F.length≤6553200:=std_small c.hand.std c.hand.l1 c.hand.l2
end
def ClmPost (w:World) (A tb B:Nat) (T:Tv) (now:List ByteArray) (h:Nat) (F:List En) (S:List Int) (cs:List Ch) (e:Ending) (w':World):Prop :=
 (chk cs []≠0∧e=.returned (.int .i64 (chk cs []))∧Calm w' A tb B T now h F S∧Tch [] w w') ∨
 (chk cs []=0∧e=.returned (.int .i64 0)∧∃ (T':Tv) (now':List ByteArray) (h':Nat) (S':List Int),T'.jb=T.jb∧T'.b=T.b∧T'.bs=T.bs∧T'.room=T.room∧T'.mb=T.mb∧now'.length=now.length∧T'.D.done≤T.D.done+1002∧Calm w' A tb B T' now' h' (altsL F cs) S'∧Tch [tb,T.mb,T.b,T.bs] w w')
theorem Calm.apply {w:World} {A tb B h:Nat} {T:Tv} {now:List ByteArray} {F:List En} {S:List Int} (c:Calm w A tb B T now h F S) (hB:B≤w.heap.size) (cs:List Ch) (a:Option Addr) (n cap b o:Nat) (hlen:cs.length≤1048576) (hr:IsR fChg 3 w a n b o cs) (hz:a=none→n=0∧cap=0) (hdone:T.D.done+1002 < 9223372036854775807)
 (hfull:S.length+9 * cs.length < now.length) (hbig:24 * cs.length+1≤T.room∨chk cs []=0∧3+bys (altsL F cs) / 100≤T.room) :
 Calls Tryz.prog 24 #[.pointer (some ⟨tb,0,none⟩),.slice a n cap] w (ClmPost w A tb B T now h F S cs):=by
 refine (apply_std tb B h T now F S cs a n cap b o w c.tr c.lost c.hand ⟨c.lo.1,c.lo.2,hB⟩ c.hig hlen hr hz hr.lt hdone).mono ?_
 rintro e w' (⟨h1,rfl,h3,h4⟩ | ⟨_,_,h3,_⟩ | ⟨h0,_,h3,h4,_⟩ | ⟨h0,T',now',h2,S3,e1,e2,e3,e4,e5,e6,h3,h4,h5,h6,⟨rfl,h8,h9,h10,h11⟩ | ⟨_,h8,_⟩⟩)
 · exact Or.inl ⟨h1,rfl,c.keep h4,h4⟩
 · omega
 · rw [altsL_ords c.srt h0] at h4
   rcases hbig with hb | ⟨_,hb⟩ <;> omega
 · rw [altsL_ords c.srt h0] at h9
   exact Or.inr ⟨h0,rfl,T',now',h2,S3,e1,e2,e3,e4,e5,e6,h5,⟨h3,h9,h6 c.ful,h8,h11 c.left,by rw [e2,e3]; exact c.lo,h10,by rw [e2,e3,e5]; exact c.new⟩,h4⟩
 · exact absurd c.left h8
def NewPost (w0 w:World) (b bs room sec:Nat) (e:Ending) (w':World):Prop :=
 ∃ (tb:Nat) (T:Tv),e=.returned (.tuple #[.pointer (some ⟨tb,0,none⟩),.int .i64 0])∧Calm w' w0.heap.size tb w.heap.size T (List.replicate sec ⟨#[]⟩) 0 [] []∧T.D.done=0∧T.room=room∧T.b=b∧T.bs=bs∧w.heap.size≤w'.heap.size∧Tch [] w0 w'
theorem open_new (w0 w:World) (b bs n room:Nat) (hd:IsDs w b bs (freshD n)) (t:Tch [] w0 w) (hb:w0.heap.size≤b∧w0.heap.size≤bs) (h1:1≤room) (h2:room≤500) (h3:room+2≤n) (h4:n≤16384) :
 Calls Tryz.prog 12 #[.pointer (some ⟨b,0,none⟩),.int .i64 (room:Nat)] w (NewPost w0 w b bs room (n - (room+1))):=by
 have hlt:=hd.lt
 have hts:=t.size
 refine (open_std b bs room 0 (freshD n) (List.replicate (n - (room+1)) ⟨#[]⟩) (fun _=>nod0) 0 [] [] [] w hd (by simp [freshD]) rfl (fresh_seen n room (by omega) h2 h4) h1 h2 (by simp; omega) (by simp; omega) (says_new _) (Or.inl ⟨rfl,rfl,rfl,rfl⟩) (by simp) (by simp)).mono ?_
 rintro e w' ⟨t1,⟨tb,T,rfl,k1,k2,k3,k4,k5,k6,k7,k8,k9,k10,k11,k12,k13⟩ | ⟨k1,_⟩⟩
 · obtain ⟨q1,q2⟩:=k13 rfl
   refine ⟨tb,T,rfl,⟨k1,k2,k3,k8,q1,by rw [k6,k7]; exact ⟨hlt.1,hlt.2.1⟩,k9,by omega,by omega,by omega,by omega⟩,by rw [q2]; simp [freshD],k5,k6,k7,t1.size,t.upTo t1 (by simp; omega)⟩
 · exact absurd rfl k1
def AgnPost (w:World) (A b bs room:Nat) (done:Int) (now:List ByteArray) (h:Nat) (F:List En) (S:List Int) (e:Ending) (w':World):Prop :=
 ∃ (tb:Nat) (T:Tv),e=.returned (.tuple #[.pointer (some ⟨tb,0,none⟩),.int .i64 0])∧Calm w' A tb w.heap.size T now h F S∧T.D.done=done∧T.room=room∧T.b=b∧T.bs=bs∧Tch [b,bs] w w'
theorem Calm.again {w:World} {A tb B h:Nat} {T:Tv} {now:List ByteArray} {F:List En} {S:List Int} (c:Calm w A tb B T now h F S) (hB:B≤w.heap.size) (hA:A≤w.heap.size) (hdone:T.D.done+502 < 9223372036854775807) :
 Calls Tryz.prog 12 #[.pointer (some ⟨T.b,0,none⟩),.int .i64 (T.room:Nat)] w (AgnPost w A T.b T.bs T.room T.D.done now h F S):=by
 have hh:=c.hand
 refine (open_std T.b T.bs T.room h T.D now (mN T.f) T.root F S [] w c.tr.ds hdone hh.on hh.seen hh.r1 hh.r2 hh.l1 hh.l2 hh.says hh.std.tr hh.std.one hh.std.inn).mono ?_
 rintro e w' ⟨t1,⟨tb',T',rfl,k1,k2,k3,k4,k5,k6,k7,k8,k9,k10,k11,k12,k13⟩ | ⟨k1,_⟩⟩
 · obtain ⟨q1,q2⟩:=k13 c.left
   have hlo:=c.lo
   have hnew:=c.new
   refine ⟨tb',T',rfl,⟨k1,k2,k3,k8,q1,by rw [k6,k7]; omega,k9,by omega,by omega,by omega,by omega⟩,by rw [q2]; simp,k5,k6,k7,t1⟩
 · exact absurd c.left k1
/-! ### the document's list of pairs,in memory -/
def IsL (w:World) (v:Value) (l:List En):Prop:=∃ (a:Option Addr) (c b o:Nat),v=.slice a l.length c∧IsR fPr 2 w a l.length b o l∧(0 < l.length→∃ cs,w.heap[b]?=some (.cells cs 71 (0,0)))
theorem IsL.nil (w:World):IsL w (.slice none 0 0) []:=⟨none,0,0,0,rfl,IsR.nil _ _ _ _,fun h=>by simp at h⟩
theorem IsL.keep {w w':World} {v:Value} {l:List En} {L:List Nat} (h:IsL w v l) (t:Tch L w w') (hL:∀ b ∈ L,∀ cs,w.heap[b]?≠some (.cells cs 71 (0,0))):IsL w' v l:=by
 obtain ⟨a,c,b,o,h1,h2,h3⟩:=h
 have hb:0 < l.length→b ∉ L:=fun hp hm=>by
  obtain ⟨cs,hcs⟩:=h3 hp
  exact hL b hm cs hcs
 refine ⟨a,c,b,o,h1,h2.keep t hb,fun hp=>?_⟩
 obtain ⟨cs,hcs⟩:=h3 hp
 exact ⟨cs,t.keep hcs (hb hp)⟩
theorem IsL.keep0 {w w':World} {v:Value} {l:List En} (h:IsL w v l) (t:Tch [] w w'):IsL w' v l:=h.keep t (fun b hb=>by simp at hb)
theorem IsL.apply {w w':World} {v:Value} {l:List En} {tb:Nat} {T:Tv} (h:IsL w v l) (ht:IsTr w tb T) (t:Tch [tb,T.mb,T.b,T.bs] w w'):IsL w' v l:=by
 obtain ⟨S,hS,_⟩:=ht.ds
 refine h.keep t (fun b hb cs e=>?_)
 simp only [List.mem_cons,List.not_mem_nil,or_false] at hb
 rcases hb with rfl | rfl | rfl | rfl
 · rw [ht.blk] at e; simp at e
 · exact ht.ns.mp.ne e rfl
 · rw [hS.blk] at e; simp at e
 · rw [hS.arr] at e; simp at e
theorem IsL.own {w:World} {B:Nat} {v:Value} {l:List En} (h:w.ownsRow B 71 2 v l.length (l.flatMap fPr)):IsL w v l:=by
 obtain ⟨x,c,rfl⟩:=own_slice h
 obtain ⟨b,h1,_,_⟩:=IsR.own (f:=fPr) (fun _=>rfl) h rfl
 refine ⟨x,c,b,0,rfl,h1,fun hp=>?_⟩
 obtain rfl:=h1.some_ hp
 exact own_kindK h rfl
end Go.Proofs.YtlkgnljdpakkcaaGreatDoor
