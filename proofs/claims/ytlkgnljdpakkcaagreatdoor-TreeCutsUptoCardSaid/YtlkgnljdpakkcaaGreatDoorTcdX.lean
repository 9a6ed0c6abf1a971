/-
  Parts of the proof: Tcd.
-/
import Derived.Test.YtlkgnljdpakkcaaGreatDoorTcuX
import Derived.Test.YtlkgnljdpakkcaaGreatDoorTinX
import Derived.Test.YtlkgnljdpakkcaaGreatDoorM01
set_option linter.unusedVariables false
set_option linter.unusedSimpArgs false
/-
 Opening a Cut of layer 5 that was handed in.
-/
namespace Go.Proofs.YtlkgnljdpakkcaaGreatDoor
open Go.ChangeShapes Go.WideShapes Go.ChangeAt Go.RowKit
theorem bulk_lits {H:Type} (k:IntKind) (l:List Int):Rows.uptoBulkAll (lits (H:=H) k l)=l.length:=by
 induction l with
 | nil=>simp [lits,Rows.uptoBulkAll]
 | cons s l ih =>
  have h:lits (H:=H) k (s :: l)=.lit (.int k s) :: lits k l:=rfl
  rw [h,Rows.uptoBulkAll,ih]
  simp [Rows.uptoBulk]; omega
theorem ints_row {H:Type} {enc:TypeId × Value→H} {W:World} {T E:TypeId} (hT:Tryz.prog.underlying T=some (.slice E)) (hE:Tryz.prog.underlying E=some (.int .i64)) (hc:Tryz.prog.cellsOf E=1) {fuel:Nat} {cs:List Value} {x:DataW H × List MemPlace}
 (h:DataW.trod enc Tryz.prog W 0 (fun _=>true) true fuel T cs=some x) :
 ∃ (a:Option Addr) (len cap b o:Nat) (l:List Int),cs=[.slice a len cap]∧IsR fInt 1 W a len b o l∧len≤cap∧cap≤maxLen∧(a=none→len=0∧cap=0)∧l.length≤Rows.uptoBulk x.1∧∀ n ∈ l,-9223372036854775808≤n∧n≤9223372036854775807:=by
 rcases open_ints hT hE hc h with ⟨rfl,rfl⟩ | ⟨y,len,cap,zs,rfl,_,hl,hm,hz,rfl,hcell,hws⟩
 · exact ⟨none,0,0,0,0,[],rfl,IsR.nil _ _ _ _,by omega,by unfold maxLen; omega,fun _=>⟨rfl,rfl⟩,by simp,fun n hn=>by cases hn⟩
 · simp at hz
   have hbk:(zs.take len).length≤Rows.uptoBulk (.slice (lits (H:=H) .i64 (zs.take len)) (lits .i64 (zs.drop len))):=by
    rw [Rows.uptoBulk,bulk_lits]; omega
   by_cases h0:len=0
   · subst h0
     exact ⟨some y,0,cap,y.block,y.off,[],rfl,IsR.nil _ _ _ _,hl,hm,(fun h=>by cases h),by simp,fun n hn=>by cases hn⟩
   · obtain ⟨b,o,rfl,hb⟩:=addr_none (hcell 0 (by omega))
     refine ⟨some ⟨b,o,none⟩,len,cap,b,o,zs.take len,rfl,⟨by rw [List.length_take]; omega,Or.inr ⟨rfl,hb⟩,fun k x hk j v hv=>?_⟩,hl,hm,(fun h=>by cases h),hbk,fun n hn=>i64_of_wf (hws n (List.mem_of_mem_take hn))⟩
     rw [List.getElem?_take] at hk
     split at hk
     · match j,hv with
       | 0,hv =>
        simp [fInt] at hv; subst hv
        have hlt:=(List.getElem?_eq_some_iff.1 hk).1
        have:=hcell k hlt
        rw [add_mk,List.getD_eq_getElem?_getD,hk] at this
        rw [Nat.mul_one,Nat.add_zero]; exact this
     · cases hk
instance:Inhabited TBat:=⟨⟨none,0,0,0,0,[]⟩⟩
set_option maxRecDepth 100000 in
theorem bats_row {H:Type} {enc:TypeId × Value→H} {W:World} {fuel:Nat} {cs:List Value} {x:DataW H × List MemPlace}
 (h:DataW.trod enc Tryz.prog W 0 (fun _=>true) true fuel 49 cs=some x) (hb:Rows.uptoBulk x.1≤1048576) :
 ∃ (a:Option Addr) (len cap b o:Nat) (l:List TBat),cs=[.slice a len cap]∧IsR fBat 1 W a len b o l∧(∀ x ∈ l,x.Ok W)∧len≤1048576:=by
 rcases Go.Deep.open_slice Tryz.underlying49 h with ⟨rfl,rfl⟩ | ⟨y,len,cap,m,n,D,Pl,rfl,_,hl,hm,hmm,hx,hi⟩
 · exact ⟨none,0,0,0,0,[],rfl,IsR.nil _ _ _ _,by simp,by omega⟩
 · have hsz:Tryz.prog.cellsOf 35=1:=by kernel_rfl
   rw [hx] at hb
   obtain ⟨hb1,hb2⟩:=bulk_range hb
   have key:∀ i,i < len→∃ p:TBat,p.Ok W∧∀ (j:Nat) v,(fBat p)[j]?=some v→W.cell? (y.add (i * 1+j))=some v:=by
    intro i him
    obtain ⟨cs',hc,ht⟩:=hi i (by rw [hmm]; split <;> omega)
    rw [hsz] at hc
    obtain ⟨_,hlen,hat⟩:=World.cells?_some hc
    obtain ⟨sa,sl,sc,cb,o,z,e2,hch,_,_,hnn,hbl⟩:=chgs_row ht
    have hbi:=hb2 i him
    have a0:=hat 0 (by omega)
    simp only [Go.Deep.add_add] at a0
    refine ⟨⟨sa,sl,sc,cb,o,z⟩,⟨hch,hnn,by show sl≤_; exact Nat.le_trans hbl hbi⟩,fun j v hv=>?_⟩
    match j,hv with
    | 0,hv=>simp [fBat] at hv; subst hv; simpa [e2] using a0
    | j+1,hv=>simp [fBat] at hv
   obtain ⟨b,o,l,hr,hP⟩:=isr_of (f:=fBat) (sz:=1) (fun p=>p.Ok W) (fun _=>by simp [fBat]) key
   exact ⟨some y,len,cap,b,o,l,rfl,hr,hP,hb1⟩
structure CutT where
 ba:Option Addr
 bn:Nat
 bc:Nat
 bb:Nat
 bo:Nat
 bats:List TBat
 at_:Int
 ga:Option Addr
 gn:Nat
 gc:Nat
 gb:Nat
 go_:Nat
 ags:List Int
structure CutT.Ok (W:World) (z:CutT):Prop where
 b:IsR fBat 1 W z.ba z.bn z.bb z.bo z.bats
 k:∀ x ∈ z.bats,x.Ok W
 n:z.bn≤1048576
 g:IsR fInt 1 W z.ga z.gn z.gb z.go_ z.ags
 r:∀ x ∈ z.ags,-9223372036854775808≤x∧x≤9223372036854775807
 m:z.gn≤1048576
 a : -9223372036854775808≤z.at_∧z.at_≤9223372036854775807
theorem three_cellsT {α:Type} {l:Array α} (h:l.toList.length=3):∃ a b c,l=#[a,b,c]:=by
 obtain ⟨l⟩:=l
 match l,h with
 | [a,b,c],_=>exact ⟨a,b,c,rfl⟩
set_option maxRecDepth 100000 in
theorem cut5_in {H:Type} {enc:TypeId × Value→H} {W:World} {base:Nat} {v:Value} {d:DataW H} {p:List MemPlace}
 (h:DataW.Trod enc Tryz.prog W 0 (fun _=>true) true 52 v d p) (hb:Rows.uptoBulk d≤1048576) (hok:Value.okWide Tryz.prog W .any base 52 v) :
 ∃ z:CutT,v=.agg #[.slice z.ba z.bn z.bc,.int .i64 z.at_,.slice z.ga z.gn z.gc]∧z.Ok W:=by
 obtain ⟨cs,rfl,_⟩:=okWide_struct Tryz.underlying52 hok
 obtain ⟨fuel,hf⟩:=h
 have hcl:Tryz.prog.cellsOf 52=3:=by kernel_rfl
 obtain ⟨y0,y1,y2,m,hx,hlen,g0,g1,g2⟩:=Go.Deep.trod_struct3 Tryz.underlying52 hf
 obtain ⟨v0,v1,v2,rfl⟩:=three_cellsT (l:=cs) (by rw [hcl] at hlen; simpa [Value.cells] using hlen)
 have k0:Tryz.prog.cellsOf 49=1:=by kernel_rfl
 have k1:Tryz.prog.cellsOf 3=1:=by kernel_rfl
 have k2:Tryz.prog.cellsOf 50=1:=by kernel_rfl
 simp only [k0,k1,k2] at g0 g1 g2
 have hbb:Rows.uptoBulk y0.1+Rows.uptoBulk y2.1≤1048576:=by
  rw [show d=_ from (Prod.mk.inj hx).1] at hb
  simp only [Rows.uptoBulk,Rows.uptoBulkAll] at hb
  omega
 obtain ⟨ba,bn,bc,bb,bo,bats,e0,r0,ok0,n0⟩:=bats_row g0 (by omega)
 obtain ⟨q,e1,_,wq⟩:=DataW.trod_int Tryz.underlying3 g1
 obtain ⟨ga,gn,gc,gb,go_,ags,e2,r2,_,_,_,l2,hr2⟩:=ints_row Tryz.underlying50 Tryz.underlying3 k1 g2
 simp [Value.cells] at e0 e1 e2
 subst e0 e1 e2
 exact ⟨⟨ba,bn,bc,bb,bo,bats,q,ga,gn,gc,gb,go_,ags⟩,rfl,r0,ok0,n0,r2,hr2,by have:=r2.hlen; show gn≤_; omega,i64_of_wf wq⟩
end Go.Proofs.YtlkgnljdpakkcaaGreatDoor
