/-
  Parts of the proof: Tio.
-/
import Derived.Test.YtlkgnljdpakkcaaGreatDoorTinX
set_option linter.unusedVariables false
set_option linter.unusedSimpArgs false
/-
 Opening a slice of calls of layer 5 that was handed in.
-/
namespace Go.Proofs.YtlkgnljdpakkcaaGreatDoor
open Go.ChangeShapes Go.WideShapes Go.ChangeAt Go.RowKit
structure TOp where
 kind:Int
 n:Int
 a:Option Addr
 len:Nat
 cap:Nat
 b:Nat
 o:Nat
 cs:List Ch
 key:ByteArray
def fTOp (x:TOp):List Value:=[.int .i64 x.kind,.int .i64 x.n,.slice x.a x.len x.cap,.string x.key]
structure TOp.Ok (W:World) (x:TOp):Prop where
 row:IsR fChg 3 W x.a x.len x.b x.o x.cs
 nil:x.a=none→x.len=0∧x.cap=0
 len:x.len≤1048576
 key:x.key.size≤1048576
instance:Inhabited TOp:=⟨⟨0,0,none,0,0,0,0,[],⟨#[]⟩⟩⟩
set_option maxRecDepth 100000 in
theorem tops_row {H:Type} {enc:TypeId × Value→H} {W:World} {fuel:Nat} {cs:List Value} {x:DataW H × List MemPlace}
 (h:DataW.trod enc Tryz.prog W 0 (fun _=>true) true fuel 22 cs=some x) (hb:Rows.uptoBulk x.1≤1048576) :
 ∃ (a:Option Addr) (len cap b o:Nat) (l:List TOp),cs=[.slice a len cap]∧IsR fTOp 4 W a len b o l∧(∀ x ∈ l,x.Ok W)∧len≤1048576:=by
 rcases Go.Deep.open_slice Tryz.underlying22 h with ⟨rfl,rfl⟩ | ⟨y,len,cap,m,n,D,Pl,rfl,_,hl,hm,hmm,hx,hi⟩
 · exact ⟨none,0,0,0,0,[],rfl,IsR.nil _ _ _ _,by simp,by omega⟩
 · have hsz:Tryz.prog.cellsOf 37=4:=by kernel_rfl
   rw [hx] at hb
   obtain ⟨hb1,hb2⟩:=bulk_range hb
   have key:∀ i,i < len→∃ p:TOp,p.Ok W∧∀ (j:Nat) v,(fTOp p)[j]?=some v→W.cell? (y.add (i * 4+j))=some v:=by
    intro i him
    obtain ⟨cs',hc,ht⟩:=hi i (by rw [hmm]; split <;> omega)
    rw [hsz] at hc
    obtain ⟨_,hlen,hat⟩:=World.cells?_some hc
    obtain ⟨y0,y1,y2,y3,n',hDi,_,g0,g1,g2,g3⟩:=trod_four Tryz.underlying37 ht
    obtain ⟨v0,v1,v2,v3,rfl⟩:=four_of hlen
    have k3:Tryz.prog.cellsOf 3=1:=by kernel_rfl
    have k9:Tryz.prog.cellsOf 9=1:=by kernel_rfl
    have kc:Tryz.prog.cellsOf 35=1:=by kernel_rfl
    simp only [k3,k9,kc] at g0 g1 g2 g3
    obtain ⟨q,e0,_,_⟩:=DataW.trod_int Tryz.underlying3 g0
    obtain ⟨r,e1,_,_⟩:=DataW.trod_int Tryz.underlying3 g1
    obtain ⟨sa,sl,sc,cb,o,z,e2,hch,_,_,hnn,hbl⟩:=chgs_row g2
    obtain ⟨s,e3,hs3,_⟩:=DataW.trod_string Tryz.underlying9 g3
    have hbi:=hb2 i him
    have hDi':D i=.agg [y0.1,y1.1,y2.1,y3.1]:=hDi
    rw [hDi'] at hbi
    simp only [Rows.uptoBulk,Rows.uptoBulkAll] at hbi
    have hs4:Rows.uptoBulk y3.1=s.size+1:=by
     have:y3.1=DataW.lit (.string s.data.toList):=by rw [hs3]
     rw [this,bulk_str]
    simp at e0 e1 e2 e3
    have a0:=hat 0 (by omega)
    have a1:=hat 1 (by omega)
    have a2:=hat 2 (by omega)
    have a3:=hat 3 (by omega)
    simp only [Go.Deep.add_add] at a0 a1 a2 a3
    refine ⟨⟨q,r,sa,sl,sc,cb,o,z,s⟩,⟨hch,hnn,by show sl≤_; omega,by show s.size≤_; omega⟩,fun j v hv=>?_⟩
    match j,hv with
    | 0,hv=>simp [fTOp] at hv; subst hv; simpa [e0] using a0
    | 1,hv=>simp [fTOp] at hv; subst hv; simpa [e1] using a1
    | 2,hv=>simp [fTOp] at hv; subst hv; simpa [e2] using a2
    | 3,hv=>simp [fTOp] at hv; subst hv; simpa [e3] using a3
    | j+4,hv=>simp [fTOp] at hv
   obtain ⟨b,o,l,hr,hP⟩:=isr_of (f:=fTOp) (sz:=4) (fun p=>p.Ok W) (fun _=>by simp [fTOp]) key
   exact ⟨some y,len,cap,b,o,l,rfl,hr,hP,hb1⟩
end Go.Proofs.YtlkgnljdpakkcaaGreatDoor
