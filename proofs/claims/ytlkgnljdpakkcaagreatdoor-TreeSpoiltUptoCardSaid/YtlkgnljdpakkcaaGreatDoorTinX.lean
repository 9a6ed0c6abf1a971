/-
  Parts of the proof: Tin.
-/
import Derived.Test.YtlkgnljdpakkcaaGreatDoorM01
import Derived.Test.YtlkgnljdpakkcaaGreatDoorM21
import Derived.Deep.Slices
import Derived.Deep.Strs
set_option linter.unusedVariables false
set_option linter.unusedSimpArgs false
/-
 Opening slices of pairs,and of changes,that were handed in.
-/
namespace Go.Proofs.YtlkgnljdpakkcaaGreatDoor
open Go.ChangeShapes Go.WideShapes Go.ChangeAt Go.RowKit
theorem bulkAll_len {H:Type}:∀ l:List (DataW H),l.length≤Rows.uptoBulkAll l
 | []=>by simp
 | d :: l=>by
  have h1:=bulk_pos d
  have h2:=bulkAll_len l
  rw [Rows.uptoBulkAll,List.length_cons]; omega
theorem bulk_slice {H:Type} (l m:List (DataW H)):Rows.uptoBulkAll l≤Rows.uptoBulk (.slice l m):=by
 rw [Rows.uptoBulk]; omega
theorem bulk_range {H:Type} {D:Nat→DataW H} {len:Nat} {m:List (DataW H)} {B:Nat} (h:Rows.uptoBulk (.slice ((List.range len).map D) m)≤B):len≤B∧∀ i,i < len→Rows.uptoBulk (D i)≤B:=by
 have h1:=bulk_slice ((List.range len).map D) m
 have h2:=bulkAll_len ((List.range len).map D)
 rw [List.length_map,List.length_range] at h2
 refine ⟨by omega,fun i hi=>?_⟩
 have:=bulk_le (d:=D i) (l:=(List.range len).map D) (List.mem_map.2 ⟨i,List.mem_range.2 hi,rfl⟩)
 omega
theorem two_ofT {α:Type} {l:List α} (h:l.length=2):∃ a b,l=[a,b]:=by
 match l,h with
 | [a,b],_=>exact ⟨a,b,rfl⟩
theorem three_ofT {α:Type} {l:List α} (h:l.length=3):∃ a b c,l=[a,b,c]:=by
 match l,h with
 | [a,b,c],_=>exact ⟨a,b,c,rfl⟩
theorem trod_twoT {H:Type} {enc:TypeId × Value→H} {P:Program} {w:World} {base:Nat} {spare:Nat→Bool} {held:Bool} {t:TypeId} {f0 f1:Field} {fuel:Nat} {cs:List Value} {x:DataW H × List MemPlace} (ht:P.underlying t=some (.struct #[f0,f1])) (h:DataW.trod enc P w base spare held fuel t cs=some x) :
 ∃ y0 y1 n,cs.length=P.cellsOf t∧DataW.trod enc P w base spare held n f0.type ((cs.drop f0.offset).take (P.cellsOf f0.type))=some y0 ∧
  DataW.trod enc P w base spare held n f1.type ((cs.drop f1.offset).take (P.cellsOf f1.type))=some y1:=by
 obtain ⟨xs,n,_,rfl,hl,hlen,hf⟩:=DataW.trod_struct ht h
 obtain ⟨y0,y1,rfl⟩:=two_ofT hlen
 exact ⟨y0,y1,n,hl,by simpa using hf 0 f0 rfl,by simpa using hf 1 f1 rfl⟩
theorem lt_of_cell {W:World} {b o:Nat} {v:Value} (q0:W.cell? ⟨b,o,none⟩=some v):b < W.heap.size:=by
 unfold World.cell? at q0
 rcases Nat.lt_or_ge b W.heap.size with h' | h'
 · exact h'
 · simp [Array.getElem?_eq_none h'] at q0
theorem isr_of {α:Type} [Inhabited α] {f:α→List Value} {sz:Nat} {W:World} {y:Addr} {len:Nat} (P:α→Prop) (hf:∀ x,0 < (f x).length) (key:∀ i,i < len→∃ x:α,P x∧∀ (j:Nat) v,(f x)[j]?=some v→W.cell? (y.add (i * sz+j))=some v) :
 ∃ (b o:Nat) (l:List α),IsR f sz W (some y) len b o l∧∀ x ∈ l,P x:=by
 by_cases h0:len=0
 · subst h0
   exact ⟨0,0,[],IsR.nil _ _ _ _,by simp⟩
 obtain ⟨V,hV⟩:=Go.Deep.choose_lt key
 obtain ⟨b,o,sp⟩:=y
 have hv0:(f (V 0))[0]?=some ((f (V 0))[0]'(hf _)):=List.getElem?_eq_getElem _
 have q0:=(hV 0 (by omega)).2 0 _ hv0
 have hs:sp=none:=by simpa [Addr.add] using World.cell?_spot q0
 subst hs
 rw [add_mk] at q0
 refine ⟨b,o,(List.range len).map V,⟨by simp,Or.inr ⟨rfl,lt_of_cell q0⟩,fun k x hk j v hv=>?_⟩,fun x hx=>?_⟩
 · rw [List.getElem?_map] at hk
   by_cases hkm:k < len
   · rw [List.getElem?_range hkm] at hk
     cases hk
     have:=(hV k hkm).2 j v hv
     rw [add_mk,← Nat.add_assoc] at this
     exact this
   · rw [List.getElem?_eq_none (by simpa using hkm)] at hk
     cases hk
 · obtain ⟨k,hk,rfl⟩:=List.mem_map.1 hx
   exact (hV k (List.mem_range.1 hk)).1
instance:Inhabited En:=⟨⟨⟨#[]⟩,⟨#[]⟩,0⟩⟩
instance:Inhabited Ch:=⟨⟨⟨#[]⟩,⟨#[]⟩,false⟩⟩
set_option maxRecDepth 100000 in
theorem pairs_row {H:Type} {enc:TypeId × Value→H} {W:World} {fuel:Nat} {cs:List Value} {x:DataW H × List MemPlace}
 (h:DataW.trod enc Tryz.prog W 0 (fun _=>true) true fuel 44 cs=some x) :
 ∃ (a:Option Addr) (len cap b o:Nat) (l:List En),cs=[.slice a len cap]∧IsR fPr 2 W a len b o l∧len≤cap∧cap≤maxLen∧(a=none→len=0∧cap=0):=by
 rcases Go.Deep.open_slice Tryz.underlying44 h with ⟨rfl,rfl⟩ | ⟨y,len,cap,m,n,D,Pl,rfl,_,hl,hm,hmm,hx,hi⟩
 · exact ⟨none,0,0,0,0,[],rfl,IsR.nil _ _ _ _,by omega,by unfold maxLen; omega,fun _=>⟨rfl,rfl⟩⟩
 · have hsz:Tryz.prog.cellsOf 67=2:=by kernel_rfl
   have key:∀ i,i < len→∃ p:En,True∧∀ (j:Nat) v,(fPr p)[j]?=some v→W.cell? (y.add (i * 2+j))=some v:=by
    intro i him
    obtain ⟨cs',hc,ht⟩:=hi i (by rw [hmm]; split <;> omega)
    rw [hsz] at hc
    obtain ⟨_,hlen,hat⟩:=World.cells?_some hc
    obtain ⟨y0,y1,n',_,g0,g1⟩:=trod_twoT Tryz.underlying67 ht
    obtain ⟨v0,v1,rfl⟩:=two_ofT hlen
    have k9:Tryz.prog.cellsOf 9=1:=by kernel_rfl
    simp only [k9] at g0 g1
    obtain ⟨s0,e0,_,_⟩:=DataW.trod_string Tryz.underlying9 g0
    obtain ⟨s1,e1,_,_⟩:=DataW.trod_string Tryz.underlying9 g1
    simp at e0 e1
    have a0:=hat 0 (by omega)
    have a1:=hat 1 (by omega)
    simp only [Go.Deep.add_add] at a0 a1
    refine ⟨⟨s0,s1,0⟩,trivial,fun j v hv=>?_⟩
    match j,hv with
    | 0,hv=>simp [fPr] at hv; subst hv; simpa [e0] using a0
    | 1,hv=>simp [fPr] at hv; subst hv; simpa [e1] using a1
    | j+2,hv=>simp [fPr] at hv
   obtain ⟨b,o,l,hr,_⟩:=isr_of (f:=fPr) (sz:=2) (fun _=>True) (fun _=>by simp [fPr]) key
   exact ⟨some y,len,cap,b,o,l,rfl,hr,hl,hm,fun h=>by cases h⟩
set_option maxRecDepth 100000 in
theorem chgs_row {H:Type} {enc:TypeId × Value→H} {W:World} {fuel:Nat} {cs:List Value} {x:DataW H × List MemPlace}
 (h:DataW.trod enc Tryz.prog W 0 (fun _=>true) true fuel 35 cs=some x) :
 ∃ (a:Option Addr) (len cap b o:Nat) (l:List Ch),cs=[.slice a len cap]∧IsR fChg 3 W a len b o l∧len≤cap∧cap≤maxLen∧(a=none→len=0∧cap=0)∧len≤Rows.uptoBulk x.1:=by
 rcases Go.Deep.open_slice Tryz.underlying35 h with ⟨rfl,rfl⟩ | ⟨y,len,cap,m,n,D,Pl,rfl,_,hl,hm,hmm,hx,hi⟩
 · exact ⟨none,0,0,0,0,[],rfl,IsR.nil _ _ _ _,by omega,by unfold maxLen; omega,fun _=>⟨rfl,rfl⟩,by omega⟩
 · have hsz:Tryz.prog.cellsOf 62=3:=by kernel_rfl
   have key:∀ i,i < len→∃ p:Ch,True∧∀ (j:Nat) v,(fChg p)[j]?=some v→W.cell? (y.add (i * 3+j))=some v:=by
    intro i him
    obtain ⟨cs',hc,ht⟩:=hi i (by rw [hmm]; split <;> omega)
    rw [hsz] at hc
    obtain ⟨_,hlen,hat⟩:=World.cells?_some hc
    obtain ⟨y0,y1,y2,n',_,_,g0,g1,g2⟩:=Go.Deep.trod_struct3 Tryz.underlying62 ht
    obtain ⟨v0,v1,v2,rfl⟩:=three_ofT hlen
    have k9:Tryz.prog.cellsOf 9=1:=by kernel_rfl
    have k4:Tryz.prog.cellsOf 4=1:=by kernel_rfl
    simp only [k9,k4] at g0 g1 g2
    obtain ⟨s0,e0,_,_⟩:=DataW.trod_string Tryz.underlying9 g0
    obtain ⟨s1,e1,_,_⟩:=DataW.trod_string Tryz.underlying9 g1
    obtain ⟨gg,e2,_⟩:=DataW.trod_bool Tryz.underlying4 g2
    simp at e0 e1 e2
    have a0:=hat 0 (by omega)
    have a1:=hat 1 (by omega)
    have a2:=hat 2 (by omega)
    simp only [Go.Deep.add_add] at a0 a1 a2
    refine ⟨⟨s0,s1,gg⟩,trivial,fun j v hv=>?_⟩
    match j,hv with
    | 0,hv=>simp [fChg] at hv; subst hv; simpa [e0] using a0
    | 1,hv=>simp [fChg] at hv; subst hv; simpa [e1] using a1
    | 2,hv=>simp [fChg] at hv; subst hv; simpa [e2] using a2
    | j+3,hv=>simp [fChg] at hv
   obtain ⟨b,o,l,hr,_⟩:=isr_of (f:=fChg) (sz:=3) (fun _=>True) (fun _=>by simp [fChg]) key
   refine ⟨some y,len,cap,b,o,l,rfl,hr,hl,hm,(fun h=>by cases h),?_⟩
   rw [hx]
   exact (bulk_range (Nat.le_refl _)).1
end Go.Proofs.YtlkgnljdpakkcaaGreatDoor
