/-
  Parts of the proof: Core, RowsIn, Open, Row, Up, Wst, Mp.
-/
import Derived.WalkKit
import Derived.Lib.Repeat
import Derived.Lib.Hide
import Derived.Laws.AppendOwn
import Derived.Deep.QuietTactic
import Derived.Test.YtlkgnljdpakkcaaGreatDoorRows
import Derived.ProofKit
import Derived.OpenShut
import Derived.ShutString
import Derived.ChangeOld
import Derived.SliceStrings
import Derived.Below
import Derived.SizedLaws
import Derived.Deep.Slices
import Derived.Deep.Strs
import Derived.Lib.Strings
import Derived.StillTailTactics
import Derived.RangeFuncNested
import Derived.RangeFuncBound
import Derived.RangeFuncCalls
import Derived.RangeFuncLeaves
import Derived.Shelf.Abstract
import Derived.Shelf.RegionOpen
import Derived.OwnWalkIn
import Derived.TacticsInMore
import Derived.LoopNIn
import Derived.LoopIn
import Derived.Maps.OwnSet
import Derived.Maps.RangeWalk
set_option linter.unusedVariables false
set_option linter.unusedSimpArgs false
namespace Go.Proofs.YtlkgnljdpakkcaaGreatDoor
theorem gA {α : Type} {l : List α} {i : Nat} : l.toArray[i]? = l[i]? := List.getElem?_toArray
theorem gZ {α : Type} {a : α} {l : List α} : (a :: l)[0]? = some a := List.getElem?_cons_zero
theorem gS {α : Type} {a : α} {i : Nat} {l : List α} : (a :: l)[i + 1]? = l[i]? := List.getElem?_cons_succ
end Go.Proofs.YtlkgnljdpakkcaaGreatDoor
/-
 Plain notions that speak of no program: which blocks of memory a call may have turned ('Tch'),what a whole block holds,rows of a call's own.
-/
namespace Go.Proofs.YtlkgnljdpakkcaaGreatDoor
open Go.RowKit
structure Tch (L:List Nat) (w w':World):Prop where
 os:w'.os=w.os
 tape:w'.tape=w.tape
 output:w'.output=w.output
 size:w.heap.size≤w'.heap.size
 block:∀ k,k < w.heap.size→k ∉ L→w'.heap[k]?=w.heap[k]?
theorem Tch.refl (L:List Nat) (w:World):Tch L w w:=⟨rfl,rfl,rfl,Nat.le_refl _,fun _ _ _=>rfl⟩
theorem Tch.trans {L:List Nat} {a b c:World} (h:Tch L a b) (k:Tch L b c):Tch L a c :=
 ⟨k.os.trans h.os,k.tape.trans h.tape,k.output.trans h.output,Nat.le_trans h.size k.size,fun i hi hn=>(k.block i (Nat.lt_of_lt_of_le hi h.size) hn).trans (h.block i hi hn)⟩
theorem Tch.mono {L L':List Nat} {w w':World} (h:Tch L w w') (hL:∀ k ∈ L,k ∈ L'):Tch L' w w' :=
 ⟨h.os,h.tape,h.output,h.size,fun k hk hn=>h.block k hk (fun hm=>hn (hL k hm))⟩
theorem Tch.drew {L:List Nat} {a w:World} (h:Tch L a w):Tch L a w.drew:=⟨h.os,h.tape,h.output,h.size,h.block⟩
theorem Tch.ofBelow {w w':World} (h:Below w.heap.size w w'):Tch [] w w':=⟨h.os,h.tape,h.output,h.size,fun k hk _=>h.block k hk⟩
theorem Tch.alloc {L:List Nat} {a w:World} (h:Tch L a w) (o:Obj):Tch L a (w.alloc o) :=
 h.trans ⟨rfl,rfl,rfl,by simp,fun _ hk _=>Below.heap_alloc _ _ _ hk⟩
theorem Tch.setCell {L:List Nat} {a w:World} (h:Tch L a w) {p:Addr} (hp:p.block ∈ L) (u:Value):Tch L a (w.setCell p u) :=
 h.trans ⟨rfl,rfl,rfl,by simp [World.setCell],fun _ _ hn=>Below.heap_setCell _ _ _ _ (fun e=>hn (e ▸ hp))⟩
theorem Tch.setNew {L:List Nat} {a w:World} (h:Tch L a w) {p:Addr} (hp:a.heap.size≤p.block) (u:Value):Tch L a (w.setCell p u) :=
 ⟨h.os,h.tape,h.output,by have:=h.size; simp [World.setCell]; exact this,fun k hk hn=>(Below.heap_setCell _ _ _ _ (by omega)).trans (h.block k hk hn)⟩
theorem Tch.transNew {L M:List Nat} {a b c:World} (h:Tch L a b) (k:Tch M b c) (hM:∀ m ∈ M,m ∈ L∨a.heap.size≤m):Tch L a c :=
 ⟨k.os.trans h.os,k.tape.trans h.tape,k.output.trans h.output,Nat.le_trans h.size k.size,fun i hi hn=>(k.block i (Nat.lt_of_lt_of_le hi h.size) (fun hm=>by rcases hM i hm with h1 | h1; exact hn h1; omega)).trans (h.block i hi hn)⟩
theorem Tch.below {L:List Nat} {B:Nat} {w w':World} (h:Tch L w w') (hB:B≤w.heap.size) (hL:∀ k ∈ L,B≤k):Below B w w' :=
 ⟨h.os,h.tape,h.output,h.size,fun k hk=>h.block k (by omega) (fun hm=>by have:=hL k hm; omega)⟩
theorem Tch.keep {L:List Nat} {w w':World} (h:Tch L w w') {b:Nat} {o:Obj} (hb:w.heap[b]?=some o) (hn:b ∉ L):w'.heap[b]?=some o :=
 (h.block b (lt_of_block hb) hn).trans hb
theorem blk_cell {w:World} {b:Nat} {cs:Array Value} {t:TypeId} {f:Nat × Nat} (h:w.heap[b]?=some (.cells cs t f)) (o:Nat):w.cell? ⟨b,o,none⟩=cs[o]?:=by simp [World.cell?,h]
theorem blk_free {w:World} {b:Nat} {cs:Array Value} {t:TypeId} (h:w.heap[b]?=some (.cells cs t (0,0))) (o:Nat):w.frozen? ⟨b,o,none⟩=false:=by simp [World.frozen?,h]
theorem blk_set {w:World} {b:Nat} {cs:Array Value} {t:TypeId} {f:Nat × Nat} (h:w.heap[b]?=some (.cells cs t f)) (o:Nat) (u:Value):(w.setCell ⟨b,o,none⟩ u).heap[b]?=some (.cells (cs.setIfInBounds o u) t f):=by
 have hlt:=lt_of_block h
 have h':w.heap[b]=.cells cs t f:=by simpa [Array.getElem?_eq_getElem hlt] using h
 show (w.heap.modify b _)[b]?=_
 rw [Array.getElem?_eq_getElem (by simpa using hlt),Array.getElem_modify_self,h']
 rfl
theorem blk_other {w:World} {b c:Nat} {o:Obj} (h:w.heap[b]?=some o) (hn:b≠c) (i:Nat) (u:Value):(w.setCell ⟨c,i,none⟩ u).heap[b]?=some o:=(Below.heap_setCell _ _ _ _ hn).trans h
theorem blk_alloc {w:World} {b:Nat} {o:Obj} (h:w.heap[b]?=some o) (x:Obj):(w.alloc x).heap[b]?=some o:=(Below.heap_alloc _ _ _ (lt_of_block h)).trans h
theorem blk_new (w:World) (x:Obj):(w.alloc x).heap[w.heap.size]?=some x:=by show (w.heap.push x)[w.heap.size]?=some x; simp
theorem own_keep {w w':World} {base size n:Nat} {e:TypeId} {v:Value} {xs:List Value} {L:List Nat} (h:w.ownsRow base e size v n xs) (t:Tch L w w') (hn:∀ k,v.ownBlock=some k→k ∉ L):w'.ownsRow base e size v n xs:=by
 refine ⟨h.1,?_⟩
 rcases h.2 with h2 | ⟨g,cap,cur,rfl,h3,h4,h5⟩
 · exact Or.inl h2
 · exact Or.inr ⟨g,cap,cur,rfl,h3,t.keep h4 (hn g rfl),h5⟩
theorem own_base {w:World} {base base' size n:Nat} {e:TypeId} {v:Value} {xs:List Value} (h:w.ownsRow base e size v n xs) (hb:base'≤base):w.ownsRow base' e size v n xs:=by
 refine ⟨h.1,?_⟩
 rcases h.2 with h2 | ⟨g,cap,cur,rfl,h3,h4⟩
 · exact Or.inl h2
 · exact Or.inr ⟨g,cap,cur,rfl,Nat.le_trans hb h3,h4⟩
theorem Tch.belowNew {w a b:World} (t:Tch [] w a) (h:Below w.heap.size a b):Tch [] w b :=
 ⟨h.os.trans t.os,h.tape.trans t.tape,h.output.trans t.output,Nat.le_trans t.size h.size,fun k hk hn=>(h.block k hk).trans (t.block k hk hn)⟩
theorem tdrewN {L:List Nat} {a w:World} (h:Tch L a w) (n:Nat):Tch L a (w.drewN n):=⟨h.os,h.tape,h.output,h.size,h.block⟩
theorem Tch.grown {w a b:World} {row:Option Nat} (t:Tch [] w a) (hg:a.grownBy b row) (h:∀ k,row=some k→w.heap.size≤k):Tch [] w b :=
 ⟨hg.os.trans t.os,hg.tape.trans t.tape,hg.output.trans t.output,Nat.le_trans t.size hg.size,fun k hk hn=>(hg.block k (Nat.lt_of_lt_of_le hk t.size) (fun e=>by have:=h k e.symm; omega)).trans (t.block k hk hn)⟩
theorem Tch.own {w a b:World} {base:Nat} {e:TypeId} {size n:Nat} {v:Value} {xs:List Value} (t:Tch [] w a) (ho:a.ownsRow base e size v n xs) (hb:w.heap.size≤base) (hg:a.grownBy b v.ownBlock):Tch [] w b :=
 t.grown hg (fun k hk=>Nat.le_trans hb (ho.lt k hk).1)
theorem own_slice {w:World} {base:Nat} {e:TypeId} {v:Value} {n:Nat} {xs:List Value} {size:Nat} (h:w.ownsRow base e size v n xs):∃ x c,v=.slice x n c:=by
 rcases h.2 with ⟨h1,h2⟩ | ⟨g,c,cur,h1,_⟩
 · exact ⟨_,_,by rw [h1,h2]⟩
 · exact ⟨_,_,h1⟩
end Go.Proofs.YtlkgnljdpakkcaaGreatDoor
/-
 What a law is told of a slice that came in,of numbers or of texts; and that such a slice reads as before while only other blocks turn.
-/
namespace Go.Proofs.YtlkgnljdpakkcaaGreatDoor
open Go.RowKit
theorem add_mk (b o i:Nat):(⟨b,o,none⟩:Addr).add i=⟨b,o+i,none⟩:=by unfold Addr.add; split <;> simp_all
theorem Tch.cell {L:List Nat} {w w':World} (t:Tch L w w') {b o:Nat} (hb:b < w.heap.size) (hn:b ∉ L):w'.cell? ⟨b,o,none⟩=w.cell? ⟨b,o,none⟩ :=
 World.cell?_of_block (w:=w) (t.block b hb hn)
theorem i64_of_wf {n:Int} (h:(Lit.int .i64 n).wf=true) : -9223372036854775808≤n∧n≤9223372036854775807:=by
 simp [Lit.wf,IntKind.min,IntKind.max,IntKind.signed,IntKind.bits] at h; omega
end Go.Proofs.YtlkgnljdpakkcaaGreatDoor
/-
 Opening what was handed in: a slice of integers,of texts.
-/
namespace Go.Proofs.YtlkgnljdpakkcaaGreatDoor
open Go.ChangeShapes Go.WideShapes Go.ChangeAt Go.RowKit
theorem four_of {α:Type} {l:List α} (h:l.length=4):∃ a b c d,l=[a,b,c,d]:=by
 match l,h with
 | [a,b,c,d],_=>exact ⟨a,b,c,d,rfl⟩
theorem trod_four {H:Type} {enc:TypeId × Value→H} {P:Program} {w:World} {base:Nat} {spare:Nat→Bool} {held:Bool} {t:TypeId} {f0 f1 f2 f3:Field} {fuel:Nat} {cs:List Value} {x:DataW H × List MemPlace} (ht:P.underlying t=some (.struct #[f0,f1,f2,f3])) (h:DataW.trod enc P w base spare held fuel t cs=some x) :
 ∃ y0 y1 y2 y3 n,x.1=.agg [y0.1,y1.1,y2.1,y3.1]∧cs.length=P.cellsOf t∧DataW.trod enc P w base spare held n f0.type ((cs.drop f0.offset).take (P.cellsOf f0.type))=some y0 ∧
  DataW.trod enc P w base spare held n f1.type ((cs.drop f1.offset).take (P.cellsOf f1.type))=some y1∧DataW.trod enc P w base spare held n f2.type ((cs.drop f2.offset).take (P.cellsOf f2.type))=some y2 ∧
  DataW.trod enc P w base spare held n f3.type ((cs.drop f3.offset).take (P.cellsOf f3.type))=some y3:=by
 obtain ⟨xs,n,_,rfl,hl,hlen,hf⟩:=DataW.trod_struct ht h
 obtain ⟨y0,y1,y2,y3,rfl⟩:=four_of hlen
 exact ⟨y0,y1,y2,y3,n,rfl,hl,by simpa using hf 0 f0 rfl,by simpa using hf 1 f1 rfl,by simpa using hf 2 f2 rfl,by simpa using hf 3 f3 rfl⟩
end Go.Proofs.YtlkgnljdpakkcaaGreatDoor
/-
 Rows of elements of one kind,each of 'sz' cells: slices that came in,or of a call's own. Plain notions that speak of no program.
-/
namespace Go.Proofs.YtlkgnljdpakkcaaGreatDoor
open Go.RowKit
structure IsR {α:Type} (f:α→List Value) (sz:Nat) (w:World) (a:Option Addr) (len b o:Nat) (xs:List α):Prop where
 hlen:len=xs.length
 at_:len=0∨a=some ⟨b,o,none⟩∧b < w.heap.size
 row:∀ (k:Nat) x,xs[k]?=some x→∀ (j:Nat) v,(f x)[j]?=some v→w.cell? ⟨b,o+k * sz+j,none⟩=some v
variable {α:Type} {f:α→List Value} {sz:Nat}
theorem IsR.keep {w w':World} {a:Option Addr} {len b o:Nat} {xs:List α} {L:List Nat} (h:IsR f sz w a len b o xs) (t:Tch L w w') (hn:0 < len→b ∉ L):IsR f sz w' a len b o xs:=by
 have hl:=h.hlen
 refine ⟨hl,?_,fun k x hk j v hv=>?_⟩
 · rcases h.at_ with h1 | ⟨h1,h2⟩
   · exact Or.inl h1
   · exact Or.inr ⟨h1,Nat.lt_of_lt_of_le h2 t.size⟩
 · have hlt:=(List.getElem?_eq_some_iff.1 hk).1
   rcases h.at_ with h1 | ⟨_,h2⟩
   · omega
   · rw [t.cell h2 (hn (by omega))]
     exact h.row k x hk j v hv
theorem IsR.keep0 {w w':World} {a:Option Addr} {len b o:Nat} {xs:List α} (h:IsR f sz w a len b o xs) (t:Tch [] w w'):IsR f sz w' a len b o xs:=h.keep t (fun _=>by simp)
theorem IsR.nil (w:World) (a:Option Addr) (b o:Nat):IsR f sz w a 0 b o []:=⟨rfl,Or.inl rfl,fun k x hk=>by simp at hk⟩
theorem IsR.some_ {w:World} {a:Option Addr} {len b o:Nat} {xs:List α} (h:IsR f sz w a len b o xs) (hp:0 < len):a=some ⟨b,o,none⟩:=by
 rcases h.at_ with h1 | ⟨h1,_⟩
 · omega
 · exact h1
theorem IsR.lt {w:World} {a:Option Addr} {len b o:Nat} {xs:List α} (h:IsR f sz w a len b o xs) (hp:0 < len):b < w.heap.size:=by
 rcases h.at_ with h1 | ⟨_,h1⟩
 · omega
 · exact h1
theorem IsR.c0 {w:World} {a:Option Addr} {len b o:Nat} {xs:List α} (h:IsR f sz w a len b o xs) {k:Nat} {x:α} (hk:xs[k]?=some x) {v:Value} (hv:(f x)[0]?=some v):w.cell? ⟨b,o+k * sz,none⟩=some v:=by
 have:=h.row k x hk 0 v hv; rwa [Nat.add_zero] at this
theorem IsR.c {w:World} {a:Option Addr} {len b o:Nat} {xs:List α} (h:IsR f sz w a len b o xs) {k:Nat} {x:α} (hk:xs[k]?=some x) (j:Nat) {v:Value} (hv:(f x)[j]?=some v):w.cell? ⟨b,o+k * sz+j,none⟩=some v:=h.row k x hk j v hv
theorem IsR.one {w:World} {a:Option Addr} {len b o:Nat} {xs:List α} (h:IsR f 1 w a len b o xs) {k:Nat} {x:α} (hk:xs[k]?=some x) {v:Value} (hv:(f x)[0]?=some v):w.cell? ⟨b,o+k,none⟩=some v:=by
 have:=h.row k x hk 0 v hv; rwa [Nat.add_zero,Nat.mul_one] at this
theorem fm_len (hf:∀ x,(f x).length=sz) (xs:List α):(xs.flatMap f).length=xs.length * sz:=by
 induction xs with
 | nil=>simp
 | cons x xs ih=>rw [List.flatMap_cons,List.length_append,ih,hf,List.length_cons,Nat.add_mul]; omega
theorem fm_at (hf:∀ x,(f x).length=sz):∀ (xs:List α) (k:Nat) x,xs[k]?=some x→∀ (j:Nat) v,(f x)[j]?=some v→(xs.flatMap f)[k * sz+j]?=some v
 | [],k,x,hk,_,_,_=>by simp at hk
 | y :: xs,0,x,hk,j,v,hv=>by
  simp at hk; subst hk
  rw [List.flatMap_cons,Nat.zero_mul,Nat.zero_add,List.getElem?_append_left (List.getElem?_eq_some_iff.1 hv).1]; exact hv
 | y :: xs,k+1,x,hk,j,v,hv=>by
  rw [List.flatMap_cons,List.getElem?_append_right (by rw [hf,Nat.add_mul]; omega),hf,show (k+1) * sz+j - sz=k * sz+j from by rw [Nat.add_mul]; omega]
  exact fm_at hf xs k x (by simpa using hk) j v hv
theorem fm_inv (hf:∀ x,(f x).length=sz):∀ (xs:List α) (i:Nat) v,(xs.flatMap f)[i]?=some v→∃ k x j,xs[k]?=some x∧(f x)[j]?=some v∧i=k * sz+j
 | [],i,v,h=>by simp at h
 | y :: xs,i,v,h=>by
  rw [List.flatMap_cons] at h
  by_cases hi:i < (f y).length
  · rw [List.getElem?_append_left hi] at h
    exact ⟨0,y,i,rfl,h,by omega⟩
  · rw [List.getElem?_append_right (by omega)] at h
    obtain ⟨k,x,j,h1,h2,h3⟩:=fm_inv hf xs _ v h
    rw [hf] at h3
    exact ⟨k+1,x,j,by simpa using h1,h2,by rw [Nat.add_mul]; rw [hf] at hi; omega⟩
theorem fm_snoc (xs:List α) (k:Nat) (x:α) (h:xs[k]?=some x):(xs.take (k+1)).flatMap f=(xs.take k).flatMap f++f x:=by
 rw [List.take_add_one,h,List.flatMap_append]; simp
theorem fm_one (h1:∀ x,∀ u ∈ f x,u.oneCell'=true) (xs:List α):∀ u ∈ xs.flatMap f,u.oneCell'=true:=fun u hu=>by
 obtain ⟨x,_,hx⟩:=List.mem_flatMap.1 hu
 exact h1 x u hx
theorem IsR.own {T:TypeId} {w:World} {base len n:Nat} {y:Option Addr} {c:Nat} {xs:List α} (hf:∀ x,(f x).length=sz) (h:w.ownsRow base T sz (.slice y n c) len (xs.flatMap f)) (hl:len=xs.length) :
 ∃ b,IsR f sz w y len b 0 xs∧n=len∧(0 < len→base≤b):=by
 rcases h.2 with ⟨hv,h0⟩ | ⟨g,cap,cur,hv,hg,hb,hcap,_,hcs,htk⟩
 · cases hv
   exact ⟨0,⟨hl,Or.inl h0,fun k x hk=>by have:=(List.getElem?_eq_some_iff.1 hk).1; omega⟩,h0.symm,fun h=>by omega⟩
 · cases hv
   refine ⟨g,⟨hl,Or.inr ⟨rfl,lt_of_block hb⟩,fun k x hk j v hv=>?_⟩,rfl,fun _=>hg⟩
   have h1:=fm_at hf xs k x hk j v hv
   have hlt:=(List.getElem?_eq_some_iff.1 h1).1
   rw [fm_len hf] at hlt
   rw [← htk,List.getElem?_take,if_pos (by rw [hl]; exact hlt),Array.getElem?_toList] at h1
   rw [blk_cell hb,Nat.zero_add]; exact h1
theorem IsR.part {w:World} {a:Option Addr} {len b o:Nat} {xs:List α} (h:IsR f sz w a len b o xs) (i n:Nat) (hi:i+n≤len) (a2:Option Addr) (ha:0 < n→a2=some ⟨b,o+i * sz,none⟩):IsR f sz w a2 n b (o+i * sz) ((xs.drop i).take n):=by
 have hl:=h.hlen
 refine ⟨by rw [List.length_take,List.length_drop]; omega,?_,fun k x hk j v hv=>?_⟩
 · by_cases h0:0 < n
   · exact Or.inr ⟨ha h0,h.lt (by omega)⟩
   · exact Or.inl (by omega)
 · rw [List.getElem?_take] at hk
   split at hk
   · rw [List.getElem?_drop] at hk
     have:=h.row (i+k) x hk j v hv
     rw [Nat.add_mul] at this
     rw [show o+i * sz+k * sz+j=o+(i * sz+k * sz)+j from by omega]
     exact this
   · cases hk
theorem IsR.cells {w:World} {y:Addr} {len b o:Nat} {xs:List α} (hf:∀ x,(f x).length=sz) (h:IsR f sz w (some y) len b o xs):∀ j u,(xs.flatMap f)[j]?=some u→w.cell? (y.add j)=some u:=fun j u hu=>by
 obtain ⟨k,x,i,h1,h2,rfl⟩:=fm_inv hf xs j u hu
 have hlt:=(List.getElem?_eq_some_iff.1 h1).1
 have hy:=h.some_ (by have:=h.hlen; omega)
 cases hy
 rw [add_mk,← Nat.add_assoc]
 exact h.row k x h1 i u h2
def fStr (s:ByteArray):List Value:=[.string s]
def fInt (n:Int):List Value:=[.int .i64 n]
end Go.Proofs.YtlkgnljdpakkcaaGreatDoor
/-
 The bulk of what came in: what a bound on it says of texts and lists.
-/
namespace Go.Proofs.YtlkgnljdpakkcaaGreatDoor
open Go.ChangeShapes Go.WideShapes Go.ChangeAt Go.RowKit
theorem bulk_pos {H:Type} (d:DataW H):1≤Rows.uptoBulk d:=by
 cases d with
 | lit l=>cases l <;> simp [Rows.uptoBulk]
 | _=>simp [Rows.uptoBulk]
theorem bulk_str {H:Type} (s:ByteArray):Rows.uptoBulk (DataW.lit (H:=H) (.string s.data.toList))=s.size+1:=by
 simp only [Rows.uptoBulk]; rw [← Lib.size_eq]
theorem bulk_strs {H:Type} (l:List ByteArray):Rows.uptoBulkAll (strs (H:=H) l)=(l.map ByteArray.size).sum+l.length:=by
 induction l with
 | nil=>simp [strs,Rows.uptoBulkAll]
 | cons s l ih =>
  have h:strs (H:=H) (s :: l)=.lit (.string s.data.toList) :: strs l:=rfl
  rw [h,Rows.uptoBulkAll,ih,bulk_str]
  simp; omega
theorem bulk_le {H:Type} {d:DataW H} {l:List (DataW H)} (h:d ∈ l):Rows.uptoBulk d≤Rows.uptoBulkAll l:=by
 induction l with
 | nil=>cases h
 | cons x r ih =>
  simp only [Rows.uptoBulkAll]
  rcases List.mem_cons.1 h with rfl | h
  · omega
  · have:=ih h; omega
theorem sum_mem (l:List ByteArray) (s:ByteArray) (h:s ∈ l):s.size≤(l.map ByteArray.size).sum:=by
 induction l with
 | nil=>cases h
 | cons x r ih =>
  rw [List.map_cons,List.sum_cons]
  rcases List.mem_cons.1 h with rfl | h
  · omega
  · have:=ih h; omega
theorem addr_none {w:World} {y:Addr} {v:Value} (h:w.cell? (y.add 0)=some v):∃ b o,y=⟨b,o,none⟩∧b < w.heap.size:=by
 obtain ⟨b,o,sp⟩:=y
 have hs:sp=none:=by simpa [Addr.add] using World.cell?_spot h
 subst hs
 refine ⟨b,o,rfl,?_⟩
 rw [add_mk] at h
 unfold World.cell? at h
 rcases Nat.lt_or_ge b w.heap.size with h' | h'
 · exact h'
 · simp [Array.getElem?_eq_none h'] at h
theorem strs_row {H:Type} {enc:TypeId × Value→H} {W:World} {T E:TypeId} (hT:Tryz.prog.underlying T=some (.slice E)) (hE:Tryz.prog.underlying E=some .string) (hc:Tryz.prog.cellsOf E=1) {fuel:Nat} {cs:List Value} {x:DataW H × List MemPlace}
 (h:DataW.trod enc Tryz.prog W 0 (fun _=>true) true fuel T cs=some x) :
 ∃ (a:Option Addr) (len cap b o:Nat) (l:List ByteArray),cs=[.slice a len cap]∧IsR fStr 1 W a len b o l∧len≤cap∧cap≤maxLen∧(a=none→len=0∧cap=0)∧(l.map ByteArray.size).sum+l.length≤Rows.uptoBulk x.1:=by
 rcases open_strings hT hE hc h with ⟨rfl,rfl⟩ | ⟨y,len,cap,ss,rfl,_,hl,hm,hz,rfl,hcell,hws⟩
 · exact ⟨none,0,0,0,0,[],rfl,IsR.nil _ _ _ _,by omega,by unfold maxLen; omega,fun _=>⟨rfl,rfl⟩,by simp⟩
 · simp at hz
   have hbk:((ss.take len).map ByteArray.size).sum+(ss.take len).length≤Rows.uptoBulk (.slice (strs (H:=H) (ss.take len)) (strs (ss.drop len))):=by
    rw [Rows.uptoBulk,bulk_strs]; omega
   by_cases h0:len=0
   · subst h0
     exact ⟨some y,0,cap,y.block,y.off,[],rfl,IsR.nil _ _ _ _,hl,hm,(fun h=>by cases h),by simp⟩
   · obtain ⟨b,o,rfl,hb⟩:=addr_none (hcell 0 (by omega))
     refine ⟨some ⟨b,o,none⟩,len,cap,b,o,ss.take len,rfl,⟨by rw [List.length_take]; omega,Or.inr ⟨rfl,hb⟩,fun k x hk j v hv=>?_⟩,hl,hm,(fun h=>by cases h),hbk⟩
     rw [List.getElem?_take] at hk
     split at hk
     · match j,hv with
       | 0,hv =>
        simp [fStr] at hv; subst hv
        have hlt:=(List.getElem?_eq_some_iff.1 hk).1
        have:=hcell k hlt
        rw [add_mk,List.getD_eq_getElem?_getD,hk] at this
        rw [Nat.mul_one,Nat.add_zero]; exact this
     · cases hk
end Go.Proofs.YtlkgnljdpakkcaaGreatDoor
/-
 A region that draws its order,reads first and then calls a loop's round: in the wide fence. Of no program.
-/
namespace Go.Proofs.YtlkgnljdpakkcaaGreatDoor
open Go.RowKit
section
variable {P:Program} {ops:Array Oper} {md:Region.Mode} {w:World} {n:Nat}
theorem wideOp_still {o:Oper} {a:Act} {K:Act→Prop} {K':Act→World→Prop} {Q':Exit→Act→World→Prop} (h:∀ a,K a→K' a w) (hh:o.still P a w K):o.wpIn Fence.wide n P a w K' Q':=by
 refine ⟨fun _ _=>trivial,?_⟩
 unfold Oper.still at hh
 rw [show Fence.wide.round=none from rfl,Oper.semAt_none]
 generalize (execOp a.eval o).run P w=r at *
 cases r with
 | ok m w' =>
  cases m <;> simp only [Oper.stillUpon] at hh <;> simp only [Oper.uponIn]
  case enter f args =>
   obtain ⟨rfl,v,hc,hn⟩:=hh
   exact ⟨fun e=>by simp [Fence.wide] at e,(callsIn_wide.2 hc).mono fun e w'' ⟨he,hw⟩=>by subst he; subst hw; exact h _ hn⟩
  all_goals (obtain ⟨rfl,h2⟩:=hh; exact h _ h2)
 | halt x w'=>simp only [Oper.stillUpon] at hh
theorem wideOp_of_stOp {i:Nat} {a:Act} {K:Act→Prop} {K':Act→World→Prop} {Q':Exit→Act→World→Prop} (h:∀ a,K a→K' a w) (hh:stOp P ops w i K a):wpOpIn Fence.wide n P ops Q' i K' a w:=by
 unfold stOp at hh
 unfold wpOpIn
 split
 · rename_i ho; simp only [ho] at hh; exact h _ hh
 · rename_i o ho
   simp only [ho] at hh
   split
   · rename_i hw; simp only [hw,if_true] at hh; exact wideOp_still h hh
   · rename_i hw; simp only [hw] at hh; exact ⟨fun _ _=>trivial,h _ hh⟩
theorem wideAny_of_head {k g:Nat} {L:Array Bool→Act→Prop} {Q':Exit→Act→World→Prop} (hL:∀ listed a,L listed a→wpAnyIn Fence.wide n P md ops Q' g listed a w) :
 ∀ (f:Nat) (listed:Array Bool) (a:Act),wpAnyL P md ops w k L f listed a→wpAnyIn Fence.wide n P md ops Q' (f+g) listed a w
 | 0,listed,a,h=>by rw [Nat.zero_add]; exact hL _ _ h
 | f+1,listed,a,h=>by
  rw [show f+1+g=(f+g)+1 by omega]
  exact ⟨fun h0=>absurd h0 h.1,fun i hi=>wideOp_of_stOp (fun a' h'=>wideAny_of_head hL f _ a' h') (h.2 i hi).2⟩
theorem wideAny_of_seq {Q':Exit→Act→World→Prop}:∀ (l:List Oper) (k:Nat) (listed:Array Bool) (a:Act) (w:World),(∀ j,l[j]?=ops[k+j]?) →
 Region.seqB md ops l.length k listed=true→wpListIn Fence.wide n P ops Q' l a w→wpAnyIn Fence.wide n P md ops Q' l.length listed a w
 | [],_,_,_,_,_,hB,h=>⟨by simpa [Region.seqB] using hB,h⟩
 | o :: l,k,listed,a,w,hl,hB,h=>by
  have h0:ops[k]?=some o:=by simpa using (hl 0).symm
  simp only [List.length_cons,Region.seqB,Bool.and_eq_true,decide_eq_true_eq] at hB
  refine ⟨fun h1=>(by rw [hB.1] at h1; cases h1),fun i hi=>?_⟩
  rw [hB.1] at hi
  have hik:i=k:=by simpa using hi
  subst hik
  have hw:wpOpIn Fence.wide n P ops Q' i (wpListIn Fence.wide n P ops Q' l) a w:=by unfold wpOpIn; simp only [h0]; exact h
  exact wpOpIn_mono (fun a' w' h'=>wideAny_of_seq l (i+1) _ a' w' (fun j=>by have:=hl (j+1); simpa [Nat.add_assoc,Nat.add_comm 1 j] using this) hB.2 h') hw
theorem wide_still_tail {id:Nat} {Q:Exit→Act→World→Prop} {a:Act} {w:World} {l:List Oper} (k:Nat) (hm:P.follows .mixedOrders=true) (hB:Region.lexTailB .any l.toArray k=true)
 (h:wpStill P l.toArray { w with drawn:=w.drawn+1 } (fun a'=>wpListIn Fence.wide n P l.toArray Q (l.drop k) a' { w with drawn:=w.drawn+1 }) (l.take k) a):(Code.region id l.toArray true).wpIn Fence.wide n P Q a w:=by
 simp only [Region.lexTailB,Bool.and_eq_true,decide_eq_true_eq] at hB
 obtain ⟨⟨⟨⟨hsel,hn⟩,hs⟩,hc⟩,hlex⟩:=hB
 have hn':k < l.length:=by simpa using hn
 have htl:(l.take k).length=k:=by simp; omega
 have hdl:(l.drop k).length=l.toArray.size - k:=by simp
 have inv0:HeadInv .any l.toArray k (Array.replicate l.toArray.size false) :=
  ⟨by simp,fun j oj _ hl=>(by rw [getD_replicate_false] at hl; cases hl),fun t _ ht=>getD_in (by simpa using ht) (getD_replicate_false _ _)⟩
 have H:=wpAnyL_lex (md:=.any) (g:=l.toArray.size - k) hsel hs hc hn (l.take k) 0 _ a (fun j hj=>by
  have hj':j < k:=by rw [htl] at hj; exact hj
  simp [hj']) (by simpa using htl) inv0 (by rw [htl]; exact hlex) h
 refine wpIn_region_any hm ?_
 have:=wideAny_of_head (n:=n) (Q':=Q) (g:=l.toArray.size - k) (fun listed a' hL=>by
  have:=wideAny_of_seq (n:=n) (md:=.any) (Q':=Q) (l.drop k) k listed a' { w with drawn:=w.drawn+1 } (fun j=>by simp [List.getElem?_drop]) (by rw [hdl]; exact hL.1) hL.2
  rwa [hdl] at this) _ _ _ H
 rw [htl,show k+(l.toArray.size - k)=l.toArray.size by omega] at this
 exact this
end
end Go.Proofs.YtlkgnljdpakkcaaGreatDoor
/-
 Maps whose keys are ints,their elements of whatever kind: a map as a function from numbers to values,and each operation on it. Plain; the program is named for the key's type alone.
-/
namespace Go.Proofs.YtlkgnljdpakkcaaGreatDoor
open Go.RowKit Go.Maps
def rv (v:Value):Option (DataW Value × List MemPlace):=some (.held v,[])
theorem Tryz.keyI:Keyed Tryz.prog 3:=int_keyed Tryz.underlying3
def mpf (D:DataW Value) (x:Int):Option Value:=match D.atKey (.int .i64 x) .nil with
 | .held v=>some v
 | _=>none
def IsMp (w:World) (b:Nat) (f:Int→Option Value) (n:Nat):Prop:=∃ D,w.ownsMap Tryz.prog 3 rv b n D∧∀ x,(Lit.int .i64 x).wf=true→f x=mpf D x
theorem keyI {x:Int} (h:(Lit.int .i64 x).wf=true):keyOf Tryz.prog 3 (.int .i64 x)=some (.int .i64 x):=Maps.keyOf_int_mk Tryz.underlying3 h
theorem wfI {x:Int} (h1 : -9223372036854775808≤x) (h2:x≤9223372036854775807):(Lit.int .i64 x).wf=true:=WalkArith.wf_i64 (by omega)
theorem isKeyI (x:Int):WideAt.IsKeyLit (.int .i64 x):=trivial
theorem mp_has {w:World} {b n:Nat} {D:DataW Value} (h:w.ownsMap Tryz.prog 3 rv b n D) {x:Int} (hx:(Lit.int .i64 x).wf=true) :
 (Maps.has D (.int .i64 x)=true∧∃ v,mpf D x=some v∧∀ z,D.atKey (.int .i64 x) z=.held v)∨(Maps.has D (.int .i64 x)=false∧mpf D x=none∧∀ z,D.atKey (.int .i64 x) z=z):=by
 obtain ⟨es,clock,hb,F,_,rfl⟩:=h
 cases hh:Maps.has (DataW.map ((es.toList.map (Go.WideElems.rg Tryz.prog 3 rv)).foldr DataW.insert [])) (.int .i64 x)
 · right
   have:=Maps.atKey_of_not_has hh
   exact ⟨rfl,by unfold mpf; rw [this],this⟩
 · left
   obtain ⟨p,hp,hpk⟩:=List.any_eq_true.1 hh
   have hs:(((es.toList.map (Go.WideElems.rg Tryz.prog 3 rv)).foldr DataW.insert []).find? (fun p=>p.1.sameKey (.int .i64 x))).isSome=true:=List.find?_isSome.2 ⟨p,hp,hpk⟩
   obtain ⟨q,hq⟩:=Option.isSome_iff_exists.1 hs
   have hqm:=List.mem_of_find?_eq_some hq
   obtain ⟨e,he,rfl⟩:=List.mem_map.1 (mem_sorted.1 hqm)
   obtain ⟨y,hy⟩:=F.reads e he
   obtain ⟨z,hz,hzd⟩:=Go.WideElems.rd_val hy
   have hv:(Go.WideElems.rg Tryz.prog 3 rv e).2=.held e.val:=by
    rw [Go.WideElems.rg_of hy,hzd]
    unfold rv at hz
    cases hz
    rfl
   have hat:∀ z,(DataW.map ((es.toList.map (Go.WideElems.rg Tryz.prog 3 rv)).foldr DataW.insert [])).atKey (.int .i64 x) z=.held e.val:=fun z=>by
    unfold DataW.atKey
    simp only [hq]; exact hv
   exact ⟨rfl,e.val,by unfold mpf; rw [hat],hat⟩
theorem IsMp.keep {w w':World} {b n:Nat} {f:Int→Option Value} {L:List Nat} (h:IsMp w b f n) (t:Tch L w w') (hne:b ∉ L):IsMp w' b f n:=by
 obtain ⟨D,⟨es,clock,hb,F,hs,hD⟩,h2⟩:=h
 exact ⟨D,⟨es,clock,t.keep hb hne,F,hs,hD⟩,h2⟩
theorem IsMp.lt {w:World} {b n:Nat} {f:Int→Option Value} (h:IsMp w b f n):b < w.heap.size:=by obtain ⟨D,h1,_⟩:=h; exact h1.lt
theorem IsMp.mono {w:World} {b n m:Nat} {f:Int→Option Value} (h:IsMp w b f n) (hn:n≤m):IsMp w b f m:=by obtain ⟨D,h1,h2⟩:=h; exact ⟨D,h1.mono hn,h2⟩
theorem IsMp.ne {w:World} {b c n:Nat} {f:Int→Option Value} {cs:Array Value} {t:TypeId} {z:Nat × Nat} (h:IsMp w b f n) (hc:w.heap[c]?=some (.cells cs t z)):b≠c:=fun e=>by
 obtain ⟨D,⟨es,clock,hb,_⟩,_⟩:=h
 subst e; rw [hb] at hc; cases hc
theorem IsMp.made (w:World):IsMp (w.alloc (.map #[] 0)) w.heap.size (fun _=>none) 0:=⟨.map [],World.ownsMap_made _ _ _ _,fun x _=>by unfold mpf DataW.atKey; rfl⟩
theorem IsMp.congr {w:World} {b n:Nat} {f g:Int→Option Value} (h:IsMp w b f n) (hfg:∀ x,(Lit.int .i64 x).wf=true→g x=f x):IsMp w b g n:=by
 obtain ⟨D,h1,h2⟩:=h; exact ⟨D,h1,fun x hx=>(hfg x hx).trans (h2 x hx)⟩
section
variable {w:World} {b n:Nat} {f:Int→Option Value} {t e:TypeId} {z:Value}
theorem IsMp.look_ok (h:IsMp w b f n) (ht:Tryz.prog.underlying t=some (.map 3 e)) (hz:(zeroValue e).run Tryz.prog w=.ok z w) {x:Int} (hx:(Lit.int .i64 x).wf=true) :
 (Instr.lookup t (.map (some b)) (.int .i64 x) true).run Tryz.prog w=.ok (.tuple #[(f x).getD z,.bool (f x).isSome]) w:=by
 obtain ⟨D,h1,h2⟩:=h
 obtain ⟨v,ps,hr,hv⟩:=h1.look_ok Tryz.keyI ht hz (zd:=.held z) (zp:=[]) rfl (keyI hx)
 rw [hr,h2 x hx]
 unfold rv at hv
 simp only [Option.some.injEq,Prod.mk.injEq] at hv
 rcases mp_has h1 hx with ⟨a1,u,a2,a3⟩ | ⟨a1,a2,a3⟩
 · rw [a3] at hv
   rw [a1,a2]
   have:=hv.1
   cases this
   rfl
 · rw [a3] at hv
   rw [a1,a2]
   have:=hv.1
   cases this
   rfl
theorem IsMp.look (h:IsMp w b f n) (ht:Tryz.prog.underlying t=some (.map 3 e)) (hz:(zeroValue e).run Tryz.prog w=.ok z w) {x:Int} (hx:(Lit.int .i64 x).wf=true) :
 (Instr.lookup t (.map (some b)) (.int .i64 x) false).run Tryz.prog w=.ok ((f x).getD z) w:=by
 obtain ⟨D,h1,h2⟩:=h
 obtain ⟨v,ps,hr,hv⟩:=h1.lookup Tryz.keyI ht hz (zd:=.held z) (zp:=[]) rfl (keyI hx)
 rw [hr,h2 x hx]
 unfold rv at hv
 simp only [Option.some.injEq,Prod.mk.injEq] at hv
 rcases mp_has h1 hx with ⟨a1,u,a2,a3⟩ | ⟨a1,a2,a3⟩
 · rw [a3] at hv
   rw [a2]
   have:=hv.1
   cases this
   rfl
 · rw [a3] at hv
   rw [a2]
   have:=hv.1
   cases this
   rfl
def updF (f:Int→Option Value) (x:Int) (v:Option Value):Int→Option Value:=fun y=>if y=x then v else f y
theorem IsMp.store (h:IsMp w b f n) (ht:Tryz.prog.underlying t=some (.map 3 e)) (hn:n < maxLen) {x:Int} (hx:(Lit.int .i64 x).wf=true) (v:Value) :
 ∃ w',(Instr.mapUpdate t (.map (some b)) (.int .i64 x) v).run Tryz.prog w=.ok () w'∧IsMp w' b (updF f x (some v)) (n+1)∧Tch [b] w w':=by
 obtain ⟨D,h1,h2⟩:=h
 obtain ⟨w',hr,h3,h4⟩:=h1.update Tryz.keyI ht hn (d:=.held v) (ps:=[]) (keyI hx) rfl
 refine ⟨w',hr,⟨_,h3,fun y hy=>?_⟩,⟨h4.os,h4.tape,h4.output,h4.size,fun k hk hn=>h4.block k hk (fun e=>by cases e; simp at hn)⟩⟩
 unfold updF mpf
 by_cases hyx:y=x
 · subst hyx
   rw [if_pos rfl,Maps.atKey_put_same (h1.isMap) (isKeyI y)]
 · rw [if_neg hyx,Maps.atKey_put_other (by simp [hyx])]
   exact h2 y hy
theorem IsMp.drop (h:IsMp w b f n) (ht:Tryz.prog.underlying t=some (.map 3 e)) {x:Int} (hx:(Lit.int .i64 x).wf=true) (ty:TypeId) :
 ∃ w',(Builtin.delete_ #[t,3] ty #[.map (some b),.int .i64 x]).run Tryz.prog w=.ok (.tuple #[]) w'∧IsMp w' b (updF f x none) n∧Tch [b] w w':=by
 obtain ⟨D,h1,h2⟩:=h
 obtain ⟨w',hr,h3,h4⟩:=h1.drop Tryz.keyI ht (keyI hx) ty
 have h5:=h4.grown
 refine ⟨w',hr,⟨_,h3,fun y hy=>?_⟩,⟨h5.os,h5.tape,h5.output,h5.size,fun k hk hn=>h5.block k hk (fun e=>by cases e; simp at hn)⟩⟩
 unfold updF mpf
 by_cases hyx:y=x
 · subst hyx
   rw [if_pos rfl,Maps.atKey_del_same]
 · rw [if_neg hyx,Maps.atKey_del_other (by simp [hyx])]
   exact h2 y hy
theorem mp_size {D:DataW Value} (h:w.ownsMap Tryz.prog 3 rv b n D) {S:List Int} (hS:S.Nodup) (hw:∀ x ∈ S,(Lit.int .i64 x).wf=true) (hf:∀ x,(Lit.int .i64 x).wf=true→(x ∈ S↔mpf D x≠none)):Maps.size D=S.length:=by
 obtain ⟨es,he,hd,hk⟩:=h.entries Tryz.keyI
 have h0:=h
 obtain ⟨es0,clock,hb,F,_,hD⟩:=h0
 have hint:∀ p ∈ es,∃ x,p.1=.int .i64 x∧(Lit.int .i64 x).wf=true:=fun p hp=>by
  rw [hD] at he
  cases he
  obtain ⟨e,he,rfl⟩:=List.mem_map.1 (mem_sorted.1 hp)
  obtain ⟨y,hy⟩:=F.reads e he
  obtain ⟨x,_,hx,hw⟩:=Maps.keyOf_int_inv Tryz.underlying3 (Go.WideElems.rd_key hy)
  exact ⟨x,by rw [Go.WideElems.rg_of hy]; exact hx,hw⟩
 subst he
 show es.length=S.length
 have hhas:∀ x,(Lit.int .i64 x).wf=true→(x ∈ S↔∃ p ∈ es,p.1=.int .i64 x):=fun x hx=>by
  rw [hf x hx]
  rcases mp_has h hx with ⟨a1,u,a2,_⟩ | ⟨a1,a2,_⟩
  · rw [a2]
    obtain ⟨p,hp,hpk⟩:=List.any_eq_true.1 a1
    exact ⟨fun _=>⟨p,hp,WideAt.sameKey_eq hpk⟩,fun _=>by simp⟩
  · rw [a2]
    refine ⟨fun hne=>absurd rfl hne,fun ⟨p,hp,hpk⟩=>?_⟩
    have:=List.any_eq_false.1 a1 p hp
    rw [hpk] at this
    simp [Lit.sameKey] at this
 have h1:(S.map fun x=>Lit.int .i64 x).length≤(es.map Prod.fst).length:=by
  refine List.Nodup.length_le_of_subset ?_ (fun l hl=>?_)
  · rw [List.nodup_iff_pairwise_ne,List.pairwise_map]
    exact (List.nodup_iff_pairwise_ne.1 hS).imp (fun hab e=>hab (by cases e; rfl))
  · obtain ⟨x,hx,rfl⟩:=List.mem_map.1 hl
    obtain ⟨p,hp,hpk⟩:=(hhas x (hw x hx)).1 hx
    exact List.mem_map.2 ⟨p,hp,hpk⟩
 have h2:(es.map Prod.fst).length≤(S.map fun x=>Lit.int .i64 x).length:=by
  refine List.Nodup.length_le_of_subset ?_ (fun l hl=>?_)
  · rw [List.nodup_iff_pairwise_ne,List.pairwise_map]
    exact hd
  · obtain ⟨p,hp,rfl⟩:=List.mem_map.1 hl
    obtain ⟨x,hx,hw⟩:=hint p hp
    exact List.mem_map.2 ⟨x,(hhas x hw).2 ⟨p,hp,hx⟩,hx.symm⟩
 simp only [List.length_map] at h1 h2
 omega
theorem IsMp.len (h:IsMp w b f n) (ht:Tryz.prog.underlying t=some (.map 3 e)) (ty:TypeId) {S:List Int} (hS:S.Nodup) (hw:∀ x ∈ S,(Lit.int .i64 x).wf=true) (hf:∀ x,(Lit.int .i64 x).wf=true→(x ∈ S↔f x≠none)) :
 (Builtin.len_ #[t] ty #[.map (some b)]).run Tryz.prog w=.ok (.int .i64 (S.length:Nat)) w:=by
 obtain ⟨D,h1,h2⟩:=h
 rw [h1.len ht ty,mp_size h1 hS hw (fun x hx=>by rw [hf x hx,h2 x hx])]
end
/-! ### ranging -/
def RgAt (w:World) (b r:Nat) (f:Int→Option Value) (cnt:Nat) (seen:List Int):Prop :=
 ∃ D left n,w.ranges Tryz.prog 3 rv b r n D left cnt∧(∀ x,(Lit.int .i64 x).wf=true→f x=mpf D x)∧seen.Nodup∧(∀ x ∈ seen,(Lit.int .i64 x).wf=true∧f x≠none)∧∀ x,(Lit.int .i64 x).wf=true→left (.int .i64 x)=((f x).isSome && decide (x ∉ seen))
theorem RgAt.keep {w w':World} {b r cnt:Nat} {f:Int→Option Value} {seen:List Int} {L:List Nat} (h:RgAt w b r f cnt seen) (t:Tch L w w') (h1:b ∉ L) (h2:r ∉ L):RgAt w' b r f cnt seen:=by
 obtain ⟨D,left,n,hr,rest⟩:=h
 refine ⟨D,left,n,?_,rest⟩
 obtain ⟨es,clock,since,sn,c0,hb,F,hs,hD,hri,r2⟩:=hr
 exact ⟨es,clock,since,sn,c0,t.keep hb h1,F,hs,hD,t.keep hri h2,r2⟩
theorem RgAt.neC {w:World} {b r c cnt:Nat} {f:Int→Option Value} {seen:List Int} {cs:Array Value} {t:TypeId} {z:Nat × Nat} (h:RgAt w b r f cnt seen) (hc:w.heap[c]?=some (.cells cs t z)):c≠b∧c≠r:=by
 obtain ⟨D,left,n,⟨es,clock,since,sn,c0,hb,F,hs,hD,hri,r2⟩,_⟩:=h
 exact ⟨(fun e=>by subst e; rw [hb] at hc; cases hc),(fun e=>by subst e; rw [hri] at hc; cases hc)⟩
section
variable (w:World) {ops:Array Oper} {rest:List Oper} {o:Oper} {a:Act} {Q:Exit→Act→World→Prop}
theorem wpList_lookup_mp (hg:o.guard=none) (m x:Operand) (t:TypeId) (hop:o.op=Op.lookup t m x false) (e:TypeId) {z:Value} (ht:Tryz.prog.underlying t=some (.map 3 e)) (hz:(zeroValue e).run Tryz.prog w=.ok z w) (b n:Nat) (f:Int→Option Value)
 (hm:a.eval m=.map (some b)) (h:IsMp w b f n) (k:Int) (hx:a.eval x=.int .i64 k) (hk:(Lit.int .i64 k).wf=true) (val:Value) (hval:(f k).getD z=val) (hK:wpList Tryz.prog ops Q rest (a.put o.dst val) w):wpList Tryz.prog ops Q (o :: rest) a w:=by
 subst hval
 refine wpList_plain hg fun K' hK'=>?_
 unfold Oper.wp
 simp [execOp,hop,hm,hx,h.look ht hz hk,Result.andThen]
 exact hK' _ _ hK
theorem wpList_lookup_mp_ok (hg:o.guard=none) (m x:Operand) (t:TypeId) (hop:o.op=Op.lookup t m x true) (e:TypeId) {z:Value} (ht:Tryz.prog.underlying t=some (.map 3 e)) (hz:(zeroValue e).run Tryz.prog w=.ok z w) (b n:Nat) (f:Int→Option Value)
 (hm:a.eval m=.map (some b)) (h:IsMp w b f n) (k:Int) (hx:a.eval x=.int .i64 k) (hk:(Lit.int .i64 k).wf=true) (val:Value) (hval:(f k).getD z=val) (s:Bool) (hs:(f k).isSome=s) (hK:wpList Tryz.prog ops Q rest (a.put o.dst (.tuple #[val,.bool s])) w):wpList Tryz.prog ops Q (o :: rest) a w:=by
 subst hval; subst hs
 refine wpList_plain hg fun K' hK'=>?_
 unfold Oper.wp
 simp [execOp,hop,hm,hx,h.look_ok ht hz hk,Result.andThen]
 exact hK' _ _ hK
theorem wpList_store_mp (hg:o.guard=none) (m x v:Operand) (t:TypeId) (hop:o.op=Op.mapUpdate t m x v) (e:TypeId) (ht:Tryz.prog.underlying t=some (.map 3 e)) (b n:Nat) (f:Int→Option Value)
 (hm:a.eval m=.map (some b)) (h:IsMp w b f n) (hn:n < maxLen) (k:Int) (hx:a.eval x=.int .i64 k) (hk:(Lit.int .i64 k).wf=true) (hK:∀ w',IsMp w' b (updF f k (some (a.eval v))) (n+1)→Tch [b] w w'→wpList Tryz.prog ops Q rest (a.put o.dst undef) w'):wpList Tryz.prog ops Q (o :: rest) a w:=by
 refine wpList_plain hg fun K' hK'=>?_
 obtain ⟨w',hr,h1,h2⟩:=h.store ht hn hk (a.eval v)
 unfold Oper.wp
 obtain ⟨vv,hvv⟩:∃ vv,vv=a.eval v:=⟨_,rfl⟩
 rw [← hvv] at hr h1
 simp [execOp,hop,hm,hx,← hvv,hr,Result.andThen]
 rw [hvv] at h1
 exact hK' _ _ (hK w' h1 h2)
theorem wpList_delete_mp (hg:o.guard=none) (m x:Operand) (t:TypeId) (hop:o.op=Op.call { callee:=Callee.builtin Builtin.delete,args:=#[m,x],argTypes:=#[t,3] }) (e:TypeId) (ht:Tryz.prog.underlying t=some (.map 3 e)) (b n:Nat) (f:Int→Option Value)
 (hm:a.eval m=.map (some b)) (h:IsMp w b f n) (k:Int) (hx:a.eval x=.int .i64 k) (hk:(Lit.int .i64 k).wf=true) (hK:∀ w',IsMp w' b (updF f k none) n→Tch [b] w w'→wpList Tryz.prog ops Q rest (a.put o.dst (.tuple #[])) w'):wpList Tryz.prog ops Q (o :: rest) a w:=by
 refine wpList_plain hg fun K' hK'=>?_
 obtain ⟨w',hr,h1,h2⟩:=h.drop ht hk o.type
 unfold Oper.wp
 simp [execOp,hop,resolve,invoke,builtin,hm,hx,hr,Result.andThen]
 exact hK' _ _ (hK w' h1 h2)
theorem wpList_len_mp (hg:o.guard=none) (m:Operand) (t:TypeId) (hop:o.op=Op.call { callee:=Callee.builtin Builtin.len,args:=#[m],argTypes:=#[t] }) (e:TypeId) (ht:Tryz.prog.underlying t=some (.map 3 e)) (b n:Nat) (f:Int→Option Value)
 (hm:a.eval m=.map (some b)) (h:IsMp w b f n) {S:List Int} (hS:S.Nodup) (hw:∀ x ∈ S,(Lit.int .i64 x).wf=true) (hf:∀ x,(Lit.int .i64 x).wf=true→(x ∈ S↔f x≠none)) (hK:wpList Tryz.prog ops Q rest (a.put o.dst (.int .i64 (S.length:Nat))) w):wpList Tryz.prog ops Q (o :: rest) a w:=by
 refine wpList_plain hg fun K' hK'=>?_
 unfold Oper.wp
 simp [execOp,hop,resolve,invoke,builtin,hm,h.len ht o.type hS hw hf,Result.andThen]
 exact hK' _ _ hK
theorem wpList_range_mp (hg:o.guard=none) (m:Operand) (t:TypeId) (hop:o.op=Op.range t m) (e:TypeId) (ht:Tryz.prog.underlying t=some (.map 3 e)) (b n:Nat) (f:Int→Option Value)
 (hm:a.eval m=.map (some b)) (h:IsMp w b f n) (hK:∀ w' cnt,RgAt w' b w.heap.size f cnt []→Tch [] w w'→w'.heap.size=w.heap.size+1→wpList Tryz.prog ops Q rest (a.put o.dst (.pointer (some ⟨w.heap.size,0,none⟩))) w'):wpList Tryz.prog ops Q (o :: rest) a w:=by
 obtain ⟨D,h1,h2⟩:=h
 refine wpList_range_own w hg m t hop 3 e Tryz.keyI ht rv b n D hm h1 (fun w' r1 r2 r3=>?_)
 refine hK w' _ ⟨D,_,n,r1,h2,by simp,by simp,fun x hx=>?_⟩ ⟨r2.os,r2.tape,r2.output,r2.size,fun k hk _=>r2.block k hk (by simp)⟩ r3
 rw [h2 x hx]
 rcases mp_has h1 hx with ⟨a1,u,a2,_⟩ | ⟨a1,a2,_⟩
 · rw [a1,a2]; rfl
 · rw [a1,a2]; rfl
theorem wpList_next_mp (hg:o.guard=none) (it:Operand) (hop:o.op=Op.next it false) (b r:Nat) (f:Int→Option Value) (cnt:Nat) (seen:List Int) (hit:a.eval it=.pointer (some ⟨r,0,none⟩)) (h:RgAt w b r f cnt seen)
 (hDone:(∀ x,(Lit.int .i64 x).wf=true→f x≠none→x ∈ seen)→wpList Tryz.prog ops Q rest (a.put o.dst (.tuple #[.bool false])) w)
 (hMore:∀ (x:Int) (v:Value) (w':World) (cnt':Nat),(Lit.int .i64 x).wf=true→f x=some v→x ∉ seen→RgAt w' b r f cnt' (seen++[x])→cnt' < cnt→Tch [r] w w'→w'.heap.size=w.heap.size →
  (Instr.entry (.pointer (some ⟨r,0,none⟩))).run Tryz.prog w'=.ok (.tuple #[.int .i64 x,v]) w'→wpList Tryz.prog ops Q rest (a.put o.dst (.tuple #[.bool true,.int .i64 x,v])) w') :
 wpList Tryz.prog ops Q (o :: rest) a w:=by
 obtain ⟨D,left,n,hr,h2,h3,h4,h5⟩:=h
 refine wpList_next_ranges w hg it hop 3 Tryz.keyI rv (Value.int .i64) id (fun key kl hkey=>by obtain ⟨x,rfl,_⟩:=Maps.keyOf_int_inv Tryz.underlying3 hkey; exact ⟨x,rfl⟩) (fun v y hv=>⟨v,rfl⟩) b r n D left cnt hit hr (fun _ hl=>hDone fun x hx hne=>?_) (fun x c kl y w' cnt' hkey hlk hv hat hrg hlt hgr hsz hen=>?_)
 · have h6:=h5 x hx
   rw [hl] at h6
   cases hfx:f x with
   | none=>exact absurd hfx hne
   | some v=>rw [hfx] at h6; simpa using h6
 · obtain ⟨x',ex,rfl,hwx⟩:=Maps.keyOf_int_inv Tryz.underlying3 hkey
   cases ex
   have h6:=h5 x hwx
   rw [hlk] at h6
   have hfx:f x=some c:=by
    rw [h2 x hwx]
    unfold mpf
    rw [hat]
    unfold rv at hv
    simp only [id,Option.some.injEq] at hv
    rw [← hv]
   have hns:x ∉ seen:=by rw [hfx] at h6; simpa using h6.symm
   refine hMore x c w' cnt' hwx hfx hns ⟨D,_,n,hrg,h2,?_,fun y hy=>?_,fun y hy=>?_⟩ hlt ⟨hgr.os,hgr.tape,hgr.output,hgr.size,fun k hk hn=>hgr.block k hk (fun e=>by cases e; simp at hn)⟩ hsz hen
   · rw [List.nodup_append]
     refine ⟨h3,by simp,fun a ha b hb hab=>?_⟩
     simp only [List.mem_singleton] at hb
     subst hb; subst hab
     exact hns ha
   · rcases List.mem_append.1 hy with hy | hy
     · exact h4 y hy
     · simp only [List.mem_singleton] at hy; subst hy; exact ⟨hwx,by rw [hfx]; simp⟩
   · show (left (.int .i64 y) && !(Lit.int .i64 y).sameKey (.int .i64 x))=_
     rw [h5 y hy]
     simp only [Lit.sameKey,List.mem_append,List.mem_singleton,not_or,true_and]
     cases (f y).isSome
     · simp
     · by_cases hyx:y=x <;> by_cases hys:y ∈ seen <;> simp [hyx,hys]
end
end Go.Proofs.YtlkgnljdpakkcaaGreatDoor
