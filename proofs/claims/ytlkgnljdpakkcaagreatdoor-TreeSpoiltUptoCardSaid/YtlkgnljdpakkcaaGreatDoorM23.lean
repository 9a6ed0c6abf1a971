/-
  Parts of the proof: Slf, Srt, Tln, Lod.
-/
import Derived.Shelf.SlSortCmp.NoneTotal
import Derived.Shelf.SlicesG.Cmp
import Derived.Test.YtlkgnljdpakkcaaGreatDoorProg
import Derived.Test.YtlkgnljdpakkcaaGreatDoorM09
import Derived.Sort.OwnSorted
import Derived.Test.YtlkgnljdpakkcaaGreatDoorM16
import Derived.Deep.LoopGhost
import Derived.Maps.RangeWalk
import Derived.Test.YtlkgnljdpakkcaaGreatDoorM20
set_option linter.unusedVariables false
set_option linter.unusedSimpArgs false
/-
 DERIVED: THE SHELF's CONTRACTS AT THIS DUMP,IN PLAIN WORDS (tools/lay-plain.mjs out of 'YtlkgnljdpakkcaaGreatDoorSlf.lean',which tools/lay-shelf.mjs wrote): THE SAME DECLARATIONS UNDER THE SAME NAMES: 'import','namespace','open','def','theorem' AND NOTHING ELSE: no command of the shelf's: FOR A HAND-IN. Each laying: the table of numbers ('.._ren') and one theorem,a field a fact of the dump's own or the kernel's comparison; each contract: ONE APPLICATION.
-/
namespace Go.Proofs
open Go.Shelf
def Tryz.laySort_ren:Go.Shelf.Ren:=⟨fun | 6=>105 | 15=>147 | 14=>146 | 28=>185 | 29=>186 | 20=>177 | 21=>178 | 22=>179 | 23=>180 | 24=>181 | 25=>182 | 26=>183 | 27=>184 | 46=>209 | 47=>210 | 48=>211 | 49=>212 | 50=>213 | 57=>233 | n=>n,fun | 22=>152 | 24=>206 | 25=>211 | 3=>3 | 39=>245 | 0=>0 | 53=>113 | 55=>185 | 4=>4 | 46=>278 | 45=>277 | 50=>139 | 5=>5 | 9=>9 | 66=>311 | 70=>315 | 76=>336 | 77=>337 | n=>n,fun | n=>n⟩
theorem Tryz.laySort:Go.Proofs.SlLaysF0.n6 Tryz.prog Tryz.laySort_ren:={
 mixed:=by kernel_rfl
 f6:=⟨Tryz.f105.name,by decide,Tryz.func105.trans (congrArg some (by kernel_rfl))⟩
 f14:=⟨Tryz.f146.name,by decide,Tryz.func146.trans (congrArg some (by kernel_rfl))⟩
 f15:=Tryz.func147.trans (congrArg some (by kernel_rfl))
 f20:=⟨Tryz.f177.name,by decide,Tryz.func177.trans (congrArg some (by kernel_rfl))⟩
 f21:=⟨Tryz.f178.name,by decide,Tryz.func178.trans (congrArg some (by kernel_rfl))⟩
 f22:=⟨Tryz.f179.name,by decide,Tryz.func179.trans (congrArg some (by kernel_rfl))⟩
 f23:=⟨Tryz.f180.name,by decide,Tryz.func180.trans (congrArg some (by kernel_rfl))⟩
 f24:=⟨Tryz.f181.name,by decide,Tryz.func181.trans (congrArg some (by kernel_rfl))⟩
 f25:=⟨Tryz.f182.name,by decide,Tryz.func182.trans (congrArg some (by kernel_rfl))⟩
 f26:=⟨Tryz.f183.name,by decide,Tryz.func183.trans (congrArg some (by kernel_rfl))⟩
 f27:=⟨Tryz.f184.name,by decide,Tryz.func184.trans (congrArg some (by kernel_rfl))⟩
 f28:=Tryz.func185.trans (congrArg some (by kernel_rfl))
 f29:=Tryz.func186.trans (congrArg some (by kernel_rfl))
 f46:=⟨Tryz.f209.name,by decide,Tryz.func209.trans (congrArg some (by kernel_rfl))⟩
 f47:=Tryz.func210.trans (congrArg some (by kernel_rfl))
 f48:=Tryz.func211.trans (congrArg some (by kernel_rfl))
 f49:=⟨Tryz.f212.name,by decide,Tryz.func212.trans (congrArg some (by kernel_rfl))⟩
 f50:=⟨Tryz.f213.name,by decide,Tryz.func213.trans (congrArg some (by kernel_rfl))⟩
 f57:=⟨Tryz.f233.name,by decide,Tryz.func233.trans (congrArg some (by kernel_rfl))⟩
 t0:=Tryz.underlying0
 a0:=Tryz.isAgg0
 z0:=Tryz.sizeOf0
 v0:=Tryz.zeroValue0
 t3:=Tryz.underlying3
 a3:=Tryz.isAgg3
 z3:=Tryz.sizeOf3
 v3:=Tryz.zeroValue3
 t4:=Tryz.underlying4
 a4:=Tryz.isAgg4
 z4:=Tryz.sizeOf4
 v4:=Tryz.zeroValue4
 t5:=Tryz.underlying5
 a5:=Tryz.isAgg5
 z5:=Tryz.sizeOf5
 v5:=Tryz.zeroValue5
 t9:=Tryz.underlying9
 a9:=Tryz.isAgg9
 z9:=Tryz.sizeOf9
 v9:=Tryz.zeroValue9
 t22:=Tryz.underlying152
 a22:=Tryz.isAgg152
 z22:=Tryz.sizeOf152
 v22:=Tryz.zeroValue152
 t25:=Tryz.underlying211
 a25:=Tryz.isAgg211
 z25:=Tryz.sizeOf211
 v25:=Tryz.zeroValue211
 t39:=Tryz.underlying245
 a39:=Tryz.isAgg245
 z39:=Tryz.sizeOf245
 v39:=Tryz.zeroValue245
 t45:=Tryz.underlying277
 a45:=Tryz.isAgg277
 z45:=Tryz.sizeOf277
 v45:=Tryz.zeroValue277
 t46:=Tryz.underlying278
 a46:=Tryz.isAgg278
 z46:=Tryz.sizeOf278
 v46:=Tryz.zeroValue278
 t50:=Tryz.underlying139
 a50:=Tryz.isAgg139
 z50:=Tryz.sizeOf139
 v50:=Tryz.zeroValue139
 t53:=Tryz.underlying113
 a53:=Tryz.isAgg113
 z53:=Tryz.sizeOf113
 v53:=Tryz.zeroValue113
 t55:=Tryz.underlying185
 a55:=Tryz.isAgg185
 z55:=Tryz.sizeOf185
 v55:=Tryz.zeroValue185
 t66:=Tryz.underlying311
 a66:=Tryz.isAgg311
 z66:=Tryz.sizeOf311
 v66:=Tryz.zeroValue311
 t70:=Tryz.underlying315
 a70:=Tryz.isAgg315
 z70:=Tryz.sizeOf315
 v70:=Tryz.zeroValue315
 t76:=Tryz.underlying336
 a76:=Tryz.isAgg336
 z76:=Tryz.sizeOf336
 v76:=Tryz.zeroValue336
 t77:=Tryz.underlying337
 a77:=Tryz.isAgg337
 z77:=Tryz.sizeOf337
 v77:=Tryz.zeroValue337 }
def Tryz.layCmp_ren:Go.Shelf.Ren:=⟨fun | 5=>107 | 7=>148 | n=>n,fun | 22=>3 | 3=>3 | 4=>4 | n=>n,fun | n=>n⟩
theorem Tryz.layCmp:Go.Proofs.SlLaysC2.n5 Tryz.prog Tryz.layCmp_ren:={
 mixed:=by kernel_rfl
 f5:=⟨Tryz.f107.name,by decide,Tryz.func107.trans (congrArg some (by kernel_rfl))⟩
 f7:=⟨Tryz.f148.name,by decide,Tryz.func148.trans (congrArg some (by kernel_rfl))⟩
 t3:=Tryz.underlying3
 a3:=Tryz.isAgg3
 z3:=Tryz.sizeOf3
 v3:=Tryz.zeroValue3
 t4:=Tryz.underlying4
 a4:=Tryz.isAgg4
 z4:=Tryz.sizeOf4
 v4:=Tryz.zeroValue4
 t22:=Tryz.underlying3
 a22:=Tryz.isAgg3
 z22:=Tryz.sizeOf3
 v22:=Tryz.zeroValue3 }
end Go.Proofs
/-
 A list of changes,put in order by their numbers.
-/
namespace Go.Proofs.YtlkgnljdpakkcaaGreatDoor
open Go.RowKit Go.Lib Go.Sort
def encC (c:Int × ByteArray):List Value:=[.int .i64 c.1,.string c.2]
theorem encC_one (c:Int × ByteArray):∀ v ∈ encC c,v.oneCell'=true:=fun v hv=>by
 simp only [encC,List.mem_cons,List.not_mem_nil,or_false] at hv
 rcases hv with rfl | rfl <;> rfl
theorem encC_at:∀ (L:List (Int × ByteArray)) (t:Nat),t < L.length * 2→(L.flatMap encC)[t]?=some ((encC (L.getD (t / 2) default))[t % 2]!)
 | [],t,h=>by simp at h
 | c :: L,0,_=>rfl
 | c :: L,1,_=>rfl
 | c :: L,t+2,h=>by
  have ih:=encC_at L t (by simp only [List.length_cons] at h; omega)
  rw [List.flatMap_cons,show (encC c++L.flatMap encC)[t+2]?=(L.flatMap encC)[t]? from rfl,ih,show (t+2) / 2=t / 2+1 by omega,show (t+2) % 2=t % 2 by omega,List.getD_cons_succ]
theorem encC_len (L:List (Int × ByteArray)):(L.flatMap encC).length=L.length * 2:=by
 induction L with
 | nil=>rfl
 | cons c L ih=>rw [List.flatMap_cons,List.length_append,ih,List.length_cons]; show 2+_=_; omega
theorem flatC (L:List (Int × ByteArray)):(flatK encC 2 L.toArray).toList=L.flatMap encC:=by
 apply List.ext_getElem?
 intro t
 by_cases h:t < L.length * 2
 · rw [encC_at L t h,Array.getElem?_toList]
   have hs:t < (flatK encC 2 L.toArray).size:=by rw [size_flatK]; exact h
   have e:=get_flatK encC 2 L.toArray t (by simpa using h)
   rw [getElem!_pos _ t hs] at e
   rw [Array.getElem?_eq_getElem hs,e]
   congr 3
   have h2:t / 2 < L.length:=by omega
   simp [List.getD_eq_getElem?_getD,h2]
 · rw [List.getElem?_eq_none (by rw [Array.length_toList,size_flatK]; simpa using h),List.getElem?_eq_none (by rw [encC_len]; omega)]
theorem holdsC {w:World} {g:Nat} {cur:Array Value} {L:List (Int × ByteArray)} (hb:w.heap[g]?=some (.cells cur 206 (0,0))) (ht:cur.toList.take (L.length * 2)=L.flatMap encC):HoldsK encC 2 w g 0 L.toArray:=by
 intro j hj
 rw [size_flatK] at hj
 have hj':j < L.length * 2:=by simpa using hj
 have hs:j < (flatK encC 2 L.toArray).size:=by rw [size_flatK]; exact hj
 refine ⟨?_,by simp [World.frozen?,hb]⟩
 have h1:(cur.toList.take (L.length * 2))[j]?=(L.flatMap encC)[j]?:=by rw [ht]
 rw [List.getElem?_take_of_lt hj',← flatC,Array.getElem?_toList,Array.getElem?_toList,Array.getElem?_eq_getElem hs] at h1
 rw [blk_cell hb,Nat.zero_add,h1,getElem!_pos _ j hs]
 rfl
theorem ownC {w:World} {B g cap n m:Nat} {os:Array Obj} {cur:Array Value} {L:List (Int × ByteArray)} (hl:L.length=m) (hB:B≤g) (hb:w.heap[g]?=some (.cells cur 206 (0,0))) (h1:m≤cap) (h2:cap≤maxLen) (h3:cur.size=cap * 2) :
 (sortWorldK encC 2 w g 0 n L.toArray os).ownsRow B 206 2 (.slice (some ⟨g,0,none⟩) m cap) m (L.flatMap encC):=by
 subst hl
 have hg:g < w.heap.size:=(Array.getElem?_eq_some_iff.1 hb).1
 refine ⟨encC_len L,.inr ⟨g,cap,putCells id 0 (flatK encC 2 L.toArray) cur,rfl,hB,?_,h1,h2,by simp [putCells,h3],?_⟩⟩
 · unfold sortWorldK putRowK
   rw [heap_grow_old _ _ (by simpa using hg)]
   simp [putRow,mapBlock,Sort.ahead,Array.getElem?_modify,hb,onCells]
 · rw [← flatC]
   have hsz:(flatK encC 2 L.toArray).size=L.length * 2:=by rw [size_flatK]; simp
   apply List.ext_getElem?
   intro j
   by_cases hj:j < L.length * 2
   · rw [List.getElem?_take_of_lt hj,Array.getElem?_toList,Array.getElem?_toList]
     have hs:j < (flatK encC 2 L.toArray).size:=by rw [hsz]; exact hj
     rw [Array.getElem?_eq_getElem hs]
     unfold putCells
     rw [Array.getElem?_mapIdx,Array.getElem?_eq_getElem (show j < cur.size by omega)]
     simp only [Option.map_some,Nat.zero_le,true_and,Nat.zero_add,Nat.sub_zero,id]
     rw [if_pos hs,getElem!_pos _ j hs]
   · rw [List.getElem?_eq_none (by rw [List.length_take]; omega),List.getElem?_eq_none (by rw [Array.length_toList,hsz]; omega)]
theorem tchC {w:World} {g n:Nat} {os:Array Obj} (d:Array (Int × ByteArray)):Tch [g] w (sortWorldK encC 2 w g 0 n d os):=by
 refine ⟨rfl,rfl,rfl,by simp [sortWorldK,putRowK],fun k hk hne=>?_⟩
 unfold sortWorldK putRowK
 rw [heap_grow_old _ _ (by simpa using hk)]
 have:g≠k:=fun e=>hne (by rw [e]; simp)
 simp [putRow,mapBlock,Sort.ahead,Array.getElem?_modify,this]
theorem ltC (x y:Int × ByteArray):ltOf (fun x y:Int × ByteArray=>Lib.compareInt x.1 y.1) x y=decide (x.1 < y.1):=by
 unfold ltOf Lib.compareInt
 by_cases h1:x.1 < y.1
 · simp [h1]
 · by_cases h2:y.1 < x.1 <;> simp [h1,h2]
theorem swoC:SWO (ltOf fun x y:Int × ByteArray=>Lib.compareInt x.1 y.1) where
 irrefl x:=by rw [ltC]; simp
 trans x y z h1 h2:=by rw [ltC] at *; simp at *; omega
 ntrans x y z h1 h2:=by rw [ltC] at *; simp at *; omega
set_option maxHeartbeats 1000000 in
theorem cmpC (x y:Int × ByteArray) (W:World):Calls Tryz.prog 106 #[.agg #[.int .i64 x.1,.string x.2],.agg #[.int .i64 y.1,.string y.2]] W fun e w'=>e=.returned (.int .i64 (Lib.compareInt x.1 y.1))∧∃ q os',w'=grow (W.drewN q) os':=by
 have hcon:=fun W'=>AnyG.cmp_Compare_int Tryz.layCmp x.1 y.1 W'
 change ∀ W',Calls Tryz.prog 107 _ _ _ at hcon
 generalize Lib.compareInt x.1 y.1=r at hcon ⊢
 go_enter Tryz.func106,Tryz.ntmps106
 go_wp2_with (go_at_call 107; refine (hcon _).mono ?_; rintro e w' ⟨rfl,rfl⟩)
 go_ret
 exact ⟨rfl,0,_,by rw [alloc_eq_grow,alloc_eq_grow,grow_grow]; rfl⟩
def SoPost (w:World) (B:Nat) (v:Value) (L:List (Int × ByteArray)) (e:Ending) (w':World):Prop :=
 e=.returned (.tuple #[])∧∃ L':List (Int × ByteArray),L'.Perm L∧w'.ownsRow B 206 2 v L'.length (L'.flatMap encC)∧Below B w w'
set_option maxHeartbeats 1000000 in
theorem sort_any (B c:Nat) (a:Option Addr) (L:List (Int × ByteArray)) (w:World) (h:w.ownsRow B 206 2 (.slice a L.length c) L.length (L.flatMap encC)) (hl:L.length≤1000000000) (hB:B≤w.heap.size) :
 Calls Tryz.prog 105 #[.slice a L.length c,.func (.func 106) #[] #[]] w (SoPost w B (.slice a L.length c) L):=by
 rcases h.2 with ⟨h1,h2⟩ | ⟨g,cap,cur,h1,h3,h4,h5,h6,h7,h8⟩
 · have hn:L=[]:=List.eq_nil_of_length_eq_zero h2
   subst hn
   have hcon:=AnyF.slices_SortFunc_none Tryz.laySort a c (.func (.func 106) #[] #[]) w
   change Calls Tryz.prog 105 _ _ _ at hcon
   refine hcon.mono ?_
   rintro e w' ⟨rfl,rfl⟩
   exact ⟨rfl,[],List.Perm.refl _,h,Below.refl _ _⟩
 · simp only [Value.slice.injEq] at h1
   obtain ⟨rfl,_,rfl⟩:=h1
   have eg:∀ args w,(callFunc 106 args).run Tryz.prog w=.ok (.enter 106 args) w:=enters_of Tryz.func106 (by kernel_rfl) rfl
   have hcon:=AnyQ.slices_SortFunc Tryz.laySort 2 Tryz.isAgg206 Tryz.sizeOf206 encC (fun _=>rfl) (fun x v hv=>encC_one x v hv) (fun x y=>Lib.compareInt x.1 y.1) swoC 106 #[] g 0 c L.toArray w eg (fun _ _ _ _ x y=>cmpC x y _) (holdsC h4 h8) (Array.getElem?_eq_some_iff.1 h4).1 (by simp; omega)
   change Calls Tryz.prog 105 _ _ _ at hcon
   refine hcon.mono ?_
   rintro e w' ⟨rfl,d',n,os,⟨p1,_,p3⟩,_,rfl⟩
   have hp:d'.toList.Perm L:=by
    have e1:(d'.extract 0 L.toArray.size).toList=d'.toList:=by rw [← p1]; simp
    have e2:(L.toArray.extract 0 L.toArray.size).toList=L:=by simp
    rw [e1,e2] at p3
    exact p3
   refine ⟨rfl,d'.toList,hp,?_,(tchC d').below hB (by simpa using h3)⟩
   have:=ownC (L:=d'.toList) (n:=n) (os:=os) (hp.length_eq) h3 h4 h5 h6 h7
   rw [Array.toArray_toList] at this
   rw [hp.length_eq]
   exact this
end Go.Proofs.YtlkgnljdpakkcaaGreatDoor
/-
 'Len' and 'Sectors' of a tree. Condition: its nodes are as many as sectors at most.
-/
namespace Go.Proofs.YtlkgnljdpakkcaaGreatDoor
open Go.RowKit
structure Dom (T:Tv) (S:List Int):Prop where
 nd:S.Nodup
 is:∀ x,x ∈ S↔T.f x≠none
def cntL (M:Int→Nod) (l:List Int):Nat:=(l.map fun x=>if (M x).leaf then (M x).es.length else 0).sum
theorem cntL_app (M:Int→Nod) (l m:List Int):cntL M (l++m)=cntL M l+cntL M m:=by unfold cntL; rw [List.map_append,List.sum_append]
theorem cntL_perm {M:Int→Nod} {l m:List Int} (h:l.Perm m):cntL M l=cntL M m:=(h.map _).sum_nat
theorem cnt_nums {M:Int→Nod}:∀ {h:Nat} {a:Int},Sh M h a→cntL M (nums M h a)=(flat M h a).length
 | 0,a,hs=>by unfold cntL; simp [nums,flat,hs.1.1]
 | h+1,a,hs=>by
  rw [nums,flat,show a :: (M a).es.flatMap (fun e=>nums M h e.kid)=[a]++(M a).es.flatMap (fun e=>nums M h e.kid) from rfl,cntL_app]
  have e0:cntL M [a]=0:=by unfold cntL; simp [hs.1.1]
  rw [e0,Nat.zero_add]
  have hk:∀ e ∈ (M a).es,Sh M h e.kid:=fun e he=>(hs.1.2 e he).1
  generalize (M a).es=l at hk
  induction l with
  | nil=>rfl
  | cons e l ih=>rw [List.flatMap_cons,List.flatMap_cons,cntL_app,List.length_append,cnt_nums (hk e (by simp)),ih (fun e he=>hk e (by simp [he]))]
def LenRel (w:World) (T:Tv) (n:Nat) (r:Nat) (v3:Value) (wr:World):Prop :=
 ∃ (seen:List Int),RgAt wr T.mb r (fun x=>(T.f x).map vNv) n seen∧v3=.int .i64 (cntL (mN T.f) seen:Nat)∧Tch [] w wr∧w.heap.size≤r
def IntPost (x:Nat) (w:World) (e:Ending) (w':World):Prop:=e=.returned (.int .i64 (x:Nat))∧Tch [] w w'
set_option maxRecDepth 100000 in
set_option maxHeartbeats 1000000 in
theorem tlen_nil (w:World):Calls Tryz.prog 30 #[.pointer none] w (IntPost 0 w):=by
 have HF:Hid (IntPost 0 w (.returned (.int .i64 0)) w):=⟨rfl,Tch.refl _ _⟩
 generalize IntPost 0 w=Q at *
 go_enter Tryz.func30,Tryz.ntmps30
 go_wp2_with fail
 first | exact HF.out | (go_ret; exact HF.out)
set_option maxRecDepth 100000 in
set_option maxHeartbeats 1000000 in
theorem sectors_nil (w:World):Calls Tryz.prog 31 #[.pointer none] w (IntPost 0 w):=by
 have HF:Hid (IntPost 0 w (.returned (.int .i64 0)) w):=⟨rfl,Tch.refl _ _⟩
 generalize IntPost 0 w=Q at *
 go_enter Tryz.func31,Tryz.ntmps31
 go_wp2_with fail
 first | exact HF.out | (go_ret; exact HF.out)
set_option maxRecDepth 100000 in
set_option maxHeartbeats 1000000 in
theorem sectors_any (tb:Nat) (T:Tv) (S:List Int) (w:World) (ht:IsTr w tb T) (hS:Dom T S) (hl:S.length≤16384):Calls Tryz.prog 31 #[.pointer (some ⟨tb,0,none⟩)] w (IntPost (1+S.length) w):=by
 have HF:Hid (IntPost (1+S.length) w (.returned (.int .i64 ((1:Int)+(S.length:Nat)))) w):=⟨by rw [show ((1+S.length:Nat):Int)=1+(S.length:Int) from by omega],Tch.refl _ _⟩
 have c2:=blk_cell ht.blk 2
 simp only [gA,gZ,gS] at c2
 have hmp:=ht.ns.mp
 have hsup:=ht.ns.sup
 have hnd:=hS.nd
 have hw:∀ x ∈ S,(Lit.int .i64 x).wf=true:=fun x hx=>by
  cases hf:T.f x with
  | none=>exact absurd hf ((hS.is x).1 hx)
  | some v=>have:=hsup x v hf; exact wfI (by omega) (by unfold topN at this; omega)
 have hf:∀ x,(Lit.int .i64 x).wf=true→(x ∈ S↔(fun x=>(T.f x).map vNv) x≠none):=fun x _=>by
  rw [hS.is x]; simp only [ne_eq,Option.map_eq_none_iff]
 have HW:=Lib.hid hw
 have HFF:=Lib.hid hf
 clear ht hsup hS hw hf
 generalize IntPost (1+S.length) w=Q at *
 generalize T.mb=mb at *
 go_enter Tryz.func31,Tryz.ntmps31
 go_wp2_with (at_len; refine wpList_len_mp _ rfl _ 124 rfl 138 Tryz.underlying124 mb mbnd _ rfl hmp hnd HW.out HFF.out ?_)
 first | exact HF.out | (go_ret; exact HF.out)
set_option maxRecDepth 100000 in
set_option maxHeartbeats 4000000 in
theorem tlen_any (tb:Nat) (T:Tv) (S:List Int) (w:World) (ht:IsTr w tb T) (hS:Dom T S) (hl:S.length≤16384):Calls Tryz.prog 30 #[.pointer (some ⟨tb,0,none⟩)] w (IntPost (cntL (mN T.f) S) w):=by
 have HF:Hid (∀ seen W,seen.Nodup→(∀ x ∈ seen,T.f x≠none)→(∀ x,(Lit.int .i64 x).wf=true→(T.f x).map vNv≠none→x ∈ seen)→Tch [] w W→IntPost (cntL (mN T.f) S) w (.returned (.int .i64 (cntL (mN T.f) seen:Nat))) W):=fun seen W h1 h2 h3 t=>by
  have hp:seen.Perm S:=(List.perm_ext_iff_of_nodup h1 hS.nd).2 (fun x=>by
   rw [hS.is x]
   refine ⟨h2 x,fun h=>?_⟩
   cases hf:T.f x with
   | none=>exact absurd hf h
   | some v =>
    have:=ht.ns.sup x v hf
    exact h3 x (wfI (by omega) (by unfold topN at this; omega)) (by rw [hf]; simp))
  exact ⟨by rw [cntL_perm hp],t⟩
 have HGD:Hid (∀ W x v,Tch [] w W→T.f x=some v→Gd W v):=fun W x v t hx=>(ht.ns.gd x v hx).keep0 t
 have HSN:Hid (∀ seen:List Int,seen.Nodup→(∀ x ∈ seen,T.f x≠none)→cntL (mN T.f) seen≤16384 * 100000000):=fun seen h1 h2=>by
  have hlen:seen.length≤S.length:=h1.length_le_of_subset (fun x hx=>(hS.is x).2 (h2 x hx))
  have hb:∀ l:List Int,(∀ x ∈ l,T.f x≠none)→cntL (mN T.f) l≤l.length * 100000000:=fun l=>by
   induction l with
   | nil=>intro _; simp [cntL]
   | cons x l ih =>
    intro hx
    rw [show x :: l=[x]++l from rfl,cntL_app]
    have i1:=ih (fun y hy=>hx y (by simp [hy]))
    have i2:cntL (mN T.f) [x]≤100000000:=by
     unfold cntL
     simp only [List.map_cons,List.map_nil,List.sum_cons,List.sum_nil,Nat.add_zero]
     cases hf:T.f x with
     | none=>exact absurd hf (hx x (by simp))
     | some v =>
      have e:mN T.f x=v.nod:=by unfold mN; rw [hf]; rfl
      rw [e]
      have:=(ht.ns.gd x v hf).ok.lk
      have e2:=v.es_len
      split
      · show v.es.length≤_; omega
      · omega
    simp only [List.length_append,List.length_cons,List.length_nil]
    omega
  exact Nat.le_trans (hb seen h2) (Nat.mul_le_mul_right _ (by omega))
 have c2:=blk_cell ht.blk 2
 simp only [gA,gZ,gS] at c2
 have hmp:=ht.ns.mp
 clear ht hS
 generalize IntPost (cntL (mN T.f) S) w=Q at *
 go_enter Tryz.func30,Tryz.ntmps30
 go_wp2_with (at_range; refine wpList_range_mp _ rfl _ 124 rfl 138 Tryz.underlying124 T.mb mbnd _ rfl hmp ?_; intro w1 cnt hrg t1 hs1)
 go_frame
 go_loopg [3] cnt (fun n v3 wr=>LenRel w T n w.heap.size v3 wr)
 case atStart=>exact ⟨[],hrg,rfl,t1,Nat.le_refl _⟩
 case round =>
  obtain ⟨seen,hR,rfl,t,hr⟩:=hrel
  clear hrg t1 hs1 c2 hmp
  go_upto_region 6 with (at_next; refine wpList_next_mp _ rfl _ rfl T.mb w.heap.size _ gk seen rfl hR (fun hall=>?_) (fun x v w2 cnt2 hwx hfx hns hR2 hlt2 t2 hs2 hen=>?_))
  · skip
    have HE:=Lib.hid (HF.out seen wr (by obtain ⟨_,_,_,_,_,h,_⟩:=hR; exact h) (fun x hx=>by obtain ⟨_,_,_,_,_,_,h,_⟩:=hR; have:=(h x hx).2; simpa using this) hall t)
    clear hall hR
    go_wp2_with fail
    first | exact HE.out | (go_ret; exact HE.out)
  · obtain ⟨u,hu,rfl⟩:∃ u,T.f x=some u∧v=vNv u:=by
     cases hf:T.f x with
     | none=>rw [hf] at hfx; cases hfx
     | some u=>rw [hf] at hfx; exact ⟨u,rfl,(Option.some.inj hfx).symm⟩
    have T2:Tch [] w w2:=t.transNew t2 (fun m hm=>Or.inr (by simp at hm; omega))
    have hnd2:(seen++[x]).Nodup:=by obtain ⟨_,_,_,_,_,h,_⟩:=hR2; exact h
    have hin2:∀ y ∈ seen++[x],T.f y≠none:=fun y hy=>by obtain ⟨_,_,_,_,_,_,h,_⟩:=hR2; have:=(h y hy).2; simpa using this
    have hbd:=HSN.out _ hnd2 hin2
    rw [cntL_app] at hbd
    have hg:=HGD.out w2 x u T2 hu
    have hm:mN T.f x=u.nod:=by unfold mN; rw [hu]; rfl
    have hc1:cntL (mN T.f) [x]=if u.leaf then u.kn else 0:=by
     unfold cntL
     simp only [List.map_cons,List.map_nil,List.sum_cons,List.sum_nil,Nat.add_zero,hm]
     rw [hg.nv.rk.hlen,← u.es_len]; rfl
    have hcs:cntL (mN T.f) (seen++[x])=cntL (mN T.f) seen+if u.leaf then u.kn else 0:=by rw [cntL_app,hc1]
    rw [hc1] at hbd
    have HCS:=Lib.hid hcs
    have HR2:=Lib.hid hR2
    have hT:=Lib.hid T2
    unfold vNv at hen
    obtain ⟨W3,hW3⟩:∃ W3,W3=w2.alloc (.cells #[.bool u.leaf,.slice u.ka u.kn u.kc,.slice u.va u.vn u.vc,.slice u.ia u.im u.ic] 138):=⟨_,rfl⟩
    have t3:Tch [] w2 W3:=by rw [hW3]; exact (Tch.refl _ _).alloc _
    have hb3:W3.heap[wr.heap.size]?=some (.cells #[.bool u.leaf,.slice u.ka u.kn u.kc,.slice u.va u.vn u.vc,.slice u.ia u.im u.ic] 138 (0,0)):=by rw [← hs2,hW3]; exact blk_new _ _
    have k0:=blk_cell hb3 0
    have k1:=blk_cell hb3 1
    simp only [gA,gZ,gS] at k0 k1
    clear hR hR2 t t2 T2 hnd2 hin2 hg hm hc1 hcs hfx hu hns hb3
    generalize cntL (mN T.f) seen=cc at *
    have hcc:(0:Int)≤(cc:Int):=by omega
    go_upto_region 7 with fail
    rw [← hW3]
    clear hW3
    cases hlf:u.leaf
    · rw [hlf] at k0 HCS
      have HL:=Lib.hid hlf
      clear hlf
      go_wp2_with fail
      go_roundg cnt2
      case measure=>omega
      case rel=>exact ⟨_,HR2.out.keep t3 (by simp) (by simp),by rw [HCS.out]; simp,hT.out.trans t3,hr⟩
    · rw [hlf] at k0 HCS hbd
      have HL:=Lib.hid hlf
      clear hlf
      simp only [if_true] at hbd
      go_wp2_with fail
      go_roundg cnt2
      case measure=>omega
      case rel=>exact ⟨_,HR2.out.keep t3 (by simp) (by simp),by rw [HCS.out]; simp,hT.out.trans t3,hr⟩
end Go.Proofs.YtlkgnljdpakkcaaGreatDoor
/-
 'load' of a tree: the anchor,the nodes,and whether they are a tree. Conditions: the disk can be read,the tree has no node yet.
-/
namespace Go.Proofs.YtlkgnljdpakkcaaGreatDoor
open Go.RowKit
def nm0:Nm:=fun _=>none
def LdOk (D:Ds) (room:Nat) (root:Int) (N:Nm) (h:Nat):Prop:=0 < jlen D room∧∃ r:Nat,rAnc (jrtext room D 0).data.toList (jlen D room)=some r∧root=(r:Int) ∧
 ((r=0∧N=nm0∧h=0)∨(r≠0∧lb (rdN D room) (jlen D room) 16385 nm0 r=some (h+1,N)∧isRt (gM N r)=true∧rzs ⟨#[]⟩ (ho (gM N) h r ⟨#[]⟩)=true))
def LdPost (w:World) (tb:Nat) (T:Tv) (e:Ending) (w':World):Prop :=
 (∃ (x:Int) (f':Int→Option Nv) (h:Nat),e=.returned (.int .i64 0)∧IsTr w' tb { T with root:=x,f:=f' }∧LdOk T.D T.room x (nmf f') h∧(∀ y v,f' y=some v→Hig w.heap.size v)∧Tch [tb,T.b,T.mb] w w') ∨
 (∃ c:Int,e=.returned (.int .i64 c)∧c≠0∧IsDs w' T.b T.bs T.D∧Tch [tb,T.b,T.mb] w w'∧(jlen T.D T.room=0∧c=jrcode T.room T.D 0∨0 < jlen T.D T.room∧c=53∧∀ x N h,¬ LdOk T.D T.room x N h))
theorem IsTr.rootT {w:World} {tb:Nat} {T:Tv} (h:IsTr w tb T) (x:Int):IsTr (w.setCell ⟨tb,0,none⟩ (.int .i64 x)) tb { T with root:=x }:=by
 have t:Tch [tb] w (w.setCell ⟨tb,0,none⟩ (.int .i64 x)):=(Tch.refl [tb] w).setCell (by simp) _
 obtain ⟨S,hS,_⟩:=h.ds
 have e2:T.jb≠tb:=fun e=>by have:=h.jn; unfold IsJn at this; rw [e,h.blk] at this; simp at this
 have e3:T.mb≠tb:=h.ns.mp.ne h.blk
 have e4:T.b≠tb:=fun e=>by have:=hS.blk; rw [e,h.blk] at this; simp at this
 have e5:T.bs≠tb:=fun e=>by have:=hS.arr; rw [e,h.blk] at this; simp at this
 refine ⟨?_,h.jn.keep t (by simpa using e2),h.ds.keep t (by simpa using e4) (by simpa using e5),h.ns.keep t (by simpa using e3) (fun b hb cs=>by
  simp only [List.mem_singleton] at hb
  subst hb
  rw [h.blk]; exact ⟨by simp,by simp⟩),h.room⟩
 exact blk_set h.blk 0 (.int .i64 x)
theorem unm_all (N:Nm) (sec:Nat):unm N sec≤sec:=by
 unfold unm
 have:=List.length_filter_le (fun x:Nat=>decide (N (x:Int)=none)) (List.range sec)
 rw [List.length_range] at this
 exact this
theorem rAnc_lt {L:List UInt8} {sec r:Nat} (h:rAnc L sec=some r):r < sec:=by
 unfold rAnc at h
 split at h
 · rename_i h1; cases h; exact h1.2.1
 · cases h
theorem LdOk.not1 {D:Ds} {room:Nat} (h:rAnc (jrtext room D 0).data.toList (jlen D room)=none):∀ x N k,¬ LdOk D room x N k:=fun x N k ⟨_,r,h1,_⟩=>by rw [h] at h1; cases h1
theorem LdOk.not2 {D:Ds} {room r:Nat} (h:rAnc (jrtext room D 0).data.toList (jlen D room)=some r) (hr:r≠0) (hl:lb (rdN D room) (jlen D room) 16385 nm0 r=none):∀ x N k,¬ LdOk D room x N k:=fun x N k ⟨_,r',h1,_,h2⟩=>by
 rw [h] at h1; cases h1
 rcases h2 with ⟨h2,_⟩ | ⟨_,h2,_⟩
 · exact hr h2
 · rw [hl] at h2; cases h2
theorem LdOk.not3 {D:Ds} {room r h0:Nat} {N0:Nm} (h:rAnc (jrtext room D 0).data.toList (jlen D room)=some r) (hr:r≠0) (hl:lb (rdN D room) (jlen D room) 16385 nm0 r=some (h0+1,N0)) (hn:isRt (gM N0 r)=false∨rzs ⟨#[]⟩ (ho (gM N0) h0 r ⟨#[]⟩)=false):∀ x N k,¬ LdOk D room x N k:=fun x N k ⟨_,r',h1,_,h2⟩=>by
 rw [h] at h1; cases h1
 rcases h2 with ⟨h2,_⟩ | ⟨_,h2,h3,h4⟩
 · exact hr h2
 · rw [hl] at h2
   simp only [Option.some.injEq,Prod.mk.injEq,Nat.add_right_cancel_iff] at h2
   obtain ⟨rfl,rfl⟩:=h2
   rcases hn with hn | hn
   · rw [hn] at h3; cases h3
   · rw [hn] at h4; cases h4
set_option maxRecDepth 100000 in
set_option maxHeartbeats 4000000 in
theorem load_none (tb:Nat) (T:Tv) (w:World) (ht:IsTr w tb T) (hz:jlen T.D T.room=0):Calls Tryz.prog 45 #[.pointer (some ⟨tb,0,none⟩)] w (LdPost w tb T):=by
 have hc:jrcode T.room T.D 0=10:=by unfold jrcode; rw [if_pos (Or.inr (by omega))]
 have HRD:Hid (Calls Tryz.prog 80 #[.pointer (some ⟨T.jb,0,none⟩),.int .i64 0] w fun e w'=>∃ tx,e=.returned (.tuple #[.string tx,.int .i64 10])∧(IsDs w' T.b T.bs T.D∧Tch [T.b] w w')):=by
  refine (jread_any T.jb T.b T.bs T.room T.D 0 w ht.jn ht.ds ht.room).mono ?_
  rintro e w' ⟨h1,h2⟩
  rw [hc] at h1
  exact ⟨_,h1,h2⟩
 have HF:Hid (∀ W,IsDs W T.b T.bs T.D→Tch [T.b] w W→LdPost w tb T (.returned (.int .i64 10)) W):=fun W h t=>Or.inr ⟨10,rfl,by decide,h,t.mono (by simp),Or.inl ⟨hz,hc.symm⟩⟩
 have c1:=blk_cell ht.blk 1
 simp only [gA,gZ,gS] at c1
 clear ht hz hc
 generalize LdPost w tb T=Q at *
 go_enter Tryz.func45,Tryz.ntmps45
 go_wp2_with (go_at_call 80; (with_reducible refine HRD.out.mono ?_); rintro e w3 ⟨tx,rfl,hds,t3⟩)
 have HE:=HF.out w3 hds t3
 first | exact HE | (go_ret; exact HE)
set_option maxRecDepth 100000 in
set_option maxHeartbeats 4000000 in
theorem load_noanchor (tb:Nat) (T:Tv) (w:World) (ht:IsTr w tb T) (hf:T.f=fun _=>none) (hon:LbOn T) (hsec:jlen T.D T.room≤16384) (hpos:0 < jlen T.D T.room) (ha:rAnc (jrtext T.room T.D 0).data.toList (jlen T.D T.room)=none):Calls Tryz.prog 45 #[.pointer (some ⟨tb,0,none⟩)] w (LdPost w tb T):=by
 have hc:jrcode T.room T.D 0=0:=hon 0 (by omega) (by omega)
 have htx:=ht.text 0
 have HRD:Hid (Calls Tryz.prog 80 #[.pointer (some ⟨T.jb,0,none⟩),.int .i64 0] w fun e w'=>e=.returned (.tuple #[.string (jrtext T.room T.D 0),.int .i64 0])∧IsTr w' tb T∧Tch [T.b] w w'):=by
  refine (jread_any T.jb T.b T.bs T.room T.D 0 w ht.jn ht.ds ht.room).mono ?_
  rintro e w' ⟨h1,h2,h3⟩
  rw [hc] at h1
  exact ⟨h1,ht.read h2 h3,h3⟩
 have HC:Hid (∀ W,IsTr W tb T→W.cell? ⟨tb,1,none⟩=some (.pointer (some ⟨T.jb,0,none⟩))):=fun W h=>by rw [blk_cell h.blk]; rfl
 have HLN:Hid (∀ W,IsTr W tb T→Calls Tryz.prog 58 #[.pointer (some ⟨T.jb,0,none⟩)] W fun e w'=>e=.returned (.int .i64 (jlen T.D T.room:Nat))∧W=w'):=fun W h=>jlen_any T.jb T.b T.bs T.room T.D W h.jn h.ds h.room
 have HRA:Hid (∀ W,Calls Tryz.prog 81 #[.string (jrtext T.room T.D 0),.int .i64 (jlen T.D T.room:Nat)] W fun e w'=>e=.returned (.tuple #[.agg #[.int .i64 0],.bool false])∧Tch [] W w'):=fun W=>by
  have:=readAnchor_any (jrtext T.room T.D 0) (jlen T.D T.room) W (by omega) (by omega)
  rw [ha] at this
  exact this
 have HF:Hid (∀ W,IsDs W T.b T.bs T.D→Tch [tb,T.b,T.mb] w W→LdPost w tb T (.returned (.int .i64 53)) W):=fun W h t=>Or.inr ⟨53,rfl,by decide,h,t,Or.inr ⟨hpos,rfl,LdOk.not1 ha⟩⟩
 have hlt:=lt_of_block ht.blk
 have c1:=HC.out w ht
 clear ht hf hon hsec hpos hc htx ha
 generalize LdPost w tb T=Q at *
 generalize jrtext T.room T.D 0=tx at *
 go_enter Tryz.func45,Tryz.ntmps45
 go_wp2_with (first | (go_at_call 80; (with_reducible refine HRD.out.mono ?_); rintro e w3 ⟨rfl,hT3,t3⟩; have d1:=HC.out w3 hT3) | (go_at_call 58; (with_reducible refine (HLN.out _ hT3).mono ?_); rintro e w4 ⟨rfl,rfl⟩) | (go_at_call 81; (with_reducible refine (HRA.out _).mono ?_); rintro e w5 ⟨rfl,t5⟩))
 have HE:=HF.out _ ((hT3.keep0 t5).keep0 ((Tch.refl [] w5).alloc (.cells #[.int .i64 0] 126))).ds ((t3.mono (by simp)).trans ((t5.alloc _).mono (by simp)))
 first | exact HE | (go_ret; exact HE)
set_option maxRecDepth 100000 in
set_option maxHeartbeats 4000000 in
theorem load_empty (tb:Nat) (T:Tv) (w:World) (ht:IsTr w tb T) (hf:T.f=fun _=>none) (hon:LbOn T) (hsec:jlen T.D T.room≤16384) (hpos:0 < jlen T.D T.room) (ha:rAnc (jrtext T.room T.D 0).data.toList (jlen T.D T.room)=some 0):Calls Tryz.prog 45 #[.pointer (some ⟨tb,0,none⟩)] w (LdPost w tb T):=by
 have hc:jrcode T.room T.D 0=0:=hon 0 (by omega) (by omega)
 have htx:=ht.text 0
 have HRD:Hid (Calls Tryz.prog 80 #[.pointer (some ⟨T.jb,0,none⟩),.int .i64 0] w fun e w'=>e=.returned (.tuple #[.string (jrtext T.room T.D 0),.int .i64 0])∧IsTr w' tb T∧Tch [T.b] w w'):=by
  refine (jread_any T.jb T.b T.bs T.room T.D 0 w ht.jn ht.ds ht.room).mono ?_
  rintro e w' ⟨h1,h2,h3⟩
  rw [hc] at h1
  exact ⟨h1,ht.read h2 h3,h3⟩
 have HC:Hid (∀ W,IsTr W tb T→W.cell? ⟨tb,1,none⟩=some (.pointer (some ⟨T.jb,0,none⟩))):=fun W h=>by rw [blk_cell h.blk]; rfl
 have HLN:Hid (∀ W,IsTr W tb T→Calls Tryz.prog 58 #[.pointer (some ⟨T.jb,0,none⟩)] W fun e w'=>e=.returned (.int .i64 (jlen T.D T.room:Nat))∧W=w'):=fun W h=>jlen_any T.jb T.b T.bs T.room T.D W h.jn h.ds h.room
 have HRA:Hid (∀ W,Calls Tryz.prog 81 #[.string (jrtext T.room T.D 0),.int .i64 (jlen T.D T.room:Nat)] W fun e w'=>e=.returned (.tuple #[.agg #[.int .i64 0],.bool true])∧Tch [] W w'):=fun W=>by
  have:=readAnchor_any (jrtext T.room T.D 0) (jlen T.D T.room) W (by omega) (by omega)
  rw [ha] at this
  exact this
 have HF:Hid (∀ W,IsTr W tb { T with root:=0 }→Tch [tb,T.b,T.mb] w W→LdPost w tb T (.returned (.int .i64 0)) W):=fun W h t=>Or.inl ⟨0,T.f,0,rfl,h,⟨hpos,0,ha,rfl,Or.inl ⟨rfl,by rw [hf]; rfl,rfl⟩⟩,(fun y v hy=>by rw [hf] at hy; cases hy),t⟩
 have hlt:=lt_of_block ht.blk
 have c1:=HC.out w ht
 clear ht hf hon hsec hpos hc htx ha
 generalize LdPost w tb T=Q at *
 generalize jrtext T.room T.D 0=tx at *
 go_enter Tryz.func45,Tryz.ntmps45
 go_upto_region 5 with (first | (go_at_call 80; (with_reducible refine HRD.out.mono ?_); rintro e w3 ⟨rfl,hT3,t3⟩; have d1:=HC.out w3 hT3) | (go_at_call 58; (with_reducible refine (HLN.out _ hT3).mono ?_); rintro e w4 ⟨rfl,rfl⟩) | (go_at_call 81; (with_reducible refine (HRA.out _).mono ?_); rintro e w5 ⟨rfl,t5⟩))
 obtain ⟨W5,hW5⟩:∃ W5,W5=w5.alloc (.cells #[.int .i64 0] 126):=⟨_,rfl⟩
 rw [← hW5]
 have t5b:Tch [] w5 W5:=by rw [hW5]; exact (Tch.refl _ _).alloc _
 have hb5:W5.heap[w5.heap.size]?=some (.cells #[.int .i64 0] 126 (0,0)):=by rw [hW5]; exact blk_new _ _
 have hT5:=hT3.keep0 (t5.trans t5b)
 have T5:=t3.trans ((t5.trans t5b).mono (L':=[T.b]) (by simp))
 have x0:=blk_cell hb5 0
 have e0:=blk_cell hT5.blk 0
 have f0:=blk_free hT5.blk 0
 simp only [List.getElem?_toArray,List.getElem?_cons_zero] at x0 e0
 have hT6:=hT5.rootT 0
 have T6:Tch [tb,T.b,T.mb] w (W5.setCell ⟨tb,0,none⟩ (.int .i64 0)):=(T5.mono (by simp)).setCell (by simp) _
 clear hW5 hb5 hT5 hT3
 have HE:=Lib.hid (HF.out _ hT6 T6)
 clear hT6 T6
 go_wp2_with fail
 first | exact HE.out | (go_ret; exact HE.out)
set_option maxRecDepth 100000 in
set_option maxHeartbeats 4000000 in
theorem load_below (tb:Nat) (T:Tv) (w:World) (ht:IsTr w tb T) (hf:T.f=fun _=>none) (hon:LbOn T) (hsec:jlen T.D T.room≤16384) (hpos:0 < jlen T.D T.room) (r:Nat) (ha:rAnc (jrtext T.room T.D 0).data.toList (jlen T.D T.room)=some r) (hr0:r≠0) (hl:lb (rdN T.D T.room) (jlen T.D T.room) 16385 nm0 r=none):Calls Tryz.prog 45 #[.pointer (some ⟨tb,0,none⟩)] w (LdPost w tb T):=by
 have hc:jrcode T.room T.D 0=0:=hon 0 (by omega) (by omega)
 have htx:=ht.text 0
 have HRD:Hid (Calls Tryz.prog 80 #[.pointer (some ⟨T.jb,0,none⟩),.int .i64 0] w fun e w'=>e=.returned (.tuple #[.string (jrtext T.room T.D 0),.int .i64 0])∧IsTr w' tb T∧Tch [T.b] w w'):=by
  refine (jread_any T.jb T.b T.bs T.room T.D 0 w ht.jn ht.ds ht.room).mono ?_
  rintro e w' ⟨h1,h2,h3⟩
  rw [hc] at h1
  exact ⟨h1,ht.read h2 h3,h3⟩
 have HC:Hid (∀ W,IsTr W tb T→W.cell? ⟨tb,1,none⟩=some (.pointer (some ⟨T.jb,0,none⟩))):=fun W h=>by rw [blk_cell h.blk]; rfl
 have HLN:Hid (∀ W,IsTr W tb T→Calls Tryz.prog 58 #[.pointer (some ⟨T.jb,0,none⟩)] W fun e w'=>e=.returned (.int .i64 (jlen T.D T.room:Nat))∧W=w'):=fun W h=>jlen_any T.jb T.b T.bs T.room T.D W h.jn h.ds h.room
 have HRA:Hid (∀ W,Calls Tryz.prog 81 #[.string (jrtext T.room T.D 0),.int .i64 (jlen T.D T.room:Nat)] W fun e w'=>e=.returned (.tuple #[.agg #[.int .i64 (r:Nat)],.bool true])∧Tch [] W w'):=fun W=>by
  have:=readAnchor_any (jrtext T.room T.D 0) (jlen T.D T.room) W (by omega) (by omega)
  rw [ha] at this
  exact this
 have HF:Hid (∀ W,IsDs W T.b T.bs T.D→Tch [tb,T.b,T.mb] w W→LdPost w tb T (.returned (.int .i64 53)) W):=fun W h t=>Or.inr ⟨53,rfl,by decide,h,t,Or.inr ⟨hpos,rfl,LdOk.not2 ha hr0 hl⟩⟩
 have hr16:r < 16384:=Nat.lt_of_lt_of_le (rAnc_lt ha) hsec
 have hne:((r:Int) == 0)=false:=beq_eq_false_iff_ne.2 (by omega)
 have HLB:Hid (∀ W,IsTr W tb { T with root:=(r:Int) }→Calls Tryz.prog 82 #[.pointer (some ⟨tb,0,none⟩),.int .i64 (r:Nat)] W (LbPost W tb { T with root:=(r:Int) } 16385 r)):=fun W h=>by
  refine loadBelow_any tb 16385 (by omega) { T with root:=(r:Int) } r W h ⟨by omega,by unfold topN; omega⟩ hon ?_
  have:=unm_all (nmf T.f) (jlen T.D T.room)
  show unm (nmf T.f) (jlen T.D T.room) < 16385
  omega
 have hnf:nmf T.f=nm0:=by rw [hf]; rfl
 have HLC:Hid (∀ W,IsTr W tb { T with root:=(r:Int) }→Calls Tryz.prog 82 #[.pointer (some ⟨tb,0,none⟩),.int .i64 (r:Nat)] W fun e w'=>e=.returned (.tuple #[.int .i64 0,.int .i64 53])∧IsDs w' T.b T.bs T.D∧Tch [T.b,T.mb] W w'):=fun W h=>by
  refine (HLB.out W h).mono ?_
  rintro e w' ⟨f1,h1,h2,_,_,(⟨_,_,h5,_⟩ | ⟨_,rfl⟩)⟩
  · have h6:lb (rdN T.D T.room) (jlen T.D T.room) 16385 (nmf T.f) r=_:=h5
    rw [hnf,hl] at h6; cases h6
  · exact ⟨rfl,h1.ds,h2⟩
 have hlt:=lt_of_block ht.blk
 have c1:=HC.out w ht
 clear ht hf hon hsec hpos hc htx ha hl hr0 HLB hnf
 generalize LdPost w tb T=Q at *
 generalize jrtext T.room T.D 0=tx at *
 go_enter Tryz.func45,Tryz.ntmps45
 go_upto_region 5 with (first | (go_at_call 80; (with_reducible refine HRD.out.mono ?_); rintro e w3 ⟨rfl,hT3,t3⟩; have d1:=HC.out w3 hT3) | (go_at_call 58; (with_reducible refine (HLN.out _ hT3).mono ?_); rintro e w4 ⟨rfl,rfl⟩) | (go_at_call 81; (with_reducible refine (HRA.out _).mono ?_); rintro e w5 ⟨rfl,t5⟩))
 obtain ⟨W5,hW5⟩:∃ W5,W5=w5.alloc (.cells #[.int .i64 (r:Nat)] 126):=⟨_,rfl⟩
 rw [← hW5]
 have t5b:Tch [] w5 W5:=by rw [hW5]; exact (Tch.refl _ _).alloc _
 have hb5:W5.heap[w5.heap.size]?=some (.cells #[.int .i64 (r:Nat)] 126 (0,0)):=by rw [hW5]; exact blk_new _ _
 have hT5:=hT3.keep0 (t5.trans t5b)
 have T5:=t3.trans ((t5.trans t5b).mono (L':=[T.b]) (by simp))
 have x0:=blk_cell hb5 0
 have e0:=blk_cell hT5.blk 0
 have f0:=blk_free hT5.blk 0
 simp only [List.getElem?_toArray,List.getElem?_cons_zero] at x0 e0
 have hT6:=hT5.rootT (r:Int)
 have T6:Tch [tb,T.b,T.mb] w (W5.setCell ⟨tb,0,none⟩ (.int .i64 (r:Nat))):=(T5.mono (by simp)).setCell (by simp) _
 clear hW5 hb5 hT5 hT3
 have r0:=blk_cell hT6.blk 0
 simp only [List.getElem?_toArray,List.getElem?_cons_zero] at r0
 go_wp2_with (go_at_call 82; (with_reducible refine (HLC.out _ hT6).mono ?_); rintro e w7 ⟨rfl,hds,t7⟩)
 have HE:=HF.out w7 hds (T6.trans (t7.mono (by simp)))
 first | exact HE | (go_ret; exact HE)
set_option maxRecDepth 100000 in
set_option maxHeartbeats 4000000 in
theorem load_noroot (tb:Nat) (T:Tv) (w:World) (ht:IsTr w tb T) (hf:T.f=fun _=>none) (hon:LbOn T) (hsec:jlen T.D T.room≤16384) (hpos:0 < jlen T.D T.room) (r:Nat) (ha:rAnc (jrtext T.room T.D 0).data.toList (jlen T.D T.room)=some r) (hr0:r≠0) (h:Nat) (N:Nm) (hl:lb (rdN T.D T.room) (jlen T.D T.room) 16385 nm0 r=some (h+1,N)) (hrt:isRt (gM N r)=false):Calls Tryz.prog 45 #[.pointer (some ⟨tb,0,none⟩)] w (LdPost w tb T):=by
 have hc:jrcode T.room T.D 0=0:=hon 0 (by omega) (by omega)
 have htx:=ht.text 0
 have HRD:Hid (Calls Tryz.prog 80 #[.pointer (some ⟨T.jb,0,none⟩),.int .i64 0] w fun e w'=>e=.returned (.tuple #[.string (jrtext T.room T.D 0),.int .i64 0])∧IsTr w' tb T∧Tch [T.b] w w'):=by
  refine (jread_any T.jb T.b T.bs T.room T.D 0 w ht.jn ht.ds ht.room).mono ?_
  rintro e w' ⟨h1,h2,h3⟩
  rw [hc] at h1
  exact ⟨h1,ht.read h2 h3,h3⟩
 have HC:Hid (∀ W,IsTr W tb T→W.cell? ⟨tb,1,none⟩=some (.pointer (some ⟨T.jb,0,none⟩))):=fun W h=>by rw [blk_cell h.blk]; rfl
 have HLN:Hid (∀ W,IsTr W tb T→Calls Tryz.prog 58 #[.pointer (some ⟨T.jb,0,none⟩)] W fun e w'=>e=.returned (.int .i64 (jlen T.D T.room:Nat))∧W=w'):=fun W h=>jlen_any T.jb T.b T.bs T.room T.D W h.jn h.ds h.room
 have HRA:Hid (∀ W,Calls Tryz.prog 81 #[.string (jrtext T.room T.D 0),.int .i64 (jlen T.D T.room:Nat)] W fun e w'=>e=.returned (.tuple #[.agg #[.int .i64 (r:Nat)],.bool true])∧Tch [] W w'):=fun W=>by
  have:=readAnchor_any (jrtext T.room T.D 0) (jlen T.D T.room) W (by omega) (by omega)
  rw [ha] at this
  exact this
 have HF:Hid (∀ W,IsDs W T.b T.bs T.D→Tch [tb,T.b,T.mb] w W→LdPost w tb T (.returned (.int .i64 53)) W):=fun W h t=>Or.inr ⟨53,rfl,by decide,h,t,Or.inr ⟨hpos,rfl,LdOk.not3 ha hr0 hl (Or.inl hrt)⟩⟩
 have hr16:r < 16384:=Nat.lt_of_lt_of_le (rAnc_lt ha) hsec
 have hne:((r:Int) == 0)=false:=beq_eq_false_iff_ne.2 (by omega)
 have HLB:Hid (∀ W,IsTr W tb { T with root:=(r:Int) }→Calls Tryz.prog 82 #[.pointer (some ⟨tb,0,none⟩),.int .i64 (r:Nat)] W (LbPost W tb { T with root:=(r:Int) } 16385 r)):=fun W h=>by
  refine loadBelow_any tb 16385 (by omega) { T with root:=(r:Int) } r W h ⟨by omega,by unfold topN; omega⟩ hon ?_
  have:=unm_all (nmf T.f) (jlen T.D T.room)
  show unm (nmf T.f) (jlen T.D T.room) < 16385
  omega
 have hnf:nmf T.f=nm0:=by rw [hf]; rfl
 have HLC:Hid (∀ W,IsTr W tb { T with root:=(r:Int) }→Calls Tryz.prog 82 #[.pointer (some ⟨tb,0,none⟩),.int .i64 (r:Nat)] W fun e w'=>e=.returned (.tuple #[.int .i64 ((h+1:Nat):Int),.int .i64 0])∧∃ f1:Int→Option Nv,IsTr w' tb { T with root:=(r:Int),f:=f1 }∧nmf f1=N∧(∀ y v,f1 y=some v→Hig W.heap.size v)∧Tch [T.b,T.mb] W w'):=fun W h=>by
  refine (HLB.out W h).mono ?_
  rintro e w' ⟨f1,h1,h2,_,h4,(⟨lv,N',h5,h6,rfl⟩ | ⟨h5,_⟩)⟩
  · have h7:lb (rdN T.D T.room) (jlen T.D T.room) 16385 (nmf T.f) r=some (lv,N'):=h5
    rw [hnf,hl] at h7
    simp only [Option.some.injEq,Prod.mk.injEq] at h7
    obtain ⟨rfl,rfl⟩:=h7
    refine ⟨rfl,f1,h1,h6,fun y v hy=>?_,h2⟩
    rcases h4 y v hy with h8 | h8
    · have h8:T.f y=some v:=h8
      rw [hf] at h8; cases h8
    · exact h8
  · have h6:lb (rdN T.D T.room) (jlen T.D T.room) 16385 (nmf T.f) r=none:=h5
    rw [hnf,hl] at h6; cases h6
 have HST:Hid (isRt (gM N r)=true→∀ f1:Int→Option Nv,nmf f1=N→Sth (mN f1) h r):=fun hrt f1 hf1=>by
  obtain ⟨h',hh,hs0,_,_,hall⟩:=lb_ok (rdN_ok T.D T.room) 16385 nm0 r (h+1) N hl
  have hh:h'=h:=by omega
  subst hh
  have e:mN f1=gM N:=by rw [← hf1]; rfl
  rw [e]
  refine sth_sh (sh0_sh hs0 ((isRt_is hs0).1 hrt).1) (fun y hy=>?_)
  have h2:=hall y hy
  cases hR:rdN T.D T.room y with
  | none=>rw [hR] at h2; unfold gM; rw [h2]; simp [nod0,Srt]
  | some n=>rw [hR] at h2; unfold gM; rw [h2]; exact (fitN_parts (rdN_ok T.D T.room y n hR).1).2.1
 have hlt:=lt_of_block ht.blk
 have c1:=HC.out w ht
 clear ht hf hon hsec hpos hc htx ha hl hr0 HLB hnf
 generalize LdPost w tb T=Q at *
 generalize jrtext T.room T.D 0=tx at *
 go_enter Tryz.func45,Tryz.ntmps45
 go_upto_region 5 with (first | (go_at_call 80; (with_reducible refine HRD.out.mono ?_); rintro e w3 ⟨rfl,hT3,t3⟩; have d1:=HC.out w3 hT3) | (go_at_call 58; (with_reducible refine (HLN.out _ hT3).mono ?_); rintro e w4 ⟨rfl,rfl⟩) | (go_at_call 81; (with_reducible refine (HRA.out _).mono ?_); rintro e w5 ⟨rfl,t5⟩))
 obtain ⟨W5,hW5⟩:∃ W5,W5=w5.alloc (.cells #[.int .i64 (r:Nat)] 126):=⟨_,rfl⟩
 rw [← hW5]
 have t5b:Tch [] w5 W5:=by rw [hW5]; exact (Tch.refl _ _).alloc _
 have hb5:W5.heap[w5.heap.size]?=some (.cells #[.int .i64 (r:Nat)] 126 (0,0)):=by rw [hW5]; exact blk_new _ _
 have hT5:=hT3.keep0 (t5.trans t5b)
 have T5:=t3.trans ((t5.trans t5b).mono (L':=[T.b]) (by simp))
 have x0:=blk_cell hb5 0
 have e0:=blk_cell hT5.blk 0
 have f0:=blk_free hT5.blk 0
 simp only [List.getElem?_toArray,List.getElem?_cons_zero] at x0 e0
 have hT6:=hT5.rootT (r:Int)
 have T6:Tch [tb,T.b,T.mb] w (W5.setCell ⟨tb,0,none⟩ (.int .i64 (r:Nat))):=(T5.mono (by simp)).setCell (by simp) _
 clear hW5 hb5 hT5 hT3
 have r0:=blk_cell hT6.blk 0
 simp only [List.getElem?_toArray,List.getElem?_cons_zero] at r0
 go_upto_region 13 with (go_at_call 82; (with_reducible refine (HLC.out _ hT6).mono ?_); rintro e w7 ⟨rfl,f1,hT7,hf1,hg7,t7⟩)
 have T7:=T6.trans (t7.mono (L':=[tb,T.b,T.mb]) (by simp))
 obtain ⟨u,hu⟩:∃ u,u=({ T with root:=(r:Int),f:=f1 }:Tv).nd r:=⟨_,rfl⟩
 have hgu:Gd w7 u:=by rw [hu]; exact Tv.nd_gd hT7 r
 have hun:u.nod=gM N r:=by rw [hu,Tv.nd_nod,← hf1]; rfl
 have HRT:Hid (∀ W,Tch [] w7 W→Calls Tryz.prog 83 #[.agg #[.bool u.leaf,.slice u.ka u.kn u.kc,.slice u.va u.vn u.vc,.slice u.ia u.im u.ic]] W fun e w'=>e=.returned (.bool false)∧Tch [] W w'):=fun W t=>by
  have:=isRoot_any u W (hgu.keep0 t)
  rw [hun,hrt] at this
  exact this
 have g0:=blk_cell (hT7.keep0 (Tch.refl [] w7).drew).blk 0
 have g2:=blk_cell (hT7.keep0 (Tch.refl [] w7).drew).blk 2
 simp only [gA,gZ,gS] at g0 g2
 have hlk:(Instr.lookup 124 (.map (some T.mb)) (.int .i64 (r:Nat)) false).run Tryz.prog w7.drew=.ok (.agg #[.bool u.leaf,.slice u.ka u.kn u.kc,.slice u.va u.vn u.vc,.slice u.ia u.im u.ic]) w7.drew:=by
  have:=(hT7.ns.mp.keep (Tch.refl [] w7).drew (by simp)).look Tryz.underlying124 (zeroNd _) (x:=(r:Int)) (wfI (by omega) (by omega))
  rw [this,hu]
  have e:((fun x=>(f1 x).map vNv) (r:Int)).getD (vNv nvz)=vNv (({ T with root:=(r:Int),f:=f1 }:Tv).nd r):=by unfold Tv.nd; simp only; cases f1 (r:Int) <;> rfl
  exact congrArg (fun z=>Result.ok z w7.drew) e
 have td:Tch [] w7 w7.drew:=(Tch.refl [] w7).drew
 have HFX:Hid (∀ W,Tch [] w7 W→Q (.returned (.int .i64 53)) W):=fun W t=>HF.out W (hT7.keep0 t).ds (T7.trans (t.mono (by simp)))
 clear hT7 hf1 hg7 t7 hu hgu hun hT6 x0 e0 f0 r0 HST HLC HC HLN HRA HRD
 go_still_tail 10,(by kernel_rfl)
 change wpList _ _ _ _ _ w7.drew
 go_wp2_with (first | (go_at_call 83; (with_reducible refine (HRT.out _ td).mono ?_); rintro e w8 ⟨rfl,t8⟩))
 have HE:=HFX.out _ (td.trans t8)
 first | exact HE | (go_ret; exact HE)
set_option maxRecDepth 100000 in
set_option maxHeartbeats 4000000 in
theorem load_noris (tb:Nat) (T:Tv) (w:World) (ht:IsTr w tb T) (hf:T.f=fun _=>none) (hon:LbOn T) (hsec:jlen T.D T.room≤16384) (hpos:0 < jlen T.D T.room) (r:Nat) (ha:rAnc (jrtext T.room T.D 0).data.toList (jlen T.D T.room)=some r) (hr0:r≠0) (h:Nat) (N:Nm) (hl:lb (rdN T.D T.room) (jlen T.D T.room) 16385 nm0 r=some (h+1,N)) (hrt:isRt (gM N r)=true) (hri:rzs ⟨#[]⟩ (ho (gM N) h r ⟨#[]⟩)=false):Calls Tryz.prog 45 #[.pointer (some ⟨tb,0,none⟩)] w (LdPost w tb T):=by
 have hc:jrcode T.room T.D 0=0:=hon 0 (by omega) (by omega)
 have htx:=ht.text 0
 have HRD:Hid (Calls Tryz.prog 80 #[.pointer (some ⟨T.jb,0,none⟩),.int .i64 0] w fun e w'=>e=.returned (.tuple #[.string (jrtext T.room T.D 0),.int .i64 0])∧IsTr w' tb T∧Tch [T.b] w w'):=by
  refine (jread_any T.jb T.b T.bs T.room T.D 0 w ht.jn ht.ds ht.room).mono ?_
  rintro e w' ⟨h1,h2,h3⟩
  rw [hc] at h1
  exact ⟨h1,ht.read h2 h3,h3⟩
 have HC:Hid (∀ W,IsTr W tb T→W.cell? ⟨tb,1,none⟩=some (.pointer (some ⟨T.jb,0,none⟩))):=fun W h=>by rw [blk_cell h.blk]; rfl
 have HLN:Hid (∀ W,IsTr W tb T→Calls Tryz.prog 58 #[.pointer (some ⟨T.jb,0,none⟩)] W fun e w'=>e=.returned (.int .i64 (jlen T.D T.room:Nat))∧W=w'):=fun W h=>jlen_any T.jb T.b T.bs T.room T.D W h.jn h.ds h.room
 have HRA:Hid (∀ W,Calls Tryz.prog 81 #[.string (jrtext T.room T.D 0),.int .i64 (jlen T.D T.room:Nat)] W fun e w'=>e=.returned (.tuple #[.agg #[.int .i64 (r:Nat)],.bool true])∧Tch [] W w'):=fun W=>by
  have:=readAnchor_any (jrtext T.room T.D 0) (jlen T.D T.room) W (by omega) (by omega)
  rw [ha] at this
  exact this
 have HF:Hid (∀ W,IsDs W T.b T.bs T.D→Tch [tb,T.b,T.mb] w W→LdPost w tb T (.returned (.int .i64 53)) W):=fun W h t=>Or.inr ⟨53,rfl,by decide,h,t,Or.inr ⟨hpos,rfl,LdOk.not3 ha hr0 hl (Or.inr hri)⟩⟩
 have hr16:r < 16384:=Nat.lt_of_lt_of_le (rAnc_lt ha) hsec
 have hne:((r:Int) == 0)=false:=beq_eq_false_iff_ne.2 (by omega)
 have HLB:Hid (∀ W,IsTr W tb { T with root:=(r:Int) }→Calls Tryz.prog 82 #[.pointer (some ⟨tb,0,none⟩),.int .i64 (r:Nat)] W (LbPost W tb { T with root:=(r:Int) } 16385 r)):=fun W h=>by
  refine loadBelow_any tb 16385 (by omega) { T with root:=(r:Int) } r W h ⟨by omega,by unfold topN; omega⟩ hon ?_
  have:=unm_all (nmf T.f) (jlen T.D T.room)
  show unm (nmf T.f) (jlen T.D T.room) < 16385
  omega
 have hnf:nmf T.f=nm0:=by rw [hf]; rfl
 have HLC:Hid (∀ W,IsTr W tb { T with root:=(r:Int) }→Calls Tryz.prog 82 #[.pointer (some ⟨tb,0,none⟩),.int .i64 (r:Nat)] W fun e w'=>e=.returned (.tuple #[.int .i64 ((h+1:Nat):Int),.int .i64 0])∧∃ f1:Int→Option Nv,IsTr w' tb { T with root:=(r:Int),f:=f1 }∧nmf f1=N∧(∀ y v,f1 y=some v→Hig W.heap.size v)∧Tch [T.b,T.mb] W w'):=fun W h=>by
  refine (HLB.out W h).mono ?_
  rintro e w' ⟨f1,h1,h2,_,h4,(⟨lv,N',h5,h6,rfl⟩ | ⟨h5,_⟩)⟩
  · have h7:lb (rdN T.D T.room) (jlen T.D T.room) 16385 (nmf T.f) r=some (lv,N'):=h5
    rw [hnf,hl] at h7
    simp only [Option.some.injEq,Prod.mk.injEq] at h7
    obtain ⟨rfl,rfl⟩:=h7
    refine ⟨rfl,f1,h1,h6,fun y v hy=>?_,h2⟩
    rcases h4 y v hy with h8 | h8
    · have h8:T.f y=some v:=h8
      rw [hf] at h8; cases h8
    · exact h8
  · have h6:lb (rdN T.D T.room) (jlen T.D T.room) 16385 (nmf T.f) r=none:=h5
    rw [hnf,hl] at h6; cases h6
 have HST:Hid (isRt (gM N r)=true→∀ f1:Int→Option Nv,nmf f1=N→Sth (mN f1) h r):=fun hrt f1 hf1=>by
  obtain ⟨h',hh,hs0,_,_,hall⟩:=lb_ok (rdN_ok T.D T.room) 16385 nm0 r (h+1) N hl
  have hh:h'=h:=by omega
  subst hh
  have e:mN f1=gM N:=by rw [← hf1]; rfl
  rw [e]
  refine sth_sh (sh0_sh hs0 ((isRt_is hs0).1 hrt).1) (fun y hy=>?_)
  have h2:=hall y hy
  cases hR:rdN T.D T.room y with
  | none=>rw [hR] at h2; unfold gM; rw [h2]; simp [nod0,Srt]
  | some n=>rw [hR] at h2; unfold gM; rw [h2]; exact (fitN_parts (rdN_ok T.D T.room y n hR).1).2.1
 have hlt:=lt_of_block ht.blk
 have c1:=HC.out w ht
 clear ht hf hon hsec hpos hc htx ha hl hr0 HLB hnf
 generalize LdPost w tb T=Q at *
 generalize jrtext T.room T.D 0=tx at *
 go_enter Tryz.func45,Tryz.ntmps45
 go_upto_region 5 with (first | (go_at_call 80; (with_reducible refine HRD.out.mono ?_); rintro e w3 ⟨rfl,hT3,t3⟩; have d1:=HC.out w3 hT3) | (go_at_call 58; (with_reducible refine (HLN.out _ hT3).mono ?_); rintro e w4 ⟨rfl,rfl⟩) | (go_at_call 81; (with_reducible refine (HRA.out _).mono ?_); rintro e w5 ⟨rfl,t5⟩))
 obtain ⟨W5,hW5⟩:∃ W5,W5=w5.alloc (.cells #[.int .i64 (r:Nat)] 126):=⟨_,rfl⟩
 rw [← hW5]
 have t5b:Tch [] w5 W5:=by rw [hW5]; exact (Tch.refl _ _).alloc _
 have hb5:W5.heap[w5.heap.size]?=some (.cells #[.int .i64 (r:Nat)] 126 (0,0)):=by rw [hW5]; exact blk_new _ _
 have hT5:=hT3.keep0 (t5.trans t5b)
 have T5:=t3.trans ((t5.trans t5b).mono (L':=[T.b]) (by simp))
 have x0:=blk_cell hb5 0
 have e0:=blk_cell hT5.blk 0
 have f0:=blk_free hT5.blk 0
 simp only [List.getElem?_toArray,List.getElem?_cons_zero] at x0 e0
 have hT6:=hT5.rootT (r:Int)
 have T6:Tch [tb,T.b,T.mb] w (W5.setCell ⟨tb,0,none⟩ (.int .i64 (r:Nat))):=(T5.mono (by simp)).setCell (by simp) _
 clear hW5 hb5 hT5 hT3
 have r0:=blk_cell hT6.blk 0
 simp only [List.getElem?_toArray,List.getElem?_cons_zero] at r0
 go_upto_region 13 with (go_at_call 82; (with_reducible refine (HLC.out _ hT6).mono ?_); rintro e w7 ⟨rfl,f1,hT7,hf1,hg7,t7⟩)
 have T7:=T6.trans (t7.mono (L':=[tb,T.b,T.mb]) (by simp))
 obtain ⟨u,hu⟩:∃ u,u=({ T with root:=(r:Int),f:=f1 }:Tv).nd r:=⟨_,rfl⟩
 have hgu:Gd w7 u:=by rw [hu]; exact Tv.nd_gd hT7 r
 have hun:u.nod=gM N r:=by rw [hu,Tv.nd_nod,← hf1]; rfl
 have HRT:Hid (∀ W,Tch [] w7 W→Calls Tryz.prog 83 #[.agg #[.bool u.leaf,.slice u.ka u.kn u.kc,.slice u.va u.vn u.vc,.slice u.ia u.im u.ic]] W fun e w'=>e=.returned (.bool true)∧Tch [] W w'):=fun W t=>by
  have:=isRoot_any u W (hgu.keep0 t)
  rw [hun,hrt] at this
  exact this
 have hsth:=HST.out hrt f1 hf1
 have HRI:Hid (∀ W,Tch [] w7 W→Calls Tryz.prog 84 #[.pointer (some ⟨tb,0,none⟩)] W fun e w'=>e=.returned (.bool false)∧Tch [] W w'):=fun W t=>by
  have:=rises_any tb h { T with root:=(r:Int),f:=f1 } W (hT7.keep0 t) hsth ⟨by show (0:Int)≤(r:Int); omega,by show (r:Int) < (topN:Int); unfold topN; omega⟩
  rw [show ho (mN f1) h (r:Int) ⟨#[]⟩=ho (gM N) h r ⟨#[]⟩ from by rw [← hf1]; rfl,hri] at this
  exact this
 have g0:=blk_cell (hT7.keep0 (Tch.refl [] w7).drew).blk 0
 have g2:=blk_cell (hT7.keep0 (Tch.refl [] w7).drew).blk 2
 simp only [gA,gZ,gS] at g0 g2
 have hlk:(Instr.lookup 124 (.map (some T.mb)) (.int .i64 (r:Nat)) false).run Tryz.prog w7.drew=.ok (.agg #[.bool u.leaf,.slice u.ka u.kn u.kc,.slice u.va u.vn u.vc,.slice u.ia u.im u.ic]) w7.drew:=by
  have:=(hT7.ns.mp.keep (Tch.refl [] w7).drew (by simp)).look Tryz.underlying124 (zeroNd _) (x:=(r:Int)) (wfI (by omega) (by omega))
  rw [this,hu]
  have e:((fun x=>(f1 x).map vNv) (r:Int)).getD (vNv nvz)=vNv (({ T with root:=(r:Int),f:=f1 }:Tv).nd r):=by unfold Tv.nd; simp only; cases f1 (r:Int) <;> rfl
  exact congrArg (fun z=>Result.ok z w7.drew) e
 have td:Tch [] w7 w7.drew:=(Tch.refl [] w7).drew
 have HFX:Hid (∀ W,Tch [] w7 W→Q (.returned (.int .i64 53)) W):=fun W t=>HF.out W (hT7.keep0 t).ds (T7.trans (t.mono (by simp)))
 clear hT7 hf1 hg7 t7 hu hgu hun hT6 x0 e0 f0 r0 HST HLC HC HLN HRA HRD
 go_still_tail 10,(by kernel_rfl)
 change wpList _ _ _ _ _ w7.drew
 go_wp2_with (first | (go_at_call 83; (with_reducible refine (HRT.out _ td).mono ?_); rintro e w8 ⟨rfl,t8⟩) | (go_at_call 84; (with_reducible refine (HRI.out _ (td.trans t8)).mono ?_); rintro e w9 ⟨rfl,t9⟩))
 have HE:=HFX.out _ (td.trans (t8.trans t9))
 first | exact HE | (go_ret; exact HE)
set_option maxRecDepth 100000 in
set_option maxHeartbeats 4000000 in
theorem load_yes (tb:Nat) (T:Tv) (w:World) (ht:IsTr w tb T) (hf:T.f=fun _=>none) (hon:LbOn T) (hsec:jlen T.D T.room≤16384) (hpos:0 < jlen T.D T.room) (r:Nat) (ha:rAnc (jrtext T.room T.D 0).data.toList (jlen T.D T.room)=some r) (hr0:r≠0) (h:Nat) (N:Nm) (hl:lb (rdN T.D T.room) (jlen T.D T.room) 16385 nm0 r=some (h+1,N)) (hrt:isRt (gM N r)=true) (hri:rzs ⟨#[]⟩ (ho (gM N) h r ⟨#[]⟩)=true):Calls Tryz.prog 45 #[.pointer (some ⟨tb,0,none⟩)] w (LdPost w tb T):=by
 have hc:jrcode T.room T.D 0=0:=hon 0 (by omega) (by omega)
 have htx:=ht.text 0
 have HRD:Hid (Calls Tryz.prog 80 #[.pointer (some ⟨T.jb,0,none⟩),.int .i64 0] w fun e w'=>e=.returned (.tuple #[.string (jrtext T.room T.D 0),.int .i64 0])∧IsTr w' tb T∧Tch [T.b] w w'):=by
  refine (jread_any T.jb T.b T.bs T.room T.D 0 w ht.jn ht.ds ht.room).mono ?_
  rintro e w' ⟨h1,h2,h3⟩
  rw [hc] at h1
  exact ⟨h1,ht.read h2 h3,h3⟩
 have HC:Hid (∀ W,IsTr W tb T→W.cell? ⟨tb,1,none⟩=some (.pointer (some ⟨T.jb,0,none⟩))):=fun W h=>by rw [blk_cell h.blk]; rfl
 have HLN:Hid (∀ W,IsTr W tb T→Calls Tryz.prog 58 #[.pointer (some ⟨T.jb,0,none⟩)] W fun e w'=>e=.returned (.int .i64 (jlen T.D T.room:Nat))∧W=w'):=fun W h=>jlen_any T.jb T.b T.bs T.room T.D W h.jn h.ds h.room
 have HRA:Hid (∀ W,Calls Tryz.prog 81 #[.string (jrtext T.room T.D 0),.int .i64 (jlen T.D T.room:Nat)] W fun e w'=>e=.returned (.tuple #[.agg #[.int .i64 (r:Nat)],.bool true])∧Tch [] W w'):=fun W=>by
  have:=readAnchor_any (jrtext T.room T.D 0) (jlen T.D T.room) W (by omega) (by omega)
  rw [ha] at this
  exact this
 have HF:Hid (∀ W (f1:Int→Option Nv),IsTr W tb { T with root:=(r:Int),f:=f1 }→nmf f1=N→(∀ y v,f1 y=some v→Hig w.heap.size v)→Tch [tb,T.b,T.mb] w W→LdPost w tb T (.returned (.int .i64 0)) W):=fun W f1 h1 h2 h3 t=>Or.inl ⟨r,f1,h,rfl,h1,⟨hpos,r,ha,rfl,Or.inr ⟨hr0,by rw [h2]; exact hl,by rw [h2]; exact hrt,by rw [h2]; exact hri⟩⟩,h3,t⟩
 have hr16:r < 16384:=Nat.lt_of_lt_of_le (rAnc_lt ha) hsec
 have hne:((r:Int) == 0)=false:=beq_eq_false_iff_ne.2 (by omega)
 have HLB:Hid (∀ W,IsTr W tb { T with root:=(r:Int) }→Calls Tryz.prog 82 #[.pointer (some ⟨tb,0,none⟩),.int .i64 (r:Nat)] W (LbPost W tb { T with root:=(r:Int) } 16385 r)):=fun W h=>by
  refine loadBelow_any tb 16385 (by omega) { T with root:=(r:Int) } r W h ⟨by omega,by unfold topN; omega⟩ hon ?_
  have:=unm_all (nmf T.f) (jlen T.D T.room)
  show unm (nmf T.f) (jlen T.D T.room) < 16385
  omega
 have hnf:nmf T.f=nm0:=by rw [hf]; rfl
 have HLC:Hid (∀ W,IsTr W tb { T with root:=(r:Int) }→Calls Tryz.prog 82 #[.pointer (some ⟨tb,0,none⟩),.int .i64 (r:Nat)] W fun e w'=>e=.returned (.tuple #[.int .i64 ((h+1:Nat):Int),.int .i64 0])∧∃ f1:Int→Option Nv,IsTr w' tb { T with root:=(r:Int),f:=f1 }∧nmf f1=N∧(∀ y v,f1 y=some v→Hig W.heap.size v)∧Tch [T.b,T.mb] W w'):=fun W h=>by
  refine (HLB.out W h).mono ?_
  rintro e w' ⟨f1,h1,h2,_,h4,(⟨lv,N',h5,h6,rfl⟩ | ⟨h5,_⟩)⟩
  · have h7:lb (rdN T.D T.room) (jlen T.D T.room) 16385 (nmf T.f) r=some (lv,N'):=h5
    rw [hnf,hl] at h7
    simp only [Option.some.injEq,Prod.mk.injEq] at h7
    obtain ⟨rfl,rfl⟩:=h7
    refine ⟨rfl,f1,h1,h6,fun y v hy=>?_,h2⟩
    rcases h4 y v hy with h8 | h8
    · have h8:T.f y=some v:=h8
      rw [hf] at h8; cases h8
    · exact h8
  · have h6:lb (rdN T.D T.room) (jlen T.D T.room) 16385 (nmf T.f) r=none:=h5
    rw [hnf,hl] at h6; cases h6
 have HST:Hid (isRt (gM N r)=true→∀ f1:Int→Option Nv,nmf f1=N→Sth (mN f1) h r):=fun hrt f1 hf1=>by
  obtain ⟨h',hh,hs0,_,_,hall⟩:=lb_ok (rdN_ok T.D T.room) 16385 nm0 r (h+1) N hl
  have hh:h'=h:=by omega
  subst hh
  have e:mN f1=gM N:=by rw [← hf1]; rfl
  rw [e]
  refine sth_sh (sh0_sh hs0 ((isRt_is hs0).1 hrt).1) (fun y hy=>?_)
  have h2:=hall y hy
  cases hR:rdN T.D T.room y with
  | none=>rw [hR] at h2; unfold gM; rw [h2]; simp [nod0,Srt]
  | some n=>rw [hR] at h2; unfold gM; rw [h2]; exact (fitN_parts (rdN_ok T.D T.room y n hR).1).2.1
 have hlt:=lt_of_block ht.blk
 have c1:=HC.out w ht
 clear ht hf hon hsec hpos hc htx ha hl hr0 HLB hnf
 generalize LdPost w tb T=Q at *
 generalize jrtext T.room T.D 0=tx at *
 go_enter Tryz.func45,Tryz.ntmps45
 go_upto_region 5 with (first | (go_at_call 80; (with_reducible refine HRD.out.mono ?_); rintro e w3 ⟨rfl,hT3,t3⟩; have d1:=HC.out w3 hT3) | (go_at_call 58; (with_reducible refine (HLN.out _ hT3).mono ?_); rintro e w4 ⟨rfl,rfl⟩) | (go_at_call 81; (with_reducible refine (HRA.out _).mono ?_); rintro e w5 ⟨rfl,t5⟩))
 obtain ⟨W5,hW5⟩:∃ W5,W5=w5.alloc (.cells #[.int .i64 (r:Nat)] 126):=⟨_,rfl⟩
 rw [← hW5]
 have t5b:Tch [] w5 W5:=by rw [hW5]; exact (Tch.refl _ _).alloc _
 have hb5:W5.heap[w5.heap.size]?=some (.cells #[.int .i64 (r:Nat)] 126 (0,0)):=by rw [hW5]; exact blk_new _ _
 have hT5:=hT3.keep0 (t5.trans t5b)
 have T5:=t3.trans ((t5.trans t5b).mono (L':=[T.b]) (by simp))
 have x0:=blk_cell hb5 0
 have e0:=blk_cell hT5.blk 0
 have f0:=blk_free hT5.blk 0
 simp only [List.getElem?_toArray,List.getElem?_cons_zero] at x0 e0
 have hT6:=hT5.rootT (r:Int)
 have T6:Tch [tb,T.b,T.mb] w (W5.setCell ⟨tb,0,none⟩ (.int .i64 (r:Nat))):=(T5.mono (by simp)).setCell (by simp) _
 clear hW5 hb5 hT5 hT3
 have r0:=blk_cell hT6.blk 0
 simp only [List.getElem?_toArray,List.getElem?_cons_zero] at r0
 go_upto_region 13 with (go_at_call 82; (with_reducible refine (HLC.out _ hT6).mono ?_); rintro e w7 ⟨rfl,f1,hT7,hf1,hg7,t7⟩)
 have T7:=T6.trans (t7.mono (L':=[tb,T.b,T.mb]) (by simp))
 obtain ⟨u,hu⟩:∃ u,u=({ T with root:=(r:Int),f:=f1 }:Tv).nd r:=⟨_,rfl⟩
 have hgu:Gd w7 u:=by rw [hu]; exact Tv.nd_gd hT7 r
 have hun:u.nod=gM N r:=by rw [hu,Tv.nd_nod,← hf1]; rfl
 have HRT:Hid (∀ W,Tch [] w7 W→Calls Tryz.prog 83 #[.agg #[.bool u.leaf,.slice u.ka u.kn u.kc,.slice u.va u.vn u.vc,.slice u.ia u.im u.ic]] W fun e w'=>e=.returned (.bool true)∧Tch [] W w'):=fun W t=>by
  have:=isRoot_any u W (hgu.keep0 t)
  rw [hun,hrt] at this
  exact this
 have hsth:=HST.out hrt f1 hf1
 have HRI:Hid (∀ W,Tch [] w7 W→Calls Tryz.prog 84 #[.pointer (some ⟨tb,0,none⟩)] W fun e w'=>e=.returned (.bool true)∧Tch [] W w'):=fun W t=>by
  have:=rises_any tb h { T with root:=(r:Int),f:=f1 } W (hT7.keep0 t) hsth ⟨by show (0:Int)≤(r:Int); omega,by show (r:Int) < (topN:Int); unfold topN; omega⟩
  rw [show ho (mN f1) h (r:Int) ⟨#[]⟩=ho (gM N) h r ⟨#[]⟩ from by rw [← hf1]; rfl,hri] at this
  exact this
 have g0:=blk_cell (hT7.keep0 (Tch.refl [] w7).drew).blk 0
 have g2:=blk_cell (hT7.keep0 (Tch.refl [] w7).drew).blk 2
 simp only [gA,gZ,gS] at g0 g2
 have hlk:(Instr.lookup 124 (.map (some T.mb)) (.int .i64 (r:Nat)) false).run Tryz.prog w7.drew=.ok (.agg #[.bool u.leaf,.slice u.ka u.kn u.kc,.slice u.va u.vn u.vc,.slice u.ia u.im u.ic]) w7.drew:=by
  have:=(hT7.ns.mp.keep (Tch.refl [] w7).drew (by simp)).look Tryz.underlying124 (zeroNd _) (x:=(r:Int)) (wfI (by omega) (by omega))
  rw [this,hu]
  have e:((fun x=>(f1 x).map vNv) (r:Int)).getD (vNv nvz)=vNv (({ T with root:=(r:Int),f:=f1 }:Tv).nd r):=by unfold Tv.nd; simp only; cases f1 (r:Int) <;> rfl
  exact congrArg (fun z=>Result.ok z w7.drew) e
 have td:Tch [] w7 w7.drew:=(Tch.refl [] w7).drew
 have HFX:Hid (∀ W,Tch [] w7 W→Q (.returned (.int .i64 0)) W):=fun W t=>HF.out W f1 (hT7.keep0 t) hf1 (fun y v hy=>(hg7 y v hy).base T6.size) (T7.trans (t.mono (by simp)))
 clear hT7 hf1 hg7 t7 hu hgu hun hT6 x0 e0 f0 r0 HST HLC HC HLN HRA HRD
 go_still_tail 10,(by kernel_rfl)
 change wpList _ _ _ _ _ w7.drew
 go_wp2_with (first | (go_at_call 83; (with_reducible refine (HRT.out _ td).mono ?_); rintro e w8 ⟨rfl,t8⟩) | (go_at_call 84; (with_reducible refine (HRI.out _ (td.trans t8)).mono ?_); rintro e w9 ⟨rfl,t9⟩))
 have HE:=HFX.out _ (td.trans (t8.trans t9))
 first | exact HE | (go_ret; exact HE)
theorem load_any (tb:Nat) (T:Tv) (w:World) (ht:IsTr w tb T) (hf:T.f=fun _=>none) (hon:LbOn T) (hsec:jlen T.D T.room≤16384):Calls Tryz.prog 45 #[.pointer (some ⟨tb,0,none⟩)] w (LdPost w tb T):=by
 rcases Nat.eq_zero_or_pos (jlen T.D T.room) with hz | hpos
 · exact load_none tb T w ht hz
 cases ha:rAnc (jrtext T.room T.D 0).data.toList (jlen T.D T.room) with
 | none=>exact load_noanchor tb T w ht hf hon hsec hpos ha
 | some r =>
  by_cases hr0:r=0
  · subst hr0; exact load_empty tb T w ht hf hon hsec hpos ha
  cases hl:lb (rdN T.D T.room) (jlen T.D T.room) 16385 nm0 r with
  | none=>exact load_below tb T w ht hf hon hsec hpos r ha hr0 hl
  | some p =>
   obtain ⟨lv,N⟩:=p
   obtain ⟨h,rfl,_⟩:=lb_ok (rdN_ok T.D T.room) 16385 nm0 r lv N hl
   cases hrt:isRt (gM N r) with
   | false=>exact load_noroot tb T w ht hf hon hsec hpos r ha hr0 h N hl hrt
   | true =>
    cases hri:rzs ⟨#[]⟩ (ho (gM N) h r ⟨#[]⟩) with
    | false=>exact load_noris tb T w ht hf hon hsec hpos r ha hr0 h N hl hrt hri
    | true=>exact load_yes tb T w ht hf hon hsec hpos r ha hr0 h N hl hrt hri
end Go.Proofs.YtlkgnljdpakkcaaGreatDoor
