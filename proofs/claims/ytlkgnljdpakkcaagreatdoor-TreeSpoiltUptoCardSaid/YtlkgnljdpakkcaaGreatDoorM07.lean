/-
  Parts of the proof: Base, Once, Pad, Disk, Write, Read, State.
-/
import Derived.Test.YtlkgnljdpakkcaaGreatDoorM01
import Derived.Test.YtlkgnljdpakkcaaGreatDoorM06
import Derived.Test.YtlkgnljdpakkcaaGreatDoorM02
import Derived.Deep.RegionWith
import Derived.Deep.DeepMust
import Derived.Lib.BufferWrite
import Derived.Great.Walk
import Derived.Laws.BytesString
import Derived.Deep.QuietTactic
import Derived.BigQuiet
import Derived.StillTailTactics
import Derived.BigGuardPart
set_option linter.unusedVariables false
set_option linter.unusedSimpArgs false
/-
 What a disk of package sector holds as data ('Dk','IsDk').
-/
namespace Go.Proofs.YtlkgnljdpakkcaaGreatDoor
open Go.RowKit
def zer:ByteArray:=⟨(Lib.repeatL [0] 1024).toArray⟩
structure Dk where
 secs:List ByteArray
 done:Int
 reach:Int
 left:Int
 power:Int
 once:Int
 mu:Int
 zeros:ByteArray
def Dk.cells (S:Dk) (bs:Nat):Array Value :=
 #[.slice (some ⟨bs,0,none⟩) S.secs.length S.secs.length,.int .i64 S.done,.int .i64 S.reach,.int .i64 S.left,.int .i64 S.power,.int .u32 S.once,.int .i32 S.mu,.int .u32 0,.string S.zeros]
structure IsDk (w:World) (b bs:Nat) (S:Dk):Prop where
 blk:w.heap[b]?=some (.cells (S.cells bs) 123 (0,0))
 arr:w.heap[bs]?=some (.cells (S.secs.map Value.string).toArray 9 (0,0))
 ne:b≠bs
 len:S.secs.length≤16384
theorem IsDk.keep {L:List Nat} {w w':World} {b bs:Nat} {S:Dk} (h:IsDk w b bs S) (t:Tch L w w') (h1:b ∉ L) (h2:bs ∉ L):IsDk w' b bs S :=
 ⟨t.keep h.blk h1,t.keep h.arr h2,h.ne,h.len⟩
theorem IsDk.c {w:World} {b bs:Nat} {S:Dk} (h:IsDk w b bs S) (o:Nat):w.cell? ⟨b,o,none⟩=(S.cells bs)[o]?:=blk_cell h.blk o
theorem IsDk.z {w:World} {b bs:Nat} {S:Dk} (h:IsDk w b bs S) (o:Nat):w.frozen? ⟨b,o,none⟩=false:=blk_free h.blk o
theorem IsDk.c0 {w:World} {b bs:Nat} {S:Dk} (h:IsDk w b bs S):w.cell? ⟨b,0,none⟩=some (.slice (some ⟨bs,0,none⟩) S.secs.length S.secs.length):=h.c 0
theorem IsDk.c1 {w:World} {b bs:Nat} {S:Dk} (h:IsDk w b bs S):w.cell? ⟨b,1,none⟩=some (.int .i64 S.done):=h.c 1
theorem IsDk.c2 {w:World} {b bs:Nat} {S:Dk} (h:IsDk w b bs S):w.cell? ⟨b,2,none⟩=some (.int .i64 S.reach):=h.c 2
theorem IsDk.c3 {w:World} {b bs:Nat} {S:Dk} (h:IsDk w b bs S):w.cell? ⟨b,3,none⟩=some (.int .i64 S.left):=h.c 3
theorem IsDk.c4 {w:World} {b bs:Nat} {S:Dk} (h:IsDk w b bs S):w.cell? ⟨b,4,none⟩=some (.int .i64 S.power):=h.c 4
theorem IsDk.c5 {w:World} {b bs:Nat} {S:Dk} (h:IsDk w b bs S):w.cell? ⟨b,5,none⟩=some (.int .u32 S.once):=h.c 5
theorem IsDk.c6 {w:World} {b bs:Nat} {S:Dk} (h:IsDk w b bs S):w.cell? ⟨b,6,none⟩=some (.int .i32 S.mu):=h.c 6
theorem IsDk.c8 {w:World} {b bs:Nat} {S:Dk} (h:IsDk w b bs S):w.cell? ⟨b,8,none⟩=some (.string S.zeros):=h.c 8
theorem IsDk.set {w:World} {b bs:Nat} {S S':Dk} (h:IsDk w b bs S) (o:Nat) (u:Value) (he:(S.cells bs).setIfInBounds o u=S'.cells bs) (hs:S'.secs=S.secs):IsDk (w.setCell ⟨b,o,none⟩ u) b bs S' :=
 ⟨by rw [← he]; exact blk_set h.blk o u,by rw [hs]; exact blk_other h.arr (Ne.symm h.ne) o u,h.ne,by rw [hs]; exact h.len⟩
theorem IsDk.set1 {w:World} {b bs:Nat} {S:Dk} (h:IsDk w b bs S) (x:Int):IsDk (w.setCell ⟨b,1,none⟩ (.int .i64 x)) b bs { S with done:=x }:=h.set 1 _ rfl rfl
theorem IsDk.set2 {w:World} {b bs:Nat} {S:Dk} (h:IsDk w b bs S) (x:Int):IsDk (w.setCell ⟨b,2,none⟩ (.int .i64 x)) b bs { S with reach:=x }:=h.set 2 _ rfl rfl
theorem IsDk.set3 {w:World} {b bs:Nat} {S:Dk} (h:IsDk w b bs S) (x:Int):IsDk (w.setCell ⟨b,3,none⟩ (.int .i64 x)) b bs { S with left:=x }:=h.set 3 _ rfl rfl
theorem IsDk.set4 {w:World} {b bs:Nat} {S:Dk} (h:IsDk w b bs S) (x:Int):IsDk (w.setCell ⟨b,4,none⟩ (.int .i64 x)) b bs { S with power:=x }:=h.set 4 _ rfl rfl
theorem IsDk.set5 {w:World} {b bs:Nat} {S:Dk} (h:IsDk w b bs S) (x:Int):IsDk (w.setCell ⟨b,5,none⟩ (.int .u32 x)) b bs { S with once:=x }:=h.set 5 _ rfl rfl
theorem IsDk.set6 {w:World} {b bs:Nat} {S:Dk} (h:IsDk w b bs S) (x:Int):IsDk (w.setCell ⟨b,6,none⟩ (.int .i32 x)) b bs { S with mu:=x }:=h.set 6 _ rfl rfl
theorem IsDk.drew {w:World} {b bs:Nat} {S:Dk} (h:IsDk w b bs S):IsDk w.drew b bs S:=⟨h.blk,h.arr,h.ne,h.len⟩
theorem IsDk.sec {w:World} {b bs:Nat} {S:Dk} (h:IsDk w b bs S) (i:Nat) (s:ByteArray):IsDk (w.setCell ⟨bs,i,none⟩ (.string s)) b bs { S with secs:=S.secs.set i s } :=
 ⟨by rw [show Dk.cells { S with secs:=S.secs.set i s } bs=S.cells bs from by simp [Dk.cells]]; exact blk_other h.blk h.ne i _,
  by
   have:=blk_set h.arr i (.string s)
   rw [this]
   congr 2
   simp [List.map_set],h.ne,by simp; exact h.len⟩
theorem IsDk.sc {w:World} {b bs:Nat} {S:Dk} (h:IsDk w b bs S) (i:Nat) (s:ByteArray) (hi:S.secs[i]?=some s):w.cell? ⟨bs,i,none⟩=some (.string s):=by
 rw [blk_cell h.arr i]; simp [hi]
theorem IsDk.sz {w:World} {b bs:Nat} {S:Dk} (h:IsDk w b bs S) (i:Nat):w.frozen? ⟨bs,i,none⟩=false:=blk_free h.arr i
end Go.Proofs.YtlkgnljdpakkcaaGreatDoor
/-
 The sector of zeros,made once: '(*Disk).zeroSector' answers 1024 zero bytes,whether it is asked for the first time or again. Conditions: the disk's block is one that New makes,its sync.Once is done or free.
-/
namespace Go.Proofs.YtlkgnljdpakkcaaGreatDoor
open Go.RowKit
set_option maxHeartbeats 400000 in
theorem zclo (p b bs:Nat) (S:Dk) (w:World) (hd:IsDk w b bs S) (hp:w.heap[p]?=some (.cells #[.pointer (some ⟨b,0,none⟩)] 23 (0,0))) :
 Calls Tryz.prog 123 #[.pointer (some ⟨p,0,none⟩)] w fun e w'=>e=.returned (.tuple #[])∧(IsDk w' b bs { S with zeros:=zer }∧Tch [b] w w'):=by
 have c8:=hd.c8
 have z8:=hd.z 8
 have hp0:=cell_of_one hp
 have hpl:=lt_of_block hp
 have hbl:=lt_of_block hd.blk
 have key:∀ w1,Below w.heap.size w w1→IsDk (w1.setCell ⟨b,8,none⟩ (.string zer)) b bs { S with zeros:=zer }∧Tch [b] w (w1.setCell ⟨b,8,none⟩ (.string zer)):=fun w1 hb =>
  ⟨((hd.keep (Tch.ofBelow hb) (by simp) (by simp)).set 8 _ rfl rfl),((Tch.ofBelow hb).mono (by simp)).setCell (by simp) _⟩
 go_enter Tryz.func123,Tryz.ntmps123
 go_wp2
 go_region_with (go_at_call 124; refine (Tryz.strings_Repeat _ 1024 _ (by omega) (by decide)).mono ?_; rintro e w1 ⟨rfl,hb1⟩; have q0:=(cell_later hb1 hp0); have q1:=(cell_later hb1 c8); have q2:=(hb1.frozen (p:=⟨b,8,none⟩) hbl).trans z8)
 all_goals
  go_wp2
  go_end0
  exact ⟨rfl,key w1 ⟨hb1.os,hb1.tape,hb1.output,hb1.size,hb1.block⟩⟩
set_option maxRecDepth 100000 in
set_option maxHeartbeats 800000 in
theorem zslow (p b bs:Nat) (S:Dk) (w:World) (hd:IsDk w b bs S) (ho:S.once=0) (hm:S.mu=0) (hp:w.heap[p]?=some (.cells #[.pointer (some ⟨b,0,none⟩)] 23 (0,0))) (hpb:p≠b) :
 Calls Tryz.prog 160 #[.pointer (some ⟨b,5,none⟩),.func (.func 123) #[] #[.pointer (some ⟨p,0,none⟩)]] w fun e w'=>e=.returned (.tuple #[])∧(IsDk w' b bs { S with zeros:=zer,once:=1,mu:=0 }∧Tch [b] w w'):=by
 have hnot:∀ (x:Bool) (w:World),(Op.unary .not (.bool x)).run Tryz.prog w=.ok (.bool (!x)) w:=fun _ _=>rfl
 have c6:=hd.c6
 have z6:=hd.z 6
 rw [hm] at c6
 have H1:=Lib.hid (hd.set6 1)
 have c5:=H1.out.c5
 rw [show Dk.once { S with mu:=1 }=0 from ho] at c5
 have c6':=H1.out.c6
 have hp1:=blk_other hp hpb 6 (.int .i32 1)
 clear ho hm
 go_enter_defers Tryz.func160,Tryz.ntmps160
 go_wp2_with (first | (go_at_call 194; refine (lock_free ⟨b,6,none⟩ _ c6 z6).mono ?_; rintro e w' ⟨rfl,rfl⟩) | (go_at_call 159; refine (bld ⟨b,5,none⟩ 0 _ c5 false rfl).mono ?_; rintro e w' ⟨rfl,rfl⟩) | (go_at_call 123; refine (zclo p b bs _ _ H1.out hp1).mono ?_; rintro e w1 ⟨rfl,hd1,t1⟩))
 refine leaves_cons (f:=196) (args:=#[.pointer (some ⟨b,5,none⟩),.bool true]) (by simp) (by simp [go_sem]) ?_
 refine (bst_deferred ⟨b,5,none⟩ _ .returning _ hd1.c5 (hd1.z 5)).mono ?_
 rintro e u' w'' ⟨rfl,rfl,rfl⟩
 have hd2:=hd1.drew.set5 1
 have t2:=t1.drew.setCell (p:=⟨b,5,none⟩) (by simp) (.int .u32 1)
 refine leaves_cons (f:=195) (args:=#[.pointer (some ⟨b,6,none⟩)]) (by simp [settle]) (by simp [go_sem]) ?_
 refine (unlock_deferred ⟨b,6,none⟩ _ _ hd2.c6 (hd2.z 6)).mono ?_
 rintro e u' w'' ⟨rfl,rfl,rfl⟩
 have hd3:=hd2.set6 0
 have t3:=t2.setCell (p:=⟨b,6,none⟩) (by simp) (.int .i32 0)
 have t4:Tch [b] w (w.setCell ⟨b,6,none⟩ (.int .i32 1)):=(Tch.refl _ _).setCell (by simp) _
 have hfin:=And.intro hd3 (t4.trans t3)
 clear hd3 t3 t4 hd2 t2 t1 hd1
 exact ⟨_,results_none rfl _ _ _,rfl,hfin⟩
set_option maxRecDepth 100000 in
set_option maxHeartbeats 800000 in
theorem zdo (p b bs:Nat) (S:Dk) (w:World) (hd:IsDk w b bs S) (ho:S.once=0∨S.once=1∧S.zeros=zer) (hm:S.mu=0) (hp:w.heap[p]?=some (.cells #[.pointer (some ⟨b,0,none⟩)] 23 (0,0))) (hpb:p≠b) :
 Calls Tryz.prog 122 #[.pointer (some ⟨b,5,none⟩),.func (.func 123) #[] #[.pointer (some ⟨p,0,none⟩)]] w fun e w'=>e=.returned (.tuple #[])∧(IsDk w' b bs { S with zeros:=zer,once:=1 }∧Tch [b] w w'):=by
 have hnot:∀ (x:Bool) (w:World),(Op.unary .not (.bool x)).run Tryz.prog w=.ok (.bool (!x)) w:=fun _ _=>rfl
 have c5:=hd.c5
 rcases ho with ho | ⟨ho,hz⟩
 · have HS:=Lib.hid (fun w0 h0=>(zslow p b bs S w0 h0 ho hm))
   rw [ho] at c5
   have HM:=Lib.hid hm
   clear ho hm
   go_enter Tryz.func122,Tryz.ntmps122
   go_wp2_with (first | (go_at_call 159; refine (bld ⟨b,5,none⟩ 0 _ c5 false rfl).mono ?_; rintro e w' ⟨rfl,rfl⟩) | (go_at_call 160; refine (HS.out w hd hp hpb).mono ?_; rintro e w1 ⟨rfl,hd1,t1⟩))
   go_end0
   refine ⟨rfl,?_,t1⟩
   have hm:=HM.out
   cases S
   simp only at hm
   subst hm
   exact hd1
 · rw [ho] at c5
   have HF:=Lib.hid (show IsDk w b bs { S with zeros:=zer,once:=1 } from by rw [← ho,← hz]; exact hd)
   clear ho hm hz
   go_enter Tryz.func122,Tryz.ntmps122
   go_wp2_with (first | (go_at_call 159; refine (bld ⟨b,5,none⟩ 1 _ c5 true rfl).mono ?_; rintro e w' ⟨rfl,rfl⟩))
   go_end0
   exact ⟨rfl,HF.out,Tch.refl _ _⟩
set_option maxRecDepth 100000 in
set_option maxHeartbeats 800000 in
theorem zsec (b bs:Nat) (S:Dk) (w:World) (hd:IsDk w b bs S) (ho:S.once=0∨S.once=1∧S.zeros=zer) (hm:S.mu=0) :
 Calls Tryz.prog 85 #[.pointer (some ⟨b,0,none⟩)] w fun e w'=>e=.returned (.string zer)∧(IsDk w' b bs { S with zeros:=zer,once:=1 }∧Tch [b] w w'):=by
 have hmf:∀ (fn:Fn) (first cap:Array Value) (w:World),(Instr.makeFunc fn first cap).run Tryz.prog w=.ok (.func fn first cap) w:=fun _ _ _ _=>rfl
 have t0:Tch [b] w (w.alloc (.cells #[.pointer (some ⟨b,0,none⟩)] 23)):=(Tch.refl _ _).alloc _
 have hp:=blk_new w (.cells #[.pointer (some ⟨b,0,none⟩)] 23)
 have hpb:w.heap.size≠b:=by have:=lt_of_block hd.blk; omega
 have hd0:=hd.keep ((Tch.refl [] w).alloc (.cells #[.pointer (some ⟨b,0,none⟩)] 23)) (by simp) (by simp)
 have hp0:=cell_of_one hp
 have HD:=Lib.hid (zdo w.heap.size b bs S _ hd0 ho hm hp hpb)
 have c8:∀ w1,Tch [b] (w.alloc (.cells #[.pointer (some ⟨b,0,none⟩)] 23)) w1→w1.cell? ⟨w.heap.size,0,none⟩=some (.pointer (some ⟨b,0,none⟩)):=fun w1 t=>cell_of_one (t.keep hp (by simpa using hpb))
 clear ho hm hd hd0
 go_enter Tryz.func85,Tryz.ntmps85
 go_wp2_with (first | (go_at_call 122; refine HD.out.mono ?_; rintro e w1 ⟨rfl,hd1,t1⟩; have q1:=c8 w1 t1; have q2:=hd1.c8; clear c8 hp0))
 go_ret
 exact ⟨rfl,hd1,t0.trans t1⟩
end Go.Proofs.YtlkgnljdpakkcaaGreatDoor
/-
 'padded': the text with zero bytes behind it up to 1024,for every text of at most 1024 bytes; only new memory is written.
-/
namespace Go.Proofs.YtlkgnljdpakkcaaGreatDoor
open Go.RowKit
def pad (x:ByteArray):ByteArray:=⟨(x.data.toList++List.replicate (1024 - x.size) 0).toArray⟩
def zc:Array Value:=Array.replicate 1024 (.int .u8 0)
theorem size_zc:zc.size=1024:=by simp [zc]
theorem pad_alloc (ρ:Operand→Value) (o:Oper) (ho:o.op=.alloc 215) (w:World) :
 (execOp ρ o).run Tryz.prog w=.ok (.value (.pointer (some ⟨w.heap.size,0,none⟩))) (w.alloc (.cells zc 215)):=by
 unfold execOp
 rw [ho]
 kernel_rfl
theorem Tryz.info_u8:(Tryz.prog.info? 5).map (·.size)=some 1:=by kernel_rfl
theorem pad_len (x:ByteArray) (hx:x.size≤1024):(pad x).data.toList.length=1024:=by
 show ((x.data.toList++List.replicate (1024 - x.size) 0).toArray).toList.length=1024
 rw [List.toList_toArray,List.length_append,List.length_replicate,Array.length_toList]
 have:x.data.size=x.size:=rfl
 omega
theorem pad_size (x:ByteArray) (hx:x.size≤1024):(pad x).size=1024:=by
 have:=pad_len x hx
 rwa [Array.length_toList] at this
theorem pad_cells (x:ByteArray):Lib.byteCells x.data.toList++zc.toList.drop x.size=((pad x).data.toList.map fun b=>(b.toNat:Int)).map (Value.int .u8):=by
 simp only [Lib.byteCells,zc,pad,Array.toList_replicate,List.drop_replicate,List.map_append,List.map_map,List.map_replicate,Function.comp_def]
 rfl
set_option maxRecDepth 100000 in
set_option maxHeartbeats 400000 in
theorem pad_any (x:ByteArray) (hx:x.size≤1024) (w:World) :
 Calls Tryz.prog 66 #[.string x] w fun e w'=>e=.returned (.string (pad x))∧Tch [] w w':=by
 have hcv:∀ w2,Hid (w2.heap[w.heap.size]?=some (.cells (Lib.byteCells x.data.toList++zc.toList.drop x.size).toArray 215 (0,0))) →
  (convert 216 9 (.slice (some ⟨w.heap.size,0,none⟩) 1024 1024)).run Tryz.prog w2=.ok (.string (pad x)) w2:=by
  intro w2 h2
  have h3:=h2.out
  rw [pad_cells x] at h3
  rw [run_convert_bytes_string w2 _ _ 5 _ _ _ Tryz.underlying216 Tryz.underlying5 Tryz.underlying9]
  have hl:((pad x).data.toList.map fun b=>(b.toNat:Int)).length=1024:=by
   rw [List.length_map,pad_len x hx]
  have hld:=run_loadCells_list (P:=Tryz.prog) (w:=w2) ⟨w.heap.size,0,none⟩ (((pad x).data.toList.map fun b=>(b.toNat:Int)).map (Value.int .u8)) (by
   intro j v hj
   have:(⟨w.heap.size,0,none⟩:Addr).add j=⟨w.heap.size,j,none⟩:=by unfold Addr.add; split <;> simp_all
   rw [this,blk_cell h3]
   simpa using hj)
  rw [List.length_map,hl] at hld
  rw [run_bytesToString w2 _ 1024 1024 _ hld,foldl_push]
  rw [show (ByteArray.empty.data.toList)=([]:List UInt8) from rfl,ba_eta]
 have hz:=size_zc
 have hb:=Lib.hid (blk_new w (.cells zc 215))
 have HX:=Lib.hid hx
 go_enter Tryz.func66,Tryz.ntmps66
 go_wp2_with (first | (with_reducible refine Go.Great.wpList_allocTo rfl (some 3) rfl _ _ (pad_alloc _ _ rfl _) ?_) | (refine wpList_copy_str (o:=⟨some 6,_,_,_,_,_⟩) rfl (.tmp 4) (.tmp 5) 216 9 rfl 5 Tryz.underlying216 Tryz.info_u8 w.heap.size 1024 1024 x rfl rfl zc 215 hb.out HX.out (by rw [size_zc]; exact HX.out) ?_; intro w2 h2 t2; have q2:=hcv w2 h2; clear hcv))
 go_ret
 exact ⟨rfl,((Tch.refl [] w).alloc _).transNew t2 (by simp)⟩
end Go.Proofs.YtlkgnljdpakkcaaGreatDoor
/-
 The methods of a disk of package sector,each as a contract on what the disk holds ('Dk'). Conditions: the disk is one that New makes ('IsDk'),or nil.
-/
namespace Go.Proofs.YtlkgnljdpakkcaaGreatDoor
open Go.RowKit
theorem on_any (b bs:Nat) (S:Dk) (w:World) (hd:IsDk w b bs S) :
 Calls Tryz.prog 28 #[.pointer (some ⟨b,0,none⟩)] w fun e w'=>e=.returned (.bool (S.power == 1))∧w=w':=by
 have c4:=hd.c4
 go_enter Tryz.func28,Tryz.ntmps28
 go_wp2_with (first | (go_at_call 63; refine (ald b 4 S.power _ c4).mono ?_; rintro e w' ⟨rfl,rfl⟩))
 go_ret
 exact ⟨rfl,rfl⟩
theorem len_any (b bs:Nat) (S:Dk) (w:World) (hd:IsDk w b bs S) :
 Calls Tryz.prog 15 #[.pointer (some ⟨b,0,none⟩)] w fun e w'=>e=.returned (.int .i64 S.secs.length)∧w=w':=by
 have c0:=hd.c0
 go_enter Tryz.func15,Tryz.ntmps15
 go_wp2
 go_ret
 exact ⟨rfl,rfl⟩
theorem cut_any (b bs:Nat) (S:Dk) (n:Int) (w:World) (hd:IsDk w b bs S) (_h0 : -9223372036854775808≤n) (_h1:n≤9223372036854775807) :
 Calls Tryz.prog 23 #[.pointer (some ⟨b,0,none⟩),.int .i64 n] w fun e w'=>e=.returned (.tuple #[])∧(IsDk w' b bs { S with left:=max n 0 }∧Tch [b] w w'):=by
 have c3:=hd.c3
 have z3:=hd.z 3
 have HF:=Lib.hid (And.intro (hd.set3 (max n 0)) ((Tch.refl [b] w).setCell (p:=⟨b,3,none⟩) (by simp) (.int .i64 (max n 0))))
 go_enter Tryz.func23,Tryz.ntmps23
 go_wp2_with (first | (go_at_call 53; refine (ast b 3 _ _ _ c3 z3).mono ?_; rintro e w' ⟨rfl,rfl⟩))
 go_end0
 exact ⟨rfl,HF.out⟩
theorem start_any (b bs:Nat) (S:Dk) (w:World) (hd:IsDk w b bs S) :
 Calls Tryz.prog 29 #[.pointer (some ⟨b,0,none⟩)] w fun e w'=>e=.returned (.tuple #[])∧(IsDk w' b bs { S with left := -1,power:=1 }∧Tch [b] w w'):=by
 have c3:=hd.c3
 have z3:=hd.z 3
 have hd3:=hd.set3 (-1)
 have c4:=hd3.c4
 have z4:=hd3.z 4
 have HF:=Lib.hid (And.intro (hd3.set4 1) (((Tch.refl [b] w).setCell (p:=⟨b,3,none⟩) (by simp) (.int .i64 (-1))).setCell (p:=⟨b,4,none⟩) (by simp) (.int .i64 1)))
 go_enter Tryz.func29,Tryz.ntmps29
 go_wp2_with fail
 refine (ast b 3 _ _ _ c3 z3).mono ?_
 rintro e w' ⟨rfl,rfl⟩
 go_wp2_with fail
 refine (ast b 4 _ _ _ c4 z4).mono ?_
 rintro e w' ⟨rfl,rfl⟩
 go_wp2_with fail
 go_end0
 exact ⟨rfl,HF.out⟩
theorem ref_off (b bs:Nat) (S:Dk) (i:Int) (w:World) (hd:IsDk w b bs S) (hp:(S.power == 1)=false) :
 Calls Tryz.prog 64 #[.pointer (some ⟨b,0,none⟩),.int .i64 i] w fun e w'=>e=.returned (.int .i64 12)∧w=w':=by
 have HO:=Lib.hid (on_any b bs S w hd)
 go_enter Tryz.func64,Tryz.ntmps64
 go_wp2_with (first | (go_at_call 28; refine HO.out.mono ?_; rintro e w' ⟨rfl,rfl⟩))
 go_ret
 exact ⟨rfl,rfl⟩
theorem ref_low (b bs:Nat) (S:Dk) (i:Int) (w:World) (hd:IsDk w b bs S) (hp:(S.power == 1)=true) (hi:i < 0) :
 Calls Tryz.prog 64 #[.pointer (some ⟨b,0,none⟩),.int .i64 i] w fun e w'=>e=.returned (.int .i64 10)∧w=w':=by
 have HO:=Lib.hid (on_any b bs S w hd)
 have c0:=hd.c0
 go_enter Tryz.func64,Tryz.ntmps64
 go_wp2_with (first | (go_at_call 28; refine HO.out.mono ?_; rintro e w' ⟨rfl,rfl⟩))
 go_ret
 exact ⟨rfl,rfl⟩
theorem ref_high (b bs:Nat) (S:Dk) (i:Int) (w:World) (hd:IsDk w b bs S) (hp:(S.power == 1)=true) (hi:¬ i < 0) (hi2:S.secs.length≤i) :
 Calls Tryz.prog 64 #[.pointer (some ⟨b,0,none⟩),.int .i64 i] w fun e w'=>e=.returned (.int .i64 10)∧w=w':=by
 have HO:=Lib.hid (on_any b bs S w hd)
 have c0:=hd.c0
 have hj:decide (i < 0)=false:=by simp; omega
 go_enter Tryz.func64,Tryz.ntmps64
 go_wp2_with (first | (go_at_call 28; refine HO.out.mono ?_; rintro e w' ⟨rfl,rfl⟩))
 go_ret
 exact ⟨rfl,rfl⟩
theorem ref_in (b bs:Nat) (S:Dk) (i:Int) (w:World) (hd:IsDk w b bs S) (hp:(S.power == 1)=true) (hi:¬ i < 0) (hi2:¬ S.secs.length≤i) :
 Calls Tryz.prog 64 #[.pointer (some ⟨b,0,none⟩),.int .i64 i] w fun e w'=>e=.returned (.int .i64 0)∧w=w':=by
 have HO:=Lib.hid (on_any b bs S w hd)
 have c0:=hd.c0
 have hk:decide ((S.secs.length:Int)≤i)=false:=by simp; omega
 have hj:decide (i < 0)=false:=by simp; omega
 go_enter Tryz.func64,Tryz.ntmps64
 go_wp2_with (first | (go_at_call 28; refine HO.out.mono ?_; rintro e w' ⟨rfl,rfl⟩))
 go_ret
 exact ⟨rfl,rfl⟩
end Go.Proofs.YtlkgnljdpakkcaaGreatDoor
/-
 '(*Disk).Write': its errors in their order,and what the disk holds behind a write that is done. Conditions: the disk is one that New makes,or nil; its count of writes is below the greatest int64.
-/
namespace Go.Proofs.YtlkgnljdpakkcaaGreatDoor
open Go.RowKit
theorem take_free (b bs:Nat) (S:Dk) (w:World) (hd:IsDk w b bs S) (hl:(S.left == -1)=true) :
 Calls Tryz.prog 65 #[.pointer (some ⟨b,0,none⟩)] w fun e w'=>e=.returned (.bool true)∧w=w':=by
 have c3:=hd.c3
 go_enter Tryz.func65,Tryz.ntmps65
 go_wp2_with (first | (go_at_call 63; refine (ald b 3 _ _ c3).mono ?_; rintro e w' ⟨rfl,rfl⟩))
 go_ret
 exact ⟨rfl,rfl⟩
theorem take_none (b bs:Nat) (S:Dk) (w:World) (hd:IsDk w b bs S) (hl:(S.left == -1)=false) (hl0:(S.left == 0)=true) :
 Calls Tryz.prog 65 #[.pointer (some ⟨b,0,none⟩)] w fun e w'=>e=.returned (.bool false)∧(IsDk w' b bs { S with power:=0 }∧Tch [b] w w'):=by
 have c3:=hd.c3
 have c4:=hd.c4
 have z4:=hd.z 4
 have HF:=Lib.hid (And.intro (hd.set4 0) ((Tch.refl [b] w).setCell (p:=⟨b,4,none⟩) (by simp) (.int .i64 0)))
 go_enter Tryz.func65,Tryz.ntmps65
 go_wp2_with (first | (go_at_call 63; refine (ald b 3 _ _ c3).mono ?_; rintro e w' ⟨rfl,rfl⟩) | (go_at_call 53; refine (ast b 4 _ _ _ c4 z4).mono ?_; rintro e w' ⟨rfl,rfl⟩))
 go_ret
 exact ⟨rfl,HF.out⟩
theorem take_one (b bs:Nat) (S:Dk) (w:World) (hd:IsDk w b bs S) (hl:(S.left == -1)=false) (hl0:(S.left == 0)=false) (h0 : -1≤S.left) (h1:S.left≤9223372036854775807) :
 Calls Tryz.prog 65 #[.pointer (some ⟨b,0,none⟩)] w fun e w'=>e=.returned (.bool true)∧(IsDk w' b bs { S with left:=S.left - 1 }∧Tch [b] w w'):=by
 have c3:=hd.c3
 have z3:=hd.z 3
 have HW:=Lib.hid (show wrap64 (S.left + -1)=S.left - 1 from by simp at hl hl0; rw [show S.left + -1=S.left - 1 from by omega]; exact IntWalk.wrap64_in _ ⟨by omega,by omega⟩)
 have HF:=Lib.hid (And.intro (hd.set3 (S.left - 1)) ((Tch.refl [b] w).setCell (p:=⟨b,3,none⟩) (by simp) (.int .i64 (S.left - 1))))
 have HA:=Lib.hid (aad b 3 S.left (-1) w c3 z3)
 rw [HW.out] at HA
 clear HW
 go_enter Tryz.func65,Tryz.ntmps65
 go_wp2_with (first | (go_at_call 63; refine (ald b 3 _ _ c3).mono ?_; rintro e w' ⟨rfl,rfl⟩) | (go_at_call 67; refine HA.out.mono ?_; rintro e w' ⟨rfl,rfl⟩))
 go_ret
 exact ⟨rfl,HF.out⟩
def tk (l:Int):Int:=if l = -1 then -1 else l - 1
theorem take_yes (b bs:Nat) (S:Dk) (w:World) (hd:IsDk w b bs S) (hl0:S.left≠0) (h0 : -1≤S.left) (h1:S.left≤9223372036854775807) :
 Calls Tryz.prog 65 #[.pointer (some ⟨b,0,none⟩)] w fun e w'=>e=.returned (.bool true)∧(IsDk w' b bs { S with left:=tk S.left }∧Tch [b] w w'):=by
 by_cases h:S.left = -1
 · refine (take_free b bs S w hd (by simp [h])).mono ?_
   rintro e w' ⟨rfl,rfl⟩
   refine ⟨rfl,?_,Tch.refl _ _⟩
   rw [show tk S.left=S.left from by simp [tk,h]]
   exact hd
 · refine (take_one b bs S w hd (by simp [h]) (by simp [hl0]) h0 h1).mono ?_
   rintro e w' ⟨rfl,hd',t'⟩
   refine ⟨rfl,?_,t'⟩
   rw [show tk S.left=S.left - 1 from by simp [tk,h]]
   exact hd'
def Dk.put (S:Dk) (i:Nat) (x:ByteArray):Dk:={ S with secs:=S.secs.set i (pad x),done:=S.done+1,reach:=max S.reach (i+1),left:=tk S.left }
set_option maxRecDepth 100000 in
set_option maxHeartbeats 1000000 in
theorem write_ok (b bs:Nat) (S:Dk) (i:Nat) (x:ByteArray) (w:World) (hd:IsDk w b bs S) (hp:(S.power == 1)=true) (hi:i < S.secs.length) (hx:x.size≤1024) (hl0:S.left≠0) (h0 : -1≤S.left) (h1:S.left≤9223372036854775807)
 (hn0:0≤S.done) (hn1:S.done < 9223372036854775807) :
 Calls Tryz.prog 32 #[.pointer (some ⟨b,0,none⟩),.int .i64 i,.string x] w fun e w'=>e=.returned (.int .i64 0)∧(IsDk w' b bs (S.put i x)∧Tch [b,bs] w w'):=by
 have HR:=Lib.hid (ref_in b bs S i w hd hp (by omega) (by omega))
 have HT:=Lib.hid (take_yes b bs S w hd hl0 h0 h1)
 have HP:=Lib.hid (fun w1=>pad_any x hx w1)
 have hlen:=hd.len
 have hbn:=hd.ne
 clear hp hl0 h0 h1
 go_enter Tryz.func32,Tryz.ntmps32
 go_wp2_with (first | (go_at_call 64; refine HR.out.mono ?_; rintro e w' ⟨rfl,rfl⟩) | (go_at_call 65; refine HT.out.mono ?_; rintro e w1 ⟨rfl,hd1,t1⟩))
 have c0:=hd1.c0
 have ci:=hd1.sc i _ (List.getElem?_eq_getElem hi)
 have zi:=hd1.sz i
 have hi2:(i:Int) < (S.secs.length:Int):=by omega
 go_region_with (go_at_call 66; refine (HP.out _).mono ?_; rintro e w2 ⟨rfl,t2⟩; have hd2:=IsDk.keep (w:=w1) (L:=[]) hd1 ⟨t2.os,t2.tape,t2.output,t2.size,t2.block⟩ (by simp) (by simp); have q0:=hd2.c0; have qi:=hd2.sc i _ (List.getElem?_eq_getElem hi); have zi2:=hd2.sz i)
 all_goals
  have t2':Tch [b,bs] w1 w2:=Tch.mono (L:=[]) ⟨t2.os,t2.tape,t2.output,t2.size,t2.block⟩ (by simp)
  have hd3:=hd2.sec i (pad x)
  have t3:=(t1.mono (L':=[b,bs]) (by simp)).trans (t2'.setCell (p:=⟨bs,i,none⟩) (by simp) (.string (pad x)))
  have HA:=Lib.hid (aad b 1 S.done 1 _ hd3.c1 (hd3.z 1))
  rw [show wrap64 (S.done+1)=S.done+1 from IntWalk.wrap64_in _ ⟨by omega,by omega⟩] at HA
  have hd4:=hd3.set1 (S.done+1)
  have t4:=t3.setCell (p:=⟨b,1,none⟩) (by simp) (.int .i64 (S.done+1))
  clear t3 t2' hd3 hd2 hd1 q0 qi zi2 c0 ci zi
  go_wp2_with (first | (go_at_call 67; refine HA.out.mono ?_; rintro e w3 ⟨rfl,rfl⟩))
  generalize (w2.setCell ⟨bs,i,none⟩ (.string (pad x))).setCell ⟨b,1,none⟩ (.int .i64 (S.done+1))=W4 at hd4 t4 ⊢
  have c2:=hd4.c2
  have z2:=hd4.z 2
  have hwr:IntKind.i64.wrap ((i:Int)+1)=(i:Int)+1:=IntWalk.i64_in _ (by omega)
  go_region_with (first | (go_at_call 63; refine (ald b 2 S.reach _ (by exact c2)).mono ?_; rintro e w5 ⟨rfl,rfl⟩) | (go_at_call 53; refine (ast b 2 _ _ _ (by exact c2) (by exact z2)).mono ?_; rintro e w5 ⟨rfl,rfl⟩))
  all_goals
   clear hwr
   go_wp2
   go_ret
   exact ⟨rfl,hd4.set2 (max S.reach (i+1)) |>.drew,(t4.setCell (p:=⟨b,2,none⟩) (by simp) _).drew⟩
theorem write_ref (b:Nat) (i:Int) (x:ByteArray) (w:World) (k:Int) (hk:(k != 0)=true)
 (hr:Calls Tryz.prog 64 #[.pointer (some ⟨b,0,none⟩),.int .i64 i] w fun e w'=>e=.returned (.int .i64 k)∧w=w') :
 Calls Tryz.prog 32 #[.pointer (some ⟨b,0,none⟩),.int .i64 i,.string x] w fun e w'=>e=.returned (.int .i64 k)∧w=w':=by
 have HR:=Lib.hid hr
 clear hr
 go_enter Tryz.func32,Tryz.ntmps32
 go_wp2_with (first | (go_at_call 64; refine HR.out.mono ?_; rintro e w' ⟨rfl,rfl⟩))
 go_ret
 exact ⟨rfl,rfl⟩
theorem write_off (b bs:Nat) (S:Dk) (i:Int) (x:ByteArray) (w:World) (hd:IsDk w b bs S) (hp:(S.power == 1)=false) :
 Calls Tryz.prog 32 #[.pointer (some ⟨b,0,none⟩),.int .i64 i,.string x] w fun e w'=>e=.returned (.int .i64 12)∧w=w' :=
 write_ref b i x w 12 (by decide) (ref_off b bs S i w hd hp)
theorem write_at (b bs:Nat) (S:Dk) (i:Int) (x:ByteArray) (w:World) (hd:IsDk w b bs S) (hp:(S.power == 1)=true) (hi:i < 0∨S.secs.length≤i) :
 Calls Tryz.prog 32 #[.pointer (some ⟨b,0,none⟩),.int .i64 i,.string x] w fun e w'=>e=.returned (.int .i64 10)∧w=w' :=
 write_ref b i x w 10 (by decide) (by
  by_cases h:i < 0
  · exact ref_low b bs S i w hd hp h
  · exact ref_high b bs S i w hd hp h (by omega))
theorem write_long (b bs:Nat) (S:Dk) (i:Nat) (x:ByteArray) (w:World) (hd:IsDk w b bs S) (hp:(S.power == 1)=true) (hi:i < S.secs.length) (hx:1024 < x.size) :
 Calls Tryz.prog 32 #[.pointer (some ⟨b,0,none⟩),.int .i64 i,.string x] w fun e w'=>e=.returned (.int .i64 11)∧w=w':=by
 have HR:=Lib.hid (ref_in b bs S i w hd hp (by omega) (by omega))
 go_enter Tryz.func32,Tryz.ntmps32
 go_wp2_with (first | (go_at_call 64; refine HR.out.mono ?_; rintro e w' ⟨rfl,rfl⟩))
 go_ret
 exact ⟨rfl,rfl⟩
theorem write_cut (b bs:Nat) (S:Dk) (i:Nat) (x:ByteArray) (w:World) (hd:IsDk w b bs S) (hp:(S.power == 1)=true) (hi:i < S.secs.length) (hx:x.size≤1024) (hl:S.left=0) :
 Calls Tryz.prog 32 #[.pointer (some ⟨b,0,none⟩),.int .i64 i,.string x] w fun e w'=>e=.returned (.int .i64 12)∧(IsDk w' b bs { S with power:=0 }∧Tch [b] w w'):=by
 have HR:=Lib.hid (ref_in b bs S i w hd hp (by omega) (by omega))
 have HT:=Lib.hid (take_none b bs S w hd (by simp [hl]) (by simp [hl]))
 clear hl
 go_enter Tryz.func32,Tryz.ntmps32
 go_wp2_with (first | (go_at_call 64; refine HR.out.mono ?_; rintro e w' ⟨rfl,rfl⟩) | (go_at_call 65; refine HT.out.mono ?_; rintro e w1 ⟨rfl,hd1,t1⟩))
 go_ret
 exact ⟨rfl,hd1,t1⟩
end Go.Proofs.YtlkgnljdpakkcaaGreatDoor
/-
 '(*Disk).Read' and 'New'. Conditions: the disk is one that New makes,or nil.
-/
namespace Go.Proofs.YtlkgnljdpakkcaaGreatDoor
open Go.RowKit
theorem read_ref (b:Nat) (i:Int) (w:World) (k:Int) (hk:(k != 0)=true)
 (hr:Calls Tryz.prog 64 #[.pointer (some ⟨b,0,none⟩),.int .i64 i] w fun e w'=>e=.returned (.int .i64 k)∧w=w') :
 Calls Tryz.prog 46 #[.pointer (some ⟨b,0,none⟩),.int .i64 i] w fun e w'=>e=.returned (.tuple #[.string ⟨#[]⟩,.int .i64 k])∧w=w':=by
 have HR:=Lib.hid hr
 clear hr
 go_enter Tryz.func46,Tryz.ntmps46
 go_wp2_with (first | (go_at_call 64; refine HR.out.mono ?_; rintro e w' ⟨rfl,rfl⟩))
 go_ret2
 exact ⟨rfl,rfl⟩
theorem read_off (b bs:Nat) (S:Dk) (i:Int) (w:World) (hd:IsDk w b bs S) (hp:(S.power == 1)=false) :
 Calls Tryz.prog 46 #[.pointer (some ⟨b,0,none⟩),.int .i64 i] w fun e w'=>e=.returned (.tuple #[.string ⟨#[]⟩,.int .i64 12])∧w=w' :=
 read_ref b i w 12 (by decide) (ref_off b bs S i w hd hp)
theorem read_at (b bs:Nat) (S:Dk) (i:Int) (w:World) (hd:IsDk w b bs S) (hp:(S.power == 1)=true) (hi:i < 0∨S.secs.length≤i) :
 Calls Tryz.prog 46 #[.pointer (some ⟨b,0,none⟩),.int .i64 i] w fun e w'=>e=.returned (.tuple #[.string ⟨#[]⟩,.int .i64 10])∧w=w' :=
 read_ref b i w 10 (by decide) (by
  by_cases h:i < 0
  · exact ref_low b bs S i w hd hp h
  · exact ref_high b bs S i w hd hp h (by omega))
theorem read_full (b bs:Nat) (S:Dk) (i:Nat) (s:ByteArray) (w:World) (hd:IsDk w b bs S) (hp:(S.power == 1)=true) (hs:S.secs[i]?=some s) (hne:s.toList.isEmpty=false) :
 Calls Tryz.prog 46 #[.pointer (some ⟨b,0,none⟩),.int .i64 i] w fun e w'=>e=.returned (.tuple #[.string s,.int .i64 0])∧w=w':=by
 have hi:i < S.secs.length:=(List.getElem?_eq_some_iff.1 hs).1
 have HR:=Lib.hid (ref_in b bs S i w hd hp (by omega) (by omega))
 have c0:=hd.c0
 have ci:=hd.sc i s hs
 have hi2:(i:Int) < (S.secs.length:Int):=by omega
 clear hs
 go_enter Tryz.func46,Tryz.ntmps46
 go_wp2_with (first | (go_at_call 64; refine HR.out.mono ?_; rintro e w' ⟨rfl,rfl⟩))
 go_ret2
 exact ⟨rfl,rfl⟩
theorem read_zero (b bs:Nat) (S:Dk) (i:Nat) (s:ByteArray) (w:World) (hd:IsDk w b bs S) (hp:(S.power == 1)=true) (hs:S.secs[i]?=some s) (hne:s.toList.isEmpty=true) (ho:S.once=0∨S.once=1∧S.zeros=zer) (hm:S.mu=0) :
 Calls Tryz.prog 46 #[.pointer (some ⟨b,0,none⟩),.int .i64 i] w fun e w'=>e=.returned (.tuple #[.string zer,.int .i64 0])∧(IsDk w' b bs { S with zeros:=zer,once:=1 }∧Tch [b] w w'):=by
 have hi:i < S.secs.length:=(List.getElem?_eq_some_iff.1 hs).1
 have HR:=Lib.hid (ref_in b bs S i w hd hp (by omega) (by omega))
 have HZ:=Lib.hid (zsec b bs S w hd ho hm)
 have c0:=hd.c0
 have ci:=hd.sc i s hs
 have hi2:(i:Int) < (S.secs.length:Int):=by omega
 clear hs ho hm
 go_enter Tryz.func46,Tryz.ntmps46
 go_wp2_with (first | (go_at_call 64; refine HR.out.mono ?_; rintro e w' ⟨rfl,rfl⟩) | (go_at_call 85; refine HZ.out.mono ?_; rintro e w1 ⟨rfl,hd1,t1⟩))
 go_ret2
 exact ⟨rfl,hd1,t1⟩
def fresh (n:Nat):Dk:={ secs:=List.replicate n ⟨#[]⟩,done:=0,reach:=0,left := -1,power:=1,once:=0,mu:=0,zeros:=⟨#[]⟩ }
theorem Tryz.info_str:(Tryz.prog.info? 9).map (fun i=>(i.zero,i.size,i.bytes))=some (some (.string ⟨#[]⟩),1,16):=by kernel_rfl
theorem made_strs (n:Nat):madeCells #[Value.string ⟨#[]⟩] n=((List.replicate n (⟨#[]⟩:ByteArray)).map Value.string).toArray:=by
 apply Array.ext
 · simp [madeCells]
 · intro i h1 h2
   simp [madeCells,Nat.mod_one]
def many (n:Int):Nat:=(min (max n 0) 16384).toNat
set_option maxHeartbeats 400000 in
theorem new_any (n:Int) (w:World) (h0 : -9223372036854775808≤n) (h1:n≤9223372036854775807) :
 Calls Tryz.prog 11 #[.int .i64 n] w fun e w'=>e=.returned (.pointer (some ⟨w.heap.size+1,0,none⟩))∧(IsDk w' (w.heap.size+1) w.heap.size (fresh (many n))∧Tch [] w w'):=by
 obtain ⟨i0,hi,hz0,hz1,hz2⟩:=info_parts Tryz.info_str
 have hmk:=run_make (P:=Tryz.prog) w 69 9 i0 (.string ⟨#[]⟩) Tryz.underlying69 hi hz0 .i64 .i64 (min (max n 0) 16384) (min (max n 0) 16384) (by omega) (by omega) (by rw [hz2]; omega) (by omega)
 rw [hz1,Nat.mul_one] at hmk
 have hm:(min (max n 0) 16384).toNat=many n:=rfl
 rw [hm] at hmk
 have hx:Value.cells (.string ⟨#[]⟩)=#[.string ⟨#[]⟩]:=rfl
 rw [hx] at hmk
 have HD:=Lib.hid (start_any (w.heap.size+1) w.heap.size { fresh (many n) with left:=0,power:=0 } ((w.alloc (.cells (madeCells #[.string ⟨#[]⟩] (many n)) 9)).alloc (.cells #[.slice (some ⟨w.heap.size,0,none⟩) (many n) (many n),.int .i64 0,.int .i64 0,.int .i64 0,.int .i64 0,.int .u32 0,.int .i32 0,.int .u32 0,.string ⟨#[]⟩] 123)) ⟨by
  have h:=blk_new (w.alloc (.cells (madeCells #[.string ⟨#[]⟩] (many n)) 9)) (.cells #[.slice (some ⟨w.heap.size,0,none⟩) (many n) (many n),.int .i64 0,.int .i64 0,.int .i64 0,.int .i64 0,.int .u32 0,.int .i32 0,.int .u32 0,.string ⟨#[]⟩] 123)
  rw [World.size_alloc] at h
  rw [h]
  simp [Dk.cells,fresh],by
  refine blk_alloc ?_ _
  rw [made_strs]
  exact blk_new w _,by omega,by simp [fresh,many]; omega⟩)
 have T0:=Lib.hid (((Tch.refl [] w).alloc (.cells (madeCells #[.string ⟨#[]⟩] (many n)) 9)).alloc (.cells #[.slice (some ⟨w.heap.size,0,none⟩) (many n) (many n),.int .i64 0,.int .i64 0,.int .i64 0,.int .i64 0,.int .u32 0,.int .i32 0,.int .u32 0,.string ⟨#[]⟩] 123))
 clear hm hi hz0 hz1 hz2 hx
 go_enter Tryz.func11,Tryz.ntmps11
 go_wp2_with fail
 refine HD.out.mono ?_
 rintro e w1 ⟨rfl,hd1,t1⟩
 go_wp2
 go_ret
 exact ⟨rfl,hd1,T0.out.transNew t1 (by simp)⟩
end Go.Proofs.YtlkgnljdpakkcaaGreatDoor
/-
 A disk as the document has it ('Ds': its texts,counts,cut and power),and what each call answers and leaves,as plain functions on it. Condition: the disk is one that New makes; its count of writes is below the greatest int64 at a write.
-/
namespace Go.Proofs.YtlkgnljdpakkcaaGreatDoor
open Go.RowKit
structure Ds where
 texts:List ByteArray
 done:Int
 reach:Int
 left:Int
 on:Bool
def Ds.wcode (D:Ds) (i:Int) (x:ByteArray):Int :=
 if D.on=false then 12 else if i < 0∨D.texts.length≤i then 10 else if 1024 < x.size then 11 else if D.left=0 then 12 else 0
def Ds.wstate (D:Ds) (i:Int) (x:ByteArray):Ds :=
 if D.on=false then D else if i < 0∨D.texts.length≤i then D else if 1024 < x.size then D else if D.left=0 then { D with on:=false }
 else { D with texts:=D.texts.set i.toNat x,done:=D.done+1,reach:=max D.reach (i+1),left:=tk D.left }
def Ds.rcode (D:Ds) (i:Int):Int:=if D.on=false then 12 else if i < 0∨D.texts.length≤i then 10 else 0
def Ds.rtext (D:Ds) (i:Int):ByteArray:=if D.on=false then ⟨#[]⟩ else if i < 0∨D.texts.length≤i then ⟨#[]⟩ else pad (D.texts.getD i.toNat ⟨#[]⟩)
theorem repeat_zero:∀ n,Lib.repeatL [0] n=List.replicate n (0:UInt8)
 | 0=>rfl
 | n+1=>by rw [Lib.repeatL,repeat_zero n,List.replicate_succ]; rfl
theorem zer_pad:zer=pad ⟨#[]⟩:=by
 unfold zer pad
 rw [repeat_zero]
 rfl
theorem pad_ne (x:ByteArray) (hx:x.size≤1024):(pad x).toList.isEmpty=false:=by
 have h1:=pad_len x hx
 rw [ByteArray.toList_eq]
 rcases h:(pad x).data.toList with _ | ⟨a,l⟩
 · rw [h] at h1
   simp at h1
 · rfl
def secOk (s x:ByteArray):Prop:=(s=⟨#[]⟩∧x=⟨#[]⟩∨s=pad x)∧x.size≤1024
def IsDs (w:World) (b bs:Nat) (D:Ds):Prop :=
 ∃ S:Dk,IsDk w b bs S∧S.mu=0∧(S.once=0∨S.once=1∧S.zeros=zer)∧S.secs.length=D.texts.length∧(∀ (i:Nat) (s x:ByteArray),S.secs[i]?=some s→D.texts[i]?=some x→secOk s x) ∧
  S.done=D.done∧S.reach=D.reach∧S.left=D.left∧S.power=(if D.on then 1 else 0)∧0≤D.done∧0≤D.reach∧D.reach≤D.texts.length ∧ -1≤D.left∧D.left≤9223372036854775807
theorem IsDs.keep {L:List Nat} {w w':World} {b bs:Nat} {D:Ds} (h:IsDs w b bs D) (t:Tch L w w') (h1:b ∉ L) (h2:bs ∉ L):IsDs w' b bs D:=by
 obtain ⟨S,hd,r⟩:=h
 exact ⟨S,hd.keep t h1 h2,r⟩
theorem IsDs.len {w:World} {b bs:Nat} {D:Ds} (h:IsDs w b bs D):D.texts.length≤16384:=by
 obtain ⟨S,hd,_,_,h,_⟩:=h
 rw [← h]; exact hd.len
theorem IsDs.lt {w:World} {b bs:Nat} {D:Ds} (h:IsDs w b bs D):b < w.heap.size∧bs < w.heap.size∧b≠bs:=by
 obtain ⟨S,hd,_⟩:=h
 exact ⟨lt_of_block hd.blk,lt_of_block hd.arr,hd.ne⟩
def freshD (n:Nat):Ds:={ texts:=List.replicate n ⟨#[]⟩,done:=0,reach:=0,left := -1,on:=true }
theorem dnew (n:Int) (w:World) (h0 : -9223372036854775808≤n) (h1:n≤9223372036854775807) :
 Calls Tryz.prog 11 #[.int .i64 n] w fun e w'=>e=.returned (.pointer (some ⟨w.heap.size+1,0,none⟩))∧(IsDs w' (w.heap.size+1) w.heap.size (freshD (many n))∧Tch [] w w'):=by
 refine (new_any n w h0 h1).mono ?_
 rintro e w' ⟨rfl,hd,t⟩
 refine ⟨rfl,⟨_,hd,rfl,Or.inl rfl,by simp [fresh,freshD],?_,rfl,rfl,rfl,rfl,by simp [freshD],by simp [freshD],by simp [freshD],by simp [freshD],by simp [freshD]⟩,t⟩
 intro i s x hs hx
 simp only [fresh,freshD] at hs hx
 rw [List.getElem?_replicate] at hs hx
 by_cases h:i < many n
 · rw [if_pos h] at hs hx
   cases hs; cases hx
   exact ⟨Or.inl ⟨rfl,rfl⟩,by decide⟩
 · rw [if_neg h] at hs
   cases hs
theorem dwrite (b bs:Nat) (D:Ds) (i:Int) (x:ByteArray) (w:World) (hd:IsDs w b bs D) (hn:D.done < 9223372036854775807) :
 Calls Tryz.prog 32 #[.pointer (some ⟨b,0,none⟩),.int .i64 i,.string x] w fun e w'=>e=.returned (.int .i64 (D.wcode i x))∧(IsDs w' b bs (D.wstate i x)∧Tch [b,bs] w w'):=by
 have hd0:=hd
 obtain ⟨S,hk,hm,ho,hl,hs,h1,h2,h3,h4,h5,h6,h7,h8,h9⟩:=hd
 by_cases hon:D.on=false
 · refine (write_off b bs S i x w hk (by simp [h4,hon])).mono ?_
   rintro e w' ⟨rfl,rfl⟩
   exact ⟨by simp [Ds.wcode,hon],by simpa [Ds.wstate,hon] using hd0,Tch.refl _ _⟩
 · have hp:(S.power == 1)=true:=by simp [h4,hon]
   by_cases hi:i < 0∨D.texts.length≤i
   · refine (write_at b bs S i x w hk hp (by rw [hl]; exact hi)).mono ?_
     rintro e w' ⟨rfl,rfl⟩
     refine ⟨by simp only [Ds.wcode]; rw [if_neg hon,if_pos hi],by simp only [Ds.wstate]; rw [if_neg hon,if_pos hi]; exact hd0,Tch.refl _ _⟩
   · obtain ⟨j,rfl⟩:=Int.eq_ofNat_of_zero_le (by omega:0≤i)
     have hj:j < S.secs.length:=by omega
     by_cases hx:1024 < x.size
     · refine (write_long b bs S j x w hk hp hj hx).mono ?_
       rintro e w' ⟨rfl,rfl⟩
       refine ⟨by simp only [Ds.wcode]; rw [if_neg hon,if_neg hi,if_pos hx],by simp only [Ds.wstate]; rw [if_neg hon,if_neg hi,if_pos hx]; exact hd0,Tch.refl _ _⟩
     · by_cases hc:D.left=0
       · refine (write_cut b bs S j x w hk hp hj (by omega) (by rw [h3]; exact hc)).mono ?_
         rintro e w' ⟨rfl,hk',t'⟩
         refine ⟨by simp only [Ds.wcode]; rw [if_neg hon,if_neg hi,if_neg hx,if_pos hc],?_,t'.mono (by simp)⟩
         simp only [Ds.wstate]; rw [if_neg hon,if_neg hi,if_neg hx,if_pos hc]
         exact ⟨_,hk',hm,ho,hl,hs,h1,h2,h3,rfl,h5,h6,h7,h8,h9⟩
       · refine (write_ok b bs S j x w hk hp hj (by omega) (by rw [h3]; exact hc) (by omega) (by omega) (by omega) (by omega)).mono ?_
         rintro e w' ⟨rfl,hk',t'⟩
         refine ⟨by simp only [Ds.wcode]; rw [if_neg hon,if_neg hi,if_neg hx,if_neg hc],?_,t'⟩
         simp only [Ds.wstate]; rw [if_neg hon,if_neg hi,if_neg hx,if_neg hc]
         refine ⟨_,hk',hm,ho,by simp [Dk.put,hl],?_,by simp [Dk.put,h1],by simp [Dk.put,h2],by simp [Dk.put,h3],h4,by simp; omega,by simp; omega,by simp; omega,by simp only [tk]; split <;> omega,by simp only [tk]; split <;> omega⟩
         intro q s y hq hy
         simp only [Dk.put,Int.toNat_natCast] at hq hy
         rw [List.getElem?_set] at hq hy
         by_cases hqj:j=q
         · rw [if_pos hqj,if_pos hj] at hq
           rw [if_pos hqj,if_pos (by omega)] at hy
           cases hq; cases hy
           exact ⟨Or.inr rfl,by omega⟩
         · rw [if_neg hqj] at hq hy
           exact hs q s y hq hy
theorem dread (b bs:Nat) (D:Ds) (i:Int) (w:World) (hd:IsDs w b bs D) :
 Calls Tryz.prog 46 #[.pointer (some ⟨b,0,none⟩),.int .i64 i] w fun e w'=>e=.returned (.tuple #[.string (D.rtext i),.int .i64 (D.rcode i)])∧(IsDs w' b bs D∧Tch [b] w w'):=by
 have hd0:=hd
 obtain ⟨S,hk,hm,ho,hl,hs,h1,h2,h3,h4,h5,h6,h7,h8,h9⟩:=hd
 by_cases hon:D.on=false
 · refine (read_off b bs S i w hk (by simp [h4,hon])).mono ?_
   rintro e w' ⟨rfl,rfl⟩
   exact ⟨by simp [Ds.rcode,Ds.rtext,hon],hd0,Tch.refl _ _⟩
 · have hp:(S.power == 1)=true:=by simp [h4,hon]
   by_cases hi:i < 0∨D.texts.length≤i
   · refine (read_at b bs S i w hk hp (by rw [hl]; exact hi)).mono ?_
     rintro e w' ⟨rfl,rfl⟩
     exact ⟨by simp only [Ds.rcode,Ds.rtext]; rw [if_neg hon,if_pos hi,if_neg hon,if_pos hi],hd0,Tch.refl _ _⟩
   · obtain ⟨j,rfl⟩:=Int.eq_ofNat_of_zero_le (by omega:0≤i)
     have hj:j < S.secs.length:=by omega
     have hj2:j < D.texts.length:=by omega
     have hsj:S.secs[j]?=some S.secs[j]:=List.getElem?_eq_getElem hj
     have hxj:D.texts[j]?=some D.texts[j]:=List.getElem?_eq_getElem hj2
     obtain ⟨hso,hxs⟩:=hs j _ _ hsj hxj
     have hr:D.rtext (j:Int)=pad D.texts[j]:=by
      simp only [Ds.rtext]; rw [if_neg hon,if_neg hi]; simp [List.getD_eq_getElem?_getD,hxj]
     have hc:D.rcode (j:Int)=0:=by simp only [Ds.rcode]; rw [if_neg hon,if_neg hi]
     rw [hr,hc]
     rcases hso with ⟨e1,e2⟩ | e1
     · refine (read_zero b bs S j S.secs[j] w hk hp hsj (by rw [e1,ByteArray.toList_eq]; rfl) ho hm).mono ?_
       rintro e w' ⟨rfl,hk',t'⟩
       refine ⟨by rw [e2,zer_pad],⟨_,hk',hm,Or.inr ⟨rfl,rfl⟩,hl,hs,h1,h2,h3,h4,h5,h6,h7,h8,h9⟩,t'⟩
     · refine (read_full b bs S j S.secs[j] w hk hp hsj (by rw [e1]; exact pad_ne _ hxs)).mono ?_
       rintro e w' ⟨rfl,rfl⟩
       exact ⟨by rw [e1],hd0,Tch.refl _ _⟩
theorem dcut (b bs:Nat) (D:Ds) (n:Int) (w:World) (hd:IsDs w b bs D) (h0 : -9223372036854775808≤n) (h1:n≤9223372036854775807) :
 Calls Tryz.prog 23 #[.pointer (some ⟨b,0,none⟩),.int .i64 n] w fun e w'=>e=.returned (.tuple #[])∧(IsDs w' b bs { D with left:=max n 0 }∧Tch [b] w w'):=by
 obtain ⟨S,hk,hm,ho,hl,hs,k1,h2,h3,h4,h5,h6,h7,h8,h9⟩:=hd
 refine (cut_any b bs S n w hk h0 h1).mono ?_
 rintro e w' ⟨rfl,hk',t'⟩
 exact ⟨rfl,⟨_,hk',hm,ho,hl,hs,k1,h2,rfl,h4,h5,h6,h7,by simp; omega,by simp; omega⟩,t'⟩
theorem dstart (b bs:Nat) (D:Ds) (w:World) (hd:IsDs w b bs D) :
 Calls Tryz.prog 29 #[.pointer (some ⟨b,0,none⟩)] w fun e w'=>e=.returned (.tuple #[])∧(IsDs w' b bs { D with left := -1,on:=true }∧Tch [b] w w'):=by
 obtain ⟨S,hk,hm,ho,hl,hs,k1,h2,h3,h4,h5,h6,h7,h8,h9⟩:=hd
 refine (start_any b bs S w hk).mono ?_
 rintro e w' ⟨rfl,hk',t'⟩
 exact ⟨rfl,⟨_,hk',hm,ho,hl,hs,k1,h2,rfl,rfl,h5,h6,h7,by simp,by simp⟩,t'⟩
theorem don (b bs:Nat) (D:Ds) (w:World) (hd:IsDs w b bs D) :
 Calls Tryz.prog 28 #[.pointer (some ⟨b,0,none⟩)] w fun e w'=>e=.returned (.bool D.on)∧w=w':=by
 obtain ⟨S,hk,hm,ho,hl,hs,k1,h2,h3,h4,h5,h6,h7,h8,h9⟩:=hd
 refine (on_any b bs S w hk).mono ?_
 rintro e w' ⟨rfl,rfl⟩
 exact ⟨by rw [h4]; cases D.on <;> rfl,rfl⟩
theorem dlen (b bs:Nat) (D:Ds) (w:World) (hd:IsDs w b bs D) :
 Calls Tryz.prog 15 #[.pointer (some ⟨b,0,none⟩)] w fun e w'=>e=.returned (.int .i64 D.texts.length)∧w=w':=by
 obtain ⟨S,hk,hm,ho,hl,hs,k1,h2,h3,h4,h5,h6,h7,h8,h9⟩:=hd
 refine (len_any b bs S w hk).mono ?_
 rintro e w' ⟨rfl,rfl⟩
 exact ⟨by rw [hl],rfl⟩
theorem wcode_in {D:Ds} {i:Int} {x:ByteArray} (hon:D.on=true) (h0:0≤i) (h1:i < D.texts.length) (hx:x.size≤1024) (hl:D.left≠0):D.wcode i x=0:=by
 simp only [Ds.wcode]; rw [if_neg (by simp [hon]),if_neg (by omega),if_neg (by omega),if_neg hl]
theorem wcode_cut {D:Ds} {i:Int} {x:ByteArray} (hon:D.on=true) (h0:0≤i) (h1:i < D.texts.length) (hx:x.size≤1024) (hl:D.left=0):D.wcode i x=12∧D.wstate i x={ D with on:=false }:=by
 simp only [Ds.wcode,Ds.wstate]; rw [if_neg (by simp [hon]),if_neg (by omega),if_neg (by omega),if_pos hl,if_neg (by simp [hon]),if_neg (by omega),if_neg (by omega),if_pos hl]; exact ⟨rfl,rfl⟩
theorem rd_in {D:Ds} {i:Int} (hon:D.on=true) (h0:0≤i) (h1:i < D.texts.length):D.rcode i=0∧D.rtext i=pad (D.texts.getD i.toNat ⟨#[]⟩):=by
 simp only [Ds.rcode,Ds.rtext]; rw [if_neg (by simp [hon]),if_neg (by omega),if_neg (by simp [hon]),if_neg (by omega)]; exact ⟨rfl,rfl⟩
theorem rd_off {D:Ds} {i:Int} (hon:D.on=false):D.rcode i=12∧D.rtext i=⟨#[]⟩:=by
 simp only [Ds.rcode,Ds.rtext]; rw [if_pos hon,if_pos hon]; exact ⟨rfl,rfl⟩
end Go.Proofs.YtlkgnljdpakkcaaGreatDoor
