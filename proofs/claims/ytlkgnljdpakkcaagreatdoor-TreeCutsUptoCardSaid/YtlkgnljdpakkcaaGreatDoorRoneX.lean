/-
  Parts of the proof: Rone.
-/
import Derived.Test.YtlkgnljdpakkcaaGreatDoorM27
import Derived.Test.YtlkgnljdpakkcaaGreatDoorM21
set_option linter.unusedVariables false
set_option linter.unusedSimpArgs false
/-
 The document's list behind one change.
-/
namespace Go.Proofs.YtlkgnljdpakkcaaGreatDoor
open Go.RowKit
theorem cells_twoR (w:World) (x y:Value) (T:TypeId):∀ j u,[x,y][j]?=some u→(w.alloc (.cells #[x,y] T)).cell? ((⟨w.heap.size,0,none⟩:Addr).add j)=some u:=fun j u hu=>by
 rw [add_mk,blk_cell (blk_new w _),Nat.zero_add]; simpa using hu
theorem Tryz.info_rp:(Tryz.prog.info? 71).map (fun i=>(i.zero,i.size,i.bytes))=some (some (.agg #[.string ⟨#[]⟩,.string ⟨#[]⟩]),2,32):=by kernel_rfl
theorem oneR_len (c:Ch):∀ (l:List En) (put:Bool),(oneR c put l).length≤l.length+(if put then 0 else 1)
 | [],put=>by cases put <;> simp [oneR]
 | e :: l,put=>by
  rw [oneR,List.length_append,List.length_append,List.length_cons]
  have i1:=oneR_len c l true
  have i2:=oneR_len c l false
  have h1:(if e.key=c.key then ([]:List En) else [e]).length≤1:=by split <;> simp
  simp only [if_true,Bool.false_eq_true,if_false] at i1 i2
  cases put <;> cases hs:slt e.key c.key
  · simp only [Bool.not_false,Bool.or_true,and_self,if_true,List.length_singleton,Bool.false_eq_true,if_false]; omega
  · simp only [Bool.not_true,Bool.or_false,Bool.true_eq_false,and_false,if_false,List.length_nil,Bool.false_eq_true]; omega
  · simp only [Bool.true_or,Bool.true_eq_false,false_and,if_false,List.length_nil,if_true]; omega
  · simp only [Bool.true_or,Bool.true_eq_false,false_and,if_false,List.length_nil,if_true]; omega
theorem key_same (a b:ByteArray):(a.toList == b.toList)=decide (a=b):=by
 by_cases h:a=b
 · subst h; simp
 · rw [decide_eq_false h,beq_eq_false_iff_ne]
   intro e
   apply h
   rw [ByteArray.toList_eq,ByteArray.toList_eq] at e
   cases a with | mk x=>cases b with | mk y =>
    simp only at e
    congr 1
    exact Array.toList_inj.1 e
def OneRel (w W0:World) (l:List En) (c:Ch) (n:Nat) (v5 v6 v7:Value) (wr:World):Prop :=
 ∃ (i:Nat) (O:List En) (put:Bool),n+i=l.length∧v7=.int .i64 (i:Nat)∧v6=.bool put∧oneR c c.gone l=O++oneR c put (l.drop i)∧wr.ownsRow W0.heap.size 71 2 v5 O.length (O.flatMap fPr)∧Tch [] W0 wr
def OnePost (w:World) (l:List En) (e:Ending) (w':World):Prop:=∃ v,e=.returned v∧w'.ownsRow w.heap.size 71 2 v l.length (l.flatMap fPr)∧Tch [] w w'
set_option maxRecDepth 100000 in
set_option maxHeartbeats 4000000 in
theorem rtone_any (l:List En) (c:Ch) (a:Option Addr) (n cap b o:Nat) (w:World) (hr:IsR fPr 2 w a n b o l) (hn:l.length≤1000000000) :
 Calls Tryz.prog 62 #[.slice a n cap,.agg #[.string c.key,.string c.val,.bool c.gone]] w (OnePost w (oneR c c.gone l)):=by
 obtain rfl:=hr.hlen
 obtain ⟨i0,hi,hz0,hz1,hz2⟩:=info_parts Tryz.info_rp
 obtain ⟨W0,hW0⟩:∃ W0,W0=w.alloc (.cells #[.string c.key,.string c.val,.bool c.gone] 157):=⟨_,rfl⟩
 have T0:Tch [] w W0:=by rw [hW0]; exact (Tch.refl _ _).alloc _
 have hb0:W0.heap[w.heap.size]?=some (.cells #[.string c.key,.string c.val,.bool c.gone] 157 (0,0)):=by rw [hW0]; exact blk_new _ _
 have HX:Hid (∀ W,Tch [] W0 W→W.cell? ⟨w.heap.size,0,none⟩=some (.string c.key)∧W.cell? ⟨w.heap.size,1,none⟩=some (.string c.val)∧W.cell? ⟨w.heap.size,2,none⟩=some (.bool c.gone)):=fun W t=>by
  have h1:=t.keep hb0 (by simp)
  exact ⟨by rw [blk_cell h1]; rfl,by rw [blk_cell h1]; rfl,by rw [blk_cell h1]; rfl⟩
 have HRW:Hid (∀ W,Tch [] W0 W→IsR fPr 2 W a l.length b o l):=fun W t=>hr.keep (T0.trans t) (fun _=>by simp)
 have HCE:Hid (∀ W,Tch [] W0 W→∀ k (hk:k < l.length),W.cell? ⟨b,o+k * 2,none⟩=some (.string l[k].key)∧W.cell? ⟨b,o+k * 2+1,none⟩=some (.string l[k].val)∧a=some ⟨b,o,none⟩):=fun W t k hk=>by
  have r:=HRW.out W t
  have hg:l[k]?=some l[k]:=List.getElem?_eq_getElem hk
  exact ⟨r.c hg 0 rfl,r.c hg 1 rfl,r.some_ (by omega)⟩
 have HOL:Hid (∀ O put i,oneR c c.gone l=O++oneR c put (l.drop i)→O.length≤l.length+1):=fun O put i h=>by
  have h1:=oneR_len c l c.gone
  rw [h,List.length_append] at h1
  split at h1 <;> omega
 have HF:Hid (∀ W v O,oneR c c.gone l=O→W.ownsRow W0.heap.size 71 2 v O.length (O.flatMap fPr)→Tch [] W0 W→OnePost w (oneR c c.gone l) (.returned v) W):=fun W v O h1 h2 t=>⟨v,rfl,by rw [h1]; exact own_base h2 T0.size,T0.trans t⟩
 have hx0:=HX.out W0 (Tch.refl _ _)
 obtain ⟨x0,x1,x2⟩:=hx0
 have HST:Hid (OneRel w W0 l c l.length (.slice none 0 0) (.bool c.gone) (.int .i64 0) W0):=⟨0,[],c.gone,rfl,rfl,rfl,rfl,World.ownsRow_nil _ _ _ _,Tch.refl _ _⟩
 clear hr hb0
 generalize OnePost w (oneR c c.gone l)=Q at *
 go_enter Tryz.func62,Tryz.ntmps62
 go_upto_region 1 with fail
 rw [← hW0]
 clear hW0
 go_wp2_with fail
 go_loopg [5,6,7] l.length (fun n v5 v6 v7 wr=>OneRel w W0 l c n v5 v6 v7 wr)
 case atStart=>exact HST.out
 case round =>
  obtain ⟨i,O,put,hni,rfl,rfl,hone,hrow,hB⟩:=hrel
  obtain ⟨y0,y1,y2⟩:=HX.out wr hB
  have hol:=HOL.out O put i hone
  clear x0 x1 x2
  match gk,hni with
  | 0,hni =>
   have hi':i=l.length:=by omega
   have hlt:decide (i < l.length)=false:=decide_eq_false (by omega)
   rw [hi',List.drop_length] at hone
   have HON:=Lib.hid hone
   have HROW:=Lib.hid hrow
   clear hone hi'
   obtain ⟨va,vc,rfl⟩:=own_slice hrow
   cases put
   · have HE:Hid (∀ W v,W.ownsRow W0.heap.size 71 2 v (O.length+1) (O.flatMap fPr++[.string c.key,.string c.val])→Tch [] W0 W→Q (.returned v) W):=fun W v h1 t=>HF.out W v (O++[⟨c.key,c.val,0⟩]) HON.out (by rw [List.length_append,List.flatMap_append]; exact h1) t
     have hws:=hB.size
     clear hrow HF HON
     go_wp2_with (at_builtin; refine wpList_append_own _ rfl _ _ 34 rfl W0.heap.size 71 i0 _ 2 32 Tryz.underlying34 hi hz0 hz1 hz2 rfl (by decide) _ O.length _ rfl (HROW.out.alloc _) ⟨wr.heap.size,0,none⟩ 1 1 [.string c.key,.string c.val] rfl rfl (cells_twoR wr _ _ _) (by simp [Value.oneCell']) (by unfold maxLen; omega) (by omega) (by simp; omega) ?_; intro v9 w9 o9 hg9 _)
     have HE2:=HE.out w9 v9 o9 ((hB.alloc _).own (HROW.out.alloc _) (Nat.le_refl _) hg9)
     first | exact HE2 | (go_ret2; exact HE2)
   · have HE:=HF.out wr _ O (by rw [HON.out]; simp [oneR]) HROW.out hB
     clear hrow
     go_wp2_with fail
     first | exact HE | (go_ret2; exact HE)
  | m+1,hni =>
   have hi':i < l.length:=by omega
   have hlt:decide (i < l.length)=true:=decide_eq_true hi'
   have hi0:(0:Int)≤(i:Int):=by omega
   have hi1:(i:Int) < (l.length:Int):=by omega
   obtain ⟨s0,s1,ha⟩:=HCE.out wr hB i hi'
   obtain ⟨en,hen⟩:∃ en,en=l[i]:=⟨_,rfl⟩
   rw [← hen] at s0 s1
   rw [List.drop_eq_getElem_cons hi',← hen,oneR] at hone
   have hws:=hB.size
   obtain ⟨va,vc,rfl⟩:=own_slice hrow
   subst ha
   have HEN:Hid (∀ W,Tch [] W0 W→W.cell? ⟨b,o+i * 2,none⟩=some (.string en.key)∧W.cell? ⟨b,o+i * 2+1,none⟩=some (.string en.val)):=fun W t=>by
    obtain ⟨z0,z1,_⟩:=HCE.out W t i hi'
    rw [← hen] at z0 z1
    exact ⟨z0,z1⟩
   have HSL:Hid (slt en.key c.key=Go.Op.bytesLess en.key.toList c.key.toList):=rfl
   have hgo:∀ (O2:List En) (put2:Bool) v2 W2,oneR c c.gone l=O2++oneR c put2 (l.drop (i+1))→W2.ownsRow W0.heap.size 71 2 v2 O2.length (O2.flatMap fPr)→Tch [] W0 W2→OneRel w W0 l c m v2 (.bool put2) (.int .i64 ((i:Int)+1)) W2:=fun O2 put2 v2 W2 h1 h2 t=>⟨i+1,O2,put2,by omega,by simp,rfl,h1,h2,t⟩
   have HGO:=Lib.hid hgo
   have HON:=Lib.hid hone
   have HROW:=Lib.hid hrow
   clear hone hrow hgo hen
   have hb:=key_same en.key c.key
   cases put
   · cases hs:slt en.key c.key
     · have hs2:Go.Op.bytesLess en.key.toList c.key.toList=false:=hs
       rw [hs,if_pos ⟨rfl,rfl⟩,Bool.not_false,Bool.or_true] at HON
       have HAP:Hid (∀ q o,((wr.drewN q).alloc o).ownsRow W0.heap.size 71 2 (.slice va O.length vc) O.length (O.flatMap fPr)):=fun q o=>own_keep HROW.out ((tdrewN (Tch.refl [] wr) q).alloc o) (fun _ _=>by simp)
       have HBB:Hid (∀ q o W,((wr.drewN q).alloc o).grownBy W (Value.slice va O.length vc).ownBlock→Tch [] W0 W):=fun q o W hg=>((tdrewN hB q).alloc o).own (HAP.out q o) (Nat.le_refl _) hg
       by_cases hk:en.key=c.key
       · rw [if_pos hk,List.nil_append] at HON
         rw [decide_eq_true hk] at hb
         have HL:Hid (∀ q o v W W',((wr.drewN q).alloc o).grownBy W (Value.slice va O.length vc).ownBlock→W.ownsRow W0.heap.size 71 2 v (O.length+1) (O.flatMap fPr++[.string c.key,.string c.val])→Tch [] W W'→OneRel w W0 l c m v (.bool true) (.int .i64 ((i:Int)+1)) W'):=fun q o v W W' hg h1 t=>HGO.out (O++[⟨c.key,c.val,0⟩]) true v W' (by rw [List.append_assoc]; exact HON.out) (by rw [List.length_append,List.flatMap_append]; exact own_keep h1 t (fun _ _=>by simp)) ((HBB.out q o W hg).trans t)
         have HCW:Hid (∀ q o1 W,((wr.drewN q).alloc o1).grownBy W (Value.slice va O.length vc).ownBlock→W.cell? ⟨w.heap.size,0,none⟩=some (.string c.key)∧W.cell? ⟨b,o+i * 2,none⟩=some (.string en.key)):=fun q o1 W hg=>⟨(HX.out W (HBB.out q o1 W hg)).1,(HEN.out W (HBB.out q o1 W hg)).1⟩
         clear hk hs HGO HON
         go_wp2_with fail
         go_quiet (fail)
         go_wp2_with (at_builtin; refine wpList_append_own _ rfl _ _ 34 rfl W0.heap.size 71 i0 _ 2 32 Tryz.underlying34 hi hz0 hz1 hz2 rfl (by decide) _ O.length _ rfl (HAP.out _ _) ⟨wr.heap.size,0,none⟩ 1 1 [.string c.key,.string c.val] rfl rfl (cells_twoR _ _ _ _) (by simp [Value.oneCell']) (by unfold maxLen; omega) (by omega) (by simp; omega) ?_; intro v9 w9 o9 hg9 _; obtain ⟨x9,z9⟩:=HCW.out _ _ w9 hg9)
         go_quiet (fail)
         have HE:=Lib.hid (fun W' t=>HL.out _ _ v9 w9 W' hg9 o9 t)
         clear HL HCW HAP HBB o9 hg9
         go_wp2_with fail
         go_roundg m
         case measure=>omega
         case rel=>exact HE.out _ (tdrewN (Tch.refl [] _) _)
       · rw [if_neg hk] at HON
         rw [decide_eq_false hk] at hb
         have HL:Hid (∀ q o v W,((wr.drewN q).alloc o).grownBy W (Value.slice va O.length vc).ownBlock→W.ownsRow W0.heap.size 71 2 v (O.length+1) (O.flatMap fPr++[.string c.key,.string c.val])→∀ q2 o2 v2 W2,((W.drewN q2).alloc o2).grownBy W2 v.ownBlock→W2.ownsRow W0.heap.size 71 2 v2 (O.length+1+1) (O.flatMap fPr++[.string c.key,.string c.val]++[.string en.key,.string en.val])→OneRel w W0 l c m v2 (.bool true) (.int .i64 ((i:Int)+1)) W2):=fun q o v W hg h1 q2 o2 v2 W2 hg2 h2=>HGO.out (O++[⟨c.key,c.val,0⟩]++[en]) true v2 W2 (by rw [List.append_assoc,List.append_assoc]; exact HON.out) (by rw [List.length_append,List.flatMap_append,List.length_append,List.flatMap_append]; exact h2) (((tdrewN (HBB.out q o W hg) q2).alloc o2).own (own_keep h1 ((tdrewN (Tch.refl [] W) q2).alloc o2) (fun _ _=>by simp)) (Nat.le_refl _) hg2)
         have HCW:Hid (∀ q o1 W,((wr.drewN q).alloc o1).grownBy W (Value.slice va O.length vc).ownBlock→W0.heap.size≤W.heap.size∧W.cell? ⟨w.heap.size,0,none⟩=some (.string c.key)∧W.cell? ⟨b,o+i * 2,none⟩=some (.string en.key)∧W.cell? ⟨b,o+i * 2+1,none⟩=some (.string en.val)):=fun q o1 W hg=>⟨(HBB.out q o1 W hg).size,(HX.out W (HBB.out q o1 W hg)).1,(HEN.out W (HBB.out q o1 W hg)).1,(HEN.out W (HBB.out q o1 W hg)).2⟩
         clear hk hs HGO HON
         go_wp2_with fail
         go_quiet (fail)
         go_wp2_with (at_builtin; refine wpList_append_own _ rfl _ _ 34 rfl W0.heap.size 71 i0 _ 2 32 Tryz.underlying34 hi hz0 hz1 hz2 rfl (by decide) _ O.length _ rfl (HAP.out _ _) ⟨wr.heap.size,0,none⟩ 1 1 [.string c.key,.string c.val] rfl rfl (cells_twoR _ _ _ _) (by simp [Value.oneCell']) (by unfold maxLen; omega) (by omega) (by simp; omega) ?_; intro v9 w9 o9 hg9 _; obtain ⟨n9,x9,y9,z9⟩:=HCW.out _ _ w9 hg9)
         obtain ⟨va9,vc9,rfl⟩:=own_slice o9
         have HE:=Lib.hid (HL.out _ _ _ w9 hg9 o9)
         have HA9:Hid (∀ q2 o2,((w9.drewN q2).alloc o2).ownsRow W0.heap.size 71 2 (.slice va9 (O.length+1) vc9) (O.length+1) (O.flatMap fPr++[.string c.key,.string c.val])):=fun q2 o2=>own_keep o9 ((tdrewN (Tch.refl [] w9) q2).alloc o2) (fun _ _=>by simp)
         clear HL HCW HAP HBB o9 hg9
         go_quiet (fail)
         go_wp2_with (at_builtin; refine wpList_append_own _ rfl _ _ 34 rfl W0.heap.size 71 i0 _ 2 32 Tryz.underlying34 hi hz0 hz1 hz2 rfl (by decide) _ (O.length+1) _ rfl (HA9.out _ _) ⟨w9.heap.size,0,none⟩ 1 1 [.string en.key,.string en.val] rfl rfl (cells_twoR _ _ _ _) (by simp [Value.oneCell']) (by unfold maxLen; omega) (by omega) (by simp; omega) ?_; intro v10 w10 o10 hg10 _)
         have HE2:=Lib.hid (HE.out _ _ v10 w10 hg10 o10)
         clear HE HA9 o10 hg10
         go_roundg m
         case measure=>omega
         case rel=>exact HE2.out
     · have hs2:Go.Op.bytesLess en.key.toList c.key.toList=true:=hs
       have hk:¬ en.key=c.key:=lt_ne hs
       rw [hs,if_neg (by simp),Bool.not_true,Bool.or_false,List.nil_append,if_neg hk] at HON
       rw [decide_eq_false hk] at hb
       have HAP:Hid (∀ q o,((wr.drewN q).alloc o).ownsRow W0.heap.size 71 2 (.slice va O.length vc) O.length (O.flatMap fPr)):=fun q o=>own_keep HROW.out ((tdrewN (Tch.refl [] wr) q).alloc o) (fun _ _=>by simp)
       have HL:Hid (∀ q o v W,((wr.drewN q).alloc o).grownBy W (Value.slice va O.length vc).ownBlock→W.ownsRow W0.heap.size 71 2 v (O.length+1) (O.flatMap fPr++[.string en.key,.string en.val])→OneRel w W0 l c m v (.bool false) (.int .i64 ((i:Int)+1)) W):=fun q o v W hg h1=>HGO.out (O++[en]) false v W (by rw [List.append_assoc]; exact HON.out) (by rw [List.length_append,List.flatMap_append]; exact h1) (((tdrewN hB q).alloc o).own (HAP.out q o) (Nat.le_refl _) hg)
       clear hk HGO HON
       go_wp2_with fail
       go_quiet (fail)
       go_wp2_with fail
       go_quiet (fail)
       go_wp2_with (at_builtin; refine wpList_append_own _ rfl _ _ 34 rfl W0.heap.size 71 i0 _ 2 32 Tryz.underlying34 hi hz0 hz1 hz2 rfl (by decide) _ O.length _ rfl (HAP.out _ _) ⟨wr.heap.size,0,none⟩ 1 1 [.string en.key,.string en.val] rfl rfl (cells_twoR _ _ _ _) (by simp [Value.oneCell']) (by unfold maxLen; omega) (by omega) (by simp; omega) ?_; intro v9 w9 o9 hg9 _)
       have HE:=Lib.hid (HL.out _ _ v9 w9 hg9 o9)
       clear HL HAP o9 hg9
       go_roundg m
       case measure=>omega
       case rel=>exact HE.out
   · rw [if_neg (by simp),Bool.true_or,List.nil_append] at HON
     by_cases hk:en.key=c.key
     · rw [if_pos hk,List.nil_append] at HON
       rw [decide_eq_true hk] at hb
       have HL:Hid (∀ q,OneRel w W0 l c m (.slice va O.length vc) (.bool true) (.int .i64 ((i:Int)+1)) (wr.drewN q)):=fun q=>HGO.out O true _ _ HON.out (own_keep HROW.out (tdrewN (Tch.refl [] wr) q) (fun _ _=>by simp)) (tdrewN hB q)
       clear hk HGO HSL
       go_wp2_with fail
       go_quiet (fail)
       go_wp2_with fail
       go_quiet (fail)
       go_wp2_with fail
       go_roundg m
       case measure=>omega
       case rel=>exact HL.out _
     · rw [if_neg hk] at HON
       rw [decide_eq_false hk] at hb
       have HAP:Hid (∀ q o,((wr.drewN q).alloc o).ownsRow W0.heap.size 71 2 (.slice va O.length vc) O.length (O.flatMap fPr)):=fun q o=>own_keep HROW.out ((tdrewN (Tch.refl [] wr) q).alloc o) (fun _ _=>by simp)
       have HL:Hid (∀ q o v W,((wr.drewN q).alloc o).grownBy W (Value.slice va O.length vc).ownBlock→W.ownsRow W0.heap.size 71 2 v (O.length+1) (O.flatMap fPr++[.string en.key,.string en.val])→OneRel w W0 l c m v (.bool true) (.int .i64 ((i:Int)+1)) W):=fun q o v W hg h1=>HGO.out (O++[en]) true v W (by rw [List.append_assoc]; exact HON.out) (by rw [List.length_append,List.flatMap_append]; exact h1) (((tdrewN hB q).alloc o).own (HAP.out q o) (Nat.le_refl _) hg)
       clear hk HGO HON
       go_wp2_with fail
       go_quiet (fail)
       go_wp2_with fail
       go_quiet (fail)
       go_wp2_with (at_builtin; refine wpList_append_own _ rfl _ _ 34 rfl W0.heap.size 71 i0 _ 2 32 Tryz.underlying34 hi hz0 hz1 hz2 rfl (by decide) _ O.length _ rfl (HAP.out _ _) ⟨wr.heap.size,0,none⟩ 1 1 [.string en.key,.string en.val] rfl rfl (cells_twoR _ _ _ _) (by simp [Value.oneCell']) (by unfold maxLen; omega) (by omega) (by simp; omega) ?_; intro v9 w9 o9 hg9 _)
       have HE:=Lib.hid (HL.out _ _ v9 w9 hg9 o9)
       clear HL HAP o9 hg9
       go_roundg m
       case measure=>omega
       case rel=>exact HE.out
end Go.Proofs.YtlkgnljdpakkcaaGreatDoor
