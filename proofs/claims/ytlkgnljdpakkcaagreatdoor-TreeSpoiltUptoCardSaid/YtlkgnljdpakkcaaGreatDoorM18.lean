/-
  Parts of the proof: Anc, Nre, Nrr, Ndc.
-/
import Derived.Test.YtlkgnljdpakkcaaGreatDoorM17
import Derived.Test.YtlkgnljdpakkcaaGreatDoorM03
import Derived.Lib.TrimByte
import Derived.Test.YtlkgnljdpakkcaaGreatDoorM05
import Derived.Test.YtlkgnljdpakkcaaGreatDoorM02
set_option linter.unusedVariables false
set_option linter.unusedSimpArgs false
/-
 'readAnchor': what the bytes of a tree's sector 0 tell.
-/
namespace Go.Proofs.YtlkgnljdpakkcaaGreatDoor
open Go.RowKit
def rAnc (L:List UInt8) (sec:Nat):Option Nat:=if (rdu L 0 0).1=0∧(rdu L 0 0).2.1 < sec∧nil0 (L.drop (rdu L 0 0).2.2)=true then some (rdu L 0 0).2.1 else none
def ancV (o:Option Nat):Value:=match o with
 | some r=>.tuple #[.agg #[.int .i64 r],.bool true]
 | none=>.tuple #[.agg #[.int .i64 0],.bool false]
set_option maxRecDepth 100000 in
set_option maxHeartbeats 4000000 in
theorem readAnchor_any (s:ByteArray) (sec:Nat) (w:World) (hs:s.size≤1000000000) (hsec:sec≤1000000000):Calls Tryz.prog 81 #[.string s,.int .i64 sec] w fun e w'=>e=.returned (ancV (rAnc s.data.toList sec))∧Tch [] w w':=by
 have HR:Hid (∀ W,Calls Tryz.prog 86 #[.string s,.int .i64 0] W fun e w'=>e=rduE (s.data.toList.drop 0) 0∧W=w'):=fun W=>rdu_at s 0 W (by omega)
 have HTR:Hid (∀ q w',q≤s.size→Calls Tryz.prog 88 #[.string (s.extract q s.size),.string ⟨#[0]⟩] w' fun e w2=>e=.returned (.string ⟨(Lib.trimB (s.data.toList.drop q) 0).toArray⟩)∧Tch [] w' w2):=fun q w' hq=>by
  have hsz:(s.extract q s.size).size≤9223372036854775807:=by rw [Lib.size_eq,Lib.extract_data,List.length_take,List.length_drop,← Lib.size_eq]; omega
  have h:=Tryz.strings_Trim_one (s.extract q s.size) 0 (by decide) w' hsz
  rw [Lib.extract_data,List.take_of_length_le (by rw [List.length_drop,← Lib.size_eq]; exact Nat.le_refl _)] at h
  refine h.mono ?_
  rintro e w2 ⟨he,hw⟩
  refine ⟨he,?_⟩
  rcases hw with rfl | rfl
  · exact Tch.refl _ _
  · exact (Tch.refl _ _).drew
 have hL:s.data.toList.length=s.size:=(Lib.size_eq s).symm
 have HB:Hid (∀ u n,rdu s.data.toList 0 0=(0,u,n)→u < 18446744073709551616∧n≤s.size):=fun u n h=>by
  have:=rdu_bound s.data.toList 0 0 0 u n h (by simp) (by omega) rfl
  omega
 have HA:Hid (rAnc s.data.toList sec=if (rdu s.data.toList 0 0).1=0∧(rdu s.data.toList 0 0).2.1 < sec∧nil0 (s.data.toList.drop (rdu s.data.toList 0 0).2.2)=true then some (rdu s.data.toList 0 0).2.1 else none):=rfl
 have T0:Tch [] w (w.alloc (.cells #[.int .i64 0] 126)):=(Tch.refl _ _).alloc _
 have hb0:=blk_new w (.cells #[.int .i64 0] 126)
 generalize hq:s.data.toList=L at *
 clear hq
 obtain ⟨c,v,n,hc⟩:∃ c v n,rdu L 0 0=(c,v,n):=⟨_,_,_,rfl⟩
 unfold rduE at HR
 rw [List.drop_zero,hc] at HR
 rw [hc] at HA
 simp only [Nat.zero_add] at HR HA
 have q0:=blk_cell hb0 0
 have f0:=blk_free hb0 0
 simp only [List.getElem?_toArray,List.getElem?_cons_zero] at q0
 have hsm:(sec:Int) % 18446744073709551616=sec:=Int.emod_eq_of_lt (by omega) (by omega)
 by_cases h0:c=0
 · subst h0
   obtain ⟨hv,hn⟩:=HB.out v n hc
   rw [if_pos rfl] at HR
   have hn0:(0:Int)≤(n:Int):=by omega
   have hn1:(n:Int)≤(s.size:Int):=by omega
   by_cases h1:v < sec
   · have hd:decide ((sec:Int)≤(v:Int))=false:=decide_eq_false (by omega)
     have HT2:=Lib.hid (HTR.out n · hn)
     cases h2:nil0 (L.drop n)
     · have HQ:Hid (rAnc L sec=none):=by show _=_; rw [HA.out,h2]; simp
       have htr:(⟨(Lib.trimB (L.drop n) 0).toArray⟩:ByteArray).toList.isEmpty=false:=by
        rw [ByteArray.toList_eq]
        have:=ntrim_some h2
        rcases hl:Lib.trimB (L.drop n) 0 with _ | ⟨x,l⟩
        · exact absurd hl this
        · rfl
       generalize (⟨(Lib.trimB (L.drop n) 0).toArray⟩:ByteArray)=tr at *
       clear HA HB HTR hc h2
       go_enter Tryz.func81,Tryz.ntmps81
       go_upto_region 1 with fail
       generalize w.alloc (.cells #[.int .i64 0] 126)=W0 at *
       go_wp2_with (first | (go_at_call 86; (with_reducible refine (HR.out _).mono ?_); rintro e w3 ⟨rfl,rfl⟩) | (go_at_call 88; (with_reducible refine (HT2.out _).mono ?_); rintro e w4 ⟨rfl,t4⟩; have hb4:=t4.keep hb0 (by simp); have p0:=blk_cell hb4 0; have g0:=blk_free hb4 0; simp only [List.getElem?_toArray,List.getElem?_cons_zero] at p0))
       have T5:Tch [] w (w4.setCell ⟨w.heap.size,0,none⟩ (.int .i64 0)):=(T0.trans t4).setNew (Nat.le_refl _) _
       have q4:=blk_cell (blk_set hb4 0 (.int .i64 0)) 0
       simp at q4
       exact bodyPost_ret (v:=.tuple #[.agg #[.int .i64 0],.bool false]) (by simp [results,Tryz.results81,go_sem,q4]) rfl ⟨by rw [HQ.out]; rfl,T5⟩
     · have HQ:Hid (rAnc L sec=some v):=by show _=_; rw [HA.out,h2]; simp [h1]
       have htr:(⟨(Lib.trimB (L.drop n) 0).toArray⟩:ByteArray).toList.isEmpty=true:=by
        rw [ntrim_nil h2,ByteArray.toList_eq]
        rfl
       have hvm:(v:Int)≤9223372036854775807:=by omega
       generalize (⟨(Lib.trimB (L.drop n) 0).toArray⟩:ByteArray)=tr at *
       clear HA HB HTR hc h2
       go_enter Tryz.func81,Tryz.ntmps81
       go_upto_region 1 with fail
       generalize w.alloc (.cells #[.int .i64 0] 126)=W0 at *
       go_wp2_with (first | (go_at_call 86; (with_reducible refine (HR.out _).mono ?_); rintro e w3 ⟨rfl,rfl⟩) | (go_at_call 88; (with_reducible refine (HT2.out _).mono ?_); rintro e w4 ⟨rfl,t4⟩; have hb4:=t4.keep hb0 (by simp); have p0:=blk_cell hb4 0; have g0:=blk_free hb4 0; simp only [List.getElem?_toArray,List.getElem?_cons_zero] at p0))
       have T5:Tch [] w (w4.setCell ⟨w.heap.size,0,none⟩ (.int .i64 (v:Nat))):=(T0.trans t4).setNew (Nat.le_refl _) _
       have q4:=blk_cell (blk_set hb4 0 (.int .i64 (v:Nat))) 0
       simp at q4
       exact bodyPost_ret (v:=.tuple #[.agg #[.int .i64 (v:Nat)],.bool true]) (by simp [results,Tryz.results81,go_sem,q4]) rfl ⟨by rw [HQ.out]; rfl,T5⟩
   · have HQ:Hid (rAnc L sec=none):=by show _=_; rw [HA.out]; simp [h1]
     have hd:decide ((sec:Int)≤(v:Int))=true:=decide_eq_true (by omega)
     have hle:sec≤v:=by omega
     have hd2:decide (sec≤v)=true:=decide_eq_true hle
     have hnl:¬ (v:Int) < (sec:Int):=by omega
     clear HA HB HTR hc
     go_enter Tryz.func81,Tryz.ntmps81
     go_upto_region 1 with fail
     generalize w.alloc (.cells #[.int .i64 0] 126)=W0 at *
     go_wp2_with (go_at_call 86; (with_reducible refine (HR.out _).mono ?_); rintro e w3 ⟨rfl,rfl⟩)
     all_goals try omega
     have T5:Tch [] w (W0.setCell ⟨w.heap.size,0,none⟩ (.int .i64 0)):=T0.setNew (Nat.le_refl _) _
     have q4:=blk_cell (blk_set hb0 0 (.int .i64 0)) 0
     simp at q4
     exact bodyPost_ret (v:=.tuple #[.agg #[.int .i64 0],.bool false]) (by simp [results,Tryz.results81,go_sem,q4]) rfl ⟨by rw [HQ.out]; rfl,T5⟩
 · have HQ:Hid (rAnc L sec=none):=by show _=_; rw [HA.out]; simp [h0]
   have hb:(c != 0)=true:=by simpa using h0
   rw [if_neg h0] at HR
   clear HA HB HTR hc
   go_enter Tryz.func81,Tryz.ntmps81
   go_upto_region 1 with fail
   generalize w.alloc (.cells #[.int .i64 0] 126)=W0 at *
   go_wp2_with (go_at_call 86; (with_reducible refine (HR.out _).mono ?_); rintro e w3 ⟨rfl,rfl⟩)
   have T5:Tch [] w (W0.setCell ⟨w.heap.size,0,none⟩ (.int .i64 0)):=T0.setNew (Nat.le_refl _) _
   have q4:=blk_cell (blk_set hb0 0 (.int .i64 0)) 0
   simp at q4
   exact bodyPost_ret (v:=.tuple #[.agg #[.int .i64 0],.bool false]) (by simp [results,Tryz.results81,go_sem,q4]) rfl ⟨by rw [HQ.out]; rfl,T5⟩
end Go.Proofs.YtlkgnljdpakkcaaGreatDoor
/-
 'readEntry' of package node: the entry that stands at a place of a text,behind those of a node of the caller's own. Conditions: texts shorter than 10^8 bytes,fewer than 10^8 entries.
-/
namespace Go.Proofs.YtlkgnljdpakkcaaGreatDoor
open Go.RowKit
def CellsN (nb:Nat) (w:World):Prop:=∃ (lf:Bool) (ka:Option Addr) (kn kc:Nat) (va:Option Addr) (vn vc:Nat) (ia:Option Addr) (im ic:Nat),w.heap[nb]?=some (.cells #[.bool lf,.slice ka kn kc,.slice va vn vc,.slice ia im ic] 138 (0,0))
theorem OwV.cells {B nb:Nat} {leaf:Bool} {kv vv iv:Value} {ks vs:List ByteArray} {is:List Int} {w:World} (h:OwV B nb leaf kv vv iv ks vs is w):CellsN nb w:=by
 obtain ⟨xk,ck,rfl⟩:=own_slice h.hk
 obtain ⟨xv,cv,rfl⟩:=own_slice h.hv
 obtain ⟨xi,ci,rfl⟩:=own_slice h.hi
 exact ⟨_,_,_,_,_,_,_,_,_,_,h.hb⟩
def RePost (B nb:Nat) (leaf:Bool) (es:List En) (L:List UInt8) (p:Nat) (w:World) (e:Ending) (w':World):Prop :=
 Below B w w'∧((∃ en n,pde leaf L=some (en,n)∧e=.returned (.tuple #[.int .i64 ((p+n:Nat):Int),.int .i64 0])∧OwE B nb leaf (es++[en]) w') ∨
  (∃ a c:Int,pde leaf L=none∧c≠0∧e=.returned (.tuple #[.int .i64 a,.int .i64 c])∧CellsN nb w'))
theorem pde_key {leaf:Bool} {L:List UInt8} {p:Nat} {c:Int} {t:ByteArray} {n:Nat} (h:rtx (L.drop p)=(c,t,n)) (hc:c≠0):pde leaf (L.drop p)=none:=by unfold pde; rw [h]; simp [hc]
theorem pde_val {L:List UInt8} {p:Nat} {t:ByteArray} {n:Nat} {c2:Int} {t2:ByteArray} {n2:Nat} (h:rtx (L.drop p)=(0,t,n)) (h2:rtx (L.drop (p+n))=(c2,t2,n2)):pde true (L.drop p)=if c2≠0 then none else some (⟨t,t2,0⟩,n+n2):=by
 unfold pde; rw [h]; simp only [List.drop_drop]; rw [h2]; simp
theorem pde_kid {L:List UInt8} {p:Nat} {t:ByteArray} {n:Nat} {c2:Int} {v n2:Nat} (h:rtx (L.drop p)=(0,t,n)) (h2:rdu (L.drop (p+n)) 0 0=(c2,v,n2)):pde false (L.drop p)=if c2≠0 then none else some (⟨t,⟨#[]⟩,((min v 16384:Nat):Int)⟩,n+n2):=by
 unfold pde; rw [h]; simp only [List.drop_drop]; rw [h2]; simp
theorem below_tr {B:Nat} {a b c:World} (h1:Below B a b) (h2:Below B b c):Below B a c:=⟨h2.os.trans h1.os,h2.tape.trans h1.tape,h2.output.trans h1.output,Nat.le_trans h1.size h2.size,fun k hk=>(h2.block k hk).trans (h1.block k hk)⟩
set_option maxRecDepth 100000 in
set_option maxHeartbeats 2000000 in
theorem nre_bad (B nb p:Nat) (leaf:Bool) (s:ByteArray) (es:List En) (w:World) (h:OwE B nb leaf es w) (hB:B≤nb) (hs:s.size≤100000000) {c:Int} {t:ByteArray} {n:Nat} (hr:rtx (s.data.toList.drop p)=(c,t,n)) (hc:c≠0) :
 Calls Tryz.prog 219 #[.pointer (some ⟨nb,0,none⟩),.string s,.int .i64 p] w (RePost B nb leaf es (s.data.toList.drop p) p w):=by
 have HR:=Lib.hid (rdtext_at s p w (by omega))
 unfold rtxE at HR
 rw [hr] at HR
 simp only [if_neg hc] at HR
 have hne:(c != 0)=true:=by simpa using hc
 have HF:Hid (∀ w',Tch [] w w'→RePost B nb leaf es (s.data.toList.drop p) p w (.returned (.tuple #[.int .i64 0,.int .i64 c])) w'):=fun w' t=>by
  obtain ⟨kv,vv,iv,hO⟩:=h.keep t
  exact ⟨t.below (by obtain ⟨_,_,_,hO⟩:=h; have:=lt_of_block hO.hb; omega) (by simp),Or.inr ⟨0,c,pde_key hr hc,hc,rfl,hO.cells⟩⟩
 clear h hr hc
 go_enter Tryz.func219,Tryz.ntmps219
 go_wp2_with fail
 refine HR.out.mono ?_
 rintro e w1 ⟨rfl,t1⟩
 have HFF:=Lib.hid (HF.out _ t1)
 clear HF HR
 go_wp2_with fail
 go_ret2
 exact HFF.out
set_option maxRecDepth 100000 in
set_option maxHeartbeats 4000000 in
theorem nre_kids (B nb p:Nat) (s:ByteArray) (es:List En) (w:World) (h:OwE B nb false es w) (hB:B≤nb) (hs:s.size≤100000000) (hp:p≤100000000) (hes:es.length≤100000000) {t:ByteArray} {n:Nat} (hr:rtx (s.data.toList.drop p)=(0,t,n)) :
 Calls Tryz.prog 219 #[.pointer (some ⟨nb,0,none⟩),.string s,.int .i64 p] w (RePost B nb false es (s.data.toList.drop p) p w):=by
 obtain ⟨i0s,his,hzs0,hzs1,hzs2⟩:=info_parts Tryz.info_nstr
 obtain ⟨i0i,hii,hzi0,hzi1,hzi2⟩:=info_parts Tryz.info_nint
 have HR:=Lib.hid (rdtext_at s p w (by omega))
 unfold rtxE at HR
 rw [hr] at HR
 simp only [↓reduceIte] at HR
 have hnl:=rtx_len _ _ _ hr
 have hn9:n≤100000000:=by have:=hnl.1; rw [List.length_drop,← Lib.size_eq] at this; omega
 obtain ⟨c2v,v2,n2,hr2⟩:∃ c2 v2 n2,rdu (s.data.toList.drop (p+n)) 0 0=(c2,v2,n2):=⟨_,_,_,rfl⟩
 obtain ⟨av,hav⟩:∃ av:Int,av=if c2v=0 then ((p+n+n2:Nat):Int) else 0:=⟨_,rfl⟩
 have HAV:=Lib.hid hav
 clear hav
 have HR2:Hid (∀ w',Calls Tryz.prog 86 #[.string s,.int .i64 ((p:Int)+(n:Int))] w' fun e w2=>e=.returned (.tuple #[.int .u64 (v2:Nat),.int .i64 av,.int .i64 c2v])∧w'=w2):=fun w'=>by
  have h2:=rdu_at s (p+n) w' (by omega)
  unfold rduE at h2
  rw [hr2,show (((p+n:Nat)):Int)=(p:Int)+(n:Int) from by omega] at h2
  rw [HAV.out]
  exact h2
 have HPD0:=pde_kid hr hr2
 obtain ⟨kd,hkd⟩:∃ kd,kd=min v2 16384:=⟨_,rfl⟩
 rw [← hkd] at HPD0
 have HPD:=Lib.hid HPD0
 have hmin:min (v2:Int) 16384=(kd:Int):=by omega
 have hkw:IntKind.i64.wrap (kd:Int)=(kd:Int):=IntWalk.i64_in _ (by omega)
 clear HPD0 hkd
 obtain ⟨kv,vv,iv,hO⟩:=h
 have hBw:B≤w.heap.size:=by have:=lt_of_block hO.hb; omega
 have hap1:(es.map En.key).length+1≤maxLen:=by unfold maxLen; simp; omega
 have hap2:((es.map En.key).length+1) * 16≤140737488355328:=by simp; omega
 have HO:=Lib.hid hO
 clear hO hr hnl
 go_enter Tryz.func219,Tryz.ntmps219
 go_wp2_with fail
 refine HR.out.mono ?_
 rintro e w1 ⟨rfl,t1⟩
 have hO1:=HO.out.keep t1
 have p0:=blk_cell hO1.hb 0
 have p1:=blk_cell hO1.hb 1
 have plt:=lt_of_block hO1.hb
 simp only [gA,gZ,gS] at p0 p1
 have ta:Tch [] w (w1.alloc (.cells #[.string t] 9)):=t1.alloc _
 have HKA:=Lib.hid (HO.out.keep ta).hk
 have hsz1:B≤w1.heap.size:=by have:=t1.size; omega
 clear hO1 HR
 go_wp2_with (at_builtin; refine wpList_append_apart _ rfl _ _ 69 rfl B 9 i0s (.string ⟨#[]⟩) 1 16 Tryz.underlying69 his hzs0 hzs1 hzs2 rfl (by decide) kv (es.map En.key).length ((es.map En.key).map Value.string) rfl HKA.out ⟨w1.heap.size,0,none⟩ 1 1 [.string t] rfl rfl ?c1 ?c2 (by omega) hap1 hap2 ?c5 ?_)
 case c1=>exact cells_one _ _ _
 case c2=>intro x hx; simp only [List.mem_singleton] at hx; subst hx; rfl
 case c5=>simp; omega
 intro v' w4 hown4 hg4 hp4
 obtain ⟨x2,c2,rfl⟩:=own_slice hown4
 obtain ⟨hb4,hO5,hb5w,_⟩:=HO.out.addK (v':=.slice x2 (es.length+1) c2) hB ta t (by simpa using hown4) hg4 (by simpa using hp4)
 have f1:=blk_free hb4 1
 have k1:=blk_cell hb4 1
 have l1:=lt_of_block hb4
 simp only [gA,gZ,gS] at k1
 simp only [if_false,Bool.false_eq_true] at hO5
 have HO5:=Lib.hid hO5
 have HBE:=Lib.hid hb5w
 have q0:=blk_cell hO5.hb 0
 have pX:=blk_cell hO5.hb 3
 have qlt:=lt_of_block hO5.hb
 simp only [gA,gZ,gS] at q0 pX
 have hq4:Tch [nb] w4 (w4.setCell ⟨nb,1,none⟩ (.slice x2 (es.length+1) c2)):=(Tch.refl _ _).setCell (by simp) _
 have hB5:B≤(w4.setCell ⟨nb,1,none⟩ (.slice x2 (es.length+1) c2)).heap.size:=by have:=hb5w.size; omega
 clear hown4 hg4 hp4 hO5 hb5w hb4 HKA ta t1 p0 p1 plt hsz1
 have f5:∀ o,(w4.setCell ⟨nb,1,none⟩ (.slice x2 (es.length+1) c2)).frozen? ⟨nb,o,none⟩=false:=fun o=>blk_free HO5.out.hb o
 go_wp2_with fail
 generalize w4.setCell ⟨nb,1,none⟩ (.slice x2 (es.length+1) c2)=w5 at HO5 HBE q0 pX qlt f5 hB5 ⊢
 refine (HR2.out w5).mono ?_
 rintro e w5 ⟨rfl,rfl⟩
 have hO6:=HO5.out.keep (Tch.refl [] w5)
 have pX6:=blk_cell hO6.hb 3
 have qlt6:=lt_of_block hO6.hb
 simp only [gA,gZ,gS] at pX6
 have tb:Tch [] w5 (w5.alloc (.cells #[.int .i64 (kd:Nat)] 3)):=(Tch.refl [] w5).alloc _
 have HKB:Hid ((w5.alloc (.cells #[.int .i64 (kd:Nat)] 3)).ownsRow B 3 1 iv es.length ((es.map En.kid).map (Value.int .i64))):=by
  have:=(HO5.out.keep tb).hi
  rw [List.length_map] at this
  exact this
 have hsz6:B≤w5.heap.size:=by have:=(Tch.refl [] w5).size; omega
 have hap3:es.length+1≤maxLen:=by unfold maxLen; omega
 have hap4:(es.length+1) * 8≤140737488355328:=by omega
 clear hO6 HR2 pX q0 qlt f5 f1 k1 l1 hq4
 go_wp2_with (at_builtin; refine wpList_append_apart _ rfl _ _ 50 rfl B 3 i0i (.int .i64 0) 1 8 Tryz.underlying50 hii hzi0 hzi1 hzi2 rfl (by decide) iv es.length ((es.map En.kid).map (Value.int .i64)) rfl HKB.out ⟨w5.heap.size,0,none⟩ 1 1 [.int .i64 (kd:Nat)] rfl rfl ?d1 ?d2 (by omega) hap3 hap4 ?d5 ?_)
 case d1=>exact cells_one _ _ _
 case d2=>intro x hx; simp only [List.mem_singleton] at hx; subst hx; rfl
 case d5=>simp; omega
 intro v'' w8 hown8 hg8 hp8
 obtain ⟨x4,c4,rfl⟩:=own_slice hown8
 obtain ⟨hb8,hO9,hb9w,_⟩:=HO5.out.addI (v':=.slice x4 (es.length+1) c4) hB tb (kd:Int) (by simpa using hown8) hg8 (by simpa using hp8)
 have f8:=blk_free hb8 3
 have k8:=blk_cell hb8 3
 have l8:=lt_of_block hb8
 simp only [gA,gZ,gS] at k8
 have HF:Hid (RePost B nb false es (s.data.toList.drop p) p w (.returned (.tuple #[.int .i64 av,.int .i64 c2v])) (w8.setCell ⟨nb,3,none⟩ (.slice x4 (es.length+1) c4))):=by
  refine ⟨below_tr HBE.out hb9w,?_⟩
  by_cases hc:c2v=0
  · subst hc
    refine Or.inl ⟨_,_,by rw [HPD.out,if_neg (by simp)],by rw [HAV.out,if_pos rfl,Nat.add_assoc],.slice x2 (es.length+1) c2,vv,.slice x4 (es.length+1) c4,?_⟩
    simp only [if_false,Bool.false_eq_true,List.map_append,List.map_cons,List.map_nil]
    exact hO9
  · exact Or.inr ⟨0,c2v,by rw [HPD.out,if_pos hc],hc,by rw [HAV.out,if_neg hc],hO9.cells⟩
 clear hown8 hg8 hp8 hO9 hb9w hb8 HKB tb HO5 HBE HPD hsz6
 go_wp2_with fail
 go_ret2
 exact HF.out
set_option maxRecDepth 100000 in
set_option maxHeartbeats 4000000 in
theorem nre_leaf (B nb p:Nat) (s:ByteArray) (es:List En) (w:World) (h:OwE B nb true es w) (hB:B≤nb) (hs:s.size≤100000000) (hp:p≤100000000) (hes:es.length≤100000000) {t:ByteArray} {n:Nat} (hr:rtx (s.data.toList.drop p)=(0,t,n)) :
 Calls Tryz.prog 219 #[.pointer (some ⟨nb,0,none⟩),.string s,.int .i64 p] w (RePost B nb true es (s.data.toList.drop p) p w):=by
 obtain ⟨i0s,his,hzs0,hzs1,hzs2⟩:=info_parts Tryz.info_nstr
 obtain ⟨i0i,hii,hzi0,hzi1,hzi2⟩:=info_parts Tryz.info_nint
 have HR:=Lib.hid (rdtext_at s p w (by omega))
 unfold rtxE at HR
 rw [hr] at HR
 simp only [↓reduceIte] at HR
 have hnl:=rtx_len _ _ _ hr
 have hn9:n≤100000000:=by have:=hnl.1; rw [List.length_drop,← Lib.size_eq] at this; omega
 obtain ⟨c2v,t2,n2,hr2⟩:∃ c2 t2 n2,rtx (s.data.toList.drop (p+n))=(c2,t2,n2):=⟨_,_,_,rfl⟩
 obtain ⟨av,hav⟩:∃ av:Int,av=if c2v=0 then ((p+n+n2:Nat):Int) else 0:=⟨_,rfl⟩
 have HAV:=Lib.hid hav
 clear hav
 have HR2:Hid (∀ w',Calls Tryz.prog 190 #[.string s,.int .i64 ((p:Int)+(n:Int))] w' fun e w2=>e=.returned (.tuple #[.string t2,.int .i64 av,.int .i64 c2v])∧Tch [] w' w2):=fun w'=>by
  have h2:=rdtext_at s (p+n) w' (by omega)
  unfold rtxE at h2
  rw [hr2,show (((p+n:Nat)):Int)=(p:Int)+(n:Int) from by omega] at h2
  rw [HAV.out]
  exact h2
 have HPD:=Lib.hid (pde_val hr hr2)
 obtain ⟨kv,vv,iv,hO⟩:=h
 have hBw:B≤w.heap.size:=by have:=lt_of_block hO.hb; omega
 have hap1:(es.map En.key).length+1≤maxLen:=by unfold maxLen; simp; omega
 have hap2:((es.map En.key).length+1) * 16≤140737488355328:=by simp; omega
 have HO:=Lib.hid hO
 clear hO hr hnl
 go_enter Tryz.func219,Tryz.ntmps219
 go_wp2_with fail
 refine HR.out.mono ?_
 rintro e w1 ⟨rfl,t1⟩
 have hO1:=HO.out.keep t1
 have p0:=blk_cell hO1.hb 0
 have p1:=blk_cell hO1.hb 1
 have plt:=lt_of_block hO1.hb
 simp only [gA,gZ,gS] at p0 p1
 have ta:Tch [] w (w1.alloc (.cells #[.string t] 9)):=t1.alloc _
 have HKA:=Lib.hid (HO.out.keep ta).hk
 have hsz1:B≤w1.heap.size:=by have:=t1.size; omega
 clear hO1 HR
 go_wp2_with (at_builtin; refine wpList_append_apart _ rfl _ _ 69 rfl B 9 i0s (.string ⟨#[]⟩) 1 16 Tryz.underlying69 his hzs0 hzs1 hzs2 rfl (by decide) kv (es.map En.key).length ((es.map En.key).map Value.string) rfl HKA.out ⟨w1.heap.size,0,none⟩ 1 1 [.string t] rfl rfl ?c1 ?c2 (by omega) hap1 hap2 ?c5 ?_)
 case c1=>exact cells_one _ _ _
 case c2=>intro x hx; simp only [List.mem_singleton] at hx; subst hx; rfl
 case c5=>simp; omega
 intro v' w4 hown4 hg4 hp4
 obtain ⟨x2,c2,rfl⟩:=own_slice hown4
 obtain ⟨hb4,hO5,hb5w,_⟩:=HO.out.addK (v':=.slice x2 (es.length+1) c2) hB ta t (by simpa using hown4) hg4 (by simpa using hp4)
 have f1:=blk_free hb4 1
 have k1:=blk_cell hb4 1
 have l1:=lt_of_block hb4
 simp only [gA,gZ,gS] at k1
 simp only [if_true] at hO5
 have HO5:=Lib.hid hO5
 have HBE:=Lib.hid hb5w
 have q0:=blk_cell hO5.hb 0
 have pX:=blk_cell hO5.hb 2
 have qlt:=lt_of_block hO5.hb
 simp only [gA,gZ,gS] at q0 pX
 have hq4:Tch [nb] w4 (w4.setCell ⟨nb,1,none⟩ (.slice x2 (es.length+1) c2)):=(Tch.refl _ _).setCell (by simp) _
 have hB5:B≤(w4.setCell ⟨nb,1,none⟩ (.slice x2 (es.length+1) c2)).heap.size:=by have:=hb5w.size; omega
 clear hown4 hg4 hp4 hO5 hb5w hb4 HKA ta t1 p0 p1 plt hsz1
 have f5:∀ o,(w4.setCell ⟨nb,1,none⟩ (.slice x2 (es.length+1) c2)).frozen? ⟨nb,o,none⟩=false:=fun o=>blk_free HO5.out.hb o
 go_wp2_with fail
 generalize w4.setCell ⟨nb,1,none⟩ (.slice x2 (es.length+1) c2)=w5 at HO5 HBE q0 pX qlt f5 hB5 ⊢
 refine (HR2.out w5).mono ?_
 rintro e w6 ⟨rfl,t6⟩
 have hO6:=HO5.out.keep t6
 have pX6:=blk_cell hO6.hb 2
 have qlt6:=lt_of_block hO6.hb
 simp only [gA,gZ,gS] at pX6
 have tb:Tch [] w5 (w6.alloc (.cells #[.string t2] 9)):=t6.alloc _
 have HKB:Hid ((w6.alloc (.cells #[.string t2] 9)).ownsRow B 9 1 vv es.length ((es.map En.val).map Value.string)):=by
  have:=(HO5.out.keep tb).hv
  rw [List.length_map] at this
  exact this
 have hsz6:B≤w6.heap.size:=by have:=t6.size; omega
 have hap3:es.length+1≤maxLen:=by unfold maxLen; omega
 have hap4:(es.length+1) * 16≤140737488355328:=by omega
 clear hO6 HR2 pX q0 qlt f5 f1 k1 l1 hq4
 go_wp2_with (at_builtin; refine wpList_append_apart _ rfl _ _ 69 rfl B 9 i0s (.string ⟨#[]⟩) 1 16 Tryz.underlying69 his hzs0 hzs1 hzs2 rfl (by decide) vv es.length ((es.map En.val).map Value.string) rfl HKB.out ⟨w6.heap.size,0,none⟩ 1 1 [.string t2] rfl rfl ?d1 ?d2 (by omega) hap3 hap4 ?d5 ?_)
 case d1=>exact cells_one _ _ _
 case d2=>intro x hx; simp only [List.mem_singleton] at hx; subst hx; rfl
 case d5=>simp; omega
 intro v'' w8 hown8 hg8 hp8
 obtain ⟨x4,c4,rfl⟩:=own_slice hown8
 obtain ⟨hb8,hO9,hb9w,_⟩:=HO5.out.addV (v':=.slice x4 (es.length+1) c4) hB tb t2 (by simpa using hown8) hg8 (by simpa using hp8)
 have f8:=blk_free hb8 2
 have k8:=blk_cell hb8 2
 have l8:=lt_of_block hb8
 simp only [gA,gZ,gS] at k8
 have HF:Hid (RePost B nb true es (s.data.toList.drop p) p w (.returned (.tuple #[.int .i64 av,.int .i64 c2v])) (w8.setCell ⟨nb,2,none⟩ (.slice x4 (es.length+1) c4))):=by
  refine ⟨below_tr HBE.out hb9w,?_⟩
  by_cases hc:c2v=0
  · subst hc
    refine Or.inl ⟨_,_,by rw [HPD.out,if_neg (by simp)],by rw [HAV.out,if_pos rfl,Nat.add_assoc],.slice x2 (es.length+1) c2,.slice x4 (es.length+1) c4,iv,?_⟩
    simp only [if_true,List.map_append,List.map_cons,List.map_nil]
    exact hO9
  · exact Or.inr ⟨0,c2v,by rw [HPD.out,if_pos hc],hc,by rw [HAV.out,if_neg hc],hO9.cells⟩
 clear hown8 hg8 hp8 hO9 hb9w hb8 HKB tb HO5 HBE HPD hsz6
 go_wp2_with fail
 go_ret2
 exact HF.out
end Go.Proofs.YtlkgnljdpakkcaaGreatDoor
/-
 'read' of package node: the node that a text of at most 1024 bytes begins with,in new memory,or an error. No other condition.
-/
namespace Go.Proofs.YtlkgnljdpakkcaaGreatDoor
open Go.RowKit
theorem nreadEntry_any (B nb p:Nat) (leaf:Bool) (s:ByteArray) (es:List En) (w:World) (h:OwE B nb leaf es w) (hB:B≤nb) (hs:s.size≤100000000) (hp:p≤100000000) (hes:es.length≤100000000) :
 Calls Tryz.prog 219 #[.pointer (some ⟨nb,0,none⟩),.string s,.int .i64 p] w (RePost B nb leaf es (s.data.toList.drop p) p w):=by
 rcases hr:rtx (s.data.toList.drop p) with ⟨c,t,n⟩
 by_cases hc:c=0
 · subst hc
   cases leaf
   · exact nre_kids B nb p s es w h hB hs hp hes hr
   · exact nre_leaf B nb p s es w h hB hs hp hes hr
 · exact nre_bad B nb p leaf s es w h hB hs hr hc
structure PEn (leaf:Bool) (e:En):Prop where
 nrm:Nrm leaf e
 key:e.key.size≤1024
 val:e.val.size≤1024
 kid:0≤e.kid∧e.kid≤16384
theorem pde_en {leaf:Bool} {L:List UInt8} {e:En} {n:Nat} (h:pde leaf L=some (e,n)) (hL:L.length≤1024):PEn leaf e∧0 < n∧n≤L.length:=by
 unfold pde at h
 rcases hr:rtx L with ⟨c,t,m⟩
 rw [hr] at h
 simp only at h
 by_cases hc:c≠0
 · rw [if_pos hc] at h; cases h
 rw [if_neg hc] at h
 have hc0:c=0:=by omega
 subst hc0
 have h1:=rtx_len _ _ _ hr
 have h2:=rtx_size hr
 cases leaf
 · simp only [if_false,Bool.false_eq_true] at h
   rcases hq:rdu (L.drop m) 0 0 with ⟨c2,v,m2⟩
   rw [hq] at h
   simp only at h
   by_cases hc2:c2≠0
   · rw [if_pos hc2] at h; cases h
   rw [if_neg hc2] at h
   have hc20:c2=0:=by omega
   subst hc20
   have h3:=rdu_bound _ 0 0 0 v m2 hq (by simp) (by omega) rfl
   rw [List.length_drop] at h3
   cases h
   exact ⟨⟨rfl,by simp only; omega,by show (0:Nat)≤_; omega,by simp only; omega⟩,by omega,by omega⟩
 · simp only [if_true] at h
   rcases hq:rtx (L.drop m) with ⟨c2,t2,m2⟩
   rw [hq] at h
   simp only at h
   by_cases hc2:c2≠0
   · rw [if_pos hc2] at h; cases h
   rw [if_neg hc2] at h
   have hc20:c2=0:=by omega
   subst hc20
   have h3:=rtx_len _ _ _ hq
   have h4:=rtx_size hq
   rw [List.length_drop] at h3 h4
   cases h
   exact ⟨⟨rfl,by simp only; omega,by simp only; omega,by simp only; omega⟩,by omega,by omega⟩
theorem pen_short {leaf:Bool} {es:List En} (h:∀ e ∈ es,PEn leaf e) (hl:es.length≤1024):Short es:=by
 have h1:ksum es+vsum es≤es.length * 2048:=by
  clear hl
  induction es with
  | nil=>simp [ksum,vsum]
  | cons a es ih =>
   have:=ih (fun e he=>h e (List.mem_cons_of_mem _ he))
   have h1:=(h a (List.mem_cons_self ..)).key
   have h2:=(h a (List.mem_cons_self ..)).val
   unfold ksum vsum at this ⊢
   simp only [List.map_cons,List.sum_cons,List.length_cons]
   omega
 exact ⟨by omega,by have:es.length * 2048≤1024 * 2048:=Nat.mul_le_mul_right _ hl; omega,fun e he=>by have:=(h e he).kid; omega⟩
theorem pdes_fail {leaf:Bool} {L:List UInt8} {cnt k p:Nat} {es:List En} (hk:k < cnt) (he:pde leaf (L.drop p)=none):pdes leaf L (cnt - k) p es=none:=by
 obtain ⟨m,hm⟩:∃ m,cnt - k=m+1:=⟨cnt - k - 1,by omega⟩
 rw [hm,pdes,he]
theorem pdes_next {leaf:Bool} {L:List UInt8} {cnt k p n:Nat} {es:List En} {e:En} (hk:k < cnt) (he:pde leaf (L.drop p)=some (e,n)):pdes leaf L (cnt - k) p es=pdes leaf L (cnt - (k+1)) (p+n) (es++[e]):=by
 obtain ⟨m,hm⟩:∃ m,cnt - k=m+1:=⟨cnt - k - 1,by omega⟩
 have h2:cnt - (k+1)=m:=by omega
 rw [hm,h2,pdes,he]
def RrPost (w:World) (L:List UInt8) (e:Ending) (w':World):Prop :=
 Tch [] w w'∧((∃ leaf es q,∃ u:Nv,prd L=some (leaf,es,q)∧q≤L.length∧e=.returned (.tuple #[.agg #[.bool u.leaf,.slice u.ka u.kn u.kc,.slice u.va u.vn u.vc,.slice u.ia u.im u.ic],.int .i64 (q:Nat),.int .i64 0])∧u.Good w' leaf es∧NwN (w.heap.size+1) u w') ∨
  (∃ (lf:Bool) (ka:Option Addr) (kn kc:Nat) (va:Option Addr) (vn vc:Nat) (ia:Option Addr) (im ic:Nat) (a c:Int),prd L=none∧c≠0∧e=.returned (.tuple #[.agg #[.bool lf,.slice ka kn kc,.slice va vn vc,.slice ia im ic],.int .i64 a,.int .i64 c])))
def RrRel (w:World) (nb:Nat) (leaf:Bool) (L:List UInt8) (cnt:Nat) (v7 v8 v9:Value) (wr:World):Prop :=
 Tch [] w wr∧wr.heap[w.heap.size]?=some (.cells #[.bool false,.slice none 0 0,.slice none 0 0,.slice none 0 0] 138 (0,0))∧CellsN nb wr ∧
  ((∃ (q:Nat) (es:List En),v7=.int .i64 q∧v8=.int .i64 0∧v9=.int .u64 (es.length:Nat)∧es.length≤cnt∧q≤L.length∧es.length≤q∧(∀ e ∈ es,PEn leaf e)∧OwE nb nb leaf es wr∧prd L=(match pdes leaf L (cnt - es.length) q es with | none=>none | some (es,p)=>some (leaf,es,p))) ∨
   (∃ (a c:Int) (k:Nat),v7=.int .i64 a∧v8=.int .i64 c∧c≠0∧v9=.int .u64 k∧k≤cnt∧prd L=none))
theorem ns0_get (s:ByteArray) (hpos:0 < s.size):s.data.toList=(s[0]'hpos) :: s.data.toList.drop 1:=by
 have:=List.drop_eq_getElem_cons (l:=s.data.toList) (i:=0) (by rw [← Lib.size_eq]; exact hpos)
 rw [List.drop_zero] at this
 exact this
set_option maxRecDepth 100000 in
theorem nread_empty (s:ByteArray) (w:World) (h:s.size=0) :
 Calls Tryz.prog 192 #[.string s] w (RrPost w s.data.toList):=by
 have hL:s.data.toList=[]:=by rw [← List.length_eq_zero_iff,← Lib.size_eq]; exact h
 have HF:Hid (∀ o,RrPost w s.data.toList (.returned (.tuple #[.agg #[.bool false,.slice none 0 0,.slice none 0 0,.slice none 0 0],.int .i64 0,.int .i64 40])) (w.alloc o)):=fun o=>⟨(Tch.refl [] w).alloc o,Or.inr ⟨_,_,_,_,_,_,_,_,_,_,0,40,by rw [hL]; rfl,by decide,rfl⟩⟩
 have hd:s.toList.isEmpty=true:=by rw [ByteArray.toList_eq,List.isEmpty_iff]; exact hL
 clear h hL
 go_enter Tryz.func192,Tryz.ntmps192
 go_wp2_with fail
 refine bodyPost_ret (v:=.tuple #[.agg #[.bool false,.slice none 0 0,.slice none 0 0,.slice none 0 0],.int .i64 0,.int .i64 40]) (by simp [results,Tryz.results192,go_sem]) rfl (HF.out _)
theorem nstr_ne (s:ByteArray) (h:0 < s.size):s.toList.isEmpty=false:=by
 rw [ByteArray.toList_eq]
 cases h0:s.data.toList.isEmpty
 · rfl
 · rw [List.isEmpty_iff,← List.length_eq_zero_iff,← Lib.size_eq] at h0; omega
set_option maxRecDepth 100000 in
theorem nread_other (s:ByteArray) (w:World) (hs:s.size≤1024) (hpos:0 < s.size) (h1:s[0]'hpos≠1) (h2:s[0]'hpos≠2) :
 Calls Tryz.prog 192 #[.string s] w (RrPost w s.data.toList):=by
 have HF:Hid (∀ o,RrPost w s.data.toList (.returned (.tuple #[.agg #[.bool false,.slice none 0 0,.slice none 0 0,.slice none 0 0],.int .i64 0,.int .i64 40])) (w.alloc o)):=fun o=>⟨(Tch.refl [] w).alloc o,Or.inr ⟨_,_,_,_,_,_,_,_,_,_,0,40,by rw [ns0_get s hpos]; unfold prd; simp only; rw [if_pos ⟨h1,h2⟩],by decide,rfl⟩⟩
 have hd:=nstr_ne s hpos
 have n1:(s[0]'hpos).toNat≠1:=fun h=>h1 (UInt8.toNat_inj.1 (by rw [h]; rfl))
 have n2:(s[0]'hpos).toNat≠2:=fun h=>h2 (UInt8.toNat_inj.1 (by rw [h]; rfl))
 have f1:(((s[0]'hpos).toNat:Int) != 1)=true:=by simp; omega
 have f2:(((s[0]'hpos).toNat:Int) != 2)=true:=by simp; omega
 clear h1 h2 n1 n2
 go_enter Tryz.func192,Tryz.ntmps192
 go_wp2_with fail
 refine bodyPost_ret (v:=.tuple #[.agg #[.bool false,.slice none 0 0,.slice none 0 0,.slice none 0 0],.int .i64 0,.int .i64 40]) (by simp [results,Tryz.results192,go_sem]) rfl (HF.out _)
theorem Tch.set4 {w w1:World} (T:Tch [] w w1) (a b c d:Value):Tch [] w ((((w1.setCell ⟨w.heap.size,0,none⟩ a).setCell ⟨w.heap.size,1,none⟩ b).setCell ⟨w.heap.size,2,none⟩ c).setCell ⟨w.heap.size,3,none⟩ d) :=
 (((T.setNew (Nat.le_refl _) a).setNew (Nat.le_refl _) b).setNew (Nat.le_refl _) c).setNew (Nat.le_refl _) d
theorem Nv.Good.set4 {w1:World} {u:Nv} {leaf:Bool} {es:List En} {q B:Nat} (hu:u.Good w1 leaf es) (hn:NwN B u w1) (hq:q < B) (a b c d:Value):u.Good ((((w1.setCell ⟨q,0,none⟩ a).setCell ⟨q,1,none⟩ b).setCell ⟨q,2,none⟩ c).setCell ⟨q,3,none⟩ d) leaf es:=by
 have t:Tch [q] w1 ((((w1.setCell ⟨q,0,none⟩ a).setCell ⟨q,1,none⟩ b).setCell ⟨q,2,none⟩ c).setCell ⟨q,3,none⟩ d):=((((Tch.refl [q] w1).setCell (by simp) a).setCell (by simp) b).setCell (by simp) c).setCell (by simp) d
 have hlt:∀ {e:TypeId} {v:Value} {n:Nat} {xs:List Value},w1.ownsRow B e 1 v n xs→∀ k,v.ownBlock=some k→k≠q:=fun hr k hk he=>by have:=(hr.lt k hk).1; omega
 refine ⟨⟨hu.nv.rk.keep t (fun h0=>?_),hu.nv.rv.keep t (fun h0=>?_),hu.nv.ri.keep t (fun h0=>?_)⟩,hu.leaf,hu.es,hu.lens,hu.ok,hu.caps⟩
 · have:=hu.nv.rk.some_ h0
   have:=hlt hn.hk u.kb (by rw [this]; rfl)
   simpa using this
 · have:=hu.nv.rv.some_ h0
   have:=hlt hn.hv u.vb (by rw [this]; rfl)
   simpa using this
 · have:=hu.nv.ri.some_ h0
   have:=hlt hn.hi u.ib (by rw [this]; rfl)
   simpa using this
set_option maxRecDepth 100000 in
set_option maxHeartbeats 4000000 in
theorem nread_some (s:ByteArray) (w:World) (leaf:Bool) (hs:s.size≤1024) (hpos:0 < s.size) (h1:s[0]'hpos=if leaf then 1 else 2) :
 Calls Tryz.prog 192 #[.string s] w (RrPost w s.data.toList):=by
 have hget:=ns0_get s hpos
 obtain ⟨L,hLL⟩:∃ L,s.data.toList=L:=⟨_,rfl⟩
 have hlen:L.length=s.size:=by rw [← hLL,← Lib.size_eq]
 rcases hr:rdu (L.drop 1) 0 0 with ⟨c,cnt,n⟩
 have hbb:((if leaf then 1 else 2:UInt8) == 1)=leaf:=by cases leaf <;> decide
 rw [hLL,h1] at hget
 have HPR:Hid (prd L=if c≠0 then none else match pdes leaf L cnt (1+n) [] with | none=>none | some (es,p)=>some (leaf,es,p)):=by
  show _=_
  rw [hget]
  unfold prd
  simp only
  rw [if_neg (by cases leaf <;> simp),hr,hbb]
  rfl
 have HR0:Hid (∀ w1,Calls Tryz.prog 86 #[.string s,.int .i64 1] w1 fun e w'=>e=.returned (.tuple #[.int .u64 (cnt:Nat),.int .i64 (if c=0 then ((1+n:Nat):Int) else 0),.int .i64 c])∧w1=w'):=fun w1=>by
  have h:=rdu_at s 1 w1 (by omega)
  unfold rduE at h
  rw [hLL,hr] at h
  exact h
 have hbd:c=0→cnt < 18446744073709551616∧1+n≤L.length:=fun hc=>by
  subst hc
  have:=rdu_bound _ 0 0 0 cnt n hr (by simp) (by omega) rfl
  rw [List.length_drop] at this
  omega
 have hcnt:cnt < 18446744073709551616:=by
  rcases nrdu_cases (L.drop 1) with ⟨c1,_,h1⟩ | ⟨u1,n1,h1,h2,_⟩
  · rw [hr] at h1; cases h1; omega
  · rw [hr] at h1; cases h1; exact h2
 have hd:=nstr_ne s hpos
 have f0:(((s[0]'hpos).toNat:Int) == 1)=leaf:=by rw [h1]; cases leaf <;> decide
 have f1:(((s[0]'hpos).toNat:Int) != 1)=!leaf:=by rw [h1]; cases leaf <;> decide
 have f2:(((s[0]'hpos).toNat:Int) != 2)=leaf:=by rw [h1]; cases leaf <;> decide
 obtain ⟨av,hav⟩:∃ av:Int,av=if c=0 then ((1+n:Nat):Int) else 0:=⟨_,rfl⟩
 rw [← hav] at HR0
 have HRE:Hid (∀ (q:Nat) (es:List En) (w1:World),OwE (w.heap.size+1) (w.heap.size+1) leaf es w1→q≤L.length→es.length≤1024→Calls Tryz.prog 219 _ w1 (RePost (w.heap.size+1) (w.heap.size+1) leaf es (L.drop q) q w1)):=fun q es w1 h hq he=>by
  have:=nreadEntry_any (w.heap.size+1) (w.heap.size+1) q leaf s es w1 h (Nat.le_refl _) (by omega) (by omega) (by omega)
  rw [hLL] at this
  exact this
 obtain ⟨W2,hW2⟩:∃ W2,W2=(w.alloc (.cells #[.bool false,.slice none 0 0,.slice none 0 0,.slice none 0 0] 138)).alloc (.cells #[.bool leaf,.slice none 0 0,.slice none 0 0,.slice none 0 0] 138):=⟨_,rfl⟩
 have T0:Tch [] w W2:=by rw [hW2]; exact ((Tch.refl _ _).alloc _).alloc _
 have hb0:W2.heap[w.heap.size]?=some (.cells #[.bool false,.slice none 0 0,.slice none 0 0,.slice none 0 0] 138 (0,0)):=by rw [hW2]; exact blk_alloc (blk_new _ _) _
 have hb1:W2.heap[w.heap.size+1]?=some (.cells #[.bool leaf,.slice none 0 0,.slice none 0 0,.slice none 0 0] 138 (0,0)):=by
  rw [hW2,show w.heap.size+1=(w.alloc (.cells #[.bool false,.slice none 0 0,.slice none 0 0,.slice none 0 0] 138)).heap.size from by simp]; exact blk_new _ _
 have HST:Hid (RrRel w (w.heap.size+1) leaf L cnt (.int .i64 av) (.int .i64 c) (.int .u64 0) W2):=by
  refine ⟨T0,hb0,⟨_,_,_,_,_,_,_,_,_,_,hb1⟩,?_⟩
  by_cases hc:c=0
  · subst hc
    exact Or.inl ⟨1+n,[],by rw [hav,if_pos rfl],rfl,rfl,by simp,(hbd rfl).2,by simp,fun e he=>(by cases he),OwE.start hb1,by rw [HPR.out,if_neg (by simp)]; rfl⟩
  · exact Or.inr ⟨av,c,0,rfl,rfl,hc,rfl,Nat.zero_le _,by rw [HPR.out,if_pos hc]⟩
 rw [hLL]
 clear hget hr hav hbd hb0 hb1 T0 hbb
 have hk9:(cnt:Int) < 18446744073709551616:=by omega
 cases leaf
 · simp only [Bool.not_false] at f1
   go_enter Tryz.func192,Tryz.ntmps192
   go_wp2_with fail
   refine (HR0.out _).mono ?_
   rintro e w3 ⟨rfl,rfl⟩
   go_wp2_with fail
   rw [← hW2]
   clear hW2 HR0 HPR hd f0 f1 f2 h1
   go_loopw [7,8,9] (fun v7 v8 v9 wr=>RrRel w (w.heap.size+1) false L cnt v7 v8 v9 wr) (fun v7 v8 _ _=>if intOf v8=0 then s.size+1 - (intOf v7).toNat else 0)
   case atStart=>exact HST.out
   case round =>
    clear HST
    obtain ⟨T,hb0,hcell,hor⟩:=hrel
    have hTs:=T.size
    rcases hor with ⟨q,es,rfl,rfl,rfl,hec,hq,heq,hpe,hO,hpd⟩ | ⟨a,c2,k,rfl,rfl,hc2,rfl,hk,hno⟩
    · by_cases hkl:es.length < cnt
      · have hd:decide (es.length < cnt)=true:=decide_eq_true hkl
        have hdi:decide ((es.length:Int) < (cnt:Int))=true:=decide_eq_true (by omega)
        have hw:IntKind.u64.wrap ((es.length:Int)+1)=(es.length:Int)+1:=by rw [IntKind.wrap_u64]; omega
        have HC:=Lib.hid (HRE.out q es wr hO hq (by omega))
        have HT:=Lib.hid T
        have HB:=Lib.hid hb0
        have HPE:=Lib.hid hpe
        have HPD:=Lib.hid hpd
        clear hO hpd hpe T hb0 hcell
        go_wp2_with fail
        refine HC.out.mono ?_
        rintro e w4 ⟨hbl,hor⟩
        have T4:Tch [] w w4:=below_tch HT.out hbl (by omega)
        have hb4:w4.heap[w.heap.size]?=some (.cells #[.bool false,.slice none 0 0,.slice none 0 0,.slice none 0 0] 138 (0,0)):=by rw [hbl.block _ (by omega)]; exact HB.out
        rcases hor with ⟨en,m,hpn,rfl,hO4⟩ | ⟨a,c,hpn,hc,rfl,hcell4⟩
        · obtain ⟨hp1,hp2,hp3⟩:=pde_en hpn (by rw [List.length_drop]; omega)
          rw [List.length_drop] at hp3
          have HN:Hid (prd L=(match pdes false L (cnt - (es.length+1)) (q+m) (es++[en]) with | none=>none | some (es,p)=>some (false,es,p))):=by
           show _=_
           rw [HPD.out,pdes_next hkl hpn]
          have HR:Hid (RrRel w (w.heap.size+1) false L cnt (.int .i64 ((q+m:Nat):Int)) (.int .i64 0) (.int .u64 ((es.length+1:Nat):Int)) w4) :=
           ⟨T4,hb4,(by obtain ⟨_,_,_,h⟩:=hO4; exact h.cells),Or.inl ⟨q+m,es++[en],rfl,rfl,by simp,by simp; omega,by omega,by simp; omega,fun e he=>by
            rcases List.mem_append.1 he with h | h
            · exact HPE.out e h
            · simp only [List.mem_singleton] at h; subst h; exact hp1,hO4,by rw [List.length_append]; exact HN.out⟩⟩
          clear hbl T4 hb4 hpn hO4 HC hp1
          go_wp2_with fail
          go_roundw
          case rel =>
           have:=HR.out
           rw [show (((es.length+1:Nat)):Int)=(es.length:Int)+1 from by omega] at this
           exact this
          case measure=>simp [intOf]; omega
        · have hne:(c == 0)=false:=by simpa using hc
          have HR:Hid (RrRel w (w.heap.size+1) false L cnt (.int .i64 a) (.int .i64 c) (.int .u64 ((es.length+1:Nat):Int)) w4) :=
           ⟨T4,hb4,hcell4,Or.inr ⟨a,c,es.length+1,rfl,rfl,hc,rfl,by omega,by rw [HPD.out,pdes_fail hkl hpn]⟩⟩
          clear hbl T4 hb4 hpn hcell4 HC
          go_wp2_with fail
          go_roundw
          case rel =>
           have:=HR.out
           rw [show (((es.length+1:Nat)):Int)=(es.length:Int)+1 from by omega] at this
           exact this
          case measure=>simp [intOf,hc]; omega
      · have hkc:es.length=cnt:=by omega
        have hd:decide (es.length < cnt)=false:=decide_eq_false hkl
        have hdi:decide ((es.length:Int) < (cnt:Int))=false:=decide_eq_false (by omega)
        have hprd:prd L=some (false,es,q):=by rw [hpd,hkc,Nat.sub_self]; rfl
        obtain ⟨u,hub,hug,hun,_⟩:=hO.node (fun e he=>(hpe e he).nrm) (pen_short hpe (by omega))
        have r0:=blk_cell hb0 0
        have r1:=blk_cell hb0 1
        have r2:=blk_cell hb0 2
        have r3:=blk_cell hb0 3
        have f0:=blk_free hb0 0
        have f1:=blk_free hb0 1
        have f2:=blk_free hb0 2
        have f3:=blk_free hb0 3
        have rlt:=lt_of_block hb0
        have u0:=blk_cell hub 0
        have u1:=blk_cell hub 1
        have u2:=blk_cell hub 2
        have u3:=blk_cell hub 3
        have ult:=lt_of_block hub
        simp only [gA,gZ,gS] at r0 r1 r2 r3 u0 u1 u2 u3
        have HF:Hid (∀ a b c d,RrPost w L (.returned (.tuple #[.agg #[.bool u.leaf,.slice u.ka u.kn u.kc,.slice u.va u.vn u.vc,.slice u.ia u.im u.ic],.int .i64 (q:Nat),.int .i64 0])) ((((wr.setCell ⟨w.heap.size,0,none⟩ a).setCell ⟨w.heap.size,1,none⟩ b).setCell ⟨w.heap.size,2,none⟩ c).setCell ⟨w.heap.size,3,none⟩ d)):=fun a b c d =>
         ⟨T.set4 a b c d,Or.inl ⟨false,es,q,u,hprd,hq,rfl,hug.set4 hun (by omega) a b c d,hun.keep (L:=[w.heap.size]) (((((Tch.refl _ wr).setCell (by simp) a).setCell (by simp) b).setCell (by simp) c).setCell (by simp) d) (by simp)⟩⟩
        clear hub hug hun hprd hpd hO hpe T hb0 hcell hkc
        go_wp2_with fail
        refine bodyPost_ret (v:=.tuple #[.agg #[.bool u.leaf,.slice u.ka u.kn u.kc,.slice u.va u.vn u.vc,.slice u.ia u.im u.ic],.int .i64 (q:Nat),.int .i64 0]) (by simp [results,Tryz.results192,go_sem,r0,r1,r2,r3]) rfl (HF.out _ _ _ _)
    · obtain ⟨lf,ka,kn,kc,va,vn,vc,ia,im,ic,hub⟩:=hcell
      have hne:(c2 == 0)=false:=by simpa using hc2
      have r0:=blk_cell hb0 0
      have r1:=blk_cell hb0 1
      have r2:=blk_cell hb0 2
      have r3:=blk_cell hb0 3
      have f0:=blk_free hb0 0
      have f1:=blk_free hb0 1
      have f2:=blk_free hb0 2
      have f3:=blk_free hb0 3
      have rlt:=lt_of_block hb0
      have u0:=blk_cell hub 0
      have u1:=blk_cell hub 1
      have u2:=blk_cell hub 2
      have u3:=blk_cell hub 3
      have ult:=lt_of_block hub
      simp only [gA,gZ,gS] at r0 r1 r2 r3 u0 u1 u2 u3
      have HF:Hid (∀ x y z d,RrPost w L (.returned (.tuple #[.agg #[.bool lf,.slice ka kn kc,.slice va vn vc,.slice ia im ic],.int .i64 a,.int .i64 c2])) ((((wr.setCell ⟨w.heap.size,0,none⟩ x).setCell ⟨w.heap.size,1,none⟩ y).setCell ⟨w.heap.size,2,none⟩ z).setCell ⟨w.heap.size,3,none⟩ d)):=fun x y z d =>
       ⟨T.set4 x y z d,Or.inr ⟨lf,ka,kn,kc,va,vn,vc,ia,im,ic,a,c2,hno,hc2,rfl⟩⟩
      clear hub T hb0 hno
      go_wp2_with fail
      refine bodyPost_ret (v:=.tuple #[.agg #[.bool lf,.slice ka kn kc,.slice va vn vc,.slice ia im ic],.int .i64 a,.int .i64 c2]) (by simp [results,Tryz.results192,go_sem,r0,r1,r2,r3]) rfl (HF.out _ _ _ _)
 · simp only [Bool.not_true] at f1
   go_enter Tryz.func192,Tryz.ntmps192
   go_wp2_with fail
   refine (HR0.out _).mono ?_
   rintro e w3 ⟨rfl,rfl⟩
   go_wp2_with fail
   rw [← hW2]
   clear hW2 HR0 HPR hd f0 f1 f2 h1
   go_loopw [7,8,9] (fun v7 v8 v9 wr=>RrRel w (w.heap.size+1) true L cnt v7 v8 v9 wr) (fun v7 v8 _ _=>if intOf v8=0 then s.size+1 - (intOf v7).toNat else 0)
   case atStart=>exact HST.out
   case round =>
    clear HST
    obtain ⟨T,hb0,hcell,hor⟩:=hrel
    have hTs:=T.size
    rcases hor with ⟨q,es,rfl,rfl,rfl,hec,hq,heq,hpe,hO,hpd⟩ | ⟨a,c2,k,rfl,rfl,hc2,rfl,hk,hno⟩
    · by_cases hkl:es.length < cnt
      · have hd:decide (es.length < cnt)=true:=decide_eq_true hkl
        have hdi:decide ((es.length:Int) < (cnt:Int))=true:=decide_eq_true (by omega)
        have hw:IntKind.u64.wrap ((es.length:Int)+1)=(es.length:Int)+1:=by rw [IntKind.wrap_u64]; omega
        have HC:=Lib.hid (HRE.out q es wr hO hq (by omega))
        have HT:=Lib.hid T
        have HB:=Lib.hid hb0
        have HPE:=Lib.hid hpe
        have HPD:=Lib.hid hpd
        clear hO hpd hpe T hb0 hcell
        go_wp2_with fail
        refine HC.out.mono ?_
        rintro e w4 ⟨hbl,hor⟩
        have T4:Tch [] w w4:=below_tch HT.out hbl (by omega)
        have hb4:w4.heap[w.heap.size]?=some (.cells #[.bool false,.slice none 0 0,.slice none 0 0,.slice none 0 0] 138 (0,0)):=by rw [hbl.block _ (by omega)]; exact HB.out
        rcases hor with ⟨en,m,hpn,rfl,hO4⟩ | ⟨a,c,hpn,hc,rfl,hcell4⟩
        · obtain ⟨hp1,hp2,hp3⟩:=pde_en hpn (by rw [List.length_drop]; omega)
          rw [List.length_drop] at hp3
          have HN:Hid (prd L=(match pdes true L (cnt - (es.length+1)) (q+m) (es++[en]) with | none=>none | some (es,p)=>some (true,es,p))):=by
           show _=_
           rw [HPD.out,pdes_next hkl hpn]
          have HR:Hid (RrRel w (w.heap.size+1) true L cnt (.int .i64 ((q+m:Nat):Int)) (.int .i64 0) (.int .u64 ((es.length+1:Nat):Int)) w4) :=
           ⟨T4,hb4,(by obtain ⟨_,_,_,h⟩:=hO4; exact h.cells),Or.inl ⟨q+m,es++[en],rfl,rfl,by simp,by simp; omega,by omega,by simp; omega,fun e he=>by
            rcases List.mem_append.1 he with h | h
            · exact HPE.out e h
            · simp only [List.mem_singleton] at h; subst h; exact hp1,hO4,by rw [List.length_append]; exact HN.out⟩⟩
          clear hbl T4 hb4 hpn hO4 HC hp1
          go_wp2_with fail
          go_roundw
          case rel =>
           have:=HR.out
           rw [show (((es.length+1:Nat)):Int)=(es.length:Int)+1 from by omega] at this
           exact this
          case measure=>simp [intOf]; omega
        · have hne:(c == 0)=false:=by simpa using hc
          have HR:Hid (RrRel w (w.heap.size+1) true L cnt (.int .i64 a) (.int .i64 c) (.int .u64 ((es.length+1:Nat):Int)) w4) :=
           ⟨T4,hb4,hcell4,Or.inr ⟨a,c,es.length+1,rfl,rfl,hc,rfl,by omega,by rw [HPD.out,pdes_fail hkl hpn]⟩⟩
          clear hbl T4 hb4 hpn hcell4 HC
          go_wp2_with fail
          go_roundw
          case rel =>
           have:=HR.out
           rw [show (((es.length+1:Nat)):Int)=(es.length:Int)+1 from by omega] at this
           exact this
          case measure=>simp [intOf,hc]; omega
      · have hkc:es.length=cnt:=by omega
        have hd:decide (es.length < cnt)=false:=decide_eq_false hkl
        have hdi:decide ((es.length:Int) < (cnt:Int))=false:=decide_eq_false (by omega)
        have hprd:prd L=some (true,es,q):=by rw [hpd,hkc,Nat.sub_self]; rfl
        obtain ⟨u,hub,hug,hun,_⟩:=hO.node (fun e he=>(hpe e he).nrm) (pen_short hpe (by omega))
        have r0:=blk_cell hb0 0
        have r1:=blk_cell hb0 1
        have r2:=blk_cell hb0 2
        have r3:=blk_cell hb0 3
        have f0:=blk_free hb0 0
        have f1:=blk_free hb0 1
        have f2:=blk_free hb0 2
        have f3:=blk_free hb0 3
        have rlt:=lt_of_block hb0
        have u0:=blk_cell hub 0
        have u1:=blk_cell hub 1
        have u2:=blk_cell hub 2
        have u3:=blk_cell hub 3
        have ult:=lt_of_block hub
        simp only [gA,gZ,gS] at r0 r1 r2 r3 u0 u1 u2 u3
        have HF:Hid (∀ a b c d,RrPost w L (.returned (.tuple #[.agg #[.bool u.leaf,.slice u.ka u.kn u.kc,.slice u.va u.vn u.vc,.slice u.ia u.im u.ic],.int .i64 (q:Nat),.int .i64 0])) ((((wr.setCell ⟨w.heap.size,0,none⟩ a).setCell ⟨w.heap.size,1,none⟩ b).setCell ⟨w.heap.size,2,none⟩ c).setCell ⟨w.heap.size,3,none⟩ d)):=fun a b c d =>
         ⟨T.set4 a b c d,Or.inl ⟨true,es,q,u,hprd,hq,rfl,hug.set4 hun (by omega) a b c d,hun.keep (L:=[w.heap.size]) (((((Tch.refl _ wr).setCell (by simp) a).setCell (by simp) b).setCell (by simp) c).setCell (by simp) d) (by simp)⟩⟩
        clear hub hug hun hprd hpd hO hpe T hb0 hcell hkc
        go_wp2_with fail
        refine bodyPost_ret (v:=.tuple #[.agg #[.bool u.leaf,.slice u.ka u.kn u.kc,.slice u.va u.vn u.vc,.slice u.ia u.im u.ic],.int .i64 (q:Nat),.int .i64 0]) (by simp [results,Tryz.results192,go_sem,r0,r1,r2,r3]) rfl (HF.out _ _ _ _)
    · obtain ⟨lf,ka,kn,kc,va,vn,vc,ia,im,ic,hub⟩:=hcell
      have hne:(c2 == 0)=false:=by simpa using hc2
      have r0:=blk_cell hb0 0
      have r1:=blk_cell hb0 1
      have r2:=blk_cell hb0 2
      have r3:=blk_cell hb0 3
      have f0:=blk_free hb0 0
      have f1:=blk_free hb0 1
      have f2:=blk_free hb0 2
      have f3:=blk_free hb0 3
      have rlt:=lt_of_block hb0
      have u0:=blk_cell hub 0
      have u1:=blk_cell hub 1
      have u2:=blk_cell hub 2
      have u3:=blk_cell hub 3
      have ult:=lt_of_block hub
      simp only [gA,gZ,gS] at r0 r1 r2 r3 u0 u1 u2 u3
      have HF:Hid (∀ x y z d,RrPost w L (.returned (.tuple #[.agg #[.bool lf,.slice ka kn kc,.slice va vn vc,.slice ia im ic],.int .i64 a,.int .i64 c2])) ((((wr.setCell ⟨w.heap.size,0,none⟩ x).setCell ⟨w.heap.size,1,none⟩ y).setCell ⟨w.heap.size,2,none⟩ z).setCell ⟨w.heap.size,3,none⟩ d)):=fun x y z d =>
       ⟨T.set4 x y z d,Or.inr ⟨lf,ka,kn,kc,va,vn,vc,ia,im,ic,a,c2,hno,hc2,rfl⟩⟩
      clear hub T hb0 hno
      go_wp2_with fail
      refine bodyPost_ret (v:=.tuple #[.agg #[.bool lf,.slice ka kn kc,.slice va vn vc,.slice ia im ic],.int .i64 a,.int .i64 c2]) (by simp [results,Tryz.results192,go_sem,r0,r1,r2,r3]) rfl (HF.out _ _ _ _)
theorem nread_any (s:ByteArray) (w:World) (hs:s.size≤1024):Calls Tryz.prog 192 #[.string s] w (RrPost w s.data.toList):=by
 by_cases h0:s.size=0
 · exact nread_empty s w h0
 · have hpos:0 < s.size:=by omega
   by_cases h1:s[0]'hpos=1
   · exact nread_some s w true hs hpos (by rw [h1]; rfl)
   · by_cases h2:s[0]'hpos=2
     · exact nread_some s w false hs hpos (by rw [h2]; rfl)
     · exact nread_other s w hs hpos h1 h2
end Go.Proofs.YtlkgnljdpakkcaaGreatDoor
/-
 Decode of package node answers the document's node,or refuses. Condition: the text is shorter than 10^7 bytes.
-/
namespace Go.Proofs.YtlkgnljdpakkcaaGreatDoor
open Go.RowKit
theorem cut_str (s:ByteArray) (m:Nat) (hm:m≤s.size) (w:World):(Instr.slice 9 (.string s) none (some (.int .i64 (m:Int))) none).run Tryz.prog w=.ok (.string (s.extract 0 m)) w:=by
 rw [run_slice_string_to_if _ _ _ _ _ Tryz.underlying9,if_pos (by omega),Int.toNat_natCast]
theorem from_str (s:ByteArray) (q:Nat) (hq:q≤s.size) (w:World):(Instr.slice 9 (.string s) (some (.int .i64 (q:Int))) none none).run Tryz.prog w=.ok (.string (s.extract q s.size)) w:=by
 rw [run_slice_string_from_if _ _ _ _ _ Tryz.underlying9,if_pos (by omega),Int.toNat_natCast]
def nvZ:Nv:=⟨false,none,0,0,none,0,0,none,0,0,0,0,0,0,0,0,[],[],[]⟩
def DcPost (w:World) (L:List UInt8) (e:Ending) (w':World):Prop :=
 Tch [] w w'∧((pdec L=none∧∃ u:Nv,e=.returned (.tuple #[.agg #[.bool u.leaf,.slice u.ka u.kn u.kc,.slice u.va u.vn u.vc,.slice u.ia u.im u.ic],.int .i64 40])∧u.leaf=false∧u.kn=0∧u.vn=0∧u.im=0) ∨
  ∃ leaf es,∃ u:Nv,pdec L=some (leaf,es)∧e=.returned (.tuple #[.agg #[.bool u.leaf,.slice u.ka u.kn u.kc,.slice u.va u.vn u.vc,.slice u.ia u.im u.ic],.int .i64 0])∧u.Good w' leaf es∧NwN w.heap.size u w')
theorem DcPost.no {w w1:World} {L:List UInt8} (h:pdec L=none) (T:Tch [] w w1) (a b c d:Value):DcPost w L (.returned (.tuple #[.agg #[.bool false,.slice none 0 0,.slice none 0 0,.slice none 0 0],.int .i64 40])) ((((w1.setCell ⟨w.heap.size,0,none⟩ a).setCell ⟨w.heap.size,1,none⟩ b).setCell ⟨w.heap.size,2,none⟩ c).setCell ⟨w.heap.size,3,none⟩ d) :=
 ⟨T.set4 a b c d,Or.inl ⟨h,nvZ,rfl,rfl,rfl,rfl,rfl⟩⟩
set_option maxRecDepth 100000 in
set_option maxHeartbeats 1000000 in
theorem ndecode_any (s:ByteArray) (w:World) (hs:s.size≤10000000):Calls Tryz.prog 157 #[.string s] w (DcPost w s.data.toList):=by
 have hcut:∀ w',(Instr.slice 9 (.string s) none (some (.int .i64 ((min s.size 1024:Nat):Int))) none).run Tryz.prog w'=.ok (.string (s.extract 0 (min s.size 1024))) w':=cut_str s (min s.size 1024) (by omega)
 have hmin:min (s.size:Int) 1024=((min s.size 1024:Nat):Int):=by omega
 have hex:(s.extract 0 (min s.size 1024)).data.toList=s.data.toList.take 1024:=by
  rw [Lib.extract_data,List.drop_zero,Nat.sub_zero]
  rcases Nat.le_total s.size 1024 with h | h
  · rw [Nat.min_eq_left h,List.take_of_length_le (by rw [← Lib.size_eq]; exact Nat.le_refl _),List.take_of_length_le (by rw [← Lib.size_eq]; exact h)]
  · rw [Nat.min_eq_right h]
 have hexs:(s.extract 0 (min s.size 1024)).size≤1024:=by rw [Lib.size_eq,hex,List.length_take]; omega
 have HR:Hid (∀ w',Calls Tryz.prog 192 #[.string (s.extract 0 (min s.size 1024))] w' (RrPost w' (s.data.toList.take 1024))):=fun w'=>by
  have:=nread_any (s.extract 0 (min s.size 1024)) w' hexs
  rw [hex] at this
  exact this
 generalize s.extract 0 (min s.size 1024)=x at hcut HR
 generalize hm:min s.size 1024=m at hcut hmin
 have hr:(w.alloc (.cells #[.bool false,.slice none 0 0,.slice none 0 0,.slice none 0 0] 138)).heap[w.heap.size]?=some _:=blk_new _ _
 have T0:Tch [] w (w.alloc (.cells #[.bool false,.slice none 0 0,.slice none 0 0,.slice none 0 0] 138)):=(Tch.refl _ _).alloc _
 have HTR:Hid (∀ q w',q≤s.size→Calls Tryz.prog 88 #[.string (s.extract q s.size),.string ⟨#[0]⟩] w' fun e w2=>e=.returned (.string ⟨(Lib.trimB (s.data.toList.drop q) 0).toArray⟩)∧Tch [] w' w2):=fun q w' hq=>by
  have hsz:(s.extract q s.size).size≤9223372036854775807:=by rw [Lib.size_eq,Lib.extract_data,List.length_take,List.length_drop,← Lib.size_eq]; omega
  have h:=Tryz.strings_Trim_one (s.extract q s.size) 0 (by decide) w' hsz
  rw [Lib.extract_data,List.take_of_length_le (by rw [List.length_drop,← Lib.size_eq]; exact Nat.le_refl _)] at h
  refine h.mono ?_
  rintro e w2 ⟨he,hw⟩
  refine ⟨he,?_⟩
  rcases hw with rfl | rfl
  · exact Tch.refl _ _
  · exact (Tch.refl _ _).drew
 have HPD:Hid (pdec s.data.toList=match prd (s.data.toList.take 1024) with | none=>none | some (leaf,es,q)=>if fitN leaf es && nil0 (s.data.toList.drop q) then some (leaf,es) else none):=rfl
 have hL:s.data.toList.length=s.size:=(Lib.size_eq s).symm
 generalize s.data.toList=L at *
 clear hex hexs
 go_enter Tryz.func157,Tryz.ntmps157
 go_wp2_with fail
 refine (HR.out _).mono ?_
 rintro e w2 ⟨t2,hor⟩
 have T2:=T0.trans t2
 have hr2:=t2.keep hr (by simp)
 clear HR t2 hr T0
 rcases hor with ⟨leaf,es,q,u,hprd,hq,rfl,hug,hun⟩ | ⟨lf,ka,kn,kc,va,vn,vc,ia,im,ic,a,c,hno,hc,rfl⟩
 · rw [List.length_take] at hq
   have hq2:q≤s.size:=by omega
   have hfr:=from_str s q hq2
   have tA:Tch [] w2 (w2.alloc (.cells #[.bool u.leaf,.slice u.ka u.kn u.kc,.slice u.va u.vn u.vc,.slice u.ia u.im u.ic] 138)):=(Tch.refl _ _).alloc _
   have hub:(w2.alloc (.cells #[.bool u.leaf,.slice u.ka u.kn u.kc,.slice u.va u.vn u.vc,.slice u.ia u.im u.ic] 138)).heap[w2.heap.size]?=some _:=blk_new _ _
   have hrA:=tA.keep hr2 (by simp)
   have hug2:=hug.keep0 tA
   have HFI:=Lib.hid (nisFit_any u _ hug2.nv hug2.ok hug2.caps)
   have HT3:=Lib.hid (T2.trans tA)
   have hfit:u.fits=fitN leaf es:=by
    unfold Nv.fits
    rw [hug.lens,hug.leaf,hug.es]
    rfl
   rw [hfit] at HFI
   have HTQ:=Lib.hid (fun w'=>HTR.out q w' hq2)
   have HPQ:Hid (pdec L=if fitN leaf es && nil0 (L.drop q) then some (leaf,es) else none):=by
    show _=_
    rw [HPD.out,hprd]
   have HK:Hid (∀ w',Tch [] (w2.alloc (.cells #[.bool u.leaf,.slice u.ka u.kn u.kc,.slice u.va u.vn u.vc,.slice u.ia u.im u.ic] 138)) w'→w'.heap[w2.heap.size]?=some (.cells #[.bool u.leaf,.slice u.ka u.kn u.kc,.slice u.va u.vn u.vc,.slice u.ia u.im u.ic] 138 (0,0))∧w'.heap[w.heap.size]?=some (.cells #[.bool false,.slice none 0 0,.slice none 0 0,.slice none 0 0] 138 (0,0))∧u.Good w' leaf es∧Tch [] w w'∧NwN (w.heap.size+1) u w'):=fun w' t =>
    ⟨t.keep hub (by simp),t.keep hrA (by simp),hug2.keep0 t,HT3.out.trans t,((hun.keep (L:=[]) tA (by simp)).keep (L:=[]) t (by simp)).base (by simp)⟩
   clear hug hug2 hun tA hub hrA hr2 T2 hfit HTR HPD hprd hq
   go_wp2_with fail
   refine HFI.out.mono ?_
   rintro e w3 ⟨rfl,t3⟩
   cases hf:fitN leaf es
   · obtain ⟨hub,hrb,_,T3,_⟩:=HK.out w3 t3
     have r0:=blk_cell hrb 0
     have r1:=blk_cell hrb 1
     have r2:=blk_cell hrb 2
     have r3:=blk_cell hrb 3
     have f0:=blk_free hrb 0
     have f1:=blk_free hrb 1
     have f2:=blk_free hrb 2
     have f3:=blk_free hrb 3
     have rlt:=lt_of_block hrb
     simp only [gA,gZ,gS] at r0 r1 r2 r3
     have HF:Hid (∀ a b c d,DcPost w L _ ((((w3.setCell ⟨w.heap.size,0,none⟩ a).setCell ⟨w.heap.size,1,none⟩ b).setCell ⟨w.heap.size,2,none⟩ c).setCell ⟨w.heap.size,3,none⟩ d)):=fun a b c d=>DcPost.no (by rw [HPQ.out,hf]; simp) T3 a b c d
     clear hub hrb T3 t3 hf HK HT3 HPQ HTQ
     go_wp2_with fail
     refine bodyPost_ret (v:=.tuple #[.agg #[.bool false,.slice none 0 0,.slice none 0 0,.slice none 0 0],.int .i64 40]) (by simp [results,Tryz.results157,go_sem,r0,r1,r2,r3]) rfl (HF.out _ _ _ _)
   · have HT4:=Lib.hid (HTQ.out w3)
     have HTT:=Lib.hid t3
     clear t3
     go_wp2_with fail
     refine HT4.out.mono ?_
     rintro e w4 ⟨rfl,t4⟩
     obtain ⟨hub,hrb,hug,T4,hun⟩:=HK.out w4 (HTT.out.trans t4)
     have r0:=blk_cell hrb 0
     have r1:=blk_cell hrb 1
     have r2:=blk_cell hrb 2
     have r3:=blk_cell hrb 3
     have f0:=blk_free hrb 0
     have f1:=blk_free hrb 1
     have f2:=blk_free hrb 2
     have f3:=blk_free hrb 3
     have rlt:=lt_of_block hrb
     have u0:=blk_cell hub 0
     have u1:=blk_cell hub 1
     have u2:=blk_cell hub 2
     have u3:=blk_cell hub 3
     have ult:=lt_of_block hub
     simp only [gA,gZ,gS] at r0 r1 r2 r3 u0 u1 u2 u3
     cases hn:nil0 (L.drop q)
     · have htr:(⟨(Lib.trimB (L.drop q) 0).toArray⟩:ByteArray).toList.isEmpty=false:=by
        rw [ByteArray.toList_eq]
        have:=ntrim_some hn
        rcases hl:Lib.trimB (L.drop q) 0 with _ | ⟨x,l⟩
        · exact absurd hl this
        · rfl
       have HF:Hid (∀ a b c d,DcPost w L _ ((((w4.setCell ⟨w.heap.size,0,none⟩ a).setCell ⟨w.heap.size,1,none⟩ b).setCell ⟨w.heap.size,2,none⟩ c).setCell ⟨w.heap.size,3,none⟩ d)):=fun a b c d=>DcPost.no (by rw [HPQ.out,hf,hn]; simp) T4 a b c d
       generalize (⟨(Lib.trimB (L.drop q) 0).toArray⟩:ByteArray)=tr at htr ⊢
       clear hub hrb hug hun T4 t4 hf hn HK HT3 HPQ HTQ HT4 HTT u0 u1 u2 u3
       go_wp2_with fail
       refine bodyPost_ret (v:=.tuple #[.agg #[.bool false,.slice none 0 0,.slice none 0 0,.slice none 0 0],.int .i64 40]) (by simp [results,Tryz.results157,go_sem,r0,r1,r2,r3]) rfl (HF.out _ _ _ _)
     · have htr:(⟨(Lib.trimB (L.drop q) 0).toArray⟩:ByteArray).toList.isEmpty=true:=by
        rw [ntrim_nil hn,ByteArray.toList_eq]
        rfl
       have HF:Hid (∀ a b c d,DcPost w L (.returned (.tuple #[.agg #[.bool u.leaf,.slice u.ka u.kn u.kc,.slice u.va u.vn u.vc,.slice u.ia u.im u.ic],.int .i64 0])) ((((w4.setCell ⟨w.heap.size,0,none⟩ a).setCell ⟨w.heap.size,1,none⟩ b).setCell ⟨w.heap.size,2,none⟩ c).setCell ⟨w.heap.size,3,none⟩ d)):=fun a b c d =>
        ⟨T4.set4 a b c d,Or.inr ⟨leaf,es,u,by rw [HPQ.out,hf,hn]; simp,rfl,hug.set4 hun (by omega) a b c d,(hun.keep (((((Tch.refl [w.heap.size] w4).setCell (by simp) a).setCell (by simp) b).setCell (by simp) c).setCell (by simp) d) (by simp)).base (by omega)⟩⟩
       generalize (⟨(Lib.trimB (L.drop q) 0).toArray⟩:ByteArray)=tr at htr ⊢
       clear hub hrb hug hun T4 t4 hf hn HK HT3 HPQ HTQ HT4 HTT
       go_wp2_with fail
       refine bodyPost_ret (v:=.tuple #[.agg #[.bool u.leaf,.slice u.ka u.kn u.kc,.slice u.va u.vn u.vc,.slice u.ia u.im u.ic],.int .i64 0]) (by simp [results,Tryz.results157,go_sem,r0,r1,r2,r3]) rfl (HF.out _ _ _ _)
 · have hne:(c != 0)=true:=by simpa using hc
   have r0:=blk_cell hr2 0
   have r1:=blk_cell hr2 1
   have r2:=blk_cell hr2 2
   have r3:=blk_cell hr2 3
   have f0:=blk_free hr2 0
   have f1:=blk_free hr2 1
   have f2:=blk_free hr2 2
   have f3:=blk_free hr2 3
   have rlt:=lt_of_block hr2
   simp only [gA,gZ,gS] at r0 r1 r2 r3
   have HF:Hid (∀ x y z d o,DcPost w L (.returned (.tuple #[.agg #[.bool false,.slice none 0 0,.slice none 0 0,.slice none 0 0],.int .i64 40])) (((((w2.setCell ⟨w.heap.size,0,none⟩ x).setCell ⟨w.heap.size,1,none⟩ y).setCell ⟨w.heap.size,2,none⟩ z).setCell ⟨w.heap.size,3,none⟩ d).alloc o)):=fun x y z d o =>
    ⟨(T2.set4 x y z d).alloc o,Or.inl ⟨by rw [HPD.out,hno],nvZ,rfl,rfl,rfl,rfl,rfl⟩⟩
   clear hr2 T2 hno hc HPD HTR
   go_wp2_with fail
   refine bodyPost_ret (v:=.tuple #[.agg #[.bool false,.slice none 0 0,.slice none 0 0,.slice none 0 0],.int .i64 40]) (by simp [results,Tryz.results157,go_sem,r0,r1,r2,r3,rlt]) rfl (HF.out _ _ _ _ _)
theorem decode_any:DecSpec:=by
 intro s w hs
 refine (ndecode_any s w hs).mono ?_
 rintro e w' ⟨t,h⟩
 rw [← pdec_ddec]
 refine ⟨t,?_⟩
 rcases h with h | ⟨leaf,es,u,h1,h2,h3,_⟩
 · exact Or.inl h
 · exact Or.inr ⟨leaf,es,u,h1,h2,h3⟩
end Go.Proofs.YtlkgnljdpakkcaaGreatDoor
