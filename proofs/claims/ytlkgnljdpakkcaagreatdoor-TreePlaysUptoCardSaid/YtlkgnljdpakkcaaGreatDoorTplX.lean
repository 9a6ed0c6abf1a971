/-
  Parts of the proof: Tpl.
-/
import Derived.Test.YtlkgnljdpakkcaaGreatDoorAppX
import Derived.Test.YtlkgnljdpakkcaaGreatDoorTioX
import Derived.Test.YtlkgnljdpakkcaaGreatDoorM09
import Derived.Deep.RegionHeld3
set_option linter.unusedVariables false
set_option linter.unusedSimpArgs false
/-
 The law TreePlays,walked.
-/
namespace Go.Proofs.YtlkgnljdpakkcaaGreatDoor
open Go.RowKit
theorem jopen_fresh (n:Nat) (room:Int) (h6:n≤16384):jopen room (freshD n)=((if room < 1∨500 < room then 2 else if n=0 then 10 else 0),freshD n):=by
 by_cases h1:room < 1∨500 < room
 · rw [if_pos h1]; unfold jopen; rw [if_pos h1]
 · rw [if_neg h1]
   by_cases h2:n=0
   · rw [if_pos h2]
     have hr:(freshD n).rcode 0=10:=by
      unfold Ds.rcode
      rw [if_neg (by simp [freshD]),if_pos (Or.inr (by rw [h2]; simp [freshD]))]
     unfold jopen
     rw [if_neg h1,if_pos (by rw [hr]; simp),hr]
   · rw [if_neg h2]
     obtain ⟨r,rfl⟩:∃ r:Nat,room=(r:Int):=⟨room.toNat,by omega⟩
     exact jopen_clean rfl (by simp [freshD]; omega) (by simp [freshD]; exact h6) (fresh_clean n) (by omega) (by omega)
def PlRel (w:World) (ops:List TOp) (r fr:Nat) (n:Nat) (v8 v13 v14 v67:Value) (wr:World):Prop :=
 ∃ (k h tb B:Nat) (T:Tv) (now:List ByteArray) (F:List En) (S:List Int),n+k=ops.length∧v67=.int .i64 (k:Nat)∧v8=.pointer (some ⟨tb,0,none⟩)∧v14=.bool true∧IsL wr v13 F∧Calm wr w.heap.size tb B T now h F S∧B≤wr.heap.size∧T.b=w.heap.size+1∧T.bs=w.heap.size∧T.room=r∧now.length=fr∧T.D.done≤1002 * k∧Tch [] w wr
def OkPost (w:World) (e:Ending) (w':World):Prop:=e=.returned (.bool true)∧Tch [] w w'
set_option maxRecDepth 100000 in
set_option maxHeartbeats 1000000 in
theorem plays_none (sectors room:Int) (v2:Value) (w:World) (h0 : -9223372036854775808≤sectors) (h1:sectors≤9223372036854775807) (h2 : -9223372036854775808≤room) (h3:room≤9223372036854775807) (c:Int) (hc:c≠0) (hj:jopen room (freshD (many sectors))=(c,freshD (many sectors))) :
 Calls Tryz.prog 3 #[.int .i64 sectors,.int .i64 room,v2] w (OkPost w):=by
 have hc1:(c != 0)=true:=by simpa using hc
 have hc2:(c == c)=true:=by simp
 have HN:=Lib.hid (dnew sectors w h0 h1)
 have HTO:Hid (∀ W,IsDs W (w.heap.size+1) w.heap.size (freshD (many sectors))→Tch [] w W→Calls Tryz.prog 12 #[.pointer (some ⟨w.heap.size+1,0,none⟩),.int .i64 room] W fun e w'=>e=.returned (.tuple #[.pointer none,.int .i64 c])∧IsDs w' (w.heap.size+1) w.heap.size (freshD (many sectors))∧Tch [] w w'):=fun W hd t=>by
  refine (topen_any _ _ room _ W hd (by simp [freshD])).mono ?_
  rintro e w' ⟨t1,t2,t3⟩
  rw [hj] at t2 t3
  have T:=t.upTo t1 (by simp only [List.mem_cons,List.not_mem_nil,or_false]; omega)
  rcases t3 with ⟨_,rfl⟩ | ⟨k,_⟩ | ⟨k,_⟩
  · exact ⟨rfl,t2,T⟩
  · exact absurd k hc
  · exact absurd k hc
 have HJO:Hid (∀ W,IsDs W (w.heap.size+1) w.heap.size (freshD (many sectors))→Tch [] w W→Calls Tryz.prog 13 #[.pointer (some ⟨w.heap.size+1,0,none⟩),.int .i64 room] W fun e w'=>e=.returned (.tuple #[.pointer none,.int .i64 c])∧Tch [] w w'):=fun W hd t=>by
  refine (open_any _ _ room _ W hd (by simp [freshD])).mono ?_
  rintro e w' ⟨t1,t2,t3⟩
  rw [hj] at t2 t3
  have T:=t.upTo t1 (by simp only [List.mem_cons,List.not_mem_nil,or_false]; omega)
  rcases t3 with ⟨k,_⟩ | ⟨_,rfl⟩
  · exact absurd k hc
  · exact ⟨rfl,T⟩
 have HF:Hid (∀ W,Tch [] w W→OkPost w (.returned (.bool true)) W):=fun W t=>⟨rfl,t⟩
 generalize OkPost w=Q at *
 clear hj hc h0 h1 h2 h3
 go_enter Tryz.func3,Tryz.ntmps3
 go_wp2_with fail
 refine HN.out.mono ?_
 rintro e w1 ⟨rfl,hd1,t1⟩
 have HC1:=Lib.hid (HTO.out w1 hd1 t1)
 clear HN HTO hd1 t1
 go_wp2_with fail
 refine HC1.out.mono ?_
 rintro e w2 ⟨rfl,hd2,t2⟩
 have HC2:=Lib.hid (HJO.out w2 hd2 t2)
 clear HC1 HJO hd2 t2
 go_wp2_with fail
 refine HC2.out.mono ?_
 rintro e w3 ⟨rfl,t3⟩
 have HC3:=Lib.hid (twakes_any w3)
 have HT3:=Lib.hid t3
 clear HC2 t3
 go_wp2_with fail
 refine HC3.out.mono ?_
 rintro e w4 ⟨rfl,t4⟩
 have HE:=Lib.hid (HF.out w4 (HT3.out.trans t4))
 clear HC3 t4 HT3
 go_wp2_with fail
 first | exact HE.out | (go_ret; exact HE.out)
set_option maxRecDepth 100000 in
set_option maxHeartbeats 1000000 in
theorem plays_small (sectors:Int) (r n:Nat) (v2:Value) (w:World) (h0 : -9223372036854775808≤sectors) (h1:sectors≤9223372036854775807) (hn:many sectors=n) (hn0:0 < n) (hn6:n≤16384) (hr1:1≤r) (hr5:r≤500) (hs:n < r+2) :
 Calls Tryz.prog 3 #[.int .i64 sectors,.int .i64 (r:Nat),v2] w (OkPost w):=by
 have hj:jopen (r:Nat) (freshD n)=(0,freshD n):=by
  rw [jopen_fresh n r hn6,if_neg (by omega),if_neg (by omega)]
 have hjl:jlen (freshD n) r=0:=by unfold jlen; simp [freshD]; omega
 have HN:=Lib.hid (dnew sectors w h0 h1)
 rw [hn] at HN
 have HTO:Hid (∀ W,IsDs W (w.heap.size+1) w.heap.size (freshD n)→Tch [] w W→Calls Tryz.prog 12 #[.pointer (some ⟨w.heap.size+1,0,none⟩),.int .i64 (r:Nat)] W fun e w'=>e=.returned (.tuple #[.pointer none,.int .i64 10])∧IsDs w' (w.heap.size+1) w.heap.size (freshD n)∧Tch [] w w'):=fun W hd t=>by
  refine (topen_any _ _ (r:Nat) _ W hd (by simp [freshD])).mono ?_
  rintro e w' ⟨t1,t2,t3⟩
  rw [hj] at t2 t3
  rw [Int.toNat_natCast,hjl] at t3
  have T:=t.upTo t1 (by simp only [List.mem_cons,List.not_mem_nil,or_false]; omega)
  rcases t3 with ⟨k,_⟩ | ⟨_,c,_,rfl,⟨_,rfl⟩ | ⟨k,_⟩⟩ | ⟨_,_,_,_,_,_,_,_,_,_,_,k,_⟩
  · exact absurd rfl k
  · exact ⟨rfl,t2,T⟩
  · omega
  · have:=k.1
    rw [hjl] at this
    omega
 have HJO:Hid (∀ W,IsDs W (w.heap.size+1) w.heap.size (freshD n)→Tch [] w W→Calls Tryz.prog 13 #[.pointer (some ⟨w.heap.size+1,0,none⟩),.int .i64 (r:Nat)] W fun e w'=>∃ jb,e=.returned (.tuple #[.pointer (some ⟨jb,0,none⟩),.int .i64 0])∧(IsDs w' (w.heap.size+1) w.heap.size (freshD n)∧Tch [] w w')):=fun W hd t=>by
  refine (open_any _ _ (r:Nat) _ W hd (by simp [freshD])).mono ?_
  rintro e w' ⟨t1,t2,t3⟩
  rw [hj] at t2 t3
  have T:=t.upTo t1 (by simp only [List.mem_cons,List.not_mem_nil,or_false]; omega)
  rcases t3 with ⟨_,jb,rfl,_⟩ | ⟨k,_⟩
  · exact ⟨jb,rfl,t2,T⟩
  · exact absurd rfl k
 have HF:Hid (∀ W,Tch [] w W→OkPost w (.returned (.bool true)) W):=fun W t=>⟨rfl,t⟩
 have HDL:Hid (∀ W,IsDs W (w.heap.size+1) w.heap.size (freshD n)→Calls Tryz.prog 15 #[.pointer (some ⟨w.heap.size+1,0,none⟩)] W fun e w'=>e=.returned (.int .i64 (n:Nat))∧W=w'):=fun W hd=>by
  have:=dlen _ _ _ W hd
  rw [show ((freshD n).texts.length)=n from by simp [freshD]] at this
  exact this
 generalize OkPost w=Q at *
 have hlt:decide ((n:Int) - (r:Int) - 1 < 1)=true:=decide_eq_true (by omega)
 have hlt2:(n:Int) - (r:Int) - 1 < 1:=by omega
 have hni:(n:Int)≤16384:=by omega
 have hri:(r:Int)≤500:=by omega
 clear hj hjl h0 h1 hn
 go_enter Tryz.func3,Tryz.ntmps3
 go_wp2_with fail
 refine HN.out.mono ?_
 rintro e w1 ⟨rfl,hd1,t1⟩
 have HC1:=Lib.hid (HTO.out w1 hd1 t1)
 clear HN HTO hd1 t1
 go_wp2_with fail
 refine HC1.out.mono ?_
 rintro e w2 ⟨rfl,hd2,t2⟩
 have HC2:=Lib.hid (HJO.out w2 hd2 t2)
 clear HC1 HJO hd2 t2
 go_wp2_with fail
 refine HC2.out.mono ?_
 rintro e w3 ⟨jb,rfl,hd3,t3⟩
 have HC3:=Lib.hid (twakes_any w3)
 have HD3:=Lib.hid hd3
 have HT3:=Lib.hid t3
 clear HC2 t3 hd3
 go_wp2_with fail
 refine HC3.out.mono ?_
 rintro e w4 ⟨rfl,t4⟩
 have HC4:=Lib.hid (HDL.out w4 (HD3.out.keep t4 (by simp) (by simp)))
 have HE:=Lib.hid (HF.out w4 (HT3.out.trans t4))
 clear HC3 t4 HT3 HD3 HDL
 go_wp2_with fail
 refine HC4.out.mono ?_
 rintro e w5 ⟨rfl,rfl⟩
 clear HC4
 go_wp2_with fail
 first | exact HE.out | (go_ret; exact HE.out)
set_option maxRecDepth 100000 in
set_option maxHeartbeats 2000000 in
theorem plays_go (sectors:Int) (r n:Nat) (a2:Option Addr) (n2 cap2 b2 o2:Nat) (ops:List TOp) (w:World) (h0 : -9223372036854775808≤sectors) (h1:sectors≤9223372036854775807) (hn:many sectors=n) (hn6:n≤16384) (hr1:1≤r) (hr5:r≤500) (hs:r+2≤n) (hro:IsR fTOp 4 w a2 n2 b2 o2 ops) (hok:∀ x ∈ ops,x.Ok w) (hlen:n2≤1048576) :
 Calls Tryz.prog 3 #[.int .i64 sectors,.int .i64 (r:Nat),.slice a2 n2 cap2] w (OkPost w):=by
 obtain rfl:=hro.hlen
 obtain ⟨fr,hfr⟩:∃ fr,fr=n - (r+1):=⟨_,rfl⟩
 have HN:=Lib.hid (dnew sectors w h0 h1)
 rw [hn] at HN
 have HO:Hid (∀ W,IsDs W (w.heap.size+1) w.heap.size (freshD n)→Tch [] w W→Calls Tryz.prog 12 #[.pointer (some ⟨w.heap.size+1,0,none⟩),.int .i64 (r:Nat)] W (NewPost w W (w.heap.size+1) w.heap.size r fr)):=fun W hd t=>by rw [hfr]; exact open_new w W (w.heap.size+1) w.heap.size n r hd t (by omega) hr1 hr5 hs hn6
 have HF:Hid (∀ W,Tch [] w W→OkPost w (.returned (.bool true)) W):=fun W t=>⟨rfl,t⟩
 generalize OkPost w=Q at *
 have HCE:Hid (∀ W,Tch [] w W→∀ k (hk:k < ops.length),W.cell? ⟨b2,o2+k * 4,none⟩=some (.int .i64 ops[k].kind)∧W.cell? ⟨b2,o2+k * 4+1,none⟩=some (.int .i64 ops[k].n)∧W.cell? ⟨b2,o2+k * 4+2,none⟩=some (.slice ops[k].a ops[k].len ops[k].cap)∧W.cell? ⟨b2,o2+k * 4+3,none⟩=some (.string ops[k].key)∧a2=some ⟨b2,o2,none⟩∧ops[k].Ok w):=fun W t k hk=>by
  have q:=hro.keep0 t
  have hg:ops[k]?=some ops[k]:=List.getElem?_eq_getElem hk
  exact ⟨q.c0 hg rfl,q.c hg 1 rfl,q.c hg 2 rfl,q.c hg 3 rfl,q.some_ (by omega),hok _ (List.getElem_mem hk)⟩
 have hni:(n:Int)≤16384:=by omega
 have hri:(r:Int)≤500:=by omega
 have hfri:(n:Int) - (r:Int) - 1=(fr:Int):=by omega
 have hfr1:(1:Int)≤(fr:Int):=by omega
 have hfr2:(fr:Int)≤16384:=by omega
 have hol:(ops.length:Int)≤1048576:=by omega
 have HFR:=Lib.hid hfri
 have HLEN:=Lib.hid hlen
 have HH:=Lib.hid (And.intro hr1 (And.intro hr5 (And.intro hs hfr)))
 have HN0:Hid (n≤16384):=hn6
 clear hfri hfr hro hok h0 h1 hn hlen
 go_enter Tryz.func3,Tryz.ntmps3
 go_wp2_with fail
 refine HN.out.mono ?_
 rintro e w1 ⟨rfl,hd1,t1⟩
 have HC1:=Lib.hid (HO.out w1 hd1 t1)
 clear HN HO hd1 t1
 go_wp2_with fail
 refine HC1.out.mono ?_
 rintro e w2 ⟨tb,T,rfl,c2,hdn,hrm,hb,hbs,hsz,t2⟩
 have hDl:T.D.texts.length=n:=by
  have h:=c2.hand.seen.len
  obtain ⟨_,_,q3,q4⟩:=HH.out
  rw [hrm,List.length_replicate] at h
  omega
 have HJO:Hid (Calls Tryz.prog 13 #[.pointer (some ⟨w.heap.size+1,0,none⟩),.int .i64 (r:Nat)] w2 fun e w'=>∃ jb,e=.returned (.tuple #[.pointer (some ⟨jb,0,none⟩),.int .i64 0])∧(Calm w' w.heap.size tb w1.heap.size T (List.replicate fr ⟨#[]⟩) 0 [] []∧Tch [] w w'∧w1.heap.size≤w'.heap.size)):=by
  have hj:=jopen_seen0 c2.hand.on c2.hand.seen c2.hand.r1 c2.hand.r2
  have hop:=open_same T.b T.bs T.room T.D w2 c2.tr.ds (by omega) hj
  rw [hb,hrm] at hop
  refine hop.mono ?_
  rintro e w' ⟨jb,rfl,_,_,hd,t⟩
  rw [hbs] at hd t
  have hnw:=c2.new
  refine ⟨jb,rfl,⟨?_,c2.hand,c2.ful,c2.lost,c2.left,c2.lo,c2.hig,c2.new⟩,t2.upTo t (by simp only [List.mem_cons,List.not_mem_nil,or_false]; omega),Nat.le_trans hsz t.size⟩
  have:=c2.tr.commit (D':=T.D) (w':=w') (by rw [hb,hbs]; exact hd) (by rw [hb,hbs]; exact t) c2.lo c2.hig
  exact this
 have HTT:=Lib.hid (And.intro hdn (And.intro hrm (And.intro hb (And.intro hbs hDl))))
 clear HC1 c2 hdn hrm hb hbs hsz t2 hDl
 go_wp2_with fail
 refine HJO.out.mono ?_
 rintro e w3 ⟨jb,rfl,c3,t3,hB3⟩
 have HC3:=Lib.hid (twakes_any w3)
 have HM3:=Lib.hid c3
 have HT3:=Lib.hid t3
 clear HJO c3 t3
 go_wp2_with fail
 refine HC3.out.mono ?_
 rintro e w4 ⟨rfl,t4⟩
 have HC4:Hid (Calls Tryz.prog 15 #[.pointer (some ⟨w.heap.size+1,0,none⟩)] w4 fun e w'=>e=.returned (.int .i64 (n:Nat))∧w4=w'):=by
  obtain ⟨_,_,q3,_,q5⟩:=HTT.out
  have:=dlen T.b T.bs T.D w4 (HM3.out.keep t4).tr.ds
  rw [q3,q5] at this
  exact this
 have HST:Hid (PlRel w ops r fr ops.length (.pointer (some ⟨tb,0,none⟩)) (.slice none 0 0) (.bool true) (.int .i64 0) w4):=by
  obtain ⟨q1,q2,q3,q4,_⟩:=HTT.out
  exact ⟨0,0,tb,w1.heap.size,T,_,[],[],by simp,rfl,rfl,rfl,IsL.nil _,HM3.out.keep t4,Nat.le_trans hB3 t4.size,q3,q4,q2,by simp,by omega,HT3.out.trans t4⟩
 clear HC3 HM3 t4 hB3 HT3 HTT
 go_wp2_with fail
 refine HC4.out.mono ?_
 rintro e w5 ⟨rfl,rfl⟩
 clear HC4
 go_upto_region 9 with fail
 rw [HFR.out]
 clear HFR
 go_wp2_with fail
 go_loopg [8,13,14,67] ops.length (fun n v8 v13 v14 v67 wr=>PlRel w ops r fr n v8 v13 v14 v67 wr)
 case atStart=>exact HST.out
 case round =>
  obtain ⟨k,h,tb,B,T,now,F,S,hnk,rfl,rfl,rfl,⟨la,lc,lb,lo,rfl,hlr,hlk⟩,hcm,hBw,hb,hbs,hrm,hnl,hdn,t⟩:=hrel
  clear HST
  have hL:IsL wr (.slice la F.length lc) F:=⟨la,lc,lb,lo,rfl,hlr,hlk⟩
  clear hlr hlk
  match gk,hnk with
  | 0,hnk =>
   have hlt:decide (k < ops.length)=false:=decide_eq_false (by omega)
   have HE:=Lib.hid (HF.out wr t)
   clear hL hcm hBw hb hbs hrm hnl hdn t
   go_wp2_with fail
   first | exact HE.out | (go_ret; exact HE.out)
  | g+1,hnk =>
   obtain ⟨v13,hv13⟩:∃ v13,v13=Value.slice la F.length lc:=⟨_,rfl⟩
   rw [← hv13] at hL ⊢
   clear hv13
   have hk:k < ops.length:=by omega
   have hlt:decide (k < ops.length)=true:=decide_eq_true hk
   have hk0:(0:Int)≤(k:Int):=by omega
   have hk1:(k:Int) < (ops.length:Int):=by omega
   have hkb:k≤1048576:=by have:=HLEN.out; omega
   obtain ⟨s0,s1,s2,s3,ha2,hox⟩:=HCE.out wr t k hk
   subst ha2
   generalize ops[k]=x at s0 s1 s2 s3 hox
   obtain ⟨kind,num,xa,xl,xc,xb,xo,cs,key⟩:=x
   simp only at s0 s1 s2 s3
   obtain ⟨xr,xz,xln,xk⟩:=hox
   simp only at xr xz xln xk
   obtain ⟨W1,hW1⟩:∃ W1,W1=wr.alloc (.cells #[.int .i64 kind,.int .i64 num,.slice xa xl xc,.string key] 37):=⟨_,rfl⟩
   have u1:Tch [] wr W1:=by rw [hW1]; exact (Tch.refl _ _).alloc _
   have hbx:W1.heap[wr.heap.size]?=some (.cells #[.int .i64 kind,.int .i64 num,.slice xa xl xc,.string key] 37 (0,0)):=by rw [hW1]; exact blk_new _ _
   have HBX:Hid (∀ W,Tch [] W1 W→W.cell? ⟨wr.heap.size,0,none⟩=some (.int .i64 kind)∧W.cell? ⟨wr.heap.size,1,none⟩=some (.int .i64 num)∧W.cell? ⟨wr.heap.size,2,none⟩=some (.slice xa xl xc)∧W.cell? ⟨wr.heap.size,3,none⟩=some (.string key)):=fun W tt=>by
    have hh:=tt.keep hbx (by simp)
    exact ⟨by rw [blk_cell hh]; rfl,by rw [blk_cell hh]; rfl,by rw [blk_cell hh]; rfl,by rw [blk_cell hh]; rfl⟩
   obtain ⟨k0,k1,k2,k3⟩:=HBX.out W1 (Tch.refl _ _)
   have hcm1:=hcm.keep u1
   have hL1:=hL.keep0 u1
   have T1:=t.trans u1
   have hB1:=Nat.le_trans hBw u1.size
   have hxA:0 < xl→xb < w.heap.size:=xr.lt
   have hxr:=xr.keep0 T1
   have HEND:Hid (∀ W6 tb' B' T' now' h' F' S' v13,Calm W6 w.heap.size tb' B' T' now' h' F' S'→B'≤W6.heap.size→IsL W6 v13 F'→T'.b=w.heap.size+1→T'.bs=w.heap.size→T'.room=r→now'.length=fr→T'.D.done≤1002 * k+1002→Tch [] w W6→∀ W,Tch [] W6 W→PlRel w ops r fr g (.pointer (some ⟨tb',0,none⟩)) v13 (.bool true) (.int .i64 ((k:Int)+1)) W):=fun W6 tb' B' T' now' h' F' S' v13 h1 h2 h3 h4 h5 h6 h7 h8 h9 W h10=>⟨k+1,h',tb',B',T',now',F',S',by omega,by simp,rfl,rfl,h3.keep0 h10,h1.keep h10,Nat.le_trans h2 h10.size,h4,h5,h6,h7,by omega,h9.trans h10⟩
   have HHO:Hid (∀ W6 tb' B' T' now' h' F' S' v13,Calm W6 w.heap.size tb' B' T' now' h' F' S'→IsL W6 v13 F'→Calls Tryz.prog 22 #[.pointer (some ⟨tb',0,none⟩),v13] W6 fun e w'=>e=.returned (.bool true)∧Tch [] W6 w'):=fun W6 tb' B' T' now' h' F' S' v13 h1 h2=>holds_yes h1 v13 h2
   have hsm:=hcm.small
   clear hcm hL hBw xr t u1 hbx
   go_upto_region 18 with fail
   rw [← hW1]
   clear hW1 s0 s1 s2 s3
   by_cases q1:kind=1
   · subst q1
     have HA:Hid (Calls Tryz.prog 16 #[.pointer (some ⟨tb,0,none⟩),.int .i64 (fr:Nat),.int .i64 (r:Nat),v13,.slice xa xl xc] W1 (AppPost W1 w.heap.size tb B T now)):=by
      have:=applied_any hcm1 hB1 v13 hL1 cs xa xl xc xb xo (by have:=hxr.hlen; omega) hxr xz (by omega) hxA
      rw [hnl,hrm] at this
      exact this
     have HNW:=Lib.hid hcm1.new
     have HX:=Lib.hid (And.intro hb (And.intro hbs (And.intro hrm (And.intro hnl hdn))))
     have HT1:=Lib.hid T1
     have hts:=T1.size
     clear hcm1 hL1 T1 hxr xz hb hbs hrm hnl hdn HBX hxA
     go_wp2_with fail
     refine HA.out.mono ?_
     rintro e W6 ⟨v6,T',now',h',F',S',rfl,l6,c6,t6,e1,e2,e3,e4,e5,e6⟩
     have HG:Hid (∀ W,Tch [] W6 W→PlRel w ops r fr g (.pointer (some ⟨tb,0,none⟩)) v6 (.bool true) (.int .i64 ((k:Int)+1)) W):=by
      obtain ⟨p1,p2,p3,p4,p5⟩:=HX.out
      have hnw:=HNW.out
      exact HEND.out W6 tb B T' now' h' F' S' v6 c6 (Nat.le_trans hB1 t6.size) l6 (by omega) (by omega) (by omega) (by omega) (by omega) (HT1.out.upTo t6 (by simp only [List.mem_cons,List.not_mem_nil,or_false]; omega))
     have HH6:=Lib.hid (HHO.out W6 tb B T' now' h' F' S' v6 c6 l6)
     clear HA HEND HHO HX HNW HT1 l6 c6 t6 e1 e2 e3 e4 e5 e6
     go_wp2_with fail
     refine HH6.out.mono ?_
     rintro e w9 ⟨rfl,t9⟩
     have HE:=Lib.hid (HG.out w9 t9)
     clear HH6 HG t9
     go_wp2_with fail
     go_roundg g
     case measure=>omega
     case rel=>exact HE.out
   have b1:(kind == 1)=false:=by simpa using q1
   by_cases q2:kind=2
   · subst q2
     have HGE:=Lib.hid (hcm1.get key (by omega))
     have HRG:Hid (∀ W,Tch [] W1 W→Calls Tryz.prog 18 #[v13,.string key] W fun e w'=>e=.returned (getV (look F key))∧W=w'):=fun W tt=>rtget_any F key v13 W (hL1.keep0 tt) (by omega)
     have HEN2:=Lib.hid (fun W6 (tt:Tch [] W1 W6)=>HEND.out W6 tb B T now h F S v13 (hcm1.keep tt) (Nat.le_trans hB1 tt.size) (hL1.keep0 tt) hb hbs hrm hnl (by omega) (T1.trans tt))
     have HHO2:=Lib.hid (fun W6 (tt:Tch [] W1 W6)=>HHO.out W6 tb B T now h F S v13 (hcm1.keep tt) (hL1.keep0 tt))
     clear hcm1 hL1 T1 hxr xz hb hbs hrm hnl hdn HEND HHO hxA b1
     unfold getV at HGE HRG
     cases hlk:look F key with
     | none =>
      rw [hlk] at HGE HRG
      simp only at HGE HRG
      clear hlk
      go_wp2_with fail
      refine HGE.out.mono ?_
      rintro e w6 ⟨rfl,t6⟩
      obtain ⟨k0,k1,k2,k3⟩:=HBX.out w6 t6
      have HC6:=Lib.hid (HRG.out w6 t6)
      have HG:=Lib.hid (HEN2.out w6 t6)
      have HH6:=Lib.hid (HHO2.out w6 t6)
      clear HGE HRG HEN2 HHO2 HBX t6
      go_wp2_with fail
      refine HC6.out.mono ?_
      rintro e w7 ⟨rfl,rfl⟩
      clear HC6
      go_wp2_with fail
      refine HH6.out.mono ?_
      rintro e w9 ⟨rfl,t9⟩
      have HE:=Lib.hid (HG.out w9 t9)
      clear HH6 HG t9
      go_wp2_with fail
      go_roundg g
      case measure=>omega
      case rel=>exact HE.out
     | some val =>
      rw [hlk] at HGE HRG
      simp only at HGE HRG
      clear hlk
      go_wp2_with fail
      refine HGE.out.mono ?_
      rintro e w6 ⟨rfl,t6⟩
      obtain ⟨k0,k1,k2,k3⟩:=HBX.out w6 t6
      have HC6:=Lib.hid (HRG.out w6 t6)
      have HG:=Lib.hid (HEN2.out w6 t6)
      have HH6:=Lib.hid (HHO2.out w6 t6)
      clear HGE HRG HEN2 HHO2 HBX t6
      go_wp2_with fail
      refine HC6.out.mono ?_
      rintro e w7 ⟨rfl,rfl⟩
      clear HC6
      go_wp2_with fail
      refine HH6.out.mono ?_
      rintro e w9 ⟨rfl,t9⟩
      have HE:=Lib.hid (HG.out w9 t9)
      clear HH6 HG t9
      go_wp2_with fail
      go_roundg g
      case measure=>omega
      case rel=>exact HE.out
   have b2:(kind == 2)=false:=by simpa using q2
   by_cases q3:kind=3
   · subst q3
     have HSC:Hid (∀ W,Tch [] W1 W→Calls Tryz.prog 20 #[.pointer (some ⟨tb,0,none⟩),.string key,.int .i64 num] W (ScnPost W ((fromL F key).take num.toNat))):=fun W tt=>(hcm1.keep tt).scan key (by omega) num
     have HRS:Hid (∀ W,Tch [] W1 W→Calls Tryz.prog 21 #[v13,.string key,.int .i64 num] W (ApsPost W ((fromL F key).take num.toNat))):=fun W tt=>rtscan_any F key num v13 W (hL1.keep0 tt) (by omega)
     have hLL:((fromL F key).take num.toNat).length≤900000000:=by
      have q8:=fromL_len F key
      rw [List.length_take]; omega
     have HEN2:=Lib.hid (fun W6 (tt:Tch [] W1 W6)=>HEND.out W6 tb B T now h F S v13 (hcm1.keep tt) (Nat.le_trans hB1 tt.size) (hL1.keep0 tt) hb hbs hrm hnl (by omega) (T1.trans tt))
     have HHO2:=Lib.hid (fun W6 (tt:Tch [] W1 W6)=>HHO.out W6 tb B T now h F S v13 (hcm1.keep tt) (hL1.keep0 tt))
     clear hcm1 hL1 T1 hxr xz hb hbs hrm hnl hdn HEND HHO hxA b1 b2
     generalize (fromL F key).take num.toNat=L at *
     have HSA:Hid (∀ W x cc bb v,IsR fPr 2 W x L.length bb 0 L→IsL W v L→Calls Tryz.prog 19 #[.slice x L.length cc,v] W fun e w'=>e=.returned (.bool true)∧Tch [] W w'):=fun W x cc bb v h1 h2=>tsame_yes L x cc bb 0 v W h1 h2 hLL
     have td:Tch [] W1 W1.drew:=(Tch.refl _ _).drew
     have HBN:Hid (∀ W,Tch [] W1 W→W.cell? ⟨wr.heap.size,1,none⟩=some (.int .i64 num)∧W.cell? ⟨wr.heap.size,3,none⟩=some (.string key)):=fun W tt=>⟨(HBX.out W tt).2.1,(HBX.out W tt).2.2.2⟩
     go_upto_region 26 with fail
     go_region_held3 (fun w'=>w'.cell? ⟨wr.heap.size,1,none⟩=some (.int .i64 num)∧w'.cell? ⟨wr.heap.size,3,none⟩=some (.string key))
      (first | exact HBN.out _ td | exact HBN.out _ (td.trans ts) | exact HBN.out _ (td.trans tr) | exact HBN.out _ ((td.trans ts).trans tr) | exact HBN.out _ ((td.trans tr).trans ts) | exact HBN.out _ (((td.trans ts).trans tr).trans tq) | exact HBN.out _ (((td.trans tr).trans ts).trans tq))
      (first
       | (go_at_call 19; ((with_reducible refine (HSA.out _ _ _ _ _ (hRs.keep0 tr) hIr).mono ?_); rintro e wq ⟨rfl,tq⟩))
       | (go_at_call 19; ((with_reducible refine (HSA.out _ _ _ _ _ hRs (hIr.keep0 ts)).mono ?_); rintro e wq ⟨rfl,tq⟩))
       | (go_at_call 20; ((with_reducible refine (HSC.out _ (td.trans tr)).mono ?_); rintro e ws ⟨vs,rfl,hrs,ts⟩; obtain ⟨xs,cs9,rfl⟩:=own_slice hrs; obtain ⟨bs9,hRs,_,_⟩:=IsR.own (f:=fPr) (fun _=>rfl) hrs rfl))
       | (go_at_call 20; ((with_reducible refine (HSC.out _ td).mono ?_); rintro e ws ⟨vs,rfl,hrs,ts⟩; obtain ⟨xs,cs9,rfl⟩:=own_slice hrs; obtain ⟨bs9,hRs,_,_⟩:=IsR.own (f:=fPr) (fun _=>rfl) hrs rfl))
       | (go_at_call 21; ((with_reducible refine (HRS.out _ (td.trans ts)).mono ?_); rintro e wr9 ⟨vr,rfl,hIr,tr⟩))
       | (go_at_call 21; ((with_reducible refine (HRS.out _ td).mono ?_); rintro e wr9 ⟨vr,rfl,hIr,tr⟩)))
     all_goals
      have TQ:Tch [] W1 wq:=by first | exact ((td.trans ts).trans tr).trans tq | exact ((td.trans tr).trans ts).trans tq
      have HG:=Lib.hid (HEN2.out wq TQ)
      have HH6:=Lib.hid (HHO2.out wq TQ)
      clear HEN2 HHO2 HSA HSC HRS TQ tq ts tr hIr hrs hRs td HBN
      go_wp2_with fail
      refine HH6.out.mono ?_
      rintro e w9 ⟨rfl,t9⟩
      have HE:=Lib.hid (HG.out w9 t9)
      clear HH6 HG t9
      go_wp2_with fail
      go_roundg g
      case measure=>omega
      case rel=>exact HE.out
   have b3:(kind == 3)=false:=by simpa using q3
   by_cases q4:kind=4
   · subst q4
     have HAG:Hid (Calls Tryz.prog 12 #[.pointer (some ⟨w.heap.size+1,0,none⟩),.int .i64 (r:Nat)] W1 (AgnPost W1 w.heap.size T.b T.bs T.room T.D.done now h F S)):=by
      have:=hcm1.again hB1 T1.size (by omega)
      rw [hb,hrm] at this
      rw [hb,hrm]
      exact this
     have HL1:=Lib.hid hL1
     have HX:=Lib.hid (And.intro hb (And.intro hbs (And.intro hrm (And.intro hnl hdn))))
     have HT1:=Lib.hid T1
     have HCM1:=Lib.hid hcm1
     clear hcm1 hL1 T1 hxr xz hb hbs hrm hnl hdn HBX hxA b1 b2 b3
     go_wp2_with fail
     refine HAG.out.mono ?_
     rintro e W6 ⟨tb6,T6,rfl,c6,g1,g2,g3,g4,t6⟩
     have l6:IsL W6 v13 F:=HL1.out.apply HCM1.out.tr (t6.mono (by simp))
     have hnw:=HCM1.out.new
     have HG:Hid (∀ W,Tch [] W6 W→PlRel w ops r fr g (.pointer (some ⟨tb6,0,none⟩)) v13 (.bool true) (.int .i64 ((k:Int)+1)) W):=by
      obtain ⟨p1,p2,p3,p4,p5⟩:=HX.out
      exact HEND.out W6 tb6 W1.heap.size T6 now h F S v13 c6 t6.size l6 (by omega) (by omega) (by omega) p4 (by omega) (HT1.out.upTo t6 (by simp only [List.mem_cons,List.not_mem_nil,or_false]; omega))
     have HH6:=Lib.hid (HHO.out W6 tb6 W1.heap.size T6 now h F S v13 c6 l6)
     clear HAG HEND HHO HX HT1 HCM1 HL1 l6 c6 g1 g2 g3 g4 t6 hnw
     go_wp2_with fail
     refine HH6.out.mono ?_
     rintro e w9 ⟨rfl,t9⟩
     have HE:=Lib.hid (HG.out w9 t9)
     clear HH6 HG t9
     go_wp2_with fail
     go_roundg g
     case measure=>omega
     case rel=>exact HE.out
   have b4:(kind == 4)=false:=by simpa using q4
   have HG:=Lib.hid (HEND.out W1 tb B T now h F S v13 hcm1 hB1 hL1 hb hbs hrm hnl (by omega) T1)
   have HH6:=Lib.hid (HHO.out W1 tb B T now h F S v13 hcm1 hL1)
   clear hcm1 hL1 T1 hxr xz hb hbs hrm hnl hdn HEND HHO hxA HBX
   go_wp2_with fail
   refine HH6.out.mono ?_
   rintro e w9 ⟨rfl,t9⟩
   have HE:=Lib.hid (HG.out w9 t9)
   clear HH6 HG t9
   go_wp2_with fail
   go_roundg g
   case measure=>omega
   case rel=>exact HE.out
theorem plays_walk (sectors room:Int) (a2:Option Addr) (n2 cap2 b2 o2:Nat) (ops:List TOp) (w:World) (h0 : -9223372036854775808≤sectors∧sectors≤9223372036854775807) (h2 : -9223372036854775808≤room∧room≤9223372036854775807) (hro:IsR fTOp 4 w a2 n2 b2 o2 ops) (hok:∀ x ∈ ops,x.Ok w) (hlen:n2≤1048576) :
 Calls Tryz.prog 3 #[.int .i64 sectors,.int .i64 room,.slice a2 n2 cap2] w fun e w'=>e=.returned (.bool true)∧Tch [] w w':=by
 have hn6:many sectors≤16384:=by unfold many; omega
 have hj:=jopen_fresh (many sectors) room hn6
 by_cases h1:room < 1∨500 < room
 · rw [if_pos h1] at hj
   exact plays_none sectors room _ w h0.1 h0.2 h2.1 h2.2 2 (by omega) hj
 · rw [if_neg h1] at hj
   by_cases hz:many sectors=0
   · rw [if_pos hz] at hj
     exact plays_none sectors room _ w h0.1 h0.2 h2.1 h2.2 10 (by omega) hj
   · obtain ⟨r,rfl⟩:∃ r:Nat,room=(r:Int):=⟨room.toNat,by omega⟩
     rcases Nat.lt_or_ge (many sectors) (r+2) with hs | hs
     · exact plays_small sectors r _ _ w h0.1 h0.2 rfl (by omega) hn6 (by omega) (by omega) hs
     · exact plays_go sectors r _ a2 n2 cap2 b2 o2 ops w h0.1 h0.2 rfl hn6 (by omega) (by omega) hs hro hok hlen
end Go.Proofs.YtlkgnljdpakkcaaGreatDoor
