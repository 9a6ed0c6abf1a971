/-
  Parts of the proof: Sec, Jp, Com, Opn, Jq.
-/
import Derived.Test.YtlkgnljdpakkcaaGreatDoorM08
set_option linter.unusedVariables false
set_option linter.unusedSimpArgs false
/-
 'sectorsOf' of package journal: the numbers of the sectors that are to change,or why they can't. Conditions: the journal is one that Open makes,over a disk; at most 500 changes.
-/
namespace Go.Proofs.YtlkgnljdpakkcaaGreatDoor
open Go.RowKit
structure IsChs (w:World) (a:Option Addr) (len cb o:Nat) (cs:List (Int × ByteArray)):Prop where
 hlen:len=cs.length
 at_:len=0∨a=some ⟨cb,o,none⟩∧cb < w.heap.size
 row:∀ (k:Nat) c,cs[k]?=some c→w.cell? ⟨cb,o+k * 2,none⟩=some (.int .i64 c.1)∧w.cell? ⟨cb,o+k * 2+1,none⟩=some (.string c.2)
 fit:∀ c ∈ cs,-9223372036854775808≤c.1∧c.1≤9223372036854775807∧c.2.size≤9223372036854775807
theorem IsChs.keep {w w':World} {a:Option Addr} {len cb o:Nat} {cs:List (Int × ByteArray)} {L:List Nat} (h:IsChs w a len cb o cs) (t:Tch L w w') (hn:cb ∉ L):IsChs w' a len cb o cs:=by
 refine ⟨h.hlen,?_,fun k c hk=>?_,h.fit⟩
 · rcases h.at_ with h1 | ⟨h1,h2⟩
   · exact Or.inl h1
   · exact Or.inr ⟨h1,Nat.lt_of_lt_of_le h2 t.size⟩
 · have hlt:cb < w.heap.size:=by
    rcases h.at_ with h1 | ⟨h1,h2⟩
    · have:=(List.getElem?_eq_some_iff.1 hk).1
      have:=h.hlen
      omega
    · exact h2
   obtain ⟨h1,h2⟩:=h.row k c hk
   exact ⟨(t.cell hlt hn).trans h1,(t.cell hlt hn).trans h2⟩
def ScPost (w:World) (n:Nat) (cs:List (Int × ByteArray)) (e:Ending) (w':World):Prop :=
 Tch [] w w'∧((ckc n cs []≠0∧e=.returned (.tuple #[.slice none 0 0,.int .i64 (ckc n cs [])])) ∨
  (ckc n cs []=0∧∃ v,e=.returned (.tuple #[v,.int .i64 0])∧w'.ownsRow w.heap.size 3 1 v (ats cs).length ((ats cs).map fun a:Nat=>Value.int .i64 (a:Int))))
def ScRel (w:World) (n:Nat) (cs:List (Int × ByteArray)) (v7 v13:Value) (wr:World):Prop :=
 ∃ k:Nat,k≤cs.length∧v13=.int .i64 k∧(∀ x ∈ (cs.take k).map Prod.fst,0≤x)∧MapOf wr w.heap.size k ((cs.take k).map Prod.fst) ∧
  wr.ownsRow w.heap.size 3 1 v7 (ats (cs.take k)).length ((ats (cs.take k)).map fun a:Nat=>Value.int .i64 (a:Int))∧Tch [] w wr∧ckc n cs []=ckc n (cs.drop k) ((cs.take k).map Prod.fst)
set_option maxRecDepth 100000 in
set_option maxHeartbeats 2000000 in
theorem sec_any (jb b bs room:Nat) (D:Ds) (a:Option Addr) (len cap cb o:Nat) (cs:List (Int × ByteArray)) (w:World) (h:IsJn w jb b room) (hd:IsDs w b bs D) (hr:room≤500) (hw:IsChs w a len cb o cs) (hl:len≤500) :
 Calls Tryz.prog 108 #[.pointer (some ⟨jb,0,none⟩),.slice a len cap] w (ScPost w (jlen D room) cs):=by
 have hlen:=hd.len
 have hjl:jlen D room≤16384:=by unfold jlen; omega
 obtain ⟨i0,hi,hz0,hz1,hz2⟩:=info_parts Tryz.info_int
 have hmm:=@run_makeMap Tryz.prog
 have hmap:=MapOf.made w
 have T0:=(Tch.refl [] w).alloc (.map #[] 0)
 have HWL:=hw.hlen
 have HFT:=Lib.hid hw.fit
 have HROW:Hid (∀ wr,Tch [] w wr→∀ (k:Nat) c,cs[k]?=some c→wr.cell? ⟨cb,o+k * 2,none⟩=some (.int .i64 c.1)∧wr.cell? ⟨cb,o+k * 2+1,none⟩=some (.string c.2)):=fun wr t=>(hw.keep t (by simp)).row
 have HAT:Hid (0 < len→a=some ⟨cb,o,none⟩):=fun h0=>by
  rcases hw.at_ with h1 | ⟨h1,_⟩
  · omega
  · exact h1
 have HY:Hid (∀ i:Int,0≤i→i < (jlen D room:Nat)→∀ wr,Tch [] w wr→Calls Tryz.prog 119 #[.pointer (some ⟨jb,0,none⟩),.int .i64 i] wr fun e w'=>e=.returned (.bool true)∧wr=w'):=fun i h0 h1 wr t =>
  has_yes jb b bs room D i wr (h.keep t (by simp)) (hd.keep t (by simp) (by simp)) hr h0 h1
 have HN:Hid (∀ i:Int,i < 0∨(jlen D room:Nat)≤i→∀ wr,Tch [] w wr→Calls Tryz.prog 119 #[.pointer (some ⟨jb,0,none⟩),.int .i64 i] wr fun e w'=>e=.returned (.bool false)∧wr=w'):=fun i h0 wr t =>
  has_no jb b bs room D i wr (h.keep t (by simp)) (hd.keep t (by simp) (by simp)) hr h0
 generalize jlen D room=n at HY HN hjl ⊢
 clear h hd hw hr hlen
 go_enter Tryz.func108,Tryz.ntmps108
 go_wp2_with fail
 clear hmm
 subst HWL
 go_loopw [7,13] (fun v7 v13 wr=>ScRel w n cs v7 v13 wr) (fun _ v13 _=>cs.length - (intOf v13).toNat)
 case atStart=>exact ⟨0,by omega,rfl,by simp,hmap,World.ownsRow_nil _ _ _ _,T0,rfl⟩
 case round =>
  obtain ⟨k,hk,rfl,hpos,hm,hown,T,hck⟩:=hrel
  by_cases hkl:k < cs.length
  · obtain rfl:=HAT.out (by omega)
    obtain ⟨x0,x1⟩:=HROW.out wr T k cs[k] (List.getElem?_eq_getElem hkl)
    have hfit:=HFT.out cs[k] (List.getElem_mem hkl)
    have hdr:cs.drop k=cs[k] :: cs.drop (k+1):=List.drop_eq_getElem_cons hkl
    have htk:cs.take (k+1)=cs.take k++[cs[k]]:=List.take_succ_eq_append_getElem hkl
    rw [hdr,ckc] at hck
    have HTK:Hid (ats (cs.take (k+1))=ats (cs.take k)++[(cs[k]).1.toNat]∧(cs.take (k+1)).map Prod.fst=(cs.take k).map Prod.fst++[(cs[k]).1]):=by
     show _∧_
     rw [htk]
     exact ⟨by unfold ats; rw [List.map_append]; rfl,by rw [List.map_append]; rfl⟩
    have hal:(ats (cs.take k)).length=k:=by unfold ats; rw [List.length_map,List.length_take]; omega
    generalize cs[k]=c at x0 x1 hfit hck HTK
    obtain ⟨i,x⟩:=c
    simp only at x0 x1 hfit hck HTK
    clear hdr htk
    obtain ⟨hf0,hf1,hf2⟩:=hfit
    have TA:=T.alloc (.cells #[.int .i64 i,.string x] 206)
    by_cases hin:i < 0∨n≤i
    · rw [if_pos hin] at hck
      have HF:Hid (∀ w1,Tch [] w w1→ScPost w n cs (.returned (.tuple #[.slice none 0 0,.int .i64 10])) w1):=fun w1 t1=>⟨t1,Or.inl ⟨by rw [hck]; omega,by rw [hck]⟩⟩
      have HH:=Lib.hid (HN.out i hin _ TA)
      clear hck hpos hin hal
      go_wp2_with (first | (go_at_call 119; refine HH.out.mono ?_; rintro e w1 ⟨rfl,rfl⟩))
      go_ret2
      exact HF.out _ TA
    rw [if_neg hin] at hck
    have HH:=Lib.hid (HY.out i (by omega) (by omega) _ TA)
    by_cases hxl:1024 < x.size
    · rw [if_pos hxl] at hck
      have HF:Hid (∀ w1,Tch [] w w1→ScPost w n cs (.returned (.tuple #[.slice none 0 0,.int .i64 11])) w1):=fun w1 t1=>⟨t1,Or.inl ⟨by rw [hck]; omega,by rw [hck]⟩⟩
      clear hck hpos hin hal
      go_wp2_with (first | (go_at_call 119; refine HH.out.mono ?_; rintro e w1 ⟨rfl,rfl⟩))
      go_ret2
      exact HF.out _ TA
    rw [if_neg hxl] at hck
    have hmA:=hm.kept ((Tch.refl [] wr).alloc (.cells #[.int .i64 i,.string x] 206)) (by simp)
    have hownA:=hown.alloc (.cells #[.int .i64 i,.string x] 206)
    have hsz:=T.size
    have hb:=blk_new wr (.cells #[.int .i64 i,.string x] 206)
    have y0:(wr.alloc (.cells #[.int .i64 i,.string x] 206)).cell? ⟨wr.heap.size,0,none⟩=some (.int .i64 i):=blk_cell hb 0
    have y1:(wr.alloc (.cells #[.int .i64 i,.string x] 206)).cell? ⟨wr.heap.size,1,none⟩=some (.string x):=blk_cell hb 1
    have hxs:x.size≤1024:=by omega
    have hwne:w.heap.size≠wr.heap.size:=by have:=hm.lt; omega
    have hWS:=T0.size
    by_cases him:i ∈ (cs.take k).map Prod.fst
    · rw [if_pos him] at hck
      have HF:Hid (∀ w1,Tch [] w w1→ScPost w n cs (.returned (.tuple #[.slice none 0 0,.int .i64 30])) w1):=fun w1 t1=>⟨t1,Or.inl ⟨by rw [hck]; omega,by rw [hck]⟩⟩
      have HM:=Lib.hid (met_yes w.heap.size k _ i _ hmA (WalkArith.wf_i64 (by omega)) (by omega) him)
      clear hck hpos hin hal hxl him hm hown y0 y1 hb
      go_wp2_with (first | (go_at_call 119; refine HH.out.mono ?_; rintro e w1 ⟨rfl,rfl⟩) | (go_at_call 87; refine HM.out.mono ?_; rintro e w1 ⟨rfl,t1⟩))
      go_ret2
      exact HF.out _ (TA.transNew t1 (by simp))
    rw [if_neg him] at hck
    have HM:=Lib.hid (met_no w.heap.size k _ i _ hmA (WalkArith.wf_i64 (by omega)) (by omega) him)
    have HC:=Lib.hid hck
    have HP:=Lib.hid hpos
    have HI:=Lib.hid hin
    have HAL:=Lib.hid hal
    have HNE:=Lib.hid (own_map_ne hownA hmA)
    clear hck hpos hin hal hxl him hm hown
    go_wp2_with fail
    refine HH.out.mono ?_
    rintro e w1 ⟨rfl,rfl⟩
    generalize wr.alloc (.cells #[.int .i64 i,.string x] 206)=WA at HM hmA hownA hb y0 y1 TA HNE ⊢
    have hplt:wr.heap.size < WA.heap.size:=lt_of_block hb
    generalize wr.heap.size=p at y0 y1 hwne hb hplt ⊢
    have hown1:=hownA
    go_wp2_with (first | (go_at_call 87; refine HM.out.mono ?_; rintro e w1 ⟨rfl,hm1,t1⟩; have hown1:=own_keep hownA t1 (by intro g hg hm2; simp only [List.mem_singleton] at hm2; exact HNE.out (by rw [hg,hm2])); have T1:=TA.transNew t1 (by simp); have z0:=(t1.cell (o:=0) hplt (by simp; omega)).trans y0) | (at_builtin; refine wpList_append_own _ rfl _ _ 50 rfl w.heap.size 3 i0 (.int .i64 0) 1 8 Tryz.underlying50 hi hz0 hz1 hz2 rfl (by decide) _ _ _ rfl (hown1.alloc _) ⟨w1.heap.size,0,none⟩ 1 1 [.int .i64 i] rfl rfl ?c1 ?c2 ?c3 ?c4 ?c5 ?_))
    case c1=>exact cells_one _ _ _
    case c2=>intro x hx; simp only [List.mem_singleton] at hx; subst hx; rfl
    case c3=>have:=HAL.out; unfold maxLen; omega
    case c4=>have:=HAL.out; omega
    case c5=>have:=T1.size; simp; omega
    intro v' w2 hown2 hgrow _
    have T2:=(T1.alloc (.cells #[.int .i64 i] 3)).own (hown1.alloc _) (Nat.le_refl _) hgrow
    have hm2:MapOf w2 w.heap.size (k+1) ((cs.take (k+1)).map Prod.fst):=by
     have hm3:=hm1.kept ((Tch.refl [] w1).alloc (.cells #[.int .i64 i] 3)) (by simp)
     have hlt:=hm3.lt
     have hne:=own_map_ne (hown1.alloc (.cells #[.int .i64 i] 3)) hm3
     obtain ⟨DD,⟨es,clock,hb,F,hsz2,hD⟩,hat⟩:=hm3
     exact ⟨DD,⟨es,clock,(hgrow.block _ hlt (fun e=>hne e.symm)).trans hb,F,hsz2,hD⟩,by rw [HTK.out.2]; exact hat⟩
    have hi0:0≤i:=by
     have:=HI.out
     omega
    have HO:Hid (w2.ownsRow w.heap.size 3 1 v' (ats (cs.take (k+1))).length ((ats (cs.take (k+1))).map fun x:Nat=>Value.int .i64 (x:Int))):=by
     show World.ownsRow _ _ _ _ _ _ _
     rw [HTK.out.1,List.length_append,List.map_append,List.map_cons,List.map_nil,show ((i.toNat:Nat):Int)=i from by omega]
     exact hown2
    clear hown2 hown1 hownA hgrow T1 hm1 t1
    go_wp2
    go_roundw
    case rel =>
     refine ⟨k+1,by omega,by go_num,?_,hm2,HO.out,T2,?_⟩
     · rw [HTK.out.2]
       intro y hy
       rcases List.mem_append.1 hy with h1 | h1
       · exact HP.out y h1
       · simp only [List.mem_singleton] at h1; omega
     · rw [HC.out,HTK.out.2]
    case measure=>simp [intOf]; omega
  · obtain rfl:k=cs.length:=by omega
    rw [List.drop_length,ckc] at hck
    rw [List.take_length] at hown
    have HF:Hid (ScPost w n cs (.returned (.tuple #[u7,.int .i64 0])) wr):=⟨T,Or.inr ⟨hck,u7,rfl,hown⟩⟩
    clear hck hown hpos hm
    go_wp2
    go_ret2
    exact HF.out
end Go.Proofs.YtlkgnljdpakkcaaGreatDoor
/-
 Plain laws of a journal's writes: what is read back of the copies,and that bringing the copies to their sectors is writing the changes. Of no program.
-/
namespace Go.Proofs.YtlkgnljdpakkcaaGreatDoor
theorem wz {D:Ds} {i:Int} {x:ByteArray} (h:D.wcode i x=0):D.on=true∧0≤i∧i < D.texts.length∧x.size≤1024∧D.left≠0∧D.wstate i x={ D with texts:=D.texts.set i.toNat x,done:=D.done+1,reach:=max D.reach (i+1),left:=tk D.left }:=by
 unfold Ds.wcode at h
 by_cases h1:D.on=false
 · rw [if_pos h1] at h; omega
 rw [if_neg h1] at h
 by_cases h2:i < 0∨D.texts.length≤i
 · rw [if_pos h2] at h; omega
 rw [if_neg h2] at h
 by_cases h3:1024 < x.size
 · rw [if_pos h3] at h; omega
 rw [if_neg h3] at h
 by_cases h4:D.left=0
 · rw [if_pos h4] at h; omega
 refine ⟨by simpa using h1,by omega,by omega,by omega,h4,?_⟩
 unfold Ds.wstate
 rw [if_neg h1,if_neg h2,if_neg h3,if_neg h4]
theorem wz_on {D:Ds} {i:Int} {x:ByteArray} (h:D.wcode i x=0):(D.wstate i x).on=true:=by
 have:=wz h
 rw [this.2.2.2.2.2]; exact this.1
theorem wz_get {D:Ds} {i:Int} {x:ByteArray} (h:D.wcode i x=0) (j:Nat):(D.wstate i x).texts.getD j ⟨#[]⟩=if (j:Int)=i then x else D.texts.getD j ⟨#[]⟩:=by
 have h1:=wz h
 rw [h1.2.2.2.2.2]
 simp only [List.getD_eq_getElem?_getD]
 rw [List.getElem?_set]
 by_cases hj:(j:Int)=i
 · rw [if_pos hj,if_pos (by omega),if_pos (by omega)]; rfl
 · rw [if_neg hj,if_neg (by omega)]
theorem rc_in {D:Ds} {i:Nat} (h1:D.on=true) (h2:i < D.texts.length):D.rcode (i:Int)=0:=by
 unfold Ds.rcode; rw [if_neg (by simp [h1]),if_neg (by omega)]
theorem fin_scs (room:Nat) (l:List (Int × ByteArray)):∀ (k:Nat) (E:Ds),E.on=true→room+1≤E.texts.length→k+l.length≤room→(∀ j,j < l.length→E.texts.getD (1+(k+j)) ⟨#[]⟩=(l.getD j (0,⟨#[]⟩)).2) →
 fin room k (ats l) E=wrs (scs room l) E:=by
 induction l with
 | nil=>intro k E _ _ _ _; rfl
 | cons p l ih =>
  intro k E hon hlen hk hc
  have h0:E.texts.getD (1+k) ⟨#[]⟩=p.2:=by have:=hc 0 (by simp); simpa using this
  show fin room k (p.1.toNat :: ats l) E=wrs ((((room+1+p.1.toNat:Nat):Int),p.2) :: scs room l) E
  rw [fin,wrs]
  rw [if_neg (by rw [rc_in hon (by simp at hk; omega)]; simp),h0]
  by_cases hw:E.wcode ((room+1+p.1.toNat:Nat):Int) p.2=0
  · rw [if_pos hw,if_pos hw]
    refine ih (k+1) _ (wz_on hw) (by rw [wst_len]; exact hlen) (by simp at hk; omega) (fun j hj=>?_)
    rw [wz_get hw,if_neg (by simp at hk; omega)]
    have:=hc (j+1) (by simp; omega)
    rw [show 1+(k+1+j)=1+(k+(j+1)) from by omega,this]
    rfl
  · rw [if_neg hw,if_neg hw]
theorem cps_get (l:List (Int × ByteArray)):∀ (k:Nat) (D:Ds),(wrs (cps k l) D).1=0→(∀ j,j < l.length→(wrs (cps k l) D).2.texts.getD (1+(k+j)) ⟨#[]⟩=(l.getD j (0,⟨#[]⟩)).2) ∧
 (∀ i,i < 1+k∨1+k+l.length≤i→(wrs (cps k l) D).2.texts.getD i ⟨#[]⟩=D.texts.getD i ⟨#[]⟩)∧(l≠[]→(wrs (cps k l) D).2.on=true):=by
 induction l with
 | nil=>intro k D _; exact ⟨fun j hj=>by simp at hj,fun i _=>rfl,fun h=>absurd rfl h⟩
 | cons p l ih =>
  intro k D h
  rw [cps,wrs] at h ⊢
  by_cases hw:D.wcode ((1+k:Nat):Int) p.2=0
  · rw [if_pos hw] at h ⊢
    obtain ⟨h1,h2,h3⟩:=ih (k+1) _ h
    refine ⟨fun j hj=>?_,fun i hi=>?_,fun _=>?_⟩
    · cases j with
      | zero =>
       rw [h2 (1+(k+0)) (by omega),wz_get hw,if_pos (by omega)]
       rfl
      | succ j =>
       have:=h1 j (by simp at hj; omega)
       rw [show 1+(k+(j+1))=1+(k+1+j) from by omega,this]
       rfl
    · simp only [List.length_cons] at hi
      rw [h2 i (by omega),wz_get hw,if_neg (by omega)]
    · by_cases hl:l=[]
      · subst hl; exact wz_on hw
      · exact h3 hl
  · rw [if_neg hw] at h
    exact absurd h hw
theorem fins_cws (room:Nat) (l:List (Int × ByteArray)) (E:Ds) (hon:E.on=true) (hlen:room+1≤E.texts.length) (hl:l.length≤room) (hc:∀ j,j < l.length→E.texts.getD (1+j) ⟨#[]⟩=(l.getD j (0,⟨#[]⟩)).2) :
 fins room (ats l) E=wrs (scs room l++[(0,hdb [])]) E:=by
 unfold fins
 rw [fin_scs room l 0 E hon hlen (by omega) (fun j hj=>by rw [Nat.zero_add]; exact hc j hj),wrs_app]
theorem ckc_in (n:Nat) (l:List (Int × ByteArray)):∀ met,ckc n l met=0→∀ p ∈ l,0≤p.1∧p.1 < n∧p.2.size≤1024:=by
 induction l with
 | nil=>intro met _ p hp; simp at hp
 | cons q l ih =>
  intro met h p hp
  rw [ckc] at h
  by_cases h1:q.1 < 0∨n≤q.1
  · rw [if_pos h1] at h; omega
  rw [if_neg h1] at h
  by_cases h2:1024 < q.2.size
  · rw [if_pos h2] at h; omega
  rw [if_neg h2] at h
  by_cases h3:q.1 ∈ met
  · rw [if_pos h3] at h; omega
  rw [if_neg h3] at h
  rcases List.mem_cons.1 hp with rfl | hp
  · omega
  · exact ih _ h p hp
theorem ckc_nodup (n:Nat) (l:List (Int × ByteArray)):∀ met,ckc n l met=0→met.Nodup→(met++l.map Prod.fst).Nodup:=by
 induction l with
 | nil=>intro met _ h; simpa using h
 | cons q l ih =>
  intro met h hm
  rw [ckc] at h
  by_cases h1:q.1 < 0∨n≤q.1
  · rw [if_pos h1] at h; omega
  rw [if_neg h1] at h
  by_cases h2:1024 < q.2.size
  · rw [if_pos h2] at h; omega
  rw [if_neg h2] at h
  by_cases h3:q.1 ∈ met
  · rw [if_pos h3] at h; omega
  rw [if_neg h3] at h
  have:=ih _ h (by
   rw [List.nodup_append]
   refine ⟨hm,by simp,fun a ha b hb hab=>?_⟩
   simp only [List.mem_singleton] at hb
   subst hb; subst hab
   exact h3 ha)
  simpa using this
end Go.Proofs.YtlkgnljdpakkcaaGreatDoor
/-
 'Commit' of package journal: what it answers and what the disk holds behind it. Conditions: the journal is one that Open makes,over a disk; the count of writes stays below the greatest int64.
-/
namespace Go.Proofs.YtlkgnljdpakkcaaGreatDoor
open Go.RowKit
def CmPost (w:World) (b bs room:Nat) (cs:List (Int × ByteArray)) (D:Ds) (e:Ending) (w':World):Prop :=
 e=.returned (.int .i64 (jcommit room cs D).1)∧IsDs w' b bs (jcommit room cs D).2∧Tch [b,bs] w w'
def CmRel (w:World) (b bs:Nat) (cs:List (Int × ByteArray)) (D:Ds) (v36:Value) (wr:World):Prop :=
 ∃ (k:Nat) (E:Ds),k≤cs.length∧v36=.int .i64 k∧IsDs wr b bs E∧wrs (cps 0 cs) D=wrs (cps k (cs.drop k)) E∧E.done≤D.done+k∧E.texts.length=D.texts.length∧Tch [b,bs] w wr
theorem commit_big (jb b bs room:Nat) (D:Ds) (a:Option Addr) (cap cb o:Nat) (cs:List (Int × ByteArray)) (w:World) (h:IsJn w jb b room) (hd0:IsDs w b bs D) (hr:room≤500) (hlm:cs.length≤9223372036854775807) (hbig:room < cs.length) :
 Calls Tryz.prog 60 #[.pointer (some ⟨jb,0,none⟩),.slice a cs.length cap] w (CmPost w b bs room cs D):=by
 have c1:=h.c1
 have HF:Hid (CmPost w b bs room cs D (.returned (.int .i64 31)) w):=by
  have e:jcommit room cs D=(31,D):=by unfold jcommit; rw [if_pos (by omega)]
  show CmPost _ _ _ _ _ _ _ _
  unfold CmPost; rw [e]; exact ⟨rfl,hd0,Tch.refl _ _⟩
 have hb1:decide (room < cs.length)=true:=by simpa using hbig
 clear hd0 hbig
 go_enter Tryz.func60,Tryz.ntmps60
 go_wp2_with fail
 go_ret
 exact HF.out
theorem commit_ref (jb b bs room:Nat) (D:Ds) (a:Option Addr) (cap cb o:Nat) (cs:List (Int × ByteArray)) (w:World) (h:IsJn w jb b room) (hd0:IsDs w b bs D) (hr:room≤500) (hw:IsChs w a cs.length cb o cs) (hbig:¬ room < cs.length) (hck:ckc (jlen D room) cs []≠0) :
 Calls Tryz.prog 60 #[.pointer (some ⟨jb,0,none⟩),.slice a cs.length cap] w (CmPost w b bs room cs D):=by
 have c1:=h.c1
 have hb1:decide (room < cs.length)=false:=by simpa using hbig
 have HF:Hid (∀ w1,Tch [] w w1→CmPost w b bs room cs D (.returned (.int .i64 (ckc (jlen D room) cs []))) w1):=fun w1 t1=>by
  have e:jcommit room cs D=(ckc (jlen D room) cs [],D):=by unfold jcommit; rw [if_neg (by omega),if_pos (Or.inl hck)]
  unfold CmPost; rw [e]; exact ⟨rfl,hd0.keep t1 (by simp) (by simp),t1.mono (by simp)⟩
 have hne:(ckc (jlen D room) cs [] != 0)=true:=by simpa using hck
 have HS:Hid (Calls Tryz.prog 108 #[.pointer (some ⟨jb,0,none⟩),.slice a cs.length cap] w fun e w'=>e=.returned (.tuple #[.slice none 0 0,.int .i64 (ckc (jlen D room) cs [])])∧Tch [] w w'):=(sec_any jb b bs room D a cs.length cap cb o cs w h hd0 hr hw (by omega)).mono (fun e w' ⟨t,hx⟩=>by
  rcases hx with ⟨_,he⟩ | ⟨h0,_⟩
  · exact ⟨he,t⟩
  · exact absurd h0 hck)
 have hl5:cs.length≤500:=by omega
 clear hd0 hw hbig hck
 generalize ckc (jlen D room) cs []=c at HF HS hne
 go_enter Tryz.func60,Tryz.ntmps60
 go_wp2_with (first | (go_at_call 108; refine HS.out.mono ?_; rintro e w1 ⟨rfl,t1⟩))
 go_ret
 exact HF.out _ t1
theorem sec_ok (jb b bs room:Nat) (D:Ds) (a:Option Addr) (cap cb o:Nat) (cs:List (Int × ByteArray)) (w:World) (h:IsJn w jb b room) (hd0:IsDs w b bs D) (hr:room≤500) (hw:IsChs w a cs.length cb o cs) (hbig:¬ room < cs.length) (hck:ckc (jlen D room) cs []=0) :
 Calls Tryz.prog 108 #[.pointer (some ⟨jb,0,none⟩),.slice a cs.length cap] w fun e w'=>∃ x n c,e=.returned (.tuple #[.slice x n c,.int .i64 0])∧n=cs.length∧w'.ownsRow w.heap.size 3 1 (.slice x n c) (ats cs).length ((ats cs).map fun a:Nat=>Value.int .i64 (a:Int))∧Tch [] w w' :=
 (sec_any jb b bs room D a cs.length cap cb o cs w h hd0 hr hw (by omega)).mono (fun e w' ⟨t,hx⟩=>by
  rcases hx with ⟨h0,_⟩ | ⟨_,v,he,ho⟩
  · exact absurd hck h0
  · have hal:(ats cs).length=cs.length:=by unfold ats; simp
    rcases ho.2 with ⟨rfl,h2⟩ | ⟨g,c,cur,rfl,_⟩
    · exact ⟨none,0,0,he,by omega,ho,t⟩
    · exact ⟨_,_,_,he,hal,ho,t⟩)
theorem commit_none (jb b bs room:Nat) (D:Ds) (a:Option Addr) (cap cb o:Nat) (w:World) (h:IsJn w jb b room) (hd0:IsDs w b bs D) (hr:room≤500) (hw:IsChs w a ([]:List (Int × ByteArray)).length cb o []) :
 Calls Tryz.prog 60 #[.pointer (some ⟨jb,0,none⟩),.slice a 0 cap] w (CmPost w b bs room [] D):=by
 have c1:=h.c1
 have HF:Hid (∀ w1,Tch [] w w1→CmPost w b bs room [] D (.returned (.int .i64 0)) w1):=fun w1 t1=>by
  have e:jcommit room [] D=(0,D):=by unfold jcommit; rw [if_neg (by simp),if_pos (Or.inr rfl)]; rfl
  unfold CmPost; rw [e]; exact ⟨rfl,hd0.keep t1 (by simp) (by simp),t1.mono (by simp)⟩
 have HS:=Lib.hid (sec_ok jb b bs room D a cap cb o [] w h hd0 hr hw (by simp) rfl)
 clear hd0 hw
 go_enter Tryz.func60,Tryz.ntmps60
 go_wp2_with fail
 refine HS.out.mono ?_
 rintro e w1 ⟨x,n,c,rfl,rfl,ho,t1⟩
 clear ho
 simp only [List.length_nil]
 go_wp2_with fail
 go_ret
 exact HF.out _ t1
set_option maxRecDepth 100000 in
set_option maxHeartbeats 1000000 in
theorem commit_go (jb b bs room:Nat) (D:Ds) (a:Option Addr) (cap cb o:Nat) (cs:List (Int × ByteArray)) (w:World) (h:IsJn w jb b room) (hd0:IsDs w b bs D) (hj:jb≠b∧jb≠bs) (hr:room≤500) (hw:IsChs w a cs.length cb o cs) (hcb:cb≠b∧cb≠bs)
 (hn:D.done+1002 < 9223372036854775807) (hbig:¬ room < cs.length) (hck:ckc (jlen D room) cs []=0) (hcs:cs≠[]) :
 Calls Tryz.prog 60 #[.pointer (some ⟨jb,0,none⟩),.slice a cs.length cap] w (CmPost w b bs room cs D):=by
 have hj2:jb ∉ [b,bs]:=by simp; exact hj
 have hcb2:cb ∉ [b,bs]:=by simp; exact hcb
 have c0:=h.c0
 have c1:=h.c1
 have hlen:=hd0.len
 have hlt:=hd0.lt
 have hjlt:=h.lt
 have hpos:0 < cs.length:=List.length_pos_iff.2 hcs
 have hl5:cs.length≤500:=by omega
 have hb1:decide (room < cs.length)=false:=by simpa using hbig
 have hb2:((cs.length:Int) == 0)=false:=by simp; exact hcs
 have HE:Hid (jcommit room cs D=wrs (cws room cs) D):=by show _=_; unfold jcommit; rw [if_neg (by omega),if_neg (by simp [hck,hcs])]
 have HIN:=Lib.hid (ckc_in _ cs [] hck)
 have hjl:0 < jlen D room:=by
  obtain ⟨p,hp⟩:=List.exists_mem_of_ne_nil cs hcs
  have:=HIN.out p hp
  omega
 have HRL:Hid (room+1≤D.texts.length):=by show _≤_; unfold jlen at hjl; omega
 have HS:=Lib.hid (sec_ok jb b bs room D a cap cb o cs w h hd0 hr hw hbig hck)
 have HCH:Hid (∀ wr,Tch [b,bs] w wr→IsChs wr a cs.length cb o cs):=fun wr t=>hw.keep t hcb2
 have HJN:Hid (∀ wr,Tch [b,bs] w wr→IsJn wr jb b room):=fun wr t=>h.keep t hj2
 have hla:a=some ⟨cb,o,none⟩:=by
  rcases hw.at_ with h1 | ⟨h1,_⟩
  · omega
  · exact h1
 subst hla
 have hlr:cs.length≤room:=by omega
 clear hw h hbig hck hcs hjl
 go_enter Tryz.func60,Tryz.ntmps60
 go_wp2_with fail
 refine HS.out.mono ?_
 rintro e w1 ⟨x,n,c,rfl,rfl,ho,t1⟩
 have hd1:=hd0.keep t1 (by simp) (by simp)
 have T1:Tch [b,bs] w w1:=t1.mono (by simp)
 have hvb:Hid (∀ k,(Value.slice x cs.length c).ownBlock=some k→k ∉ [b,bs]):=fun k hk hm=>by
  have:=(ho.lt k hk).1
  simp at hm
  omega
 have HN1:Hid (IsNums w1 (.slice x cs.length c) (ats cs)):=own_base ho (Nat.zero_le _)
 clear ho t1 hd0 HS
 go_wp2_with fail
 go_loopw [36] (fun v36 wr=>CmRel w1 b bs cs D v36 wr) (fun v36 _=>cs.length - (intOf v36).toNat)
 case atStart=>exact ⟨0,D,by omega,rfl,hd1,rfl,by omega,rfl,Tch.refl _ _⟩
 case round =>
  obtain ⟨k,E,hk,rfl,hd,hf,hdn,htl,T⟩:=hrel
  by_cases hkl:k < cs.length
  · have TW:=T1.trans T
    obtain ⟨x0,x1⟩:=(HCH.out wr TW).row k cs[k] (List.getElem?_eq_getElem hkl)
    have hdr:cs.drop k=cs[k] :: cs.drop (k+1):=List.drop_eq_getElem_cons hkl
    rw [hdr,cps,wrs] at hf
    simp only at hf
    have hxs:=(HIN.out cs[k] (List.getElem_mem hkl)).2.2
    generalize cs[k]=cc at x0 x1 hf hxs
    obtain ⟨i,y⟩:=cc
    simp only at x0 x1 hf hxs
    clear hdr
    have hJA:IsJn (wr.alloc (.cells #[.int .i64 i,.string y] 206)) jb b room:=HJN.out _ (TW.alloc _)
    have hdA:=hd.keep ((Tch.refl [] wr).alloc (.cells #[.int .i64 i,.string y] 206)) (by simp) (by simp)
    have TA:=T.alloc (.cells #[.int .i64 i,.string y] 206)
    have hb:=blk_new wr (.cells #[.int .i64 i,.string y] 206)
    have y1:(wr.alloc (.cells #[.int .i64 i,.string y] 206)).cell? ⟨wr.heap.size,1,none⟩=some (.string y):=blk_cell hb 1
    have HW:Hid (∀ w1,IsDs w1 b bs E→_):=fun w1 h1=>dwrite b bs E ((1+k:Nat):Int) y w1 h1 (by omega)
    have HD:=Lib.hid (wst_done E ((1+k:Nat):Int) y).2
    have HL:=Lib.hid (wst_len E ((1+k:Nat):Int) y)
    clear hd
    by_cases hwc:E.wcode ((1+k:Nat):Int) y=0
    · rw [if_pos hwc] at hf
      rw [hwc] at HW
      have HF:=Lib.hid hf
      clear hf hwc
      generalize E.wstate ((1+k:Nat):Int) y=E2 at HW HF HD HL
      rw [show ((1+k:Nat):Int)=1+(k:Int) from by omega] at HW
      go_wp2_with fail
      generalize wr.alloc (.cells #[.int .i64 i,.string y] 206)=WA at hJA hdA TA hb y1 ⊢
      generalize wr.heap.size=p at hb y1 ⊢
      have q0:=hJA.c0
      have hd2:IsDs WA.drew b bs E:=hdA.keep (Tch.refl [] WA).drew (by simp) (by simp)
      have hwr:IntKind.i64.wrap (1+(k:Int))=1+(k:Int):=IntWalk.i64_in _ (by omega)
      clear hb hdA
      go_region_with (first | (go_at_call 32; refine (HW.out _ hd2).mono ?_; rintro e w2 ⟨rfl,hd3,t3⟩))
      all_goals
       clear hwr
       go_wp2
       go_roundw
       case rel=>exact ⟨k+1,E2,by omega,by go_num,hd3,HF.out,by have:=HD.out; omega,by rw [HL.out]; exact htl,TA.drew.trans t3⟩
       case measure=>simp [intOf]; omega
    · rw [if_neg hwc] at hf
      have hne:(E.wcode ((1+k:Nat):Int) y != 0)=true:=by simpa using hwc
      have HF:Hid (∀ w2,IsDs w2 b bs (E.wstate ((1+k:Nat):Int) y)→Tch [b,bs] w w2→CmPost w b bs room cs D (.returned (.int .i64 (E.wcode ((1+k:Nat):Int) y))) w2):=fun w2 hd2 t2=>by
       have e:jcommit room cs D=(E.wcode ((1+k:Nat):Int) y,E.wstate ((1+k:Nat):Int) y):=by
        rw [HE.out,cws,wrs_app,hf,if_neg hwc]
       unfold CmPost; rw [e]; exact ⟨rfl,hd2,t2⟩
      clear hf hwc HD HL
      generalize E.wstate ((1+k:Nat):Int) y=E2 at HW HF
      generalize E.wcode ((1+k:Nat):Int) y=d at HW HF hne
      rw [show ((1+k:Nat):Int)=1+(k:Int) from by omega] at HW
      go_wp2_with fail
      generalize wr.alloc (.cells #[.int .i64 i,.string y] 206)=WA at hJA hdA TA hb y1 ⊢
      generalize wr.heap.size=p at hb y1 ⊢
      have q0:=hJA.c0
      have hd2:IsDs WA.drew b bs E:=hdA.keep (Tch.refl [] WA).drew (by simp) (by simp)
      have hwr:IntKind.i64.wrap (1+(k:Int))=1+(k:Int):=IntWalk.i64_in _ (by omega)
      clear hb hdA
      go_region_with (first | (go_at_call 32; refine (HW.out _ hd2).mono ?_; rintro e w2 ⟨rfl,hd3,t3⟩))
      all_goals
       clear hwr
       go_wp2
       go_ret
       exact HF.out _ hd3 (T1.trans (TA.drew.trans t3))
  · obtain rfl:k=cs.length:=by omega
    rw [List.drop_length,cps,wrs] at hf
    have hcg:=cps_get cs 0 D (by rw [hf])
    rw [hf] at hcg
    simp only [Nat.zero_add] at hcg
    have HON:Hid (E.on=true):=hcg.2.2 (by intro h0; rw [h0] at hpos; simp at hpos)
    have HCG:=Lib.hid hcg.1
    have TW:=T1.trans T
    have hJ:=HJN.out wr TW
    have hN:=HN1.out.keep T hvb.out
    have q0:=hJ.c0
    have HA5:Hid (∀ y ∈ ats cs,y < 16384):=fun y hy=>by
     unfold ats at hy
     obtain ⟨p,hp,rfl⟩:=List.mem_map.1 hy
     have h1:=HIN.out p hp
     have h2:jlen D room≤16384:=by unfold jlen; omega
     omega
    have hal:(ats cs).length=cs.length:=by unfold ats; simp
    have HAL:=Lib.hid hal
    clear hal
    have hd2:IsDs wr.drew b bs E:=hd.keep (Tch.refl [] wr).drew (by simp) (by simp)
    have hN2:IsNums wr.drew (.slice x cs.length c) (ats cs):=hN.keep (Tch.refl [] wr).drew (by simp)
    have HO:=Lib.hid (headOf_any (.slice x cs.length c) (ats cs) wr.drew hN2 (by rw [HAL.out]; omega) (fun y hy=>by have:=HA5.out y hy; omega))
    have HW:Hid (∀ w1,IsDs w1 b bs E→_):=fun w1 h1=>dwrite b bs E 0 (hdb (ats cs)) w1 h1 (by omega)
    have HD:=Lib.hid (wst_done E 0 (hdb (ats cs))).2
    have HF0:=Lib.hid hf
    clear hf hcg hd hN2
    by_cases hwc:E.wcode 0 (hdb (ats cs))=0
    · have HF:Hid (jcommit room cs D=fins room (ats cs) (E.wstate 0 (hdb (ats cs)))):=by
       show _=_
       rw [fins_cws room cs _ (wz_on hwc) (by rw [wst_len,htl]; exact HRL.out) (by omega) (fun j hj=>by rw [wz_get hwc,if_neg (by omega)]; exact HCG.out j hj)]
       rw [HE.out,cws,wrs_app,HF0.out,if_pos rfl,wrs]
       simp only
       rw [if_pos hwc]
      rw [hwc] at HW
      clear hwc
      generalize E.wstate 0 (hdb (ats cs))=E2 at HW HF HD
      go_wp2_with fail
      go_region_with (first | (go_at_call 90; refine HO.out.mono ?_; rintro e w2 ⟨rfl,t2⟩; have hd3:=hd2.keep t2 (by simp) (by simp); have q1:=(hJ.keep (Tch.refl [] wr).drew (by simp)).keep t2 (by simp) |>.c0) | (go_at_call 32; refine (HW.out _ hd3).mono ?_; rintro e w3 ⟨rfl,hd4,t4⟩))
      all_goals
       have T4:Tch [b,bs] w w3:=(TW.drew.trans (t2.mono (by simp))).trans t4
       have T14:Tch [b,bs] w1 w3:=(T.drew.trans (t2.mono (by simp))).trans t4
       have HFN:=Lib.hid (fin_any jb b bs room E2 (.slice x cs.length c) (ats cs) w3 (HJN.out _ T4) hd4 hj hr (HN1.out.keep T14 hvb.out) hvb.out (by rw [HAL.out]; omega) HA5.out (by have:=HD.out; omega))
       go_wp2_with (first | (go_at_call 48; refine HFN.out.mono ?_; rintro e w5 ⟨rfl,hd5,t5⟩))
       go_ret
       refine ⟨?_,?_,T4.trans t5⟩
       · rw [HF.out]; rfl
       · rw [HF.out]; exact hd5
    · have hne:(E.wcode 0 (hdb (ats cs)) != 0)=true:=by simpa using hwc
      have HF:Hid (∀ w2,IsDs w2 b bs (E.wstate 0 (hdb (ats cs)))→Tch [b,bs] w w2→CmPost w b bs room cs D (.returned (.int .i64 (E.wcode 0 (hdb (ats cs))))) w2):=fun w2 hd2 t2=>by
       have e:jcommit room cs D=(E.wcode 0 (hdb (ats cs)),E.wstate 0 (hdb (ats cs))):=by
        rw [HE.out,cws,wrs_app,HF0.out,if_pos rfl,wrs]
        simp only
        rw [if_neg hwc]
       unfold CmPost; rw [e]; exact ⟨rfl,hd2,t2⟩
      clear hwc
      generalize E.wstate 0 (hdb (ats cs))=E2 at HW HF
      generalize E.wcode 0 (hdb (ats cs))=d at HW HF hne
      go_wp2_with fail
      go_region_with (first | (go_at_call 90; refine HO.out.mono ?_; rintro e w2 ⟨rfl,t2⟩; have hd3:=hd2.keep t2 (by simp) (by simp); have q1:=(hJ.keep (Tch.refl [] wr).drew (by simp)).keep t2 (by simp) |>.c0) | (go_at_call 32; refine (HW.out _ hd3).mono ?_; rintro e w3 ⟨rfl,hd4,t4⟩))
      all_goals
       go_wp2
       go_ret
       exact HF.out _ hd4 ((TW.drew.trans (t2.mono (by simp))).trans t4)
theorem commit_any (jb b bs room:Nat) (D:Ds) (a:Option Addr) (len cap cb o:Nat) (cs:List (Int × ByteArray)) (w:World) (h:IsJn w jb b room) (hd0:IsDs w b bs D) (hj:jb≠b∧jb≠bs) (hr:room≤500) (hw:IsChs w a len cb o cs) (hcb:0 < len→cb≠b∧cb≠bs) (hlm:len≤9223372036854775807)
 (hn:D.done+1002 < 9223372036854775807) :
 Calls Tryz.prog 60 #[.pointer (some ⟨jb,0,none⟩),.slice a len cap] w (CmPost w b bs room cs D):=by
 obtain rfl:=hw.hlen
 by_cases hbig:room < cs.length
 · exact commit_big jb b bs room D a cap cb o cs w h hd0 hr hlm hbig
 by_cases hck:ckc (jlen D room) cs []=0
 · by_cases hcs:cs=[]
   · subst hcs
     exact commit_none jb b bs room D a cap cb o w h hd0 hr hw
   · exact commit_go jb b bs room D a cap cb o cs w h hd0 hj hr hw (hcb (List.length_pos_iff.2 hcs)) hn hbig hck hcs
 · exact commit_ref jb b bs room D a cap cb o cs w h hd0 hr hw hbig hck
end Go.Proofs.YtlkgnljdpakkcaaGreatDoor
/-
 'Open' of package journal: what it answers and what the disk holds behind it. Conditions: the disk is one that New makes,or nil; the count of writes stays below the greatest int64.
-/
namespace Go.Proofs.YtlkgnljdpakkcaaGreatDoor
open Go.RowKit
def OpPost (w:World) (b bs:Nat) (room:Int) (D:Ds) (e:Ending) (w':World):Prop :=
 Tch [b,bs] w w'∧IsDs w' b bs (jopen room D).2 ∧
  (((jopen room D).1=0∧∃ jb,e=.returned (.tuple #[.pointer (some ⟨jb,0,none⟩),.int .i64 0])∧w.heap.size≤jb∧IsJn w' jb b room.toNat) ∨
   ((jopen room D).1≠0∧e=.returned (.tuple #[.pointer none,.int .i64 (jopen room D).1])))
theorem OpPost.no {w w':World} {b bs:Nat} {room:Int} {D D':Ds} {c:Int} (h:jopen room D=(c,D')) (hc:c≠0) (t:Tch [b,bs] w w') (hd:IsDs w' b bs D'):OpPost w b bs room D (.returned (.tuple #[.pointer none,.int .i64 c])) w' :=
 ⟨t,by rw [h]; exact hd,Or.inr ⟨by rw [h]; exact hc,by rw [h]⟩⟩
theorem OpPost.yes {w w':World} {b bs jb:Nat} {room:Int} {D D':Ds} (h:jopen room D=(0,D')) (t:Tch [b,bs] w w') (hd:IsDs w' b bs D') (hj:w.heap.size≤jb) (hn:IsJn w' jb b room.toNat):OpPost w b bs room D (.returned (.tuple #[.pointer (some ⟨jb,0,none⟩),.int .i64 0])) w' :=
 ⟨t,by rw [h]; exact hd,Or.inl ⟨by rw [h],jb,rfl,hj,hn⟩⟩
theorem open_arg (b bs:Nat) (room:Int) (D:Ds) (w:World) (hd:IsDs w b bs D) (h:room < 1∨500 < room) :
 Calls Tryz.prog 13 #[.pointer (some ⟨b,0,none⟩),.int .i64 room] w (OpPost w b bs room D):=by
 have HF:=Lib.hid (OpPost.no (w:=w) (w':=w) (b:=b) (bs:=bs) (room:=room) (D:=D) (D':=D) (c:=2) (by unfold jopen; rw [if_pos h]) (by omega) (Tch.refl _ _) hd)
 clear hd
 by_cases h1:room < 1
 · clear h
   go_enter Tryz.func13,Tryz.ntmps13
   go_wp2_with fail
   go_ret2
   exact HF.out
 · have h2:500 < room:=by omega
   have h3:decide (room < 1)=false:=by simpa using h1
   clear h h1
   go_enter Tryz.func13,Tryz.ntmps13
   go_wp2_with fail
   go_ret2
   exact HF.out
theorem open_off (b bs:Nat) (room:Int) (D:Ds) (w:World) (hd:IsDs w b bs D) (h:¬ (room < 1∨500 < room)) (hc:D.rcode 0≠0) :
 Calls Tryz.prog 13 #[.pointer (some ⟨b,0,none⟩),.int .i64 room] w (OpPost w b bs room D):=by
 have HF:Hid (∀ w1,Tch [b,bs] w w1→IsDs w1 b bs D→OpPost w b bs room D (.returned (.tuple #[.pointer none,.int .i64 (D.rcode 0)])) w1):=fun w1 t1 h1=>OpPost.no (by unfold jopen; rw [if_neg h,if_pos hc]) hc t1 h1
 have HR:=Lib.hid (dread b bs D 0 w hd)
 have hne:(D.rcode 0 != 0)=true:=by simpa using hc
 have e1:decide (room < 1)=false:=by simp; omega
 have e2:decide (500 < room)=false:=by simp; omega
 clear hd hc
 generalize D.rcode 0=c at HR HF hne
 generalize D.rtext 0=t at HR
 go_enter Tryz.func13,Tryz.ntmps13
 go_wp2_with (first | (go_at_call 46; refine HR.out.mono ?_; rintro e w1 ⟨rfl,hd1,t1⟩))
 go_ret2
 exact HF.out _ (t1.mono (by simp)) hd1
set_option maxRecDepth 100000 in
set_option maxHeartbeats 1000000 in
theorem open_go (b bs room:Nat) (D:Ds) (w:World) (hd:IsDs w b bs D) (h1:1≤room) (h5:room≤500) (hc:D.rcode 0=0) (hn:D.done+502 < 9223372036854775807) :
 Calls Tryz.prog 13 #[.pointer (some ⟨b,0,none⟩),.int .i64 room] w (OpPost w b bs room D):=by
 have hlen:=hd.len
 have hlt:=hd.lt
 have hjo:jopen room D=match rhead (D.rtext 0).data.toList room (jlen D room) with
  | none=>(32,D)
  | some []=>(0,D)
  | some (a :: l)=>fins room (a :: l) D:=by
  unfold jopen
  rw [if_neg (by omega),if_neg (by simpa using hc)]
  rfl
 have HJO:=Lib.hid hjo
 have HR:=Lib.hid (dread b bs D 0 w hd)
 rw [hc] at HR
 have hsz:(D.rtext 0).size≤9223372036854775807:=by
  rw [show D.rtext 0=D.rtext ((0:Nat):Int) from rfl,rcode_of (i:=0) hc,pad_size _ (isds_size hd 0)]
  omega
 clear hjo hc
 generalize hT:D.rtext 0=t at HR HJO hsz
 clear hT
 have e1:decide ((room:Int) < 1)=false:=by simp; omega
 have e2:decide ((500:Int) < (room:Int))=false:=by simp; omega
 go_enter Tryz.func13,Tryz.ntmps13
 go_wp2_with (first | (go_at_call 46; refine HR.out.mono ?_; rintro e w1 ⟨rfl,hd1,t1⟩))
 have T1:Tch [b,bs] w w1:=t1.mono (by simp)
 have hJ:IsJn (w1.alloc (.cells #[.pointer (some ⟨b,0,none⟩),.int .i64 room] 133)) w1.heap.size b room:=blk_new w1 _
 have hdA:=hd1.keep ((Tch.refl [] w1).alloc (.cells #[.pointer (some ⟨b,0,none⟩),.int .i64 room] 133)) (by simp) (by simp)
 have TA:=T1.alloc (.cells #[.pointer (some ⟨b,0,none⟩),.int .i64 room] 133)
 have hjb:=T1.size
 have hsA:w1.heap.size < (w1.alloc (.cells #[.pointer (some ⟨b,0,none⟩),.int .i64 room] 133)).heap.size:=by simp
 generalize w1.alloc (.cells #[.pointer (some ⟨b,0,none⟩),.int .i64 room] 133)=WA at hJ hdA TA hsA ⊢
 generalize w1.heap.size=jb at hJ hjb hsA ⊢
 have HH:=Lib.hid (rhd_any jb b bs room D t WA hJ hdA h5 hsz)
 refine HH.out.mono ?_
 rintro e w2 ⟨t2,hx⟩
 clear HH
 have T2:Tch [b,bs] w w2:=TA.trans (t2.mono (by simp))
 have hJ2:=hJ.keep t2 (by simp)
 have hd2:=hdA.keep t2 (by simp) (by simp)
 rcases hx with ⟨hr,rfl⟩ | ⟨l,v,hr,rfl,ho⟩
 · have HF:=Lib.hid (OpPost.no (w:=w) (w':=w2) (b:=b) (bs:=bs) (room:=(room:Int)) (D:=D) (D':=D) (c:=32) (by rw [HJO.out,hr]) (by omega) T2 hd2)
   clear hr hd2 T2 hJ2 t2 TA hdA hJ hd1 T1 t1 HJO
   go_wp2_with fail
   go_ret2
   exact HF.out
 · have hlr:=rhead_len hr
   have hin:=(rhead_in hr).1
   cases l with
   | nil =>
    have HF:=Lib.hid (OpPost.yes (w:=w) (w':=w2) (b:=b) (bs:=bs) (room:=(room:Int)) (D:=D) (D':=D) (jb:=jb) (by rw [HJO.out,hr]) T2 hd2 hjb (by simpa using hJ2))
    obtain ⟨x,c,rfl⟩:∃ x c,v=.slice x 0 c:=by
     rcases ho.2 with ⟨h1,_⟩ | ⟨g,c,cur,h1,_⟩
     · exact ⟨_,_,h1⟩
     · exact ⟨_,_,h1⟩
    clear hr hd2 T2 hJ2 t2 TA hdA hJ hd1 T1 t1 HJO ho hin hlr
    go_wp2_with fail
    go_ret2
    exact HF.out
   | cons a l =>
    have hjo2:jopen room D=fins room (a :: l) D:=by rw [HJO.out,hr]
    have HN:Hid (IsNums w2 v (a :: l)):=own_base ho (Nat.zero_le _)
    have hvb:Hid (∀ k,v.ownBlock=some k→k ∉ [b,bs]):=fun k hk hm=>by
     have h1:=(ho.lt k hk).1
     have h2:=TA.size
     simp at hm
     omega
    have hal:∀ y ∈ a :: l,y < 16384:=fun y hy=>by
     have h1:=hin y hy
     unfold jlen at h1
     omega
    have HFN:=Lib.hid (fin_any jb b bs room D v (a :: l) w2 hJ2 hd2 (by omega) h5 HN.out hvb.out hlr hal (by omega))
    obtain ⟨x,c,rfl⟩:∃ x c,v=.slice x (l.length+1) c:=by
     rcases ho.2 with ⟨h1,h2⟩ | ⟨g,c,cur,h1,_⟩
     · simp at h2
     · exact ⟨_,_,h1⟩
    have hll:l.length+1≤500:=by simp at hlr; omega
    have HJ2:=Lib.hid hJ2
    by_cases hc:(fins room (a :: l) D).1=0
    · have HF:Hid (∀ w3,Tch [b,bs] w2 w3→IsDs w3 b bs (fins room (a :: l) D).2→OpPost w b bs room D (.returned (.tuple #[.pointer (some ⟨jb,0,none⟩),.int .i64 0])) w3):=fun w3 t3 h3 =>
       OpPost.yes (by rw [hjo2,← hc]) (T2.trans t3) h3 hjb (by simpa using HJ2.out.keep t3 (by simp; omega))
      have HFN:Hid (Calls Tryz.prog 48 #[.pointer (some ⟨jb,0,none⟩),.slice x (l.length+1) c] w2 fun e w'=>e=.returned (.int .i64 0)∧(IsDs w' b bs (fins room (a :: l) D).2∧Tch [b,bs] w2 w')):=HFN.out.mono fun e w' h=>by
       unfold FnPost at h; rw [hc] at h; exact h
      clear hr hd2 T2 hJ2 t2 TA hdA hJ hd1 T1 t1 HJO ho hin hlr hc hjo2 hal HN hvb
      generalize (fins room (a :: l) D).2=E at HF HFN
      go_wp2_with (first | (go_at_call 48; refine HFN.out.mono ?_; rintro e w3 ⟨rfl,hd3,t3⟩))
      go_ret2
      exact HF.out _ t3 hd3
    · have hne:((fins room (a :: l) D).1 != 0)=true:=by simpa using hc
      have HF:Hid (∀ w3,Tch [b,bs] w2 w3→IsDs w3 b bs (fins room (a :: l) D).2→OpPost w b bs room D (.returned (.tuple #[.pointer none,.int .i64 (fins room (a :: l) D).1])) w3):=fun w3 t3 h3 =>
       OpPost.no (by rw [hjo2]) hc (T2.trans t3) h3
      have HFN:Hid (Calls Tryz.prog 48 #[.pointer (some ⟨jb,0,none⟩),.slice x (l.length+1) c] w2 fun e w'=>e=.returned (.int .i64 (fins room (a :: l) D).1)∧(IsDs w' b bs (fins room (a :: l) D).2∧Tch [b,bs] w2 w')):=HFN.out.mono fun e w' h=>h
      clear hr hd2 T2 hJ2 t2 TA hdA hJ hd1 T1 t1 HJO ho hin hlr hc hjo2 hal HN hvb
      generalize (fins room (a :: l) D).2=E at HF HFN
      generalize (fins room (a :: l) D).1=d at HF HFN hne
      go_wp2_with (first | (go_at_call 48; refine HFN.out.mono ?_; rintro e w3 ⟨rfl,hd3,t3⟩))
      go_ret2
      exact HF.out _ t3 hd3
theorem open_any (b bs:Nat) (room:Int) (D:Ds) (w:World) (hd:IsDs w b bs D) (hn:D.done+502 < 9223372036854775807) :
 Calls Tryz.prog 13 #[.pointer (some ⟨b,0,none⟩),.int .i64 room] w (OpPost w b bs room D):=by
 by_cases h:room < 1∨500 < room
 · exact open_arg b bs room D w hd h
 by_cases hc:D.rcode 0=0
 · obtain ⟨r,rfl⟩:=Int.eq_ofNat_of_zero_le (by omega:0≤room)
   exact open_go b bs r D w hd (by omega) (by omega) hc hn
 · exact open_off b bs room D w hd h hc
end Go.Proofs.YtlkgnljdpakkcaaGreatDoor
/-
 Plain laws of a journal's heads,and of what an Open of a disk will find. Of no program.
-/
namespace Go.Proofs.YtlkgnljdpakkcaaGreatDoor
theorem rnums_heads (n:Nat) (s:List UInt8) (l:List Nat):∀ (p:Nat) (met:List Nat) (z:List UInt8),s.drop p=l.flatMap ub++z→(∀ a ∈ l,a < n)→n≤16384→(met++l).Nodup →
 rnums s n l.length p met=some (met++l,p+(l.flatMap ub).length):=by
 induction l with
 | nil=>intro p met z _ _ _ _; simp [rnums]
 | cons a l ih =>
  intro p met z hs hn h6 hnd
  have ha:=hn a (by simp)
  have hr:rdu (s.drop p) 0 0=(0,a,(ub a).length):=by
   rw [hs,List.flatMap_cons,List.append_assoc]
   exact rdu_ub64 a (by omega) _
  have hnm:a ∉ met:=fun hm=>by
   rw [List.nodup_append] at hnd
   exact hnd.2.2 a hm a (by simp) rfl
  rw [List.length_cons,rnums,hr]
  rw [if_neg (by simp [hnm]; omega)]
  rw [ih (p+(ub a).length) (met++[a]) z (by rw [← List.drop_drop,hs,List.flatMap_cons,List.append_assoc,List.drop_left]) (fun b hb=>hn b (by simp [hb])) h6 (by simpa using hnd)]
  simp
  omega
theorem nil0_rep (k:Nat):nil0 (List.replicate k 0)=true:=by
 unfold nil0
 induction k with
 | zero=>rfl
 | succ k ih=>rw [List.replicate_succ,List.all_cons,ih]; rfl
theorem rhead_hdb (l:List Nat) (room n:Nat) (hl:l.length≤room) (hr:room≤500) (hn:∀ a ∈ l,a < n) (h6:n≤16384) (hd:l.Nodup):rhead (pad (hdb l)).data.toList room n=some l:=by
 have hs:(pad (hdb l)).data.toList=ub l.length++(l.flatMap ub++List.replicate (1024 - (hdb l).size) 0):=by
  show ((hdb l).data.toList++List.replicate (1024 - (hdb l).size) 0).toArray.toList=_
  simp [hdb]
 have hr0:rdu (pad (hdb l)).data.toList 0 0=(0,l.length,(ub l.length).length):=by
  rw [hs]; exact rdu_ub64 _ (by omega) _
 unfold rhead
 rw [hr0,if_neg (by simp; omega)]
 simp only
 rw [rnums_heads n _ l _ [] (List.replicate (1024 - (hdb l).size) 0) (by rw [hs,List.drop_left]) hn h6 (by simpa using hd)]
 simp only [List.nil_append]
 rw [show (ub l.length).length+(l.flatMap ub).length=(ub l.length++l.flatMap ub).length from by simp,hs,← List.append_assoc,List.drop_left,nil0_rep,if_pos rfl]
def Clean (D:Ds):Prop:=pad (D.texts.getD 0 ⟨#[]⟩)=pad ⟨#[]⟩
theorem pad_hdb0:pad (hdb [])=pad ⟨#[]⟩:=by
 rw [hd_nil,ub_small (by omega)]
 rfl
theorem rhead_clean (room n:Nat) (hr:room≤500) (h6:n≤16384):rhead (pad ⟨#[]⟩).data.toList room n=some []:=by
 rw [← pad_hdb0]
 exact rhead_hdb [] room n (by simp) hr (by simp) h6 (by simp)
def cont (D:Ds) (room:Nat) (l:List Nat) (i:Nat):ByteArray:=if i ∈ l then D.texts.getD (1+l.idxOf i) ⟨#[]⟩ else D.texts.getD (room+1+i) ⟨#[]⟩
structure Seen (D:Ds) (room:Nat) (l:List Nat) (now:List ByteArray):Prop where
 len:D.texts.length=room+1+now.length
 head:rhead (pad (D.texts.getD 0 ⟨#[]⟩)).data.toList room now.length=some l
 held:∀ i,i < now.length→pad (cont D room l i)=pad (now.getD i ⟨#[]⟩)
theorem Seen.keep {D E:Ds} {room:Nat} {l:List Nat} {now:List ByteArray} (h:Seen D room l now) (he:E.texts=D.texts):Seen E room l now :=
 ⟨by rw [he]; exact h.len,by rw [he]; exact h.head,fun i hi=>by unfold cont; rw [he]; exact h.held i hi⟩
theorem wr_or {D:Ds} {i:Int} {x:ByteArray} (hon:D.on=true) (h0:0≤i) (h1:i < D.texts.length) (hx:x.size≤1024) :
 (D.wcode i x=0)∨(D.wcode i x=12∧D.left=0∧(D.wstate i x).on=false∧(D.wstate i x).texts=D.texts∧(D.wstate i x).done=D.done):=by
 by_cases hl:D.left=0
 · have:=wcode_cut (D:=D) (i:=i) (x:=x) hon h0 h1 hx hl
   rw [this.1,this.2]
   exact Or.inr ⟨rfl,hl,rfl,rfl,rfl⟩
 · exact Or.inl (wcode_in hon h0 h1 hx hl)
theorem wz_left {D:Ds} {i:Int} {x:ByteArray} (h:D.wcode i x=0) (hl:D.left = -1):(D.wstate i x).left = -1:=by
 have:=wz h
 rw [this.2.2.2.2.2]; simp [tk,hl]
theorem wz_done {D:Ds} {i:Int} {x:ByteArray} (h:D.wcode i x=0):(D.wstate i x).done=D.done+1:=by
 have:=wz h
 rw [this.2.2.2.2.2]
theorem wr_other (D:Ds) (i:Int) (x:ByteArray) (j:Nat) (h:(j:Int)≠i):(D.wstate i x).texts.getD j ⟨#[]⟩=D.texts.getD j ⟨#[]⟩:=by
 unfold Ds.wstate
 split
 · rfl
 · split
   · rfl
   · split
     · rfl
     · split
       · rfl
       · simp only [List.getD_eq_getElem?_getD]
         rw [List.getElem?_set,if_neg (by omega)]
theorem wrs_other (l:List (Int × ByteArray)):∀ (D:Ds) (j:Nat),(∀ p ∈ l,(j:Int)≠p.1)→(wrs l D).2.texts.getD j ⟨#[]⟩=D.texts.getD j ⟨#[]⟩:=by
 induction l with
 | nil=>intro D j _; rfl
 | cons p l ih =>
  intro D j h
  rw [wrs]
  split
  · rw [ih _ j (fun q hq=>h q (by simp [hq])),wr_other _ _ _ _ (h p (by simp))]
  · exact wr_other _ _ _ _ (h p (by simp))
theorem wrs_or (l:List (Int × ByteArray)):∀ (D:Ds),D.on=true→(∀ p ∈ l,0≤p.1∧p.1 < D.texts.length∧p.2.size≤1024) →
 ((wrs l D).1=0∧(wrs l D).2.on=true∨(wrs l D).1=12∧(wrs l D).2.on=false)∧(D.left = -1→(wrs l D).1=0∧(wrs l D).2.left = -1∧(wrs l D).2.done=D.done+l.length):=by
 induction l with
 | nil=>intro D hon _; exact ⟨Or.inl ⟨rfl,hon⟩,fun h=>⟨rfl,h,by simp [wrs]⟩⟩
 | cons p l ih =>
  intro D hon h
  obtain ⟨h0,h1,h2⟩:=h p (by simp)
  rw [wrs]
  rcases wr_or hon h0 h1 h2 with hw | ⟨hw,hl,ho,ht,hdn⟩
  · rw [if_pos hw]
    have:=ih (D.wstate p.1 p.2) (wz_on hw) (fun q hq=>by rw [wst_len]; exact h q (by simp [hq]))
    refine ⟨this.1,fun hl=>?_⟩
    obtain ⟨a,b,c⟩:=this.2 (wz_left hw hl)
    refine ⟨a,b,?_⟩
    rw [c,wz_done hw,List.length_cons]
    omega
  · rw [if_neg (by rw [hw]; omega)]
    exact ⟨Or.inr ⟨hw,ho⟩,fun h=>by omega⟩
theorem fin_or (room n:Nat) (l:List Nat):∀ (k:Nat) (D:Ds),D.on=true→D.texts.length=room+1+n→k+l.length≤room→(∀ a ∈ l,a < n)→l.Nodup→(∀ j,(D.texts.getD j ⟨#[]⟩).size≤1024) →
 (∀ j:Nat,(∀ a ∈ l,j≠room+1+a)→(fin room k l D).2.texts.getD j ⟨#[]⟩=D.texts.getD j ⟨#[]⟩) ∧
 ((fin room k l D).1=0∧(fin room k l D).2.on=true∧(∀ m,m < l.length→(fin room k l D).2.texts.getD (room+1+l.getD m 0) ⟨#[]⟩=D.texts.getD (1+(k+m)) ⟨#[]⟩)∨(fin room k l D).1=12∧(fin room k l D).2.on=false) ∧
 (D.left = -1→(fin room k l D).1=0∧(fin room k l D).2.left = -1∧(fin room k l D).2.done=D.done+l.length):=by
 induction l with
 | nil=>intro k D hon _ _ _ _ _; exact ⟨fun _ _=>rfl,Or.inl ⟨rfl,hon,fun m hm=>by simp at hm⟩,fun h=>⟨rfl,h,by simp [fin]⟩⟩
 | cons a l ih =>
  intro k D hon hlen hk hn hnd hsz
  have ha:=hn a (by simp)
  simp only [List.length_cons] at hk
  rw [fin,if_neg (by rw [rc_in hon (by omega)]; simp)]
  rcases wr_or (D:=D) (i:=((room+1+a:Nat):Int)) (x:=D.texts.getD (1+k) ⟨#[]⟩) hon (by omega) (by omega) (hsz _) with hw | ⟨hw,hl,ho,ht,hdn⟩
  · rw [if_pos hw]
    have hnd2:=List.nodup_cons.1 hnd
    obtain ⟨i1,i2,i3⟩:=ih (k+1) (D.wstate ((room+1+a:Nat):Int) (D.texts.getD (1+k) ⟨#[]⟩)) (wz_on hw) (by rw [wst_len]; exact hlen) (by omega) (fun b hb=>hn b (by simp [hb])) hnd2.2 (fun j=>by
     rw [wz_get hw]
     split
     · exact hsz _
     · exact hsz _)
    refine ⟨fun j hj=>?_,?_,fun hl=>?_⟩
    · rw [i1 j (fun b hb=>hj b (by simp [hb])),wr_other _ _ _ _ (by have:=hj a (by simp); omega)]
    · rcases i2 with ⟨h1,h2,h3⟩ | h1
      · refine Or.inl ⟨h1,h2,fun m hm=>?_⟩
        cases m with
        | zero =>
         rw [List.getD_cons_zero,i1 (room+1+a) (fun b hb=>by
          intro hab
          have:a=b:=by omega
          subst this
          exact hnd2.1 hb),wz_get hw,if_pos rfl]
         rfl
        | succ m =>
         rw [List.getD_cons_succ,h3 m (by simp at hm; omega),wr_other _ _ _ _ (by simp at hm; omega)]
         congr 1
         omega
      · exact Or.inr h1
    · obtain ⟨b1,b2,b3⟩:=i3 (wz_left hw hl)
      refine ⟨b1,b2,?_⟩
      rw [b3,wz_done hw,List.length_cons]
      omega
  · rw [if_neg (by rw [hw]; omega)]
    exact ⟨fun j _=>by rw [ht],Or.inr ⟨hw,ho⟩,fun h=>by omega⟩
theorem getD_idx {l:List Nat} {i:Nat} (h:i ∈ l):l.getD (l.idxOf i) 0=i:=by
 have hx:=List.idxOf_lt_length_iff.2 h
 rw [List.getD_eq_getElem?_getD,List.getElem?_eq_getElem hx,Option.getD_some,List.getElem_idxOf]
theorem Seen.nums {D:Ds} {room:Nat} {l:List Nat} {now:List ByteArray} (h:Seen D room l now):l.length≤room∧(∀ a ∈ l,a < now.length)∧l.Nodup:=⟨rhead_len h.head,rhead_in h.head⟩
theorem fins_seen {D : Ds} {room : Nat} {l : List Nat} {now : List ByteArray} (hon : D.on = true) (hs : Seen D room l now) (hr : room ≤ 500) (h6 : now.length ≤ 16384) (hsz : ∀ j, (D.texts.getD j ⟨#[]⟩).size ≤ 1024) :
    ((fins room l D).1 = 0 ∧ (fins room l D).2.on = true ∧ Seen (fins room l D).2 room [] now ∨ (fins room l D).1 = 12 ∧ (fins room l D).2.on = false ∧ Seen (fins room l D).2 room l now) ∧
    (D.left = -1 → (fins room l D).1 = 0 ∧ (fins room l D).2.left = -1 ∧ (fins room l D).2.done = D.done + l.length + 1) := by
  obtain ⟨hl1, hl2, hl3⟩ := hs.nums
  obtain ⟨f1, f2, f3⟩ := fin_or room now.length l 0 D hon hs.len (by omega) hl2 hl3 hsz
  have flen := fin_len room l 0 D
  have hkeep : Seen (fin room 0 l D).2 room l now := by
    refine ⟨by rw [flen]; exact hs.len, ?_, fun i hi => ?_⟩
    · rw [f1 0 (fun a _ => by omega)]; exact hs.head
    · rw [← hs.held i hi]
      unfold cont
      by_cases h : i ∈ l
      · have hx := List.idxOf_lt_length_iff.2 h
        rw [if_pos h, if_pos h, f1 _ (fun a _ => by omega)]
      · rw [if_neg h, if_neg h, f1 _ (fun a ha => by intro e; have : i = a := by omega
                                                     subst this; exact h ha)]
  unfold fins
  rcases f2 with ⟨g1, g2, g3⟩ | ⟨g1, g2⟩
  · rw [if_pos g1, wrs_one]
    have h0 : (hdb []).size ≤ 1024 := hd_size [] (by simp) (by simp)
    rcases wr_or (D := (fin room 0 l D).2) (i := 0) (x := hdb []) g2 (by omega) (by rw [flen, hs.len]; omega) h0 with hw | ⟨hw, hl, ho, ht, hdn⟩
    · refine ⟨Or.inl ⟨hw, wz_on hw, ⟨by rw [wst_len, flen]; exact hs.len, ?_, fun i hi => ?_⟩⟩, fun hl => ?_⟩
      · rw [wz_get hw, if_pos (by simp), pad_hdb0]
        exact rhead_clean room now.length hr h6
      · rw [← hs.held i hi]
        unfold cont
        rw [if_neg (by simp), wz_get hw, if_neg (by omega)]
        by_cases h : i ∈ l
        · have hx := List.idxOf_lt_length_iff.2 h
          rw [if_pos h]
          have := g3 (l.idxOf i) hx
          rw [getD_idx h, Nat.zero_add] at this
          rw [this]
        · rw [if_neg h, f1 _ (fun a ha => by intro e; have : i = a := by omega
                                             subst this; exact h ha)]
      · obtain ⟨b1, b2, b3⟩ := f3 hl
        refine ⟨hw, wz_left hw b2, ?_⟩
        rw [wz_done hw, b3]
    · refine ⟨Or.inr ⟨hw, ho, hkeep.keep ht⟩, fun h => ?_⟩
      have := (f3 h).2.1
      omega
  · rw [if_neg (by rw [g1]; omega)]
    exact ⟨Or.inr ⟨g1, g2, hkeep⟩, fun h => by have := (f3 h).1; omega⟩
theorem jopen_seen {D:Ds} {room:Nat} {l:List Nat} {now:List ByteArray} (hon:D.on=true) (hs:Seen D room l now) (h1:1≤room) (hr:room≤500) (h6:now.length≤16384) (hsz:∀ j,(D.texts.getD j ⟨#[]⟩).size≤1024) :
 ((jopen room D).1=0∧(jopen room D).2.on=true∧Seen (jopen room D).2 room [] now∨(jopen room D).1=12∧(jopen room D).2.on=false∧Seen (jopen room D).2 room l now) ∧
 (D.left = -1→(jopen room D).1=0∧(jopen room D).2.left = -1∧(jopen room D).2.done=D.done+(if l=[] then 0 else l.length+1)):=by
 have hlen:0 < D.texts.length:=by rw [hs.len]; omega
 have hjl:jlen D room=now.length:=by unfold jlen; rw [hs.len]; omega
 have hrt:D.rtext 0=pad (D.texts.getD 0 ⟨#[]⟩):=(rd_in (D:=D) (i:=0) hon (by omega) (by omega)).2
 have hrc:D.rcode 0=0:=(rd_in (D:=D) (i:=0) hon (by omega) (by omega)).1
 have hj:jopen room D=match l with
  | []=>(0,D)
  | a :: l=>fins room (a :: l) D:=by
  unfold jopen
  rw [if_neg (by omega),if_neg (by rw [hrc]; simp),hrt,Int.toNat_natCast,hjl,hs.head]
  cases l <;> rfl
 rw [hj]
 cases l with
 | nil=>exact ⟨Or.inl ⟨rfl,hon,hs⟩,fun h=>⟨rfl,h,by simp⟩⟩
 | cons a l =>
  have:=fins_seen hon hs hr h6 hsz
  refine ⟨this.1,fun hl=>?_⟩
  obtain ⟨b1,b2,b3⟩:=this.2 hl
  refine ⟨b1,b2,?_⟩
  rw [if_neg (by simp)]
  simp only at b3 ⊢
  rw [b3]
  omega
def upd (now:List ByteArray) (cs:List (Int × ByteArray)):List ByteArray:=cs.foldl (fun s p=>s.set p.1.toNat p.2) now
theorem upd_len (cs:List (Int × ByteArray)):∀ now,(upd now cs).length=now.length:=by
 induction cs with
 | nil=>intro now; rfl
 | cons p cs ih=>intro now; unfold upd at ih ⊢; rw [List.foldl_cons,ih]; simp
theorem upd_get (cs:List (Int × ByteArray)):∀ (now:List ByteArray) (i:Nat),i < now.length→(ats cs).Nodup→(upd now cs).getD i ⟨#[]⟩=if i ∈ ats cs then (cs.getD ((ats cs).idxOf i) (0,⟨#[]⟩)).2 else now.getD i ⟨#[]⟩:=by
 induction cs with
 | nil=>intro now i hi _; rfl
 | cons p cs ih =>
  intro now i hi hnd
  have hnd2:p.1.toNat ∉ ats cs∧(ats cs).Nodup:=List.nodup_cons.1 hnd
  have e:upd now (p :: cs)=upd (now.set p.1.toNat p.2) cs:=rfl
  rw [e,ih _ i (by simpa using hi) hnd2.2]
  show _=if i ∈ p.1.toNat :: ats cs then _ else _
  by_cases hpi:p.1.toNat=i
  · subst hpi
    rw [if_neg hnd2.1,if_pos (by simp)]
    show _=((p :: cs).getD ((p.1.toNat :: ats cs).idxOf p.1.toNat) (0,⟨#[]⟩)).2
    rw [List.idxOf_cons_self]
    simp only [List.getD_eq_getElem?_getD]
    rw [List.getElem?_set,if_pos rfl,if_pos (by simpa using hi)]
    rfl
  · by_cases hic:i ∈ ats cs
    · rw [if_pos hic,if_pos (by simp [hic])]
      show _=((p :: cs).getD ((p.1.toNat :: ats cs).idxOf i) (0,⟨#[]⟩)).2
      rw [show (p.1.toNat :: ats cs).idxOf i=(ats cs).idxOf i+1 from by rw [List.idxOf_cons,show (p.1.toNat == i)=false from by simpa using hpi]; rfl]
      rfl
    · rw [if_neg hic,if_neg (by simp [hic]; omega)]
      simp only [List.getD_eq_getElem?_getD]
      rw [List.getElem?_set,if_neg hpi]
theorem ats_len (cs:List (Int × ByteArray)):(ats cs).length=cs.length:=by unfold ats; simp
theorem cws_fit {room n:Nat} {cs:List (Int × ByteArray)} (hl:cs.length≤room) (hin:∀ p ∈ cs,0≤p.1∧p.1 < n∧p.2.size≤1024):∀ (k:Nat),k+cs.length≤room→∀ p ∈ cps k cs,1+k≤p.1∧p.1 < 1+k+cs.length∧p.2.size≤1024:=by
 have key:∀ (l:List (Int × ByteArray)) (k:Nat),(∀ p ∈ l,p.2.size≤1024)→∀ p ∈ cps k l,1+k≤p.1∧p.1 < 1+k+l.length∧p.2.size≤1024:=by
  intro l
  induction l with
  | nil=>intro k _ p hp; simp [cps] at hp
  | cons q l ih =>
   intro k hs p hp
   rw [cps] at hp
   rcases List.mem_cons.1 hp with rfl | hp
   · exact ⟨by omega,by simp; omega,hs q (by simp)⟩
   · have:=ih (k+1) (fun r hr=>hs r (by simp [hr])) p hp
     simp only [List.length_cons]
     refine ⟨by omega,by omega,this.2.2⟩
 intro k _ p hp
 exact key cs k (fun q hq=>(hin q hq).2.2) p hp
def CmSeen (D:Ds) (room:Nat) (now:List ByteArray) (cs:List (Int × ByteArray)) (c:Int) (E:Ds):Prop :=
 (c=0∧E.on=true∧Seen E room [] (upd now cs))∨(c=12∧E.on=false∧∃ l,Seen E room l now∨Seen E room l (upd now cs))
theorem jcommit_seen {D:Ds} {room:Nat} {now:List ByteArray} {cs:List (Int × ByteArray)} (hon:D.on=true) (hs:Seen D room [] now) (h1:1≤room) (hr:room≤500) (h6:now.length≤16384) (hsz:∀ j,(D.texts.getD j ⟨#[]⟩).size≤1024)
 (hl:cs.length≤room) (hck:ckc now.length cs []=0) :
 CmSeen D room now cs (jcommit room cs D).1 (jcommit room cs D).2∧(D.left = -1→(jcommit room cs D).1=0∧(jcommit room cs D).2.left = -1∧(jcommit room cs D).2.done=D.done+(if cs=[] then 0 else 2 * cs.length+2)):=by
 have hjl:jlen D room=now.length:=by unfold jlen; rw [hs.len]; omega
 by_cases hcs:cs=[]
 · subst hcs
   have e:jcommit room [] D=(0,D):=by unfold jcommit; rw [if_neg (by simp),if_pos (Or.inr rfl)]; rfl
   rw [e]
   exact ⟨Or.inl ⟨rfl,hon,hs⟩,fun h=>⟨rfl,h,by simp⟩⟩
 have hin:=ckc_in _ cs [] hck
 have hnd:=ckc_nodup _ cs [] hck (by simp)
 simp only [List.nil_append] at hnd
 have hal:=ats_len cs
 have hatn:∀ a ∈ ats cs,a < now.length:=fun a ha=>by
  unfold ats at ha
  obtain ⟨p,hp,rfl⟩:=List.mem_map.1 ha
  have:=hin p hp
  omega
 have hatd:(ats cs).Nodup:=by
  have e:ats cs=(cs.map Prod.fst).map Int.toNat:=by unfold ats; rw [List.map_map]; rfl
  rw [e]
  refine (List.pairwise_map.2 ?_)
  refine List.Pairwise.imp_of_mem (fun {a b} ha hb hab=>?_) hnd
  obtain ⟨p,hp,rfl⟩:=List.mem_map.1 ha
  obtain ⟨q,hq,rfl⟩:=List.mem_map.1 hb
  have:=hin p hp
  have:=hin q hq
  omega
 have hpos:0 < cs.length:=List.length_pos_iff.2 hcs
 have e0:jcommit room cs D=wrs (cws room cs) D:=by unfold jcommit; rw [if_neg (by omega),if_neg (by rw [hjl]; simp [hck,hcs])]
 have hA:=wrs_or (cps 0 cs) D hon (fun p hp=>by
  have:=cws_fit hl hin 0 (by omega) p hp
  have hlen:=hs.len
  refine ⟨by omega,?_,this.2.2⟩
  have h3:=this.2.1
  omega)
 have hlen1:=wrs_len (cps 0 cs) D
 have hcpl:=cps_len cs 0
 have hother:∀ j:Nat,j < 1∨1+cs.length≤j→(wrs (cps 0 cs) D).2.texts.getD j ⟨#[]⟩=D.texts.getD j ⟨#[]⟩:=fun j hj=>wrs_other _ D j (fun p hp=>by
  have:=cws_fit hl hin 0 (by omega) p hp
  omega)
 have hseen1:Seen (wrs (cps 0 cs) D).2 room [] now:=by
  refine ⟨by rw [hlen1]; exact hs.len,by rw [hother 0 (by omega)]; exact hs.head,fun i hi=>?_⟩
  rw [← hs.held i hi]
  unfold cont
  rw [if_neg (by simp),if_neg (by simp),hother _ (by omega)]
 rw [e0,cws,wrs_app]
 rcases hA.1 with ⟨c1,o1⟩ | ⟨c1,o1⟩
 · rw [if_pos c1,wrs]
   simp only
   have hcg:=(cps_get cs 0 D c1).1
   simp only [Nat.zero_add] at hcg
   have hhs:(hdb (ats cs)).size≤1024:=hd_size _ (by omega) (fun a ha=>by have:=hatn a ha; omega)
   generalize (wrs (cps 0 cs) D).2=E at hA hlen1 hseen1 o1 hcg hother
   rcases wr_or (D:=E) (i:=0) (x:=hdb (ats cs)) o1 (by omega) (by rw [hseen1.len]; omega) hhs with hw | ⟨hw,hl0,ho,ht,hdn⟩
   · rw [if_pos hw]
     have hseen2:Seen (E.wstate 0 (hdb (ats cs))) room (ats cs) (upd now cs):=by
      refine ⟨by rw [wst_len,upd_len]; exact hseen1.len,?_,fun i hi=>?_⟩
      · rw [wz_get hw,if_pos (by simp),upd_len]
        exact rhead_hdb (ats cs) room now.length (by omega) hr hatn h6 hatd
      · rw [upd_len] at hi
        rw [upd_get cs now i hi hatd]
        unfold cont
        by_cases hia:i ∈ ats cs
        · have hx:=List.idxOf_lt_length_iff.2 hia
          rw [if_pos hia,if_pos hia,wz_get hw,if_neg (by omega),hcg _ (by omega)]
        · rw [if_neg hia,if_neg hia,wz_get hw,if_neg (by omega),← hseen1.held i hi]
          unfold cont
          rw [if_neg (by simp)]
     have hcop:∀ j,j < cs.length→(E.wstate 0 (hdb (ats cs))).texts.getD (1+j) ⟨#[]⟩=(cs.getD j (0,⟨#[]⟩)).2:=fun j hj=>by
      rw [wz_get hw,if_neg (by omega),hcg j hj]
     have hsz2:∀ j,((E.wstate 0 (hdb (ats cs))).texts.getD j ⟨#[]⟩).size≤1024:=fun j=>by
      rw [wz_get hw]
      split
      · exact hhs
      · by_cases hj:1≤j∧j < 1+cs.length
        · obtain ⟨q,rfl⟩:∃ q,j=1+q:=⟨j - 1,by omega⟩
          rw [hcg q (by omega),List.getD_eq_getElem?_getD,List.getElem?_eq_getElem (by omega),Option.getD_some]
          exact (hin _ (List.getElem_mem _)).2.2
        · rw [hother j (by omega)]; exact hsz j
     rw [← fins_cws room cs _ (wz_on hw) (by rw [hseen2.len]; omega) hl hcop]
     have hF:=fins_seen (wz_on hw) hseen2 hr (by rw [upd_len]; exact h6) hsz2
     refine ⟨?_,fun hl1=>?_⟩
     · rcases hF.1 with h | ⟨a1,a2,a3⟩
       · exact Or.inl h
       · exact Or.inr ⟨a1,a2,_,Or.inr a3⟩
     · obtain ⟨b1,b2,b3⟩:=hA.2 hl1
       obtain ⟨d1,d2,d3⟩:=hF.2 (wz_left hw b2)
       refine ⟨d1,d2,?_⟩
       rw [d3,wz_done hw,b3,if_neg hcs,hal,hcpl]
       omega
   · rw [if_neg (by rw [hw]; omega)]
     exact ⟨Or.inr ⟨hw,ho,_,Or.inl (hseen1.keep ht)⟩,fun h=>by have:=(hA.2 h).2.1; omega⟩
 · rw [if_neg (by rw [c1]; omega)]
   exact ⟨Or.inr ⟨c1,o1,_,Or.inl hseen1⟩,fun h=>by have:=(hA.2 h).1; omega⟩
end Go.Proofs.YtlkgnljdpakkcaaGreatDoor
