/-
  Parts of the proof: Tgt.
-/
import Derived.Test.YtlkgnljdpakkcaaGreatDoorBuiX
import Derived.Test.YtlkgnljdpakkcaaGreatDoorWkaX
import Derived.Test.YtlkgnljdpakkcaaGreatDoorM26
import Derived.Maps.OwnSet
set_option linter.unusedVariables false
set_option linter.unusedSimpArgs false
/-
 The law TreeGets,walked.
-/
namespace Go.Proofs.YtlkgnljdpakkcaaGreatDoor
open Go.RowKit Go.Maps
def MapT (w:World) (mb n:Nat) (S:List ByteArray):Prop :=
 ∃ D:DataW Unit,w.ownsMap Tryz.prog 9 (plainElem Tryz.prog 3) mb n D∧Tidy D∧Maps.size D=S.length∧(∀ x:ByteArray,has D (.string x.data.toList)=S.any (fun k=>decide (k=x)))∧∀ x:ByteArray,D.atKey (.string x.data.toList) (.lit (.int .i64 0))=.lit (.int .i64 (if S.any (fun k=>decide (k=x))=true then 1 else 0))
theorem MapT.kept {w w':World} {mb n:Nat} {S:List ByteArray} {L:List Nat} (h:MapT w mb n S) (t:Tch L w w') (hn:mb ∉ L):MapT w' mb n S:=by
 obtain ⟨D,ho,hr⟩:=h
 have hlt:=ho.lt
 obtain ⟨es,clock,hb,F,hs,hD⟩:=ho
 exact ⟨D,⟨es,clock,(t.block mb hlt hn).trans hb,F,hs,hD⟩,hr⟩
theorem MapT.made (w:World):MapT (w.alloc (.map #[] 0)) w.heap.size 0 [] :=
 ⟨_,World.ownsMap_made _ _ _ _,tidy_empty,rfl,fun x=>rfl,fun x=>by simp [DataW.atKey]⟩
theorem MapT.put {w:World} {mb n:Nat} {S:List ByteArray} {D:DataW Unit} {key:ByteArray} (h1:Tidy D) (h2:Maps.size D=S.length) (h3:∀ x:ByteArray,has D (.string x.data.toList)=S.any (fun k=>decide (k=x))) (h4:∀ x:ByteArray,D.atKey (.string x.data.toList) (.lit (.int .i64 0))=.lit (.int .i64 (if S.any (fun k=>decide (k=x))=true then 1 else 0)))
 (hn:S.any (fun k=>decide (k=key))=false) (ho:w.ownsMap Tryz.prog 9 (plainElem Tryz.prog 3) mb n (D.put (.string key.data.toList) (.lit (.int .i64 1)))):MapT w mb n (S++[key]):=by
 refine ⟨_,ho,h1.put (by simp [WideAt.IsKeyLit]) _,?_,fun x=>?_,fun x=>?_⟩
 · rw [size_put h1,h3 key,hn]; simp [h2]
 · rw [List.any_append]
   by_cases hx:x=key
   · subst hx
     rw [has_put_same h1.isMap (by simp [WideAt.IsKeyLit])]; simp
   · rw [has_put_other (key_ne hx),h3 x]
     have e:[key].any (fun k=>decide (k=x))=false:=by simp; exact fun e=>hx e.symm
     rw [e,Bool.or_false]
 · rw [List.any_append]
   by_cases hx:x=key
   · subst hx
     rw [atKey_put_same h1.isMap (by simp [WideAt.IsKeyLit]),if_pos (by simp)]
   · rw [atKey_put_other (key_ne hx),h4 x]
     have e:[key].any (fun k=>decide (k=x))=false:=by simp; exact fun e=>hx e.symm
     rw [e,Bool.or_false]
theorem look_at {F:List En} (hs:Srt F) {k:Nat} {e:En} (h:F[k]?=some e):look F e.key=some e.val:=by
 have hm:e ∈ F:=List.mem_of_getElem? h
 obtain ⟨u,v,rfl⟩:=List.append_of_mem hm
 obtain ⟨_,h2,h3⟩:=Srt.app.1 hs
 rw [look_app,look_not (fun x hx=>lt_ne (h3 x hx e (by simp)))]
 simp [look]
theorem look_any (F:List En) (key:ByteArray):look F key=none∧(F.map En.key).any (fun k=>decide (k=key))=false∨∃ v,look F key=some v∧(F.map En.key).any (fun k=>decide (k=key))=true:=by
 cases h:F.find? (fun e=>decide (e.key=key)) with
 | none =>
  refine Or.inl ⟨by unfold look; rw [h]; rfl,?_⟩
  rw [List.any_eq_false]
  intro k hk
  obtain ⟨e,he,rfl⟩:=List.mem_map.1 hk
  have:=List.find?_eq_none.1 h e he
  simpa using this
 | some e =>
  refine Or.inr ⟨e.val,by unfold look; rw [h]; rfl,?_⟩
  rw [List.any_eq_true]
  exact ⟨e.key,List.mem_map.2 ⟨e,List.mem_of_find?_eq_some h,rfl⟩,by have:=List.find?_some h; simpa using this⟩
theorem keys_new {F:List En} (hs:Srt F) {k:Nat} (hk:k < F.length):((F.take k).map En.key).any (fun x=>decide (x=F[k].key))=false:=by
 rw [List.any_eq_false]
 intro x hx
 obtain ⟨e,he,rfl⟩:=List.mem_map.1 hx
 have h2:F=F.take k++F[k] :: F.drop (k+1):=by rw [← List.drop_eq_getElem_cons hk,List.take_append_drop]
 have h3:=hs
 rw [h2] at h3
 have:=lt_ne ((Srt.app.1 h3).2.2 e he F[k] List.mem_cons_self)
 simpa using this
def GtRel1 (w1:World) (mb:Nat) (F:List En) (n:Nat) (v32:Value) (wr:World):Prop :=
 ∃ k:Nat,n+k=F.length∧v32=.int .i64 (k:Nat)∧MapT wr mb k ((F.take k).map En.key)∧Tch [] w1 wr
def GtRel2 (w2:World) (l n:Nat) (v59:Value) (wr:World):Prop:=∃ k:Nat,n+k=l∧v59=.int .i64 (k:Nat)∧Tch [] w2 wr
set_option maxRecDepth 100000 in
set_option maxHeartbeats 8000000 in
theorem gets_walk (a a2:Option Addr) (n cap b o n2 cap2 b2 o2:Nat) (ps:List En) (ks:List ByteArray) (w:World) (hr:IsR fPr 2 w a n b o ps) (hc:n≤cap) (hz:a=none→n=0∧cap=0) (hm:cap≤maxLen) (hr2:IsR fStr 1 w a2 n2 b2 o2 ks) (hk2:∀ s ∈ ks,s.size≤10000000) (hl2:ks.length≤10000000) :
 Calls Tryz.prog 7 #[.slice a n cap,.slice a2 n2 cap2] w fun e w'=>e=.returned (.bool true)∧Tch [] w w':=by
 obtain rfl:=hr2.hlen
 have HB:=Lib.hid (built_any a n cap b o ps w hr hc hz hm)
 have HK:Hid (∀ W,Tch [] w W→∀ k (hk:k < ks.length),W.cell? ⟨b2,o2+k,none⟩=some (.string ks[k])∧a2=some ⟨b2,o2,none⟩):=fun W t k hk=>by
  have r:=hr2.keep0 t
  exact ⟨r.one (List.getElem?_eq_getElem hk) rfl,r.some_ (by omega)⟩
 have HKS:Hid (∀ k (hk:k < ks.length),ks[k].size≤10000000):=fun k hk=>hk2 _ (List.getElem_mem hk)
 have hmm:=@run_makeMap Tryz.prog
 clear hr hc hz hm hr2 hk2
 go_enter Tryz.func7,Tryz.ntmps7
 go_wp2_with fail
 refine HB.out.mono ?_
 rintro e w1 ⟨db,tb,B,h,T,now,S,v,rfl,hL,hcm,hBw,_,_,_,t1⟩
 have HWK:=Lib.hid (twakes_any w1)
 clear HB hBw
 go_wp2_with fail
 refine HWK.out.mono ?_
 rintro e w2 ⟨rfl,t2⟩
 have T2:=t1.trans t2
 have hL2:=hL.keep0 t2
 have hcm2:=hcm.keep t2
 have hsm:=hcm2.small.2
 generalize bF (ps.take 300)=F at *
 obtain ⟨x,c,bb,oo,rfl,hrow,_⟩:=hL2
 have hsr:=hcm2.srt
 have HCE:Hid (∀ W,Tch [] w2 W→∀ k (hk:k < F.length),W.cell? ⟨bb,oo+k * 2,none⟩=some (.string F[k].key)∧W.cell? ⟨bb,oo+k * 2+1,none⟩=some (.string F[k].val)∧x=some ⟨bb,oo,none⟩):=fun W t k hk=>by
  have r:=hrow.keep0 t
  have hg:F[k]?=some F[k]:=List.getElem?_eq_getElem hk
  exact ⟨r.c0 hg rfl,r.c hg 1 rfl,r.some_ (by omega)⟩
 have HGE:Hid (∀ W key,Tch [] w2 W→key.size≤10000000→Calls Tryz.prog 17 #[.pointer (some ⟨tb,0,none⟩),.string key] W fun e w'=>e=.returned (getV (look F key))∧Tch [] W w'):=fun W key t hk=>(hcm2.keep t).get key hk
 have HLE:Hid (∀ W,Tch [] w2 W→Calls Tryz.prog 30 #[.pointer (some ⟨tb,0,none⟩)] W (IntPost F.length W)):=fun W t=>(hcm2.keep t).len
 have HFK:Hid (∀ k (hk:k < F.length),F[k].key.size≤48∧look F F[k].key=some F[k].val∧((F.take k).map En.key).any (fun x=>decide (x=F[k].key))=false∧(F.take (k+1)).map En.key=(F.take k).map En.key++[F[k].key]):=fun k hk=>⟨(hcm2.hand.std.tr.fitL _ (List.getElem_mem hk)).2.1,look_at hsr (List.getElem?_eq_getElem hk),keys_new hsr hk,by rw [List.take_succ_eq_append_getElem hk,List.map_append]; rfl⟩
 have HST:Hid (GtRel1 w2 w2.heap.size F F.length (.int .i64 0) (w2.alloc (.map #[] 0))):=⟨0,by simp,rfl,MapT.made w2,(Tch.refl _ _).alloc _⟩
 have HT2:=Lib.hid T2
 clear hL hcm hcm2 hrow hsr t1 t2 T2 HWK
 have hsm2:(F.length:Int)≤6553200:=by omega
 go_wp2_with fail
 go_loopg [32] F.length (fun n v32 wr=>GtRel1 w2 w2.heap.size F n v32 wr)
 case atStart=>exact HST.out
 case round =>
  obtain ⟨k,hnk,rfl,hmt,t⟩:=hrel
  clear hmm HST
  match gk,hnk with
  | 0,hnk =>
   have hlt:decide (k < F.length)=false:=decide_eq_false (by omega)
   rw [List.take_of_length_le (by omega)] at hmt
   obtain ⟨D,ho,htd,hsz,hhas,hat⟩:=hmt
   rw [List.length_map] at hsz
   have HO:Hid (∀ W,Tch [] wr W→W.ownsMap Tryz.prog 9 (plainElem Tryz.prog 3) w2.heap.size k D):=fun W tt=>by
    have hlt:=ho.lt
    obtain ⟨es,clock,hb,Fx,hs,hD⟩:=ho
    exact ⟨es,clock,(tt.block _ hlt (by simp)).trans hb,Fx,hs,hD⟩
   have HAT:=Lib.hid hat
   have HSZ:=Lib.hid hsz
   have HT:=Lib.hid t
   have HS2:Hid (GtRel2 wr ks.length ks.length (.int .i64 0) wr):=⟨0,by simp,rfl,Tch.refl _ _⟩
   have hl3:(ks.length:Int)≤10000000:=by omega
   clear ho htd hsz hhas hat t hnk HCE HFK
   go_wp2_with fail
   have wz:∃ wo:World,wo=wr:=⟨_,rfl⟩
   obtain ⟨wo,hwo⟩:=wz
   rw [← hwo] at HO HT HS2 ⊢
   clear hwo
   go_loopg [59] ks.length (fun n v59 wr=>GtRel2 wo ks.length n v59 wr)
   case atStart=>exact HS2.out
   case round =>
    obtain ⟨j,hnj,rfl,t⟩:=hrel
    have HTW:=Lib.hid (HT.out.trans t)
    have ho:=HO.out wr t
    match gk,hnj with
    | 0,hnj =>
     have hlt2:decide (j < ks.length)=false:=decide_eq_false (by omega)
     have HLC:=Lib.hid (HLE.out wr HTW.out)
     have HF:Hid (∀ W,Tch [] wr W→Tch [] w W):=fun W tt=>(HT2.out.trans HTW.out).trans tt
     have HOW:Hid (∀ W,Tch [] wr W→W.ownsMap Tryz.prog 9 (plainElem Tryz.prog 3) w2.heap.size k D):=fun W tt=>HO.out W (t.trans tt)
     clear t ho HTW HS2
     go_wp2_with fail
     refine HLC.out.mono ?_
     rintro e w9 ⟨rfl,t9⟩
     have ho9:=HOW.out w9 t9
     have HE:=Lib.hid (HF.out w9 t9)
     clear t9 HOW HLC
     go_wp2_with (at_len; refine wpList_len_own _ rfl _ 70 rfl 9 3 Tryz.underlying70 _ w2.heap.size k D rfl ho9 ?_)
     rw [HSZ.out]
     go_wp2_with fail
     first | exact ⟨rfl,HE.out⟩ | (go_ret; exact ⟨by simp,HE.out⟩)
    | g+1,hnj =>
     have hj:j < ks.length:=by omega
     have hlt2:decide (j < ks.length)=true:=decide_eq_true hj
     have hj0:(0:Int)≤(j:Int):=by omega
     have hj1:(j:Int) < (ks.length:Int):=by omega
     obtain ⟨s0,ha2⟩:=HK.out wr (HT2.out.trans HTW.out) j hj
     have hks:=HKS.out j hj
     subst ha2
     generalize ks[j]=key at s0 hks
     have HGC:=Lib.hid (HGE.out wr key HTW.out hks)
     have hkey:=WideMaps.keyOf_string_mk (P:=Tryz.prog) Tryz.underlying9 (s:=key) (by unfold maxLen; omega)
     have hx:=HAT.out key
     have HOW:Hid (∀ W,Tch [] wr W→W.ownsMap Tryz.prog 9 (plainElem Tryz.prog 3) w2.heap.size k D):=fun W tt=>HO.out W (t.trans tt)
     have HGO:Hid (∀ W,Tch [] wr W→GtRel2 wo ks.length g (.int .i64 ((j:Int)+1)) W):=fun W tt=>⟨j+1,by omega,by simp,t.trans tt⟩
     clear ho t HS2
     rcases look_any F key with ⟨q1,q2⟩ | ⟨val,q1,q2⟩
     · rw [q1] at HGC
       rw [q2] at hx
       have HX:=Lib.hid hx
       clear q1 q2 hx
       go_wp2_with fail
       refine HGC.out.mono ?_
       rintro e w9 ⟨rfl,t9⟩
       have ho9:=HOW.out w9 t9
       have HE:=Lib.hid (HGO.out w9 t9)
       clear t9 HOW HGC HGO
       unfold getV
       go_wp2_with (at_lookup; refine wpList_lookup_own_int _ rfl _ _ 70 rfl 9 3 .i64 Tryz.keyStr Tryz.underlying70 Tryz.underlying3 (Tryz.zeroInt _) w2.heap.size k D rfl ho9 _ _ rfl hkey ?_; intro c hat hwc; obtain rfl:c=0:=met_num hat HX.out)
       go_roundg g
       case measure=>omega
       case rel=>exact HE.out
     · rw [q1] at HGC
       rw [q2] at hx
       have HX:=Lib.hid hx
       clear q1 q2 hx
       go_wp2_with fail
       refine HGC.out.mono ?_
       rintro e w9 ⟨rfl,t9⟩
       have ho9:=HOW.out w9 t9
       have HE:=Lib.hid (HGO.out w9 t9)
       clear t9 HOW HGC HGO
       unfold getV
       go_wp2_with (at_lookup; refine wpList_lookup_own_int _ rfl _ _ 70 rfl 9 3 .i64 Tryz.keyStr Tryz.underlying70 Tryz.underlying3 (Tryz.zeroInt _) w2.heap.size k D rfl ho9 _ _ rfl hkey ?_; intro c hat hwc; obtain rfl:c=1:=met_num hat HX.out)
       go_roundg g
       case measure=>omega
       case rel=>exact HE.out
  | g+1,hnk =>
   have hk:k < F.length:=by omega
   have hlt:decide (k < F.length)=true:=decide_eq_true hk
   have hk0:(0:Int)≤(k:Int):=by omega
   have hk1:(k:Int) < (F.length:Int):=by omega
   obtain ⟨s0,s1,hx⟩:=HCE.out wr t k hk
   obtain ⟨f1,f2,f3,f4⟩:=HFK.out k hk
   subst hx
   generalize F[k]=en at s0 s1 f1 f2 f3 f4
   obtain ⟨key,val,kid⟩:=en
   simp only at s0 s1 f1 f2 f3 f4
   obtain ⟨W1,hW1⟩:∃ W1,W1=wr.alloc (.cells #[.string key,.string val] 71):=⟨_,rfl⟩
   have u1:Tch [] wr W1:=by rw [hW1]; exact (Tch.refl _ _).alloc _
   have hb1:W1.heap[wr.heap.size]?=some (.cells #[.string key,.string val] 71 (0,0)):=by rw [hW1]; exact blk_new _ _
   obtain ⟨D,ho,htd,hsz,hhas,hat⟩:=hmt.kept u1 (by simp)
   have hkey:=WideMaps.keyOf_string_mk (P:=Tryz.prog) Tryz.underlying9 (s:=key) (by unfold maxLen; omega)
   have hxx:=hat key
   rw [f3] at hxx
   have HX:=Lib.hid hxx
   have hmb:w2.heap.size < wr.heap.size:=by
    have h1:=hmt
    obtain ⟨D1,ho1,_⟩:=h1
    exact ho1.lt
   have HP:Hid (∀ W,W.ownsMap Tryz.prog 9 (plainElem Tryz.prog 3) w2.heap.size (k+1) (D.put (.string key.data.toList) (.lit (.int .i64 1)))→MapT W w2.heap.size (k+1) ((F.take (k+1)).map En.key)):=fun W hp=>by rw [f4]; exact MapT.put htd hsz hhas hat f3 hp
   have HG:Hid (∀ W1' W2',Tch [w2.heap.size] W1 W1'→W1'.ownsMap Tryz.prog 9 (plainElem Tryz.prog 3) w2.heap.size (k+1) (D.put (.string key.data.toList) (.lit (.int .i64 1)))→Tch [] W1' W2'→GtRel1 w2 w2.heap.size F g (.int .i64 ((k:Int)+1)) W2'):=fun W1' W2' h1 h2 h3=>⟨k+1,by omega,by simp,(HP.out W1' h2).kept h3 (by simp),((t.trans u1).transNew h1 (fun m hm=>Or.inr (by simp at hm; omega))).trans h3⟩
   have HU:Hid (∀ W1',Tch [w2.heap.size] W1 W1'→Tch [] w2 W1'):=fun W1' h1=>(t.trans u1).transNew h1 (fun m hm=>Or.inr (by simp at hm; omega))
   have HB1:Hid (∀ W1' W2',Tch [w2.heap.size] W1 W1'→Tch [] W1' W2'→W2'.cell? ⟨wr.heap.size,0,none⟩=some (.string key)∧W2'.cell? ⟨wr.heap.size,1,none⟩=some (.string val)):=fun W1' W2' h1 h2=>by
    have h3:=(h1.keep hb1 (by simp; omega))
    have h4:=h2.keep h3 (by simp)
    exact ⟨by rw [blk_cell h4]; rfl,by rw [blk_cell h4]; rfl⟩
   have HGC:Hid (∀ W,Tch [] w2 W→Calls Tryz.prog 17 #[.pointer (some ⟨tb,0,none⟩),.string key] W fun e w'=>e=.returned (getV (some val))∧Tch [] W w'):=fun W tt=>by
    have:=HGE.out W key tt (by omega)
    rw [f2] at this
    exact this
   clear hat htd hsz hhas hxx f1 f2 f3 f4 hmt t u1 HP
   go_upto_region 8 with fail
   rw [← hW1]
   clear hW1
   obtain ⟨k0,k1⟩:=HB1.out W1 W1 (Tch.refl _ _) (Tch.refl _ _)
   go_wp2_with (first
    | (at_lookup; refine wpList_lookup_own_int _ rfl _ _ 70 rfl 9 3 .i64 Tryz.keyStr Tryz.underlying70 Tryz.underlying3 (Tryz.zeroInt _) w2.heap.size k D rfl ho _ _ rfl hkey ?_; intro c hat hwc; obtain rfl:c=0:=met_num hat HX.out)
    | (at_mapUpdate; refine wpList_mapUpdate_own _ rfl _ _ _ 70 rfl 9 3 Tryz.keyStr Tryz.underlying70 _ w2.heap.size k D rfl ho (by unfold maxLen; omega) _ _ _ rfl rfl hkey _ [] (plainElem_int Tryz.underlying3 (a:=1) (by decide)) ?_; intro w3 hown3 hgrow3; have m3:=Tch.mapped (Tch.refl [w2.heap.size] W1) hgrow3 (by simp); obtain ⟨k0,k1⟩:=HB1.out w3 w3 m3 (Tch.refl _ _)))
   have m3:=Tch.mapped (Tch.refl [w2.heap.size] W1) hgrow3 (by simp)
   refine (HGC.out w3 (HU.out w3 m3)).mono ?_
   rintro e w4 ⟨rfl,t4⟩
   obtain ⟨z0,z1⟩:=HB1.out w3 w4 m3 t4
   have HE:=Lib.hid (HG.out w3 w4 m3 hown3 t4)
   clear HG HU HB1 HGC hown3 hgrow3 m3 t4 k0 k1 ho
   unfold getV
   go_wp2_with fail
   go_roundg g
   case measure=>omega
   case rel=>exact HE.out
end Go.Proofs.YtlkgnljdpakkcaaGreatDoor
