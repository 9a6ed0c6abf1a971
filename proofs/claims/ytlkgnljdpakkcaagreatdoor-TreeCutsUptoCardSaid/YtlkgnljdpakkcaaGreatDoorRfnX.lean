/-
  Parts of the proof: Rfn.
-/
import Derived.Test.YtlkgnljdpakkcaaGreatDoorRapX
import Derived.BigQuiet
import Derived.IntWalk
set_option linter.unusedVariables false
set_option linter.unusedSimpArgs false
/-
 The document's Get,Scan,Check and Bytes of a list of pairs; 'same' of the laws.
-/
namespace Go.Proofs.YtlkgnljdpakkcaaGreatDoor
open Go.RowKit
theorem look_cons (e:En) (l:List En) (key:ByteArray):look (e :: l) key=if e.key=key then some e.val else look l key:=by
 unfold look
 rw [List.find?_cons]
 by_cases h:e.key=key
 · simp [h]
 · simp [h]
def RgtRel (w:World) (l:List En) (key:ByteArray) (n:Nat) (v6:Value) (wr:World):Prop:=∃ k:Nat,n+k=l.length∧v6=.int .i64 (k:Nat)∧look l key=look (l.drop k) key∧wr=w
set_option maxRecDepth 100000 in
set_option maxHeartbeats 4000000 in
theorem rtget_any (l:List En) (key:ByteArray) (v:Value) (w:World) (hl:IsL w v l) (hlen:l.length≤900000000) :
 Calls Tryz.prog 18 #[v,.string key] w fun e w'=>e=.returned (getV (look l key))∧w=w':=by
 obtain ⟨a,c,b,o,rfl,hr,_⟩:=hl
 have HCE:Hid (∀ k (hk:k < l.length),w.cell? ⟨b,o+k * 2,none⟩=some (.string l[k].key)∧w.cell? ⟨b,o+k * 2+1,none⟩=some (.string l[k].val)∧a=some ⟨b,o,none⟩):=fun k hk=>by
  have hg:l[k]?=some l[k]:=List.getElem?_eq_getElem hk
  exact ⟨hr.c0 hg rfl,hr.c hg 1 rfl,hr.some_ (by omega)⟩
 have HF:Hid (∀ x,look l key=x→(fun (e:Ending) (w':World)=>e=.returned (getV (look l key))∧w=w') (.returned (getV x)) w):=fun x h=>by subst h; exact ⟨rfl,rfl⟩
 have HST:Hid (RgtRel w l key l.length (.int .i64 0) w):=⟨0,by simp,rfl,by simp,rfl⟩
 have HLN:=Lib.hid hlen
 clear hr hlen
 generalize (fun (e:Ending) (w':World)=>e=.returned (getV (look l key))∧w=w')=Q at *
 go_enter Tryz.func18,Tryz.ntmps18
 go_wp2_with fail
 go_loopg [6] l.length (fun n v6 wr=>RgtRel w l key n v6 wr)
 case atStart=>exact HST.out
 case round =>
  obtain ⟨k,hnk,rfl,hlk,rfl⟩:=hrel
  have hln:=HLN.out
  match gk,hnk with
  | 0,hnk =>
   have hlt:decide (k < l.length)=false:=decide_eq_false (by omega)
   rw [List.drop_of_length_le (by omega)] at hlk
   have HE:=Lib.hid (HF.out none hlk)
   clear hlk
   go_wp2_with fail
   first | exact HE.out | (go_ret2; exact HE.out)
  | g+1,hnk =>
   have hk:k < l.length:=by omega
   have hlt:decide (k < l.length)=true:=decide_eq_true hk
   have hk0:(0:Int)≤(k:Int):=by omega
   have hk1:(k:Int) < (l.length:Int):=by omega
   obtain ⟨s0,s1,ha⟩:=HCE.out k hk
   subst ha
   rw [List.drop_eq_getElem_cons hk,look_cons] at hlk
   generalize l[k]=en at s0 s1 hlk
   have hb:=key_same en.key key
   by_cases hkk:en.key=key
   · rw [if_pos hkk] at hlk
     rw [decide_eq_true hkk] at hb
     have HE:=Lib.hid (HF.out _ hlk)
     clear hlk hkk
     go_wp2_with fail
     first | exact HE.out | (go_ret2; exact HE.out)
   · rw [if_neg hkk] at hlk
     rw [decide_eq_false hkk] at hb
     have HG:Hid (RgtRel wr l key g (.int .i64 ((k:Int)+1)) wr):=⟨k+1,by omega,by simp,hlk,rfl⟩
     clear hlk hkk
     go_wp2_with fail
     go_roundg g
     case measure=>omega
     case rel=>exact HG.out
/-! ### Bytes -/
def RbyRel (w:World) (l:List En) (n:Nat) (v3 v4:Value) (wr:World):Prop:=∃ k:Nat,n+k=l.length∧v4=.int .i64 (k:Nat)∧v3=.int .i64 (bys (l.take k):Nat)∧Tch [] w wr
theorem bys_snoc {l:List En} {k:Nat} (hk:k < l.length):bys (l.take (k+1))=bys (l.take k)+(l[k].key.size+l[k].val.size+4):=by
 rw [List.take_succ_eq_append_getElem hk,bys_app]; simp [bys]
theorem bys_le':∀ {F:List En},(∀ e ∈ F,fitL e)→bys F≤252 * F.length
 | [],_=>by simp [bys]
 | e :: F,h=>by
  have i1:=bys_le' (F:=F) (fun x hx=>h x (by simp [hx]))
  obtain ⟨_,g2,g3,_⟩:=h e (by simp)
  have e1:bys (e :: F)=(e.key.size+e.val.size+4)+bys F:=by simp [bys]
  rw [e1,List.length_cons]; omega
set_option maxRecDepth 100000 in
set_option maxHeartbeats 4000000 in
theorem rtbytes_any (l:List En) (v:Value) (w:World) (hl:IsL w v l) (hlen:l.length≤900000000) (hf:∀ e ∈ l,fitL e) :
 Calls Tryz.prog 52 #[v] w (IntPost (bys l) w):=by
 obtain ⟨a,c,b,o,rfl,hr,_⟩:=hl
 have HCE:Hid (∀ W,Tch [] w W→∀ k (hk:k < l.length),W.cell? ⟨b,o+k * 2,none⟩=some (.string l[k].key)∧W.cell? ⟨b,o+k * 2+1,none⟩=some (.string l[k].val)∧a=some ⟨b,o,none⟩):=fun W t k hk=>by
  have r:=hr.keep0 t
  have hg:l[k]?=some l[k]:=List.getElem?_eq_getElem hk
  exact ⟨r.c0 hg rfl,r.c hg 1 rfl,r.some_ (by omega)⟩
 have HF:Hid (∀ W,Tch [] w W→IntPost (bys l) w (.returned (.int .i64 (bys l:Nat))) W):=fun W t=>⟨rfl,t⟩
 have HST:Hid (RbyRel w l l.length (.int .i64 0) (.int .i64 0) w):=⟨0,by simp,rfl,by simp [bys],Tch.refl _ _⟩
 have HSN:Hid (∀ k (hk:k < l.length),bys (l.take (k+1))=bys (l.take k)+(l[k].key.size+l[k].val.size+4)∧bys (l.take k)≤252 * 900000000∧l[k].key.size≤48∧l[k].val.size≤200):=fun k hk=>by
  have h1:=bys_le' (F:=l.take k) (fun e he=>hf e (List.mem_of_mem_take he))
  rw [List.length_take] at h1
  obtain ⟨_,g2,g3,_⟩:=hf l[k] (List.getElem_mem hk)
  exact ⟨bys_snoc hk,by omega,g2,g3⟩
 have HLN:=Lib.hid hlen
 clear hr hlen hf
 generalize IntPost (bys l) w=Q at *
 go_enter Tryz.func52,Tryz.ntmps52
 go_wp2_with fail
 go_loopg [3,4] l.length (fun n v3 v4 wr=>RbyRel w l n v3 v4 wr)
 case atStart=>exact HST.out
 case round =>
  obtain ⟨k,hnk,rfl,rfl,t⟩:=hrel
  have hln:=HLN.out
  match gk,hnk with
  | 0,hnk =>
   have hlt:decide (k < l.length)=false:=decide_eq_false (by omega)
   rw [List.take_of_length_le (by omega)]
   have HE:=Lib.hid (HF.out wr t)
   go_wp2_with fail
   first | exact HE.out | (go_ret; exact HE.out)
  | g+1,hnk =>
   have hk:k < l.length:=by omega
   have hlt:decide (k < l.length)=true:=decide_eq_true hk
   have hk0:(0:Int)≤(k:Int):=by omega
   have hk1:(k:Int) < (l.length:Int):=by omega
   obtain ⟨s0,s1,ha⟩:=HCE.out wr t k hk
   obtain ⟨f1,f2,f3,f4⟩:=HSN.out k hk
   subst ha
   have HB:=Lib.hid f1
   clear f1
   generalize l[k]=en at s0 s1 HB f3 f4
   have HG:Hid (∀ q,RbyRel w l g (.int .i64 ((bys (l.take k):Int)+(en.key.size:Int)+(en.val.size:Int)+4)) (.int .i64 ((k:Int)+1)) (wr.drewN q)):=fun q=>⟨k+1,by omega,by simp,by rw [HB.out]; congr 1; push_cast; omega,tdrewN t q⟩
   generalize bys (l.take k)=bb at *
   have g1:IntKind.i64.wrap ((bb:Int)+(en.key.size:Int))=(bb:Int)+(en.key.size:Int):=IntWalk.i64_in _ (by omega)
   have g2:IntKind.i64.wrap ((bb:Int)+(en.key.size:Int)+(en.val.size:Int))=(bb:Int)+(en.key.size:Int)+(en.val.size:Int):=IntWalk.i64_in _ (by omega)
   have g3:IntKind.i64.wrap ((bb:Int)+(en.key.size:Int)+(en.val.size:Int)+4)=(bb:Int)+(en.key.size:Int)+(en.val.size:Int)+4:=IntWalk.i64_in _ (by omega)
   clear HB
   go_wp2_with fail
   go_quiet (fail)
   clear g1 g2 g3
   go_wp2_with fail
   go_roundg g
   case measure=>omega
   case rel=>exact HG.out _
/-! ### same -/
def SamRel (w:World) (l:List En) (n:Nat) (v13:Value) (wr:World):Prop:=∃ k:Nat,n+k=l.length∧v13=.int .i64 (k:Nat)∧Tch [] w wr
set_option maxRecDepth 100000 in
set_option maxHeartbeats 4000000 in
theorem tsame_yes (l:List En) (a:Option Addr) (c b o:Nat) (v:Value) (w:World) (hr:IsR fPr 2 w a l.length b o l) (hl:IsL w v l) (hlen:l.length≤900000000) :
 Calls Tryz.prog 19 #[.slice a l.length c,v] w fun e w'=>e=.returned (.bool true)∧Tch [] w w':=by
 obtain ⟨a2,c2,b2,o2,rfl,hr2,_⟩:=hl
 have HCE:Hid (∀ W,Tch [] w W→∀ k (hk:k < l.length),(W.cell? ⟨b,o+k * 2,none⟩=some (.string l[k].key)∧W.cell? ⟨b,o+k * 2+1,none⟩=some (.string l[k].val)∧a=some ⟨b,o,none⟩)∧W.cell? ⟨b2,o2+k * 2,none⟩=some (.string l[k].key)∧W.cell? ⟨b2,o2+k * 2+1,none⟩=some (.string l[k].val)∧a2=some ⟨b2,o2,none⟩):=fun W t k hk=>by
  have r:=hr.keep0 t
  have r2:=hr2.keep0 t
  have hg:l[k]?=some l[k]:=List.getElem?_eq_getElem hk
  exact ⟨⟨r.c0 hg rfl,r.c hg 1 rfl,r.some_ (by omega)⟩,r2.c0 hg rfl,r2.c hg 1 rfl,r2.some_ (by omega)⟩
 have HST:Hid (SamRel w l l.length (.int .i64 0) w):=⟨0,by simp,rfl,Tch.refl _ _⟩
 have HLN:=Lib.hid hlen
 have hne:(((l.length:Nat):Int) != ((l.length:Nat):Int))=false:=by simp
 clear hr hr2 hlen
 go_enter Tryz.func19,Tryz.ntmps19
 go_wp2_with fail
 go_loopg [13] l.length (fun n v13 wr=>SamRel w l n v13 wr)
 case atStart=>exact HST.out
 case round =>
  obtain ⟨k,hnk,rfl,t⟩:=hrel
  have hln:=HLN.out
  match gk,hnk with
  | 0,hnk =>
   have hlt:decide (k < l.length)=false:=decide_eq_false (by omega)
   have HE:=Lib.hid t
   go_wp2_with fail
   first | exact ⟨rfl,HE.out⟩ | (go_ret; exact ⟨rfl,HE.out⟩)
  | g+1,hnk =>
   have hk:k < l.length:=by omega
   have hlt:decide (k < l.length)=true:=decide_eq_true hk
   have hk0:(0:Int)≤(k:Int):=by omega
   have hk1:(k:Int) < (l.length:Int):=by omega
   obtain ⟨⟨s0,s1,ha⟩,z0,z1,ha2⟩:=HCE.out wr t k hk
   subst ha ha2
   generalize l[k]=en at s0 s1 z0 z1
   have HG:Hid (∀ q,SamRel w l g (.int .i64 ((k:Int)+1)) (wr.drewN q)):=fun q=>⟨k+1,by omega,by simp,tdrewN t q⟩
   have hb0:(en.key.toList == en.key.toList)=true:=by simp
   have hb1:(en.val.toList == en.val.toList)=true:=by simp
   go_wp2_with fail
   go_quiet (fail)
   go_wp2_with fail
   go_roundg g
   case measure=>omega
   case rel=>exact HG.out _
end Go.Proofs.YtlkgnljdpakkcaaGreatDoor
