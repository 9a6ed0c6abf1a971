/-
  Parts of the proof: Nm, Nin, Nspec, Nw, Nwb, NG, Nwf.
-/
import Derived.Test.YtlkgnljdpakkcaaGreatDoorM03
import Derived.Test.YtlkgnljdpakkcaaGreatDoorM01
import Derived.Deep.RegionWith
import Derived.Deep.RegionHeld3
set_option linter.unusedVariables false
set_option linter.unusedSimpArgs false
/-
 'fit' of the law over nodes. Conditions: lists and texts of fewer than 10^8 parts.
-/
namespace Go.Proofs.YtlkgnljdpakkcaaGreatDoor
open Go.RowKit
def Nv.fits (v:Nv):Bool:=v.lens && fitN v.leaf v.es
end Go.Proofs.YtlkgnljdpakkcaaGreatDoor
/-
 Opening a node that was handed in.
-/
namespace Go.Proofs.YtlkgnljdpakkcaaGreatDoor
open Go.ChangeShapes Go.WideShapes Go.ChangeAt Go.RowKit
def Nv.caps (v:Nv):Prop:=(v.kn≤v.kc∧v.kc≤maxLen∧(v.ka=none→v.kn=0∧v.kc=0))∧(v.vn≤v.vc∧v.vc≤maxLen∧(v.va=none→v.vn=0∧v.vc=0))∧(v.im≤v.ic∧v.ic≤maxLen∧(v.ia=none→v.im=0∧v.ic=0))
end Go.Proofs.YtlkgnljdpakkcaaGreatDoor
/-
 What each function of package node answers,as the document has it: statements that the laws' walks lean on. (Each is proved of the landed code in a text of its own.)
-/
namespace Go.Proofs.YtlkgnljdpakkcaaGreatDoor
open Go.RowKit
def Rise (l:List ByteArray):Prop:=∀ (i:Nat) a b,l[i]?=some a→l[i+1]?=some b→slt a b=true
structure Nv.Good (w:World) (u:Nv) (leaf:Bool) (es:List En):Prop where
 nv:IsNv w u
 leaf:u.leaf=leaf
 es:u.es=es
 lens:u.lens=true
 ok:u.Ok
 caps:u.caps
theorem Nv.Good.keep0 {w w':World} {u:Nv} {leaf:Bool} {es:List En} (h:u.Good w leaf es) (t:Tch [] w w'):u.Good w' leaf es:=⟨h.nv.keep0 t,h.leaf,h.es,h.lens,h.ok,h.caps⟩
def fNv (u:Nv):List Value:=[.bool u.leaf,.slice u.ka u.kn u.kc,.slice u.va u.vn u.vc,.slice u.ia u.im u.ic]
def EncSpec:Prop:=∀ (v:Nv) (w:World),IsNv w v→v.Ok→v.caps→Calls Tryz.prog 104 #[.agg #[.bool v.leaf,.slice v.ka v.kn v.kc,.slice v.va v.vn v.vc,.slice v.ia v.im v.ic]] w fun e w' =>
 e=.returned (.tuple #[.string (if v.fits then ⟨(ndb v.leaf v.es).toArray⟩ else ⟨#[]⟩),.int .i64 (if v.fits then 0 else 40)])∧Tch [] w w'
def WeiSpec:Prop:=∀ (v:Nv) (w:World),IsNv w v→v.Ok→v.caps→Calls Tryz.prog 176 #[.agg #[.bool v.leaf,.slice v.ka v.kn v.kc,.slice v.va v.vn v.vc,.slice v.ia v.im v.ic]] w fun e w' =>
 e=.returned (.int .i64 ((ndb v.leaf v.es).length:Nat))∧Tch [] w w'
def DecSpec:Prop:=∀ (s:ByteArray) (w:World),s.size≤10000000→Calls Tryz.prog 157 #[.string s] w fun e w' =>
 Tch [] w w'∧((ddec s.data.toList=none∧∃ u:Nv,e=.returned (.tuple #[.agg #[.bool u.leaf,.slice u.ka u.kn u.kc,.slice u.va u.vn u.vc,.slice u.ia u.im u.ic],.int .i64 40])∧u.leaf=false∧u.kn=0∧u.vn=0∧u.im=0) ∨
  ∃ leaf es,∃ u:Nv,ddec s.data.toList=some (leaf,es)∧e=.returned (.tuple #[.agg #[.bool u.leaf,.slice u.ka u.kn u.kc,.slice u.va u.vn u.vc,.slice u.ia u.im u.ic],.int .i64 0])∧u.Good w' leaf es)
def PlaSpec:Prop:=∀ (v:Nv) (key:ByteArray) (w:World),IsNv w v→v.Ok→v.caps→key.size≤10000000→Rise v.keys→Calls Tryz.prog 49 #[.agg #[.bool v.leaf,.slice v.ka v.kn v.kc,.slice v.va v.vn v.vc,.slice v.ia v.im v.ic],.string key] w fun e w' =>
 e=.returned (.tuple #[.int .i64 (plcN v.es key:Nat),.bool (hitN v.es key)])∧Tch [] w w'
/-! ### the leaf that the document fixes -/
end Go.Proofs.YtlkgnljdpakkcaaGreatDoor
/-
 The weights of texts,entries and nodes,as package node tells them. Conditions: the lists and texts are short (Nv.Ok).
-/
namespace Go.Proofs.YtlkgnljdpakkcaaGreatDoor
open Go.RowKit
set_option maxRecDepth 100000 in
theorem nwtext_any (s:ByteArray) (w:World) (hs:s.size≤1000000000) :
 Calls Tryz.prog 246 #[.string s] w fun e w'=>e=.returned (.int .i64 ((tx s).length:Nat))∧Tch [] w w':=by
 have HU:=Lib.hid (fun w1=>uint_any s.size w1 (by omega))
 have hcw:IntKind.u64.wrap (s.size:Int)=(s.size:Int):=by rw [IntKind.wrap_u64]; omega
 have hl:=ub_len 9 s.size (by simp; omega)
 have hsz:(⟨(ub s.size).toArray⟩:ByteArray).size=(ub s.size).length:=List.size_toArray
 have HF:Hid ((((⟨(ub s.size).toArray⟩:ByteArray).size:Nat):Int)+(s.size:Int)=((tx s).length:Nat)):=by
  show _=_
  have:(tx s).length=(ub s.size).length+s.size:=by unfold tx; rw [List.length_append,← Lib.size_eq]
  omega
 have hub:(⟨(ub s.size).toArray⟩:ByteArray).size≤1000:=by rw [hsz]; omega
 clear hsz hl
 generalize (⟨(ub s.size).toArray⟩:ByteArray)=u at HU hub HF
 generalize (tx s).length=m at HF ⊢
 go_enter Tryz.func246,Tryz.ntmps246
 go_wp2_with fail
 refine (HU.out _).mono ?_
 rintro e w1 ⟨rfl,t1⟩
 go_wp2_with fail
 go_ret
 exact ⟨by rw [HF.out]; rfl,t1⟩
set_option maxRecDepth 100000 in
theorem nvalueOf_any (v:Nv) (k:Nat) (w:World) (h:IsNv w v) (ho:v.Ok) (hk:k≤1000000000) :
 Calls Tryz.prog 244 #[.agg #[.bool v.leaf,.slice v.ka v.kn v.kc,.slice v.va v.vn v.vc,.slice v.ia v.im v.ic],.int .i64 k] w fun e w'=>e=.returned (.string (v.vals.getD k ⟨#[]⟩))∧Tch [] w w':=by
 have T0:Tch [] w (w.alloc (.cells #[.bool v.leaf,.slice v.ka v.kn v.kc,.slice v.va v.vn v.vc,.slice v.ia v.im v.ic] 138)):=(Tch.refl _ _).alloc _
 have h2:=(h.keep0 T0).rv
 have hl:=h.rv.hlen
 have hle:=ho.lv
 by_cases hkl:k < v.vals.length
 · have hget:=List.getElem?_eq_getElem hkl
   have x0:=h2.one hget (v:=.string v.vals[k]) rfl
   have ha:=h2.some_ (by omega)
   have hbl:=h2.lt (by omega)
   have hd:decide (k < v.vn)=true:=decide_eq_true (by omega)
   have hI:(k:Int) < (v.vn:Int):=by omega
   have hg:v.vals.getD k ⟨#[]⟩=v.vals[k]:=by rw [List.getD_eq_getElem?_getD,hget]; rfl
   rw [hg]
   generalize v.vals[k]=x at x0 ⊢
   rw [ha] at x0 h2 T0 ⊢
   generalize v.leaf=leaf at *
   clear hg h2 hget ha ho h hl
   go_enter Tryz.func244,Tryz.ntmps244
   go_wp2_with fail
   go_ret
   exact ⟨rfl,T0⟩
 · have hd:decide (k < v.vn)=false:=decide_eq_false (by omega)
   have hg:v.vals.getD k ⟨#[]⟩=⟨#[]⟩:=by rw [List.getD_eq_getElem?_getD,List.getElem?_eq_none (by omega)]; rfl
   rw [hg]
   clear hg h2 ho h hl
   go_enter Tryz.func244,Tryz.ntmps244
   go_wp2_with fail
   go_ret
   exact ⟨rfl,T0⟩
set_option maxRecDepth 100000 in
theorem nkidOf_any (v:Nv) (k:Nat) (w:World) (h:IsNv w v) (ho:v.Ok) (hk:k≤1000000000) :
 Calls Tryz.prog 245 #[.agg #[.bool v.leaf,.slice v.ka v.kn v.kc,.slice v.va v.vn v.vc,.slice v.ia v.im v.ic],.int .i64 k] w fun e w'=>e=.returned (.int .i64 (v.kids.getD k 0))∧Tch [] w w':=by
 have T0:Tch [] w (w.alloc (.cells #[.bool v.leaf,.slice v.ka v.kn v.kc,.slice v.va v.vn v.vc,.slice v.ia v.im v.ic] 138)):=(Tch.refl _ _).alloc _
 have h2:=(h.keep0 T0).ri
 have hl:=h.ri.hlen
 have hle:=ho.li
 by_cases hkl:k < v.kids.length
 · have hget:=List.getElem?_eq_getElem hkl
   have x0:=h2.one hget (v:=.int .i64 v.kids[k]) rfl
   have ha:=h2.some_ (by omega)
   have hbl:=h2.lt (by omega)
   have hd:decide (k < v.im)=true:=decide_eq_true (by omega)
   have hI:(k:Int) < (v.im:Int):=by omega
   have hg:v.kids.getD k 0=v.kids[k]:=by rw [List.getD_eq_getElem?_getD,hget]; rfl
   rw [hg]
   generalize v.kids[k]=x at x0 ⊢
   rw [ha] at x0 h2 T0 ⊢
   generalize v.leaf=leaf at *
   clear hg h2 hget ha ho h hl
   go_enter Tryz.func245,Tryz.ntmps245
   go_wp2_with fail
   go_ret
   exact ⟨rfl,T0⟩
 · have hd:decide (k < v.im)=false:=decide_eq_false (by omega)
   have hg:v.kids.getD k 0=0:=by rw [List.getD_eq_getElem?_getD,List.getElem?_eq_none (by omega)]; rfl
   rw [hg]
   clear hg h2 ho h hl
   go_enter Tryz.func245,Tryz.ntmps245
   go_wp2_with fail
   go_ret
   exact ⟨rfl,T0⟩
theorem getd_small {v:Nv} (ho:v.Ok) (k:Nat):(v.vals.getD k ⟨#[]⟩).size≤100000000 ∧ -9223372036854775808≤v.kids.getD k 0∧v.kids.getD k 0≤9223372036854775807:=by
 have hv:(v.vals.getD k ⟨#[]⟩).size≤100000000:=by
  rw [List.getD_eq_getElem?_getD]
  rcases hh:v.vals[k]? with _ | x
  · decide
  · exact ho.vs x (List.mem_of_getElem? hh)
 have hi : -9223372036854775808≤v.kids.getD k 0∧v.kids.getD k 0≤9223372036854775807:=by
  rw [List.getD_eq_getElem?_getD]
  rcases hh:v.kids[k]? with _ | x
  · decide
  · exact ho.is x (List.mem_of_getElem? hh)
 exact ⟨hv,hi⟩
theorem nvb_cells (w:World) (leaf:Bool) (ka va ia:Option Addr) (kn kc vn vc im ic:Nat) {w':World} (t:Tch [] (w.alloc (.cells #[.bool leaf,.slice ka kn kc,.slice va vn vc,.slice ia im ic] 138)) w') :
 w'.cell? ⟨w.heap.size,0,none⟩=some (.bool leaf)∧w'.cell? ⟨w.heap.size,1,none⟩=some (.slice ka kn kc)∧w'.cell? ⟨w.heap.size,2,none⟩=some (.slice va vn vc)∧w'.cell? ⟨w.heap.size,3,none⟩=some (.slice ia im ic)∧w.heap.size < w'.heap.size:=by
 have h:=t.keep (blk_new w (.cells #[.bool leaf,.slice ka kn kc,.slice va vn vc,.slice ia im ic] 138)) (by simp)
 exact ⟨blk_cell h 0,blk_cell h 1,blk_cell h 2,blk_cell h 3,lt_of_block h⟩
set_option maxRecDepth 100000 in
theorem nweight_any (v:Nv) (k:Nat) (key:ByteArray) (w:World) (h:IsNv w v) (ho:v.Ok) (hk:v.keys[k]?=some key) :
 Calls Tryz.prog 232 #[.agg #[.bool v.leaf,.slice v.ka v.kn v.kc,.slice v.va v.vn v.vc,.slice v.ia v.im v.ic],.int .i64 k] w fun e w'=>e=.returned (.int .i64 ((enb v.leaf (mkE v.leaf v.keys v.vals v.kids k key)).length:Nat))∧Tch [] w w':=by
 have T0:Tch [] w (w.alloc (.cells #[.bool v.leaf,.slice v.ka v.kn v.kc,.slice v.va v.vn v.vc,.slice v.ia v.im v.ic] 138)):=(Tch.refl _ _).alloc _
 have hlt:=(List.getElem?_eq_some_iff.1 hk).1
 have hkl:=ho.lk
 have hl:=h.rk.hlen
 have hks:=ho.ks key (List.mem_of_getElem? hk)
 obtain ⟨hvs,hki0,hki1⟩:=getd_small ho k
 have HV:Hid (∀ w',Tch [] w w'→Calls Tryz.prog 244 _ w' fun e w2=>e=.returned (.string (v.vals.getD k ⟨#[]⟩))∧Tch [] w' w2):=fun w' t=>nvalueOf_any v k w' (h.keep0 t) ho (by omega)
 have HI:Hid (∀ w',Tch [] w w'→Calls Tryz.prog 245 _ w' fun e w2=>e=.returned (.int .i64 (v.kids.getD k 0))∧Tch [] w' w2):=fun w' t=>nkidOf_any v k w' (h.keep0 t) ho (by omega)
 have HK:=Lib.hid (fun w'=>nwtext_any key w' (by omega))
 have HVT:=Lib.hid (fun w'=>nwtext_any (v.vals.getD k ⟨#[]⟩) w' (by omega))
 have HU:=Lib.hid (fun w'=>uint_any (v.kids.getD k 0).toNat w' (by omega))
 have x0:=(h.keep0 T0).rk.one hk (v:=.string key) rfl
 have ha:=h.rk.some_ (by omega)
 have hbl:=(h.keep0 T0).rk.lt (by omega)
 have hI:(k:Int) < (v.kn:Int):=by omega
 have tk:=tx_len key (by omega)
 have tv:=tx_len (v.vals.getD k ⟨#[]⟩) (by omega)
 have tu:=ub10 (v.kids.getD k 0).toNat (by omega)
 have hmx:max (v.kids.getD k 0) 0=((v.kids.getD k 0).toNat:Int):=by omega
 have hcw:IntKind.u64.wrap (((v.kids.getD k 0).toNat:Nat):Int)=(((v.kids.getD k 0).toNat:Nat):Int):=by rw [IntKind.wrap_u64]; omega
 have husz:(⟨(ub (v.kids.getD k 0).toNat).toArray⟩:ByteArray).size=(ub (v.kids.getD k 0).toNat).length:=List.size_toArray
 have HF:Hid ((enb v.leaf (mkE v.leaf v.keys v.vals v.kids k key)).length=if v.leaf then (tx key).length+(tx (v.vals.getD k ⟨#[]⟩)).length else (tx key).length+(ub (v.kids.getD k 0).toNat).length):=by
  show _=_
  unfold enb mkE
  cases v.leaf <;> simp
 have HB:Hid (∀ w',Tch [] (w.alloc (.cells #[.bool v.leaf,.slice v.ka v.kn v.kc,.slice v.va v.vn v.vc,.slice v.ia v.im v.ic] 138)) w'→_):=fun w' t=>nvb_cells w v.leaf v.ka v.va v.ia v.kn v.kc v.vn v.vc v.im v.ic t
 have hub:(⟨(ub (v.kids.getD k 0).toNat).toArray⟩:ByteArray).size≤1000:=by rw [husz]; omega
 have HUS:=Lib.hid husz
 clear husz
 rw [ha] at HV HI HB T0 x0 hbl ⊢
 generalize (enb v.leaf (mkE v.leaf v.keys v.vals v.kids k key)).length=r at HF ⊢
 generalize v.vals.getD k ⟨#[]⟩=vl at *
 generalize v.kids.getD k 0=kd at *
 generalize hkn:kd.toNat=kn at *
 generalize (⟨(ub kn).toArray⟩:ByteArray)=us at HU HUS hub
 generalize (tx key).length=lk at HF HK tk
 generalize (tx vl).length=lv at HF HVT tv
 generalize (ub kn).length=lu at HF HUS tu
 generalize v.leaf=leaf at *
 clear ho h hl ha hkn hk
 cases leaf
 · have HR:Hid ((r:Int)=(lk:Int)+(us.size:Int)):=by show _=_; rw [HF.out,HUS.out]; simp
   clear HUS HF tu
   go_enter Tryz.func232,Tryz.ntmps232
   go_wp2_with fail
   refine (HK.out _).mono ?_
   rintro e w1 ⟨rfl,t1⟩
   obtain ⟨c0,c1,c2,c3,clt⟩:=HB.out _ t1
   have T1:=T0.trans t1
   clear t1 T0
   go_wp2_with fail
   refine (HI.out _ T1).mono ?_
   rintro e w2 ⟨rfl,t2⟩
   go_wp2_with fail
   refine (HU.out _).mono ?_
   rintro e w3 ⟨rfl,t3⟩
   go_wp2_with fail
   go_ret
   exact ⟨by rw [HR.out]; rfl,(T1.trans t2).trans t3⟩
 · have HR:Hid ((r:Int)=(lk:Int)+(lv:Int)):=by show _=_; rw [HF.out]; simp
   clear HUS HF tu
   go_enter Tryz.func232,Tryz.ntmps232
   go_wp2_with fail
   refine (HK.out _).mono ?_
   rintro e w1 ⟨rfl,t1⟩
   obtain ⟨c0,c1,c2,c3,clt⟩:=HB.out _ t1
   have T1:=T0.trans t1
   clear t1 T0
   go_wp2_with fail
   refine (HV.out _ T1).mono ?_
   rintro e w2 ⟨rfl,t2⟩
   go_wp2_with fail
   refine (HVT.out _).mono ?_
   rintro e w3 ⟨rfl,t3⟩
   go_wp2_with fail
   go_ret
   exact ⟨by rw [HR.out]; rfl,(T1.trans t2).trans t3⟩
theorem es_get (v:Nv) (k:Nat) (key:ByteArray) (h:v.keys[k]?=some key):v.es[k]?=some (mkE v.leaf v.keys v.vals v.kids k key):=mkN_get _ _ _ _ _ _ h
set_option maxRecDepth 100000 in
theorem nweights_any (v:Nv) (w:World) (h:IsNv w v) (ho:v.Ok) :
 Calls Tryz.prog 208 #[.agg #[.bool v.leaf,.slice v.ka v.kn v.kc,.slice v.va v.vn v.vc,.slice v.ia v.im v.ic]] w fun e w'=>e=.returned (.int .i64 ((v.es.flatMap (enb v.leaf)).length:Nat))∧Tch [] w w':=by
 have T0:Tch [] w (w.alloc (.cells #[.bool v.leaf,.slice v.ka v.kn v.kc,.slice v.va v.vn v.vc,.slice v.ia v.im v.ic] 138)):=(Tch.refl _ _).alloc _
 have HK:Hid (∀ k key w',v.keys[k]?=some key→Tch [] w w'→Calls Tryz.prog 232 _ w' fun e w2=>e=.returned (.int .i64 ((enb v.leaf (mkE v.leaf v.keys v.vals v.kids k key)).length:Nat))∧Tch [] w' w2):=fun k key w' hk t=>nweight_any v k key w' (h.keep0 t) ho hk
 have HB:Hid (∀ w',Tch [] (w.alloc (.cells #[.bool v.leaf,.slice v.ka v.kn v.kc,.slice v.va v.vn v.vc,.slice v.ia v.im v.ic] 138)) w'→_):=fun w' t=>nvb_cells w v.leaf v.ka v.va v.ia v.kn v.kc v.vn v.vc v.im v.ic t
 have hn:v.kn≤100000000:=by have:=h.rk.hlen; have:=ho.lk; omega
 have HLN:Hid (v.kn=v.keys.length):=h.rk.hlen
 have HST:Hid (∀ k key,v.keys[k]?=some key→wsum v.leaf v.es (k+1)=wsum v.leaf v.es k+(enb v.leaf (mkE v.leaf v.keys v.vals v.kids k key)).length):=fun k key hk=>wsum_step _ _ _ _ (es_get v k key hk)
 have HLE:Hid (∀ k,wsum v.leaf v.es k≤1000000000000000000):=fun k=>by
  have h1:=wsum_le v.leaf v.es k
  have h2:=flat_fine (leaf:=v.leaf) (Nv.fine ho)
  have h3:=v.es_len
  have h4:=ho.lk
  have h5:v.es.length * 2000000020≤100000000 * 2000000020:=Nat.mul_le_mul_right _ (by omega)
  omega
 have HAL:Hid (wsum v.leaf v.es v.kn=(v.es.flatMap (enb v.leaf)).length):=by show _=_; rw [← wsum_all,v.es_len,HLN.out]
 have H0:Hid (wsum v.leaf v.es 0=0):=by show _=_; simp [wsum]
 generalize wsum v.leaf v.es=ws at HST HLE HAL H0
 generalize (v.es.flatMap (enb v.leaf)).length=r at HAL ⊢
 generalize v.leaf=leaf at *
 generalize v.kn=kn at *
 clear ho h
 go_enter Tryz.func208,Tryz.ntmps208
 obtain ⟨W1,hW1⟩:∃ W1,W1=w.alloc (.cells #[.bool leaf,.slice v.ka kn v.kc,.slice v.va v.vn v.vc,.slice v.ia v.im v.ic] 138):=⟨_,rfl⟩
 rw [← hW1] at HB T0
 go_wp2_with fail
 rw [← hW1]
 clear hW1
 go_loopw [3,8] (fun v3 v8 wr=>∃ k:Nat,k≤kn∧v8=.int .i64 k∧v3=.int .i64 (ws k:Nat)∧Tch [] W1 wr) (fun _ v8 _=>kn - (intOf v8).toNat)
 case atStart=>exact ⟨0,by omega,rfl,by rw [H0.out]; rfl,Tch.refl _ _⟩
 case round =>
  obtain ⟨k,hk,rfl,rfl,T⟩:=hrel
  obtain ⟨c0,c1,c2,c3,clt⟩:=HB.out _ T
  by_cases hkl:k < kn
  · have hget:v.keys[k]?=some (v.keys[k]'(by rw [← HLN.out]; exact hkl)):=List.getElem?_eq_getElem _
    have HC:=Lib.hid (HK.out k _ wr hget (T0.trans T))
    have hst:=HST.out k _ hget
    have hle:=HLE.out (k+1)
    generalize (enb leaf (mkE leaf v.keys v.vals v.kids k (v.keys[k]'(by rw [← HLN.out]; exact hkl)))).length=m at HC hst
    have HS:Hid ((ws k:Int)+(m:Int)=((ws (k+1):Nat):Int)):=by show _=_; omega
    have hb1:(ws k:Int)+(m:Int)≤1000000000000000000:=by omega
    clear hget hst hle
    go_wp2_with fail
    refine HC.out.mono ?_
    rintro e w2 ⟨rfl,t2⟩
    go_wp2_with fail
    go_roundw
    case rel=>exact ⟨k+1,by omega,by go_num,by rw [HS.out],T.trans t2⟩
    case measure=>simp [intOf]; omega
  · obtain rfl:k=kn:=by omega
    go_wp2_with fail
    go_ret
    exact ⟨by rw [HAL.out]; rfl,T0.trans T⟩
end Go.Proofs.YtlkgnljdpakkcaaGreatDoor
/-
 The bytes that a node begins with,and a node's weight,as package node tells them. Conditions: the lists and texts are short (Nv.Ok).
-/
namespace Go.Proofs.YtlkgnljdpakkcaaGreatDoor
open Go.RowKit
theorem conv_b (g c:Nat) (n:Int) (b:UInt8) (hn:n=b.toNat) (w:World) (h:w.heap[g]?=some (.cells #[.int .u8 n] 5 (0,0))) :
 (convert 216 9 (.slice (some ⟨g,0,none⟩) 1 c)).run Tryz.prog w=.ok (.string ⟨#[b]⟩) w:=by
 subst hn
 rw [run_convert_bytes_string _ _ _ 5 _ _ _ Tryz.underlying216 Tryz.underlying5 Tryz.underlying9]
 have hl:=run_loadCells_list (P:=Tryz.prog) (w:=w) ⟨g,0,none⟩ (([(b.toNat:Int)]).map (Value.int .u8)) (by
  intro j v hj
  rw [add_mk,blk_cell h,Nat.zero_add,List.getElem?_toArray]
  exact hj)
 rw [List.length_map] at hl
 rw [run_bytesToString _ _ 1 c [(b.toNat:Int)] hl]
 rw [show [(b.toNat:Int)]=[b].map fun b=>(b.toNat:Int) from rfl,foldl_push]
 rfl
def hdN (leaf:Bool) (n:Nat):ByteArray:=⟨((if leaf then 1 else 2) :: ub n).toArray⟩
set_option maxRecDepth 100000 in
set_option maxHeartbeats 1000000 in
theorem nbeginning_any (v:Nv) (w:World) (h:IsNv w v) (ho:v.Ok) :
 Calls Tryz.prog 144 #[.agg #[.bool v.leaf,.slice v.ka v.kn v.kc,.slice v.va v.vn v.vc,.slice v.ia v.im v.ic]] w fun e w'=>e=.returned (.string (hdN v.leaf v.keys.length))∧Tch [] w w':=by
 have hl:=h.rk.hlen
 have hle:=ho.lk
 rw [← hl] at hle ⊢
 have HU:=Lib.hid (fun w'=>uint_any v.kn w' (by omega))
 have hcw:IntKind.u64.wrap (v.kn:Int)=(v.kn:Int):=by rw [IntKind.wrap_u64]; omega
 have hl9:=ub_len 9 v.kn (by simp; omega)
 have hsz:(⟨(ub v.kn).toArray⟩:ByteArray).size=(ub v.kn).length:=List.size_toArray
 have HF:Hid (hdN v.leaf v.kn=(if v.leaf then (⟨#[1]⟩:ByteArray) else ⟨#[2]⟩)++⟨(ub v.kn).toArray⟩):=by
  show _=_
  unfold hdN
  cases v.leaf
  · exact (jjoin [2] (ub v.kn)).symm
  · exact (jjoin [1] (ub v.kn)).symm
 have hub:(⟨(ub v.kn).toArray⟩:ByteArray).size≤1000:=by rw [hsz]; omega
 clear hsz hl9
 generalize (⟨(ub v.kn).toArray⟩:ByteArray)=u at HU hub HF
 generalize hdN v.leaf v.kn=r at HF ⊢
 generalize hkn:v.kn=kn at *
 generalize v.leaf=leaf at *
 clear ho h hl hkn
 cases leaf
 · have T0:Tch [] w ((w.alloc (.cells #[.bool false,.slice v.ka kn v.kc,.slice v.va v.vn v.vc,.slice v.ia v.im v.ic] 138)).alloc (.cells #[.int .u8 2] 5)):=((Tch.refl _ _).alloc _).alloc _
   have hb:((w.alloc (.cells #[.bool false,.slice v.ka kn v.kc,.slice v.va v.vn v.vc,.slice v.ia v.im v.ic] 138)).alloc (.cells #[.int .u8 2] 5)).heap[w.heap.size]?=some _:=blk_alloc (blk_new w _) _
   have hg:((w.alloc (.cells #[.bool false,.slice v.ka kn v.kc,.slice v.va v.vn v.vc,.slice v.ia v.im v.ic] 138)).alloc (.cells #[.int .u8 2] 5)).heap[w.heap.size+1]?=some (.cells #[.int .u8 2] 5 (0,0)):=by
    rw [show w.heap.size+1=(w.alloc (.cells #[.bool false,.slice v.ka kn v.kc,.slice v.va v.vn v.vc,.slice v.ia v.im v.ic] 138)).heap.size from by simp]; exact blk_new _ _
   obtain ⟨W2,hW2⟩:∃ W2,W2=(w.alloc (.cells #[.bool false,.slice v.ka kn v.kc,.slice v.va v.vn v.vc,.slice v.ia v.im v.ic] 138)).alloc (.cells #[.int .u8 2] 5):=⟨_,rfl⟩
   rw [← hW2] at T0 hb hg
   go_enter Tryz.func144,Tryz.ntmps144
   go_wp2_with fail
   rw [← hW2]
   clear hW2
   have HCV:Hid (∀ w',Tch [] W2 w'→(convert 216 9 (.slice (some ⟨w.heap.size+1,0,none⟩) 1 1)).run Tryz.prog w'=.ok (.string ⟨#[2]⟩) w'∧w'.cell? ⟨w.heap.size,1,none⟩=some (.slice v.ka kn v.kc)):=fun w' t=>⟨conv_b _ _ _ 2 rfl w' (t.keep hg (by simp)),blk_cell (t.keep hb (by simp)) 1⟩
   obtain ⟨k1,k2⟩:=HCV.out _ (Tch.refl [] W2).drew
   clear hb hg
   go_region_with (go_at_call 134; refine (HU.out _).mono ?_; rintro e w3 ⟨rfl,t3⟩; have T3:=T0.drew.trans t3; obtain ⟨k3,k4⟩:=HCV.out w3 ((Tch.refl [] W2).drew.trans t3); clear t3)
   all_goals
    go_wp2
    go_ret
    exact ⟨by rw [HF.out]; rfl,T3⟩
 · have T0:Tch [] w ((w.alloc (.cells #[.bool true,.slice v.ka kn v.kc,.slice v.va v.vn v.vc,.slice v.ia v.im v.ic] 138)).alloc (.cells #[.int .u8 1] 5)):=((Tch.refl _ _).alloc _).alloc _
   have hb:((w.alloc (.cells #[.bool true,.slice v.ka kn v.kc,.slice v.va v.vn v.vc,.slice v.ia v.im v.ic] 138)).alloc (.cells #[.int .u8 1] 5)).heap[w.heap.size]?=some _:=blk_alloc (blk_new w _) _
   have hg:((w.alloc (.cells #[.bool true,.slice v.ka kn v.kc,.slice v.va v.vn v.vc,.slice v.ia v.im v.ic] 138)).alloc (.cells #[.int .u8 1] 5)).heap[w.heap.size+1]?=some (.cells #[.int .u8 1] 5 (0,0)):=by
    rw [show w.heap.size+1=(w.alloc (.cells #[.bool true,.slice v.ka kn v.kc,.slice v.va v.vn v.vc,.slice v.ia v.im v.ic] 138)).heap.size from by simp]; exact blk_new _ _
   obtain ⟨W2,hW2⟩:∃ W2,W2=(w.alloc (.cells #[.bool true,.slice v.ka kn v.kc,.slice v.va v.vn v.vc,.slice v.ia v.im v.ic] 138)).alloc (.cells #[.int .u8 1] 5):=⟨_,rfl⟩
   rw [← hW2] at T0 hb hg
   go_enter Tryz.func144,Tryz.ntmps144
   go_wp2_with fail
   rw [← hW2]
   clear hW2
   have HCV:Hid (∀ w',Tch [] W2 w'→(convert 216 9 (.slice (some ⟨w.heap.size+1,0,none⟩) 1 1)).run Tryz.prog w'=.ok (.string ⟨#[1]⟩) w'∧w'.cell? ⟨w.heap.size,1,none⟩=some (.slice v.ka kn v.kc)):=fun w' t=>⟨conv_b _ _ _ 1 rfl w' (t.keep hg (by simp)),blk_cell (t.keep hb (by simp)) 1⟩
   obtain ⟨k1,k2⟩:=HCV.out _ (Tch.refl [] W2).drew
   clear hb hg
   go_region_with (go_at_call 134; refine (HU.out _).mono ?_; rintro e w3 ⟨rfl,t3⟩; have T3:=T0.drew.trans t3; obtain ⟨k3,k4⟩:=HCV.out w3 ((Tch.refl [] W2).drew.trans t3); clear t3)
   all_goals
    go_wp2
    go_ret
    exact ⟨by rw [HF.out]; rfl,T3⟩
theorem ndb_head (v:Nv):(ndb v.leaf v.es).length=(hdN v.leaf v.keys.length).size+(v.es.flatMap (enb v.leaf)).length:=by
 have:(hdN v.leaf v.keys.length).size=(ub v.keys.length).length+1:=by
  unfold hdN
  show (List.toArray _).size=_
  rw [List.size_toArray,List.length_cons]
 rw [this,← v.es_len]
 unfold ndb
 simp only [List.length_cons,List.length_append]
 omega
set_option maxRecDepth 100000 in
theorem weight_any:WeiSpec:=by
 intro v w h ho hc
 have T0:Tch [] w (w.alloc (.cells #[.bool v.leaf,.slice v.ka v.kn v.kc,.slice v.va v.vn v.vc,.slice v.ia v.im v.ic] 138)):=(Tch.refl _ _).alloc _
 have HN:Hid (∀ w',Tch [] w w'→Calls Tryz.prog 144 _ w' fun e w2=>e=.returned (.string (hdN v.leaf v.keys.length))∧Tch [] w' w2):=fun w' t=>nbeginning_any v w' (h.keep0 t) ho
 have HW:Hid (∀ w',Tch [] w w'→Calls Tryz.prog 208 _ w' fun e w2=>e=.returned (.int .i64 ((v.es.flatMap (enb v.leaf)).length:Nat))∧Tch [] w' w2):=fun w' t=>nweights_any v w' (h.keep0 t) ho
 have HB:Hid (∀ w',Tch [] (w.alloc (.cells #[.bool v.leaf,.slice v.ka v.kn v.kc,.slice v.va v.vn v.vc,.slice v.ia v.im v.ic] 138)) w'→_):=fun w' t=>nvb_cells w v.leaf v.ka v.va v.ia v.kn v.kc v.vn v.vc v.im v.ic t
 have hsm:=ndb_small (leaf:=v.leaf) (Nv.fine ho) (by rw [v.es_len]; exact ho.lk)
 have hhd:=ndb_head v
 have HF:Hid (((hdN v.leaf v.keys.length).size:Int)+((v.es.flatMap (enb v.leaf)).length:Nat)=((ndb v.leaf v.es).length:Nat)):=by show _=_; omega
 have hb1:((hdN v.leaf v.keys.length).size:Int)+((v.es.flatMap (enb v.leaf)).length:Nat)≤1000000000000000000:=by omega
 generalize hdN v.leaf v.keys.length=hd at HN HF hb1
 generalize (v.es.flatMap (enb v.leaf)).length=m at HW HF hb1
 generalize (ndb v.leaf v.es).length=r at HF ⊢
 have hwr:IntKind.i64.wrap ((hd.size:Int)+(m:Int))=(hd.size:Int)+(m:Int):=IntWalk.i64_in _ (by omega)
 clear hsm hhd h ho hc
 obtain ⟨W1,hW1⟩:∃ W1,W1=w.alloc (.cells #[.bool v.leaf,.slice v.ka v.kn v.kc,.slice v.va v.vn v.vc,.slice v.ia v.im v.ic] 138):=⟨_,rfl⟩
 rw [← hW1] at HB T0
 go_enter Tryz.func176,Tryz.ntmps176
 go_wp2_with fail
 rw [← hW1]
 clear hW1
 have HC:Hid (∀ w',Tch [] W1.drew w'→w'.cell? ⟨w.heap.size,0,none⟩=some (.bool v.leaf)∧w'.cell? ⟨w.heap.size,1,none⟩=some (.slice v.ka v.kn v.kc)∧w'.cell? ⟨w.heap.size,2,none⟩=some (.slice v.va v.vn v.vc)∧w'.cell? ⟨w.heap.size,3,none⟩=some (.slice v.ia v.im v.ic)):=fun w' t=>by
  obtain ⟨c0,c1,c2,c3,_⟩:=HB.out w' ((Tch.refl [] W1).drew.trans t)
  exact ⟨c0,c1,c2,c3⟩
 have HT:Hid (∀ w',Tch [] W1.drew w'→Tch [] w w'):=fun w' t=>T0.drew.trans t
 go_region_held3 (fun w'=>w'.cell? ⟨w.heap.size,0,none⟩=some (.bool v.leaf)∧w'.cell? ⟨w.heap.size,1,none⟩=some (.slice v.ka v.kn v.kc)∧w'.cell? ⟨w.heap.size,2,none⟩=some (.slice v.va v.vn v.vc)∧w'.cell? ⟨w.heap.size,3,none⟩=some (.slice v.ia v.im v.ic))
  (first | exact HC.out _ t8 | exact HC.out _ t7 | exact HC.out _ (Tch.refl _ _))
  (first | (go_at_call 144; (with_reducible refine (HN.out _ (HT.out _ (Tch.refl _ _))).mono ?_); rintro e w7 ⟨rfl,t7⟩) | (go_at_call 208; (with_reducible refine (HW.out _ (HT.out _ t7)).mono ?_); rintro e w8 ⟨rfl,t8a⟩; have t8:=t7.trans t8a))
 have T8:=HT.out _ t8
 go_wp2_with fail
 go_ret
 exact ⟨by rw [HF.out]; rfl,T8⟩
end Go.Proofs.YtlkgnljdpakkcaaGreatDoor
/-
 The law NodeGuides,walked: it answers true and turns nothing that was there,if package node answers as the document has it. Condition: lists and texts of fewer than 10^7 parts.
-/
namespace Go.Proofs.YtlkgnljdpakkcaaGreatDoor
open Go.RowKit
theorem less_tri:∀ a b:List UInt8,Go.Op.bytesLess a b=false→Go.Op.bytesLess b a=false→a=b
 | [],[],_,_=>rfl
 | [],b :: y,h,_=>by simp [Go.Op.bytesLess] at h
 | a :: x,[],_,h=>by simp [Go.Op.bytesLess] at h
 | a :: x,b :: y,h1,h2=>by
  simp only [Go.Op.bytesLess,Bool.or_eq_false_iff,Bool.and_eq_false_iff,decide_eq_false_iff_not] at h1 h2
  have hab:a=b:=UInt8.toNat_inj.1 (by
   have h3:=h1.1; have h4:=h2.1
   rw [UInt8.lt_iff_toNat_lt] at h3 h4
   omega)
  subst hab
  rw [less_tri x y (by rcases h1.2 with h | h; simp at h; exact h) (by rcases h2.2 with h | h; simp at h; exact h)]
theorem slt_of {a b:ByteArray} (h:sle b a=false):slt a b=true:=by
 unfold sle slt at h
 rw [Bool.or_eq_false_iff] at h
 by_cases hs:Go.Op.bytesLess a.toList b.toList=true
 · exact hs
 · have:=less_tri a.toList b.toList (by simpa using hs) h.1
   have h2:=h.2
   rw [this] at h2
   simp at h2
theorem plc_spec (key:ByteArray):∀ (es:List En) (at_ k:Nat),(plcE key at_ k es=at_∨∃ j:Nat,∃ e:En,plcE key at_ k es=k+j∧es[j]?=some e∧sle e.key key=true)∧∀ (j:Nat) e,es[j]?=some e→(plcE key at_ k es < k+j∨(plcE key at_ k es=at_∧at_ < k∧plcE key at_ k es < k+j))→sle e.key key=false
 | [],at_,k=>⟨Or.inl rfl,fun j e h=>by simp at h⟩
 | e :: es,at_,k=>by
  rw [plcE]
  obtain ⟨i1,i2⟩:=plc_spec key es (if sle e.key key then k else at_) (k+1)
  refine ⟨?_,fun j e' hj hlt=>?_⟩
  · rcases i1 with h | ⟨j,e',h1,h2,h3⟩
    · by_cases hs:sle e.key key=true
      · right; exact ⟨0,e,by rw [h,if_pos hs]; omega,rfl,hs⟩
      · left; rw [h,if_neg hs]
    · right; exact ⟨j+1,e',by omega,by simpa using h2,h3⟩
  · match j,hj with
    | 0,hj =>
     simp at hj; subst hj
     by_cases hs:sle e.key key=true
     · exfalso
       rw [if_pos hs] at hlt i1
       rcases i1 with h | ⟨j,e',h1,_⟩ <;> omega
     · simpa using hs
    | j+1,hj =>
     exact i2 j e' (by simpa using hj) (Or.inl (by omega))
theorem plcN_spec (es:List En) (key:ByteArray):(plcN es key=0∨∃ e,es[plcN es key]?=some e∧sle e.key key=true)∧(∀ (i:Nat) e,plcN es key < i→es[i]?=some e→sle e.key key=false)∧(0 < es.length→plcN es key < es.length):=by
 obtain ⟨h1,h2⟩:=plc_spec key es 0 0
 unfold plcN
 refine ⟨?_,fun i e hi he=>h2 i e he (Or.inl (by omega)),fun hl=>?_⟩
 · rcases h1 with h | ⟨j,e,ha,hb,hc⟩
   · exact Or.inl h
   · right; rw [ha,Nat.zero_add]; exact ⟨e,hb,hc⟩
 · rcases h1 with h | ⟨j,e,ha,hb,hc⟩
   · rw [h]; exact hl
   · rw [ha,Nat.zero_add]; exact (List.getElem?_eq_some_iff.1 hb).1
end Go.Proofs.YtlkgnljdpakkcaaGreatDoor
/-
 Which nodes are fit,as package node tells it. Conditions: the lists and texts are short (Nv.Ok).
-/
namespace Go.Proofs.YtlkgnljdpakkcaaGreatDoor
open Go.RowKit
theorem less_no:∀ (x y:List UInt8),Go.Op.bytesLess x y=true→Go.Op.bytesLess y x=false∧(y == x)=false:=by
 intro x
 induction x with
 | nil=>intro y h; cases y with
  | nil=>simp [Go.Op.bytesLess] at h
  | cons b y=>exact ⟨by simp [Go.Op.bytesLess],by simp⟩
 | cons a x ih=>intro y h; cases y with
  | nil=>simp [Go.Op.bytesLess] at h
  | cons b y =>
   simp only [Go.Op.bytesLess] at h ⊢
   by_cases hab:a < b
   · have h1:¬ b < a:=by intro h2; exact absurd (UInt8.lt_trans hab h2) (UInt8.lt_irrefl _)
     have h3:¬ b=a:=by intro h2; subst h2; exact absurd hab (UInt8.lt_irrefl _)
     simp [h1,h3]
   · simp [hab] at h
     obtain ⟨rfl,h⟩:=h
     have:=ih y h
     have h1:¬ a < a:=UInt8.lt_irrefl _
     simp [h1,this.1]
     simpa using this.2
theorem sle_slt (k p:ByteArray):sle k p=!slt p k:=by
 cases h:slt p k
 · cases h2:sle k p
   · have:=slt_of h2; rw [h] at this; cases this
   · rfl
 · have:=less_no _ _ h
   unfold sle slt
   rw [this.1,this.2]
   rfl
def kOk:Option ByteArray→List ByteArray→Bool
 | _,[]=>true
 | prev,k :: ks=>decide (1≤k.size) && decide (k.size≤48) && (match prev with | none=>true | some p=>slt p k) && kOk (some k) ks
def vOk (l:List ByteArray):Bool:=l.all fun x=>decide (x.size≤200)
def iOk (l:List Int):Bool:=l.all fun x=>decide (1≤x) && decide (x < 16384)
theorem mkN_leaf (keys vals:List ByteArray) (kids:List Int) (h:vals.length=keys.length):mkN true keys vals kids=List.zipWith (fun k x=>(⟨k,x,0⟩:En)) keys vals:=by
 apply List.ext_getElem?
 intro k
 rcases hk:keys[k]? with _ | key
 · have h1:keys.length≤k:=List.getElem?_eq_none_iff.1 hk
   rw [List.getElem?_eq_none (by rw [mkN_len]; exact h1),List.getElem?_eq_none (by rw [List.length_zipWith]; omega)]
 · have hlt:=(List.getElem?_eq_some_iff.1 hk).1
   rw [mkN_get _ _ _ _ _ _ hk,List.getElem?_zipWith,hk,List.getElem?_eq_getElem (by omega:k < vals.length)]
   simp [mkE,h,hlt]
theorem mkN_kids (keys vals:List ByteArray) (kids:List Int) (h:kids.length=keys.length):mkN false keys vals kids=List.zipWith (fun k x=>(⟨k,⟨#[]⟩,x⟩:En)) keys kids:=by
 apply List.ext_getElem?
 intro k
 rcases hk:keys[k]? with _ | key
 · have h1:keys.length≤k:=List.getElem?_eq_none_iff.1 hk
   rw [List.getElem?_eq_none (by rw [mkN_len]; exact h1),List.getElem?_eq_none (by rw [List.length_zipWith]; omega)]
 · have hlt:=(List.getElem?_eq_some_iff.1 hk).1
   rw [mkN_get _ _ _ _ _ _ hk,List.getElem?_zipWith,hk,List.getElem?_eq_getElem (by omega:k < kids.length)]
   simp [mkE,h,hlt]
theorem fit_leaf:∀ (keys vals:List ByteArray) (prev:Option ByteArray),vals.length=keys.length→fitFrom true prev (List.zipWith (fun k x=>(⟨k,x,0⟩:En)) keys vals)=(kOk prev keys && vOk vals)
 | [],[],prev,h=>by cases prev <;> rfl
 | [],x :: vals,prev,h=>by simp at h
 | k :: keys,[],prev,h=>by simp at h
 | k :: keys,x :: vals,prev,h=>by
  have ih:=fit_leaf keys vals (some k) (by simpa using h)
  have hv:vOk (x :: vals)=(decide (x.size≤200) && vOk vals):=by simp [vOk]
  rw [List.zipWith_cons_cons,hv]
  cases prev with
  | none =>
   simp only [fitFrom,kOk]
   rw [ih]
   simp only [fitE,if_true]
   cases decide (1≤k.size) <;> cases decide (k.size≤48) <;> cases decide (x.size≤200) <;> cases kOk (some k) keys <;> cases vOk vals <;> rfl
  | some p =>
   simp only [fitFrom,kOk]
   rw [ih,sle_slt]
   simp only [fitE,if_true,Bool.not_not]
   cases decide (1≤k.size) <;> cases decide (k.size≤48) <;> cases decide (x.size≤200) <;> cases kOk (some k) keys <;> cases vOk vals <;> cases slt p k <;> rfl
theorem fit_kids:∀ (keys:List ByteArray) (kids:List Int) (prev:Option ByteArray),kids.length=keys.length→fitFrom false prev (List.zipWith (fun k x=>(⟨k,⟨#[]⟩,x⟩:En)) keys kids)=(kOk prev keys && iOk kids)
 | [],[],prev,h=>by cases prev <;> rfl
 | [],x :: kids,prev,h=>by simp at h
 | k :: keys,[],prev,h=>by simp at h
 | k :: keys,x :: kids,prev,h=>by
  have ih:=fit_kids keys kids (some k) (by simpa using h)
  have hv:iOk (x :: kids)=(decide (1≤x) && decide (x < 16384) && iOk kids):=by simp [iOk]
  rw [List.zipWith_cons_cons,hv]
  cases prev with
  | none =>
   simp only [fitFrom,kOk]
   rw [ih]
   simp only [fitE,if_false,Bool.false_eq_true]
   cases decide (1≤k.size) <;> cases decide (k.size≤48) <;> cases decide (1≤x) <;> cases decide (x < 16384) <;> cases kOk (some k) keys <;> cases iOk kids <;> rfl
  | some p =>
   simp only [fitFrom,kOk]
   rw [ih,sle_slt]
   simp only [fitE,if_false,Bool.false_eq_true,Bool.not_not]
   cases decide (1≤k.size) <;> cases decide (k.size≤48) <;> cases decide (1≤x) <;> cases decide (x < 16384) <;> cases kOk (some k) keys <;> cases iOk kids <;> cases slt p k <;> rfl
theorem fits_leaf (v:Nv) (h:v.leaf=true):v.fits=(kOk none v.keys && (v.kids.length == 0 && (vOk v.vals && v.vals.length == v.keys.length)) && decide ((ndb v.leaf v.es).length≤1024)):=by
 unfold Nv.fits Nv.lens fitN
 rw [h]
 simp only [↓reduceIte,Bool.true_or,Bool.and_true]
 by_cases h1:v.vals.length=v.keys.length
 · have he:v.es=List.zipWith (fun k x=>(⟨k,x,0⟩:En)) v.keys v.vals:=by unfold Nv.es; rw [h,mkN_leaf _ _ _ h1]
   have hf:=fit_leaf v.keys v.vals none h1
   rw [← he] at hf
   rw [hf,h1]
   cases kOk none v.keys <;> cases vOk v.vals <;> cases (v.kids.length == 0) <;> simp
 · have h2:(v.vals.length == v.keys.length)=false:=by simpa using h1
   rw [h2]
   simp
theorem fits_kids (v:Nv) (h:v.leaf=false):v.fits=(kOk none v.keys && (v.vals.length == 0 && (iOk v.kids && v.kids.length == v.keys.length && decide (0 < v.keys.length))) && decide ((ndb v.leaf v.es).length≤1024)):=by
 unfold Nv.fits Nv.lens fitN
 rw [h]
 simp only [↓reduceIte,Bool.false_eq_true,Bool.false_or]
 by_cases h1:v.kids.length=v.keys.length
 · have he:v.es=List.zipWith (fun k x=>(⟨k,⟨#[]⟩,x⟩:En)) v.keys v.kids:=by unfold Nv.es; rw [h,mkN_kids _ _ _ h1]
   have hf:=fit_kids v.keys v.kids none h1
   rw [← he] at hf
   rw [hf,h1,v.es_len]
   cases kOk none v.keys <;> cases iOk v.kids <;> cases (v.vals.length == 0) <;> cases decide (0 < v.keys.length) <;> simp
 · have h2:(v.kids.length == v.keys.length)=false:=by simpa using h1
   rw [h2]
   simp
def prevO (keys:List ByteArray) (k:Nat):Option ByteArray:=if k=0 then none else keys[k - 1]?
theorem kok_step (keys:List ByteArray) (k:Nat) (key:ByteArray) (h:keys[k]?=some key):kOk (prevO keys k) (keys.drop k)=(decide (1≤key.size) && decide (key.size≤48) && (match prevO keys k with | none=>true | some p=>slt p key) && kOk (some key) (keys.drop (k+1))):=by
 obtain ⟨hk,he⟩:=List.getElem?_eq_some_iff.1 h
 rw [List.drop_eq_getElem_cons hk,he]
 generalize prevO keys k=p
 cases p <;> rfl
theorem prevO_succ (keys:List ByteArray) (k:Nat) (key:ByteArray) (h:keys[k]?=some key):prevO keys (k+1)=some key:=by simp [prevO,h]
set_option maxRecDepth 100000 in
set_option maxHeartbeats 1000000 in
theorem nareKeys_any (a:Option Addr) (n c b o:Nat) (keys:List ByteArray) (w:World) (h:IsR fStr 1 w a n b o keys) (hn:keys.length≤1000000000) (hs:∀ x ∈ keys,x.size≤1000000000) :
 Calls Tryz.prog 173 #[.slice a n c] w fun e w'=>e=.returned (.bool (kOk none keys))∧Tch [] w w':=by
 obtain rfl:=h.hlen
 go_enter Tryz.func173,Tryz.ntmps173
 go_wp2_with fail
 go_loopw [7] (fun v7 wr=>∃ k:Nat,k≤keys.length∧v7=.int .i64 k∧kOk none keys=kOk (prevO keys k) (keys.drop k)∧Tch [] w wr) (fun v7 _=>keys.length - (intOf v7).toNat)
 case atStart=>exact ⟨0,by omega,rfl,rfl,Tch.refl _ _⟩
 case round =>
  obtain ⟨k,hk,rfl,hok,T⟩:=hrel
  by_cases hkl:k < keys.length
  · have hget:=List.getElem?_eq_getElem hkl
    have hr:=h.keep0 T
    have ha:=hr.some_ (by omega)
    have hbl:=hr.lt (by omega)
    have x0:=hr.one hget (v:=.string keys[k]) rfl
    have hst:=hok.trans (kok_step keys k _ hget)
    have hps:=prevO_succ keys k _ hget
    have hsz:=hs _ (List.getElem_mem hkl)
    subst ha
    generalize keys[k]=key at *
    have HST:=Lib.hid hst
    have HPS:=Lib.hid hps
    clear hget hr hst hps hok hs
    by_cases hz:key.size=0
    · have hd0:key.toList.isEmpty=true:=by rw [ByteArray.toList_eq,List.isEmpty_iff,← List.length_eq_zero_iff,← Lib.size_eq]; exact hz
      have HR:Hid (kOk none keys=false):=by show _=_; rw [HST.out]; simp [hz]
      go_wp2_with fail
      go_ret
      exact ⟨by rw [HR.out]; rfl,T⟩
    have hd0:key.toList.isEmpty=false:=by
     rw [ByteArray.toList_eq]
     cases h0:key.data.toList.isEmpty
     · rfl
     · rw [List.isEmpty_iff,← List.length_eq_zero_iff,← Lib.size_eq] at h0; omega
    by_cases h48:48 < key.size
    · have hd1:decide (48 < key.size)=true:=decide_eq_true h48
      have hd1i:decide ((48:Int) < (key.size:Int))=true:=decide_eq_true (by omega)
      have HR:Hid (kOk none keys=false):=by show _=_; rw [HST.out]; simp [show ¬ key.size≤48 from by omega]
      go_wp2_with fail
      go_ret
      exact ⟨by rw [HR.out]; rfl,T⟩
    have hd1:decide (48 < key.size)=false:=decide_eq_false h48
    have hd1i:decide ((48:Int) < (key.size:Int))=false:=decide_eq_false (by omega)
    by_cases hk0:k=0
    · have hc0:decide (0 < k)=false:=decide_eq_false (by omega)
      have hc0i:decide ((0:Int) < (k:Int))=false:=decide_eq_false (by omega)
      have HR:Hid (kOk none keys=kOk (prevO keys (k+1)) (keys.drop (k+1))):=by show _=_; rw [HST.out,HPS.out]; simp [prevO,hk0,show 1≤key.size from by omega,show key.size≤48 from by omega]
      clear HST hk0
      go_wp2_with fail
      go_roundw
      case rel=>exact ⟨k+1,by omega,by go_num,HR.out,T⟩
      case measure=>simp [intOf]; omega
    have hkm:k - 1 < keys.length:=by omega
    have hgp:=List.getElem?_eq_getElem hkm
    have y0:=(h.keep0 T).one hgp (v:=.string keys[k - 1]) rfl
    have hpo:prevO keys k=some keys[k - 1]:=by unfold prevO; rw [if_neg hk0,hgp]
    rw [hpo] at HST
    generalize keys[k - 1]=prev at *
    clear hgp hpo
    have hc0:decide (0 < k)=true:=decide_eq_true (by omega)
    have hc0i:decide ((0:Int) < (k:Int))=true:=decide_eq_true (by omega)
    have hI3:(0:Int)≤(k:Int) - 1:=by omega
    have hI4:(k:Int) - 1 < (keys.length:Int):=by omega
    cases hl:slt prev key
    · have hl2:Go.Op.bytesLess prev.toList key.toList=false:=hl
      have HR:Hid (kOk none keys=false):=by show _=_; rw [HST.out]; simp [hl]
      clear HST hl h
      go_wp2_with fail
      go_ret
      exact ⟨by rw [HR.out]; rfl,T⟩
    · have hl2:Go.Op.bytesLess prev.toList key.toList=true:=hl
      have HR:Hid (kOk none keys=kOk (prevO keys (k+1)) (keys.drop (k+1))):=by show _=_; rw [HST.out,HPS.out]; simp [hl,show 1≤key.size from by omega,show key.size≤48 from by omega]
      clear HST hl h
      go_wp2_with fail
      go_roundw
      case rel=>exact ⟨k+1,by omega,by go_num,HR.out,T⟩
      case measure=>simp [intOf]; omega
  · obtain rfl:k=keys.length:=by omega
    have HR:Hid (kOk none keys=true):=by show _=_; rw [hok,List.drop_length]; cases prevO keys keys.length <;> rfl
    clear hok h
    go_wp2_with fail
    go_ret
    exact ⟨by rw [HR.out]; rfl,T⟩
theorem ibeq (a b:Nat):(((a:Nat):Int) == ((b:Nat):Int))=(a == b):=by
 by_cases h:a=b
 · subst h; simp
 · have h1:(a == b)=false:=by simpa using h
   rw [h1,beq_eq_false_iff_ne]; omega
set_option maxRecDepth 100000 in
theorem nareValues_any (a:Option Addr) (n c b o:Nat) (vals:List ByteArray) (m:Nat) (w:World) (h:IsR fStr 1 w a n b o vals) (hn:vals.length≤1000000000) (hm:m≤1000000000) :
 Calls Tryz.prog 174 #[.slice a n c,.int .i64 m] w fun e w'=>e=.returned (.bool (vOk vals && vals.length == m))∧Tch [] w w':=by
 obtain rfl:=h.hlen
 go_enter Tryz.func174,Tryz.ntmps174
 go_wp2_with fail
 go_loopw [9] (fun v9 wr=>∃ k:Nat,k≤vals.length∧v9=.int .i64 k∧vOk vals=vOk (vals.drop k)∧Tch [] w wr) (fun v9 _=>vals.length - (intOf v9).toNat)
 case atStart=>exact ⟨0,by omega,rfl,rfl,Tch.refl _ _⟩
 case round =>
  obtain ⟨k,hk,rfl,hok,T⟩:=hrel
  by_cases hkl:k < vals.length
  · have hget:=List.getElem?_eq_getElem hkl
    have hr:=h.keep0 T
    have ha:=hr.some_ (by omega)
    have hbl:=hr.lt (by omega)
    have x0:=hr.one hget (v:=.string vals[k]) rfl
    have hst:vOk vals=(decide (vals[k].size≤200) && vOk (vals.drop (k+1))):=by rw [hok,List.drop_eq_getElem_cons hkl]; rfl
    subst ha
    generalize vals[k]=x at *
    have HST:=Lib.hid hst
    clear hget hr hst hok h
    by_cases hz:200 < x.size
    · have hd1:decide (200 < x.size)=true:=decide_eq_true hz
      have hd1i:decide ((200:Int) < (x.size:Int))=true:=decide_eq_true (by omega)
      have HR:Hid ((vOk vals && vals.length == m)=false):=by show _=_; rw [HST.out]; simp [show ¬ x.size≤200 from by omega]
      go_wp2_with fail
      go_ret
      exact ⟨by rw [HR.out]; rfl,T⟩
    · have hd1:decide (200 < x.size)=false:=decide_eq_false hz
      have hd1i:decide ((200:Int) < (x.size:Int))=false:=decide_eq_false (by omega)
      have HR:Hid (vOk vals=vOk (vals.drop (k+1))):=by show _=_; rw [HST.out]; simp [show x.size≤200 from by omega]
      clear HST
      go_wp2_with fail
      go_roundw
      case rel=>exact ⟨k+1,by omega,by go_num,HR.out,T⟩
      case measure=>simp [intOf]; omega
  · obtain rfl:k=vals.length:=by omega
    have HR:Hid (vOk vals=true):=by show _=_; rw [hok,List.drop_length]; rfl
    clear hok h
    go_wp2_with fail
    go_ret
    refine ⟨?_,T⟩
    rw [HR.out]
    simp [ibeq]
set_option maxRecDepth 100000 in
theorem nareKids_any (a:Option Addr) (n c b o:Nat) (kids:List Int) (m:Nat) (w:World) (h:IsR fInt 1 w a n b o kids) (hn:kids.length≤1000000000) (hm:m≤1000000000) :
 Calls Tryz.prog 175 #[.slice a n c,.int .i64 m] w fun e w'=>e=.returned (.bool (iOk kids && kids.length == m && decide (0 < m)))∧Tch [] w w':=by
 obtain rfl:=h.hlen
 go_enter Tryz.func175,Tryz.ntmps175
 go_wp2_with fail
 go_loopw [9] (fun v9 wr=>∃ k:Nat,k≤kids.length∧v9=.int .i64 k∧iOk kids=iOk (kids.drop k)∧Tch [] w wr) (fun v9 _=>kids.length - (intOf v9).toNat)
 case atStart=>exact ⟨0,by omega,rfl,rfl,Tch.refl _ _⟩
 case round =>
  obtain ⟨k,hk,rfl,hok,T⟩:=hrel
  by_cases hkl:k < kids.length
  · have hget:=List.getElem?_eq_getElem hkl
    have hr:=h.keep0 T
    have ha:=hr.some_ (by omega)
    have hbl:=hr.lt (by omega)
    have x0:=hr.one hget (v:=.int .i64 kids[k]) rfl
    have hst:iOk kids=(decide (1≤kids[k]) && decide (kids[k] < 16384) && iOk (kids.drop (k+1))):=by rw [hok,List.drop_eq_getElem_cons hkl]; rfl
    subst ha
    generalize kids[k]=x at *
    have HST:=Lib.hid hst
    clear hget hr hst hok h
    by_cases hz:x < 1
    · have hd1:decide (x < 1)=true:=decide_eq_true hz
      have HR:Hid ((iOk kids && kids.length == m && decide (0 < m))=false):=by show _=_; rw [HST.out]; simp [show ¬ 1≤x from by omega]
      go_wp2_with fail
      go_ret
      exact ⟨by rw [HR.out]; rfl,T⟩
    have hd1:decide (x < 1)=false:=decide_eq_false hz
    by_cases hy:16383 < x
    · have hd2:decide (16383 < x)=true:=decide_eq_true hy
      have HR:Hid ((iOk kids && kids.length == m && decide (0 < m))=false):=by show _=_; rw [HST.out]; simp [show ¬ x < 16384 from by omega]
      go_wp2_with fail
      go_ret
      exact ⟨by rw [HR.out]; rfl,T⟩
    · have hd2:decide (16383 < x)=false:=decide_eq_false hy
      have HR:Hid (iOk kids=iOk (kids.drop (k+1))):=by show _=_; rw [HST.out]; simp [show 1≤x from by omega,show x < 16384 from by omega]
      clear HST
      go_wp2_with fail
      go_roundw
      case rel=>exact ⟨k+1,by omega,by go_num,HR.out,T⟩
      case measure=>simp [intOf]; omega
  · obtain rfl:k=kids.length:=by omega
    have HR:Hid (iOk kids=true):=by show _=_; rw [hok,List.drop_length]; rfl
    clear hok h
    by_cases hm2:kids.length=m
    · subst hm2
      go_wp2_with fail
      go_ret
      refine ⟨?_,T⟩
      rw [HR.out]
      simp
    · have hd3:(((kids.length:Nat):Int) == ((m:Nat):Int))=false:=by rw [ibeq]; simpa using hm2
      have hd4:(kids.length == m)=false:=by simpa using hm2
      go_wp2_with fail
      go_ret
      refine ⟨?_,T⟩
      rw [HR.out,hd4]
      rfl
end Go.Proofs.YtlkgnljdpakkcaaGreatDoor
