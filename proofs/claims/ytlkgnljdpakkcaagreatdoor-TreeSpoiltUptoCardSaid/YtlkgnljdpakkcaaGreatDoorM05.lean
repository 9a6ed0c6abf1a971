/-
  Parts of the proof: Nwi, No, Nak, Nal, Npa.
-/
import Derived.Test.YtlkgnljdpakkcaaGreatDoorM04
import Derived.StillTailTactics
import Derived.Deep.RegionHeld3
import Derived.Deep.RegionLaw
import Derived.Deep.CutRange
set_option linter.unusedVariables false
set_option linter.unusedSimpArgs false
/-
 isFit of package node: a node is fit just where the document says so. Conditions: the lists and texts are short (Nv.Ok).
-/
namespace Go.Proofs.YtlkgnljdpakkcaaGreatDoor
open Go.RowKit
set_option maxRecDepth 100000 in
set_option maxHeartbeats 1000000 in
theorem nisFit_any (v:Nv) (w:World) (h:IsNv w v) (ho:v.Ok) (hcp:v.caps) :
 Calls Tryz.prog 143 #[.agg #[.bool v.leaf,.slice v.ka v.kn v.kc,.slice v.va v.vn v.vc,.slice v.ia v.im v.ic]] w fun e w'=>e=.returned (.bool v.fits)∧Tch [] w w':=by
 have T0:Tch [] w (w.alloc (.cells #[.bool v.leaf,.slice v.ka v.kn v.kc,.slice v.va v.vn v.vc,.slice v.ia v.im v.ic] 138)):=(Tch.refl _ _).alloc _
 have HB:Hid (∀ w',Tch [] (w.alloc (.cells #[.bool v.leaf,.slice v.ka v.kn v.kc,.slice v.va v.vn v.vc,.slice v.ia v.im v.ic] 138)) w'→_):=fun w' t=>nvb_cells w v.leaf v.ka v.va v.ia v.kn v.kc v.vn v.vc v.im v.ic t
 have HK:Hid (∀ w',Tch [] w w'→Calls Tryz.prog 173 _ w' fun e w2=>e=.returned (.bool (kOk none v.keys))∧Tch [] w' w2):=fun w' t=>nareKeys_any v.ka v.kn v.kc v.kb v.ko v.keys w' (h.keep0 t).rk (by have:=ho.lk; omega) (fun x hx=>by have:=ho.ks x hx; omega)
 have HV:Hid (∀ w',Tch [] w w'→Calls Tryz.prog 174 #[.slice v.va v.vn v.vc,.int .i64 v.kn] w' fun e w2=>e=.returned (.bool (vOk v.vals && v.vals.length == v.keys.length))∧Tch [] w' w2):=fun w' t=>by
  rw [h.rk.hlen]
  exact nareValues_any v.va v.vn v.vc v.vb v.vo v.vals v.keys.length w' (h.keep0 t).rv (by have:=ho.lv; omega) (by have:=ho.lk; omega)
 have HI:Hid (∀ w',Tch [] w w'→Calls Tryz.prog 175 #[.slice v.ia v.im v.ic,.int .i64 v.kn] w' fun e w2=>e=.returned (.bool (iOk v.kids && v.kids.length == v.keys.length && decide (0 < v.keys.length)))∧Tch [] w' w2):=fun w' t=>by
  rw [h.rk.hlen]
  exact nareKids_any v.ia v.im v.ic v.ib v.io v.kids v.keys.length w' (h.keep0 t).ri (by have:=ho.li; omega) (by have:=ho.lk; omega)
 have HW:Hid (∀ w',Tch [] w w'→Calls Tryz.prog 176 _ w' fun e w2=>e=.returned (.int .i64 ((ndb v.leaf v.es).length:Nat))∧Tch [] w' w2):=fun w' t=>weight_any v w' (h.keep0 t) ho hcp
 have hkl:=h.rk.hlen
 have hvl:=h.rv.hlen
 have hil:=h.ri.hlen
 have hk8:=ho.lk
 have hv8:=ho.lv
 have hi8:=ho.li
 have hsm:=ndb_small (leaf:=v.leaf) (Nv.fine ho) (by rw [v.es_len]; exact ho.lk)
 rw [← hkl] at hk8
 rw [← hvl] at hv8
 rw [← hil] at hi8
 rcases hlf:v.leaf with _ | _
 · have hft:=fits_kids v hlf
   rw [← hvl] at hft
   have HFT:=Lib.hid hft
   rw [hlf] at HW HB T0 hsm HFT
   generalize (ndb false v.es).length=m at HW HFT hsm
   generalize (iOk v.kids && v.kids.length == v.keys.length && decide (0 < v.keys.length))=B at HI HFT
   generalize kOk none v.keys=K at HK HFT
   generalize v.fits=r at HFT ⊢
   obtain ⟨W1,hW1⟩:∃ W1,W1=w.alloc (.cells #[.bool false,.slice v.ka v.kn v.kc,.slice v.va v.vn v.vc,.slice v.ia v.im v.ic] 138):=⟨_,rfl⟩
   generalize hlen:v.vn=q at *
   rw [← hW1] at HB T0
   clear hft h ho hcp hkl hvl hil hlf HV
   go_enter Tryz.func143,Tryz.ntmps143
   go_wp2_with fail
   rw [← hW1]
   refine (HK.out _ T0).mono ?_
   rintro e w1 ⟨rfl,t1⟩
   obtain ⟨c0,c1,c2,c3,clt⟩:=HB.out _ t1
   have T1:=T0.trans t1
   cases K
   · have HR:Hid (r=false):=by show _=_; rw [HFT.out]; simp
     go_wp2_with fail
     go_ret
     exact ⟨by rw [HR.out]; rfl,T1⟩
   by_cases hq:0 < q
   · have hd:decide (0 < q)=true:=decide_eq_true hq
     have hdi:decide ((0:Int) < (q:Int))=true:=decide_eq_true (by omega)
     have HR:Hid (r=false):=by
      show _=_; rw [HFT.out]
      have:(q == 0)=false:=by simp; omega
      rw [this]; simp
     go_wp2_with fail
     go_ret
     exact ⟨by rw [HR.out]; rfl,T1⟩
   obtain rfl:q=0:=by omega
   have HX:=Lib.hid (HI.out w1 T1)
   clear HK HI
   go_wp2_with fail
   refine HX.out.mono ?_
   rintro e w2 ⟨rfl,t2⟩
   have T2:=T1.trans t2
   obtain ⟨d0,d1,d2,d3,dlt⟩:=HB.out _ (t1.trans t2)
   cases B
   · have HR:Hid (r=false):=by show _=_; rw [HFT.out]; simp
     clear HX
     go_wp2_with fail
     go_ret
     exact ⟨by rw [HR.out]; rfl,T2⟩
   have HY:=Lib.hid (HW.out w2 T2)
   have HR:Hid (r=decide (m≤1024)):=by show _=_; rw [HFT.out]; simp
   clear HX HW c0 c1 c2 c3 clt
   go_wp2_with fail
   refine HY.out.mono ?_
   rintro e w3 ⟨rfl,t3⟩
   have T3:=T2.trans t3
   clear HY
   go_wp2_with fail
   go_ret
   refine ⟨?_,T3⟩
   rw [HR.out]
   simp
   omega
 · have hft:=fits_leaf v hlf
   rw [← hil] at hft
   have HFT:=Lib.hid hft
   rw [hlf] at HW HB T0 hsm HFT
   generalize (ndb true v.es).length=m at HW HFT hsm
   generalize (vOk v.vals && v.vals.length == v.keys.length)=B at HV HFT
   generalize kOk none v.keys=K at HK HFT
   generalize v.fits=r at HFT ⊢
   obtain ⟨W1,hW1⟩:∃ W1,W1=w.alloc (.cells #[.bool true,.slice v.ka v.kn v.kc,.slice v.va v.vn v.vc,.slice v.ia v.im v.ic] 138):=⟨_,rfl⟩
   generalize hlen:v.im=q at *
   rw [← hW1] at HB T0
   clear hft h ho hcp hkl hvl hil hlf HI
   go_enter Tryz.func143,Tryz.ntmps143
   go_wp2_with fail
   rw [← hW1]
   refine (HK.out _ T0).mono ?_
   rintro e w1 ⟨rfl,t1⟩
   obtain ⟨c0,c1,c2,c3,clt⟩:=HB.out _ t1
   have T1:=T0.trans t1
   cases K
   · have HR:Hid (r=false):=by show _=_; rw [HFT.out]; simp
     go_wp2_with fail
     go_ret
     exact ⟨by rw [HR.out]; rfl,T1⟩
   by_cases hq:0 < q
   · have hd:decide (0 < q)=true:=decide_eq_true hq
     have hdi:decide ((0:Int) < (q:Int))=true:=decide_eq_true (by omega)
     have HR:Hid (r=false):=by
      show _=_; rw [HFT.out]
      have:(q == 0)=false:=by simp; omega
      rw [this]; simp
     go_wp2_with fail
     go_ret
     exact ⟨by rw [HR.out]; rfl,T1⟩
   obtain rfl:q=0:=by omega
   have HX:=Lib.hid (HV.out w1 T1)
   clear HK HV
   go_wp2_with fail
   refine HX.out.mono ?_
   rintro e w2 ⟨rfl,t2⟩
   have T2:=T1.trans t2
   obtain ⟨d0,d1,d2,d3,dlt⟩:=HB.out _ (t1.trans t2)
   cases B
   · have HR:Hid (r=false):=by show _=_; rw [HFT.out]; simp
     clear HX
     go_wp2_with fail
     go_ret
     exact ⟨by rw [HR.out]; rfl,T2⟩
   have HY:=Lib.hid (HW.out w2 T2)
   have HR:Hid (r=decide (m≤1024)):=by show _=_; rw [HFT.out]; simp
   clear HX HW c0 c1 c2 c3 clt
   go_wp2_with fail
   refine HY.out.mono ?_
   rintro e w3 ⟨rfl,t3⟩
   have T3:=T2.trans t3
   clear HY
   go_wp2_with fail
   go_ret
   refine ⟨?_,T3⟩
   rw [HR.out]
   simp
   omega
end Go.Proofs.YtlkgnljdpakkcaaGreatDoor
/-
 Nodes of a call's own,that grow: a block with a node's four cells,and its rows in blocks of their own,apart from one another. Plain notions,and 'append' onto one of the rows.
-/
namespace Go.Proofs.YtlkgnljdpakkcaaGreatDoor
open Go.RowKit
section
variable {P:Program} (w:World)
theorem run_append_place (base:Nat) (t ty e:TypeId) (i:TypeInfo) (z:Value) (size bytes:Nat) (ht:P.underlying t=some (.slice e)) (hi:P.info? e=some i) (hz:i.zero=some z)
 (hsize:i.size=size) (hby:i.bytes=bytes) (hzs:z.cells.size=size) (hsz:0 < size)
 (v:Value) (n:Nat) (xs:List Value) (hown:w.ownsRow base e size v n xs)
 (a:Addr) (m c:Nat) (news:List Value) (hl:news.length=m * size) (hnews:∀ j u,news[j]?=some u→w.cell? (a.add j)=some u) (h1:∀ u ∈ news,u.oneCell'=true)
 (hm:0 < m) (h63:n+m≤maxLen) (hbytes:(n+m) * bytes≤140737488355328) {v':Value} {w':World}
 (hr:(Builtin.append_ #[t,t] ty #[v,.slice (some a) m c]).run P w=.ok v' w'):v'.ownBlock=v.ownBlock∨∃ k,v'.ownBlock=some k∧w.heap.size≤k:=by
 subst hsize
 subst hby
 have hsmall:n+m≤9223372036854775807:=by simp only [maxLen] at h63; omega
 rcases hown.2 with ⟨rfl,rfl⟩ | ⟨g,cap,cur,rfl,hbg,hg,hnc,hcm,hcs,htake⟩
 · have h2:=run_append_nil (P:=P) w t ty e i z ht hi hz a m c news hl hnews (by omega) (by omega) (by have hb:=hbytes; simp only [Nat.zero_add] at hb; omega)
   rw [hr] at h2
   cases h2
   exact Or.inr ⟨_,rfl,Nat.le_refl _⟩
 · by_cases hroom:n+m≤cap
   · have hfit:n * i.size+news.length≤cur.size:=by rw [hl,hcs,← Nat.add_mul]; exact Nat.mul_le_mul_right _ hroom
     have h2:=run_append_room (P:=P) w t ty e i ht hi g n cap cur hg a m c news hl hnews h1 hroom hfit
     rw [hr] at h2
     cases h2
     exact Or.inl rfl
   · have holds:∀ j u,xs[j]?=some u→w.cell? ((⟨g,0,none⟩:Addr).add j)=some u:=hown.cells (g:=g) rfl
     have h2:=run_append_grow (P:=P) w t ty e i z ht hi hz ⟨g,0,none⟩ n cap xs hown.1 holds a m c news hl hnews (by omega) (by omega) (growslice_fits (by omega) hbytes)
     rw [hr] at h2
     cases h2
     exact Or.inr ⟨_,rfl,Nat.le_refl _⟩
theorem wpList_append_apart {ops:Array Oper} {rest:List Oper} {o:Oper} {a:Act} {Q:Exit→Act→World→Prop} (hgd:o.guard=none) (s x:Operand) (t:TypeId)
 (ho:o.op=.call { callee:=.builtin .append,args:=#[s,x],argTypes:=#[t,t] })
 (base:Nat) (e:TypeId) (i:TypeInfo) (z:Value) (size bytes:Nat) (ht:P.underlying t=some (.slice e)) (hi:P.info? e=some i) (hz:i.zero=some z)
 (hsize:i.size=size) (hby:i.bytes=bytes) (hzs:z.cells.size=size) (hsz:0 < size)
 (v:Value) (n:Nat) (xs:List Value) (hs:a.eval s=v) (hown:w.ownsRow base e size v n xs)
 (ad:Addr) (m c:Nat) (news:List Value) (hx:a.eval x=.slice (some ad) m c) (hl:news.length=m * size) (hnews:∀ j u,news[j]?=some u→w.cell? (ad.add j)=some u) (h1:∀ u ∈ news,u.oneCell'=true)
 (hm:0 < m) (h63:n+m≤maxLen) (hbytes:(n+m) * bytes≤140737488355328) (hbase:base≤w.heap.size)
 (h:∀ v' w',w'.ownsRow base e size v' (n+m) (xs++news)→w.grownBy w' v.ownBlock→(v'.ownBlock=v.ownBlock∨∃ k,v'.ownBlock=some k∧w.heap.size≤k)→wpList P ops Q rest (a.put o.dst v') w'):wpList P ops Q (o :: rest) a w :=
 wpList_plain hgd fun _ hK=>by
  obtain ⟨v',w',hr,h2,h3,h4⟩:=run_append_own (P:=P) w base t o.type e i z size bytes ht hi hz hsize hby hzs hsz v n xs hown ad m c news hl hnews h1 h63 hbytes hbase
  have h5:=run_append_place (P:=P) w base t o.type e i z size bytes ht hi hz hsize hby hzs hsz v n xs hown ad m c news hl hnews h1 hm h63 hbytes hr
  unfold Oper.wp execOp
  simp only [ho,resolve,invoke,builtin,Sem.run_bind,Sem.run_pure,Result.andThen_ok,List.map_toArray,List.map_cons,List.map_nil,hs,hx,hr]
  exact hK _ _ (h v' w' h2 h3 h5)
theorem step_append_apart {P:Program} {ops:Array Oper} {oo:Oper} {ac:Act} {w:World} {K:Act→World→Prop} {Q:Exit→Act→World→Prop} {E:Prop} (hgd:oo.guard=none) (s x:Operand) (t:TypeId)
 (ho:oo.op=.call { callee:=.builtin .append,args:=#[s,x],argTypes:=#[t,t] })
 (base:Nat) (e:TypeId) (i:TypeInfo) (z:Value) (size bytes:Nat) (ht:P.underlying t=some (.slice e)) (hi:P.info? e=some i) (hz:i.zero=some z)
 (hsize:i.size=size) (hby:i.bytes=bytes) (hzs:z.cells.size=size) (hsz:0 < size)
 (v:Value) (n:Nat) (xs:List Value) (hs:ac.eval s=v) (hown:w.ownsRow base e size v n xs)
 (ad:Addr) (m c:Nat) (news:List Value) (hx:ac.eval x=.slice (some ad) m c) (hl:news.length=m * size) (hnews:∀ j u,news[j]?=some u→w.cell? (ad.add j)=some u) (h1:∀ u ∈ news,u.oneCell'=true)
 (hm:0 < m) (h63:n+m≤maxLen) (hbytes:(n+m) * bytes≤140737488355328) (hbase:base≤w.heap.size)
 (h:∀ v' w',w'.ownsRow base e size v' (n+m) (xs++news)→w.grownBy w' v.ownBlock→(v'.ownBlock=v.ownBlock∨∃ k,v'.ownBlock=some k∧w.heap.size≤k)→K (ac.put oo.dst v') w') :
 if Region.wanted oo (yielded ops ac.tmps)=true then Oper.wp P oo ac w K Q else E:=by
 have hw:Region.wanted oo (yielded ops ac.tmps)=true:=by simp [Region.wanted,hgd]
 rw [if_pos hw]
 obtain ⟨v',w',hr,h2,h3,h4⟩:=run_append_own (P:=P) w base t oo.type e i z size bytes ht hi hz hsize hby hzs hsz v n xs hown ad m c news hl hnews h1 h63 hbytes hbase
 have h5:=run_append_place (P:=P) w base t oo.type e i z size bytes ht hi hz hsize hby hzs hsz v n xs hown ad m c news hl hnews h1 hm h63 hbytes hr
 unfold Oper.wp execOp
 simp only [ho,resolve,invoke,builtin,Sem.run_bind,Sem.run_pure,Result.andThen_ok,List.map_toArray,List.map_cons,List.map_nil,hs,hx,hr]
 exact h v' w' h2 h3 h5
end
def Apart (x y:Value):Prop:=∀ b,x.ownBlock=some b→y.ownBlock≠some b
theorem Apart.symm {x y:Value} (h:Apart x y):Apart y x:=fun b h1 h2=>h b h2 h1
theorem Apart.nil (y:Value):Apart (.slice none 0 0) y:=fun b h=>by simp [Value.ownBlock] at h
theorem Apart.kept {x y:Value} (h:Apart x y):y.ownBlock=none∨y.ownBlock≠x.ownBlock:=by
 rcases hy:y.ownBlock with _ | b
 · exact Or.inl rfl
 · exact Or.inr (fun e=>h b e.symm hy)
theorem Apart.grow {x y x':Value} {n:Nat} (h:Apart x y) (hy:∀ b,y.ownBlock=some b→b < n) (hx:x'.ownBlock=x.ownBlock∨∃ k,x'.ownBlock=some k∧n≤k):Apart x' y:=fun b h1 h2=>by
 rcases hx with e | ⟨k,e,hk⟩
 · exact h b (e.symm.trans h1) h2
 · rw [e] at h1; cases h1; have:=hy b h2; omega
structure OwV (B nb:Nat) (leaf:Bool) (kv vv iv:Value) (ks vs:List ByteArray) (is:List Int) (w:World):Prop where
 hb:w.heap[nb]?=some (.cells #[.bool leaf,kv,vv,iv] 138 (0,0))
 hk:w.ownsRow B 9 1 kv ks.length (ks.map Value.string)
 hv:w.ownsRow B 9 1 vv vs.length (vs.map Value.string)
 hi:w.ownsRow B 3 1 iv is.length (is.map (Value.int .i64))
 akv:Apart kv vv
 aki:Apart kv iv
 avi:Apart vv iv
theorem own_noNode {B b:Nat} {e T:TypeId} {v:Value} {n:Nat} {xs:List Value} {w:World} {cs:Array Value} {f:Nat × Nat} (hr:w.ownsRow B e 1 v n xs) (hb:w.heap[b]?=some (.cells cs T f)) (hne:e≠T):v.ownBlock≠some b:=fun hs=>by
 rcases hr.2 with ⟨rfl,_⟩ | ⟨g,cap,cur,rfl,_,hg,_⟩
 · simp [Value.ownBlock] at hs
 · simp only [Value.ownBlock,Option.some.injEq] at hs
   subst hs
   rw [hb] at hg
   simp only [Option.some.injEq,Obj.cells.injEq] at hg
   exact hne hg.2.1.symm
theorem OwV.nk {B nb:Nat} {leaf:Bool} {kv vv iv:Value} {ks vs:List ByteArray} {is:List Int} {w:World} (h:OwV B nb leaf kv vv iv ks vs is w):kv.ownBlock≠some nb∧vv.ownBlock≠some nb∧iv.ownBlock≠some nb:=by
 exact ⟨own_noNode h.hk h.hb (by decide),own_noNode h.hv h.hb (by decide),own_noNode h.hi h.hb (by decide)⟩
theorem OwV.keep {B nb:Nat} {leaf:Bool} {kv vv iv:Value} {ks vs:List ByteArray} {is:List Int} {w w':World} (h:OwV B nb leaf kv vv iv ks vs is w) (t:Tch [] w w'):OwV B nb leaf kv vv iv ks vs is w' :=
 ⟨t.keep h.hb (by simp),own_keep h.hk t (fun _ _=>by simp),own_keep h.hv t (fun _ _=>by simp),own_keep h.hi t (fun _ _=>by simp),h.akv,h.aki,h.avi⟩
theorem OwV.addK {B nb:Nat} {leaf:Bool} {kv vv iv:Value} {ks vs:List ByteArray} {is:List Int} {wr wa w2:World} {v':Value} (h:OwV B nb leaf kv vv iv ks vs is wr) (hB:B≤nb) (ta:Tch [] wr wa) (s:ByteArray)
 (ho:w2.ownsRow B 9 1 v' (ks.length+1) (ks.map Value.string++[Value.string s])) (hg:wa.grownBy w2 kv.ownBlock) (hp:v'.ownBlock=kv.ownBlock∨∃ k,v'.ownBlock=some k∧wa.heap.size≤k) :
 w2.heap[nb]?=some (.cells #[.bool leaf,kv,vv,iv] 138 (0,0))∧OwV B nb leaf v' vv iv (ks++[s]) vs is (w2.setCell ⟨nb,1,none⟩ v')∧Below B wr (w2.setCell ⟨nb,1,none⟩ v')∧∀ q cs,q≠nb→wr.heap[q]?=some (.cells cs 138 (0,0))→(w2.setCell ⟨nb,1,none⟩ v').heap[q]?=some (.cells cs 138 (0,0)):=by
 have ha:=h.keep ta
 have hn:=ha.nk
 have hlt:=lt_of_block ha.hb
 have hb2:w2.heap[nb]?=some (.cells #[.bool leaf,kv,vv,iv] 138 (0,0)):=by
  rw [hg.block nb hlt (fun e=>hn.1 e.symm)]; exact ha.hb
 have ts:Tch [nb] w2 (w2.setCell ⟨nb,1,none⟩ v'):=(Tch.refl [nb] w2).setCell (by simp) _
 have hn2:v'.ownBlock≠some nb:=fun e=>by
  rcases hp with h1 | ⟨k,h1,h2⟩
  · exact hn.1 (h1.symm.trans e)
  · rw [e] at h1; cases h1; omega
 have kk:∀ {e:TypeId} {v:Value} {n:Nat} {xs:List Value},wa.ownsRow B e 1 v n xs→Apart kv v→v.ownBlock≠some nb→(w2.setCell ⟨nb,1,none⟩ v').ownsRow B e 1 v n xs:=fun hr hap hne =>
  own_keep (hr.kept hg hap.kept) ts (fun k hk hm=>by simp only [List.mem_singleton] at hm; subst hm; exact hne hk)
 have hnew:(w2.setCell ⟨nb,1,none⟩ v').ownsRow B 9 1 v' (ks++[s]).length ((ks++[s]).map Value.string):=by
  rw [List.length_append,List.map_append]
  exact own_keep ho ts (fun k hk hm=>by simp only [List.mem_singleton] at hm; subst hm; exact hn2 hk)
 have lt:∀ {e:TypeId} {v:Value} {n:Nat} {xs:List Value},wa.ownsRow B e 1 v n xs→∀ b,v.ownBlock=some b→b < wa.heap.size:=fun hr b hb=>(hr.lt b hb).2
 have hnq:∀ q cs,q≠nb→wr.heap[q]?=some (.cells cs 138 (0,0))→(w2.setCell ⟨nb,1,none⟩ v').heap[q]?=some (.cells cs 138 (0,0)):=fun q cs hq hc=>by
  have hq1:=ta.keep hc (by simp)
  have hq2:w2.heap[q]?=some (.cells cs 138 (0,0)):=by
   rw [hg.block q (lt_of_block hq1) (fun e=>own_noNode ha.hk hq1 (by decide) e.symm)]; exact hq1
  exact blk_other hq2 hq _ _
 refine ⟨hb2,⟨blk_set hb2 1 _,hnew,kk ha.hv ha.akv hn.2.1,kk ha.hi ha.aki hn.2.2,ha.akv.grow (lt ha.hv) hp,ha.aki.grow (lt ha.hi) hp,ha.avi⟩,?_,hnq⟩
 have hrow:∀ k,kv.ownBlock=some k→B≤k:=fun k hk=>(ha.hk.lt k hk).1
 refine ⟨hg.os.trans ta.os,hg.tape.trans ta.tape,hg.output.trans ta.output,?_,fun k hk=>?_⟩
 · have h1:=hg.size
   have h2:=ta.size
   simp [World.setCell]; omega
 · have hl2:nb < wr.heap.size:=lt_of_block h.hb
   rw [ts.block k (by have:=hg.size; omega) (by simp; omega),hg.block k (by omega) (fun e=>by have:=hrow k e.symm; omega)]
   exact ta.block k (by omega) (by simp)
theorem OwV.addV {B nb:Nat} {leaf:Bool} {kv vv iv:Value} {ks vs:List ByteArray} {is:List Int} {wr wa w2:World} {v':Value} (h:OwV B nb leaf kv vv iv ks vs is wr) (hB:B≤nb) (ta:Tch [] wr wa) (s:ByteArray)
 (ho:w2.ownsRow B 9 1 v' (vs.length+1) (vs.map Value.string++[Value.string s])) (hg:wa.grownBy w2 vv.ownBlock) (hp:v'.ownBlock=vv.ownBlock∨∃ k,v'.ownBlock=some k∧wa.heap.size≤k) :
 w2.heap[nb]?=some (.cells #[.bool leaf,kv,vv,iv] 138 (0,0))∧OwV B nb leaf kv v' iv ks (vs++[s]) is (w2.setCell ⟨nb,2,none⟩ v')∧Below B wr (w2.setCell ⟨nb,2,none⟩ v')∧∀ q cs,q≠nb→wr.heap[q]?=some (.cells cs 138 (0,0))→(w2.setCell ⟨nb,2,none⟩ v').heap[q]?=some (.cells cs 138 (0,0)):=by
 have ha:=h.keep ta
 have hn:=ha.nk
 have hlt:=lt_of_block ha.hb
 have hb2:w2.heap[nb]?=some (.cells #[.bool leaf,kv,vv,iv] 138 (0,0)):=by
  rw [hg.block nb hlt (fun e=>hn.2.1 e.symm)]; exact ha.hb
 have ts:Tch [nb] w2 (w2.setCell ⟨nb,2,none⟩ v'):=(Tch.refl [nb] w2).setCell (by simp) _
 have hn2:v'.ownBlock≠some nb:=fun e=>by
  rcases hp with h1 | ⟨k,h1,h2⟩
  · exact hn.2.1 (h1.symm.trans e)
  · rw [e] at h1; cases h1; omega
 have kk:∀ {e:TypeId} {v:Value} {n:Nat} {xs:List Value},wa.ownsRow B e 1 v n xs→Apart vv v→v.ownBlock≠some nb→(w2.setCell ⟨nb,2,none⟩ v').ownsRow B e 1 v n xs:=fun hr hap hne =>
  own_keep (hr.kept hg hap.kept) ts (fun k hk hm=>by simp only [List.mem_singleton] at hm; subst hm; exact hne hk)
 have hnew:(w2.setCell ⟨nb,2,none⟩ v').ownsRow B 9 1 v' (vs++[s]).length ((vs++[s]).map Value.string):=by
  rw [List.length_append,List.map_append]
  exact own_keep ho ts (fun k hk hm=>by simp only [List.mem_singleton] at hm; subst hm; exact hn2 hk)
 have lt:∀ {e:TypeId} {v:Value} {n:Nat} {xs:List Value},wa.ownsRow B e 1 v n xs→∀ b,v.ownBlock=some b→b < wa.heap.size:=fun hr b hb=>(hr.lt b hb).2
 have hnq:∀ q cs,q≠nb→wr.heap[q]?=some (.cells cs 138 (0,0))→(w2.setCell ⟨nb,2,none⟩ v').heap[q]?=some (.cells cs 138 (0,0)):=fun q cs hq hc=>by
  have hq1:=ta.keep hc (by simp)
  have hq2:w2.heap[q]?=some (.cells cs 138 (0,0)):=by
   rw [hg.block q (lt_of_block hq1) (fun e=>own_noNode ha.hv hq1 (by decide) e.symm)]; exact hq1
  exact blk_other hq2 hq _ _
 refine ⟨hb2,⟨blk_set hb2 2 _,kk ha.hk ha.akv.symm hn.1,hnew,kk ha.hi ha.avi hn.2.2,(ha.akv.symm.grow (lt ha.hk) hp).symm,ha.aki,ha.avi.grow (lt ha.hi) hp⟩,?_,hnq⟩
 have hrow:∀ k,vv.ownBlock=some k→B≤k:=fun k hk=>(ha.hv.lt k hk).1
 refine ⟨hg.os.trans ta.os,hg.tape.trans ta.tape,hg.output.trans ta.output,?_,fun k hk=>?_⟩
 · have h1:=hg.size
   have h2:=ta.size
   simp [World.setCell]; omega
 · have hl2:nb < wr.heap.size:=lt_of_block h.hb
   rw [ts.block k (by have:=hg.size; omega) (by simp; omega),hg.block k (by omega) (fun e=>by have:=hrow k e.symm; omega)]
   exact ta.block k (by omega) (by simp)
theorem OwV.addI {B nb:Nat} {leaf:Bool} {kv vv iv:Value} {ks vs:List ByteArray} {is:List Int} {wr wa w2:World} {v':Value} (h:OwV B nb leaf kv vv iv ks vs is wr) (hB:B≤nb) (ta:Tch [] wr wa) (s:Int)
 (ho:w2.ownsRow B 3 1 v' (is.length+1) (is.map (Value.int .i64)++[(Value.int .i64) s])) (hg:wa.grownBy w2 iv.ownBlock) (hp:v'.ownBlock=iv.ownBlock∨∃ k,v'.ownBlock=some k∧wa.heap.size≤k) :
 w2.heap[nb]?=some (.cells #[.bool leaf,kv,vv,iv] 138 (0,0))∧OwV B nb leaf kv vv v' ks vs (is++[s]) (w2.setCell ⟨nb,3,none⟩ v')∧Below B wr (w2.setCell ⟨nb,3,none⟩ v')∧∀ q cs,q≠nb→wr.heap[q]?=some (.cells cs 138 (0,0))→(w2.setCell ⟨nb,3,none⟩ v').heap[q]?=some (.cells cs 138 (0,0)):=by
 have ha:=h.keep ta
 have hn:=ha.nk
 have hlt:=lt_of_block ha.hb
 have hb2:w2.heap[nb]?=some (.cells #[.bool leaf,kv,vv,iv] 138 (0,0)):=by
  rw [hg.block nb hlt (fun e=>hn.2.2 e.symm)]; exact ha.hb
 have ts:Tch [nb] w2 (w2.setCell ⟨nb,3,none⟩ v'):=(Tch.refl [nb] w2).setCell (by simp) _
 have hn2:v'.ownBlock≠some nb:=fun e=>by
  rcases hp with h1 | ⟨k,h1,h2⟩
  · exact hn.2.2 (h1.symm.trans e)
  · rw [e] at h1; cases h1; omega
 have kk:∀ {e:TypeId} {v:Value} {n:Nat} {xs:List Value},wa.ownsRow B e 1 v n xs→Apart iv v→v.ownBlock≠some nb→(w2.setCell ⟨nb,3,none⟩ v').ownsRow B e 1 v n xs:=fun hr hap hne =>
  own_keep (hr.kept hg hap.kept) ts (fun k hk hm=>by simp only [List.mem_singleton] at hm; subst hm; exact hne hk)
 have hnew:(w2.setCell ⟨nb,3,none⟩ v').ownsRow B 3 1 v' (is++[s]).length ((is++[s]).map (Value.int .i64)):=by
  rw [List.length_append,List.map_append]
  exact own_keep ho ts (fun k hk hm=>by simp only [List.mem_singleton] at hm; subst hm; exact hn2 hk)
 have lt:∀ {e:TypeId} {v:Value} {n:Nat} {xs:List Value},wa.ownsRow B e 1 v n xs→∀ b,v.ownBlock=some b→b < wa.heap.size:=fun hr b hb=>(hr.lt b hb).2
 have hnq:∀ q cs,q≠nb→wr.heap[q]?=some (.cells cs 138 (0,0))→(w2.setCell ⟨nb,3,none⟩ v').heap[q]?=some (.cells cs 138 (0,0)):=fun q cs hq hc=>by
  have hq1:=ta.keep hc (by simp)
  have hq2:w2.heap[q]?=some (.cells cs 138 (0,0)):=by
   rw [hg.block q (lt_of_block hq1) (fun e=>own_noNode ha.hi hq1 (by decide) e.symm)]; exact hq1
  exact blk_other hq2 hq _ _
 refine ⟨hb2,⟨blk_set hb2 3 _,kk ha.hk ha.aki.symm hn.1,kk ha.hv ha.avi.symm hn.2.1,hnew,ha.akv,(ha.aki.symm.grow (lt ha.hk) hp).symm,(ha.avi.symm.grow (lt ha.hv) hp).symm⟩,?_,hnq⟩
 have hrow:∀ k,iv.ownBlock=some k→B≤k:=fun k hk=>(ha.hi.lt k hk).1
 refine ⟨hg.os.trans ta.os,hg.tape.trans ta.tape,hg.output.trans ta.output,?_,fun k hk=>?_⟩
 · have h1:=hg.size
   have h2:=ta.size
   simp [World.setCell]; omega
 · have hl2:nb < wr.heap.size:=lt_of_block h.hb
   rw [ts.block k (by have:=hg.size; omega) (by simp; omega),hg.block k (by omega) (fun e=>by have:=hrow k e.symm; omega)]
   exact ta.block k (by omega) (by simp)
def OwE (B nb:Nat) (leaf:Bool) (es:List En) (w:World):Prop :=
 ∃ kv vv iv,OwV B nb leaf kv vv iv (es.map En.key) (if leaf then es.map En.val else []) (if leaf then [] else es.map En.kid) w
theorem OwE.keep {B nb:Nat} {leaf:Bool} {es:List En} {w w':World} (h:OwE B nb leaf es w) (t:Tch [] w w'):OwE B nb leaf es w':=by
 obtain ⟨kv,vv,iv,h⟩:=h
 exact ⟨kv,vv,iv,h.keep t⟩
theorem Tryz.info_nstr:(Tryz.prog.info? 9).map (fun i=>(i.zero,i.size,i.bytes))=some (some (.string ⟨#[]⟩),1,16):=by kernel_rfl
theorem Tryz.info_nint:(Tryz.prog.info? 3).map (fun i=>(i.zero,i.size,i.bytes))=some (some (.int .i64 0),1,8):=by kernel_rfl
end Go.Proofs.YtlkgnljdpakkcaaGreatDoor
/-
 'add' of package node: the entries of another node behind those of a node of the caller's own (DOC). Conditions: the other node's lists and texts are short.
-/
namespace Go.Proofs.YtlkgnljdpakkcaaGreatDoor
open Go.RowKit
set_option maxRecDepth 100000 in
set_option maxHeartbeats 4000000 in
theorem nadd_kids (B nb i0 i1:Nat) (es:List En) (v:Nv) (w:World) (h:OwE B nb false es w) (hB:B≤nb) (hv:∀ w',Below B w w'→IsNv w' v) (ho:v.Ok) (h01:i0≤i1) (h1:i1≤v.keys.length) (hes:es.length≤500000000) :
 Calls Tryz.prog 230 #[.pointer (some ⟨nb,0,none⟩),.agg #[.bool v.leaf,.slice v.ka v.kn v.kc,.slice v.va v.vn v.vc,.slice v.ia v.im v.ic],.int .i64 i0,.int .i64 i1] w fun e w' =>
  e=.returned (.tuple #[])∧OwE B nb false (es++((mkN false v.keys v.vals v.kids).drop i0).take (i1 - i0)) w'∧Below B w w':=by
 obtain ⟨i0s,his,hzs0,hzs1,hzs2⟩:=info_parts Tryz.info_nstr
 obtain ⟨i0i,hii,hzi0,hzi1,hzi2⟩:=info_parts Tryz.info_nint
 have hnlt:nb < w.heap.size:=by obtain ⟨kv,vv,iv,hO⟩:=h; exact lt_of_block hO.hb
 have T0:Tch [] w (w.alloc (.cells #[.bool v.leaf,.slice v.ka v.kn v.kc,.slice v.va v.vn v.vc,.slice v.ia v.im v.ic] 138)):=(Tch.refl _ _).alloc _
 have HIS:Hid (∀ w',Below B w w'→IsNv w' v):=hv
 have HVO:Hid (∀ (k:Nat) w',Below B w w'→k≤1000000000→Calls Tryz.prog 245 _ w' fun e w2=>e=.returned (.int .i64 (v.kids.getD k 0))∧Tch [] w' w2):=fun k w' b hk=>nkidOf_any v k w' (hv w' b) ho hk
 have HCL:Hid (∀ (s:ByteArray) w',s.size≤100000000→Calls Tryz.prog 50 #[.string s] w' fun e w2=>e=.returned (.string s)∧Tch [] w' w2):=fun s w' hs=>clone_any s w' (by omega)
 have HKS:=Lib.hid ho.ks
 have HGD:=Lib.hid (getd_small ho)
 have hk8:=ho.lk
 have hkn:v.kn=v.keys.length:=(hv w (Below.refl B w)).rk.hlen
 have HKN:=Lib.hid hkn
 have h1n:i1≤v.kn:=by omega
 have hk9:v.kn≤100000000:=by omega
 have HSEG:Hid (∀ (j:Nat) key,v.keys[j]?=some key→i0≤j→((mkN false v.keys v.vals v.kids).drop i0).take (j+1 - i0)=((mkN false v.keys v.vals v.kids).drop i0).take (j - i0)++[mkE false v.keys v.vals v.kids j key]):=fun j key hk hj=>by
  rw [show j+1 - i0=(j - i0)+1 from by omega,List.take_add_one,List.getElem?_drop,show i0+(j - i0)=j from by omega,mkN_get _ _ _ _ _ _ hk]
  rfl
 have HME:Hid (∀ (j:Nat) key,(mkE false v.keys v.vals v.kids j key).key=key∧(mkE false v.keys v.vals v.kids j key).kid=v.kids.getD j 0):=fun j key=>⟨rfl,rfl⟩
 have HSL:Hid (∀ j:Nat,((((mkN false v.keys v.vals v.kids).drop i0).take j)).length≤100000000):=fun j=>by
  rw [List.length_take,List.length_drop,mkN_len]; omega
 have HTR:Hid (∀ (a b:World),Below B w a→Below B a b→Below B w b):=fun a b h1 h2=>⟨h2.os.trans h1.os,h2.tape.trans h1.tape,h2.output.trans h1.output,Nat.le_trans h1.size h2.size,fun k hk=>(h2.block k hk).trans (h1.block k hk)⟩
 have hb5:=blk_new w (.cells #[.bool v.leaf,.slice v.ka v.kn v.kc,.slice v.va v.vn v.vc,.slice v.ia v.im v.ic] 138)
 have hOW:=h.keep T0
 have hBW:Below B w (w.alloc (.cells #[.bool v.leaf,.slice v.ka v.kn v.kc,.slice v.va v.vn v.vc,.slice v.ia v.im v.ic] 138)):=T0.below (by omega) (by simp)
 generalize (mkN false v.keys v.vals v.kids).drop i0=seg at *
 generalize mkE false v.keys v.vals v.kids=mk at *
 generalize hka:v.ka=ka at *
 generalize hkn2:v.kn=kn at *
 clear ho hv h h1 hk8 hkn
 go_enter Tryz.func230,Tryz.ntmps230
 go_wp2_with fail
 generalize w.alloc (.cells #[.bool v.leaf,.slice ka kn v.kc,.slice v.va v.vn v.vc,.slice v.ia v.im v.ic] 138)=W1 at T0 hb5 hOW hBW ⊢
 go_loopw [8] (fun v8 wr=>∃ j:Nat,i0≤j∧j≤i1∧v8=.int .i64 j∧OwE B nb false (es++seg.take (j - i0)) wr∧Below B w wr∧wr.heap[w.heap.size]?=some (.cells #[.bool v.leaf,.slice ka kn v.kc,.slice v.va v.vn v.vc,.slice v.ia v.im v.ic] 138 (0,0))) (fun v8 _=>i1 - (intOf v8).toNat)
 case atStart=>exact ⟨i0,by omega,h01,rfl,by rw [Nat.sub_self,List.take_zero,List.append_nil]; exact hOW,hBW,hb5⟩
 case round =>
  clear hb5 hOW hBW
  obtain ⟨j,hj0,hj1,rfl,hOE,hBw,hb5⟩:=hrel
  by_cases hjl:j < i1
  · obtain ⟨kv,vv,iv,hO⟩:=hOE
    have hjk:j < v.keys.length:=by have:=HKN.out; omega
    have hget:=List.getElem?_eq_getElem hjk
    have hnv:=HIS.out wr hBw
    have ha:ka=some ⟨v.kb,v.ko,none⟩:=by rw [← hka]; exact hnv.rk.some_ (by omega)
    have x0:=hnv.rk.one hget (v:=.string v.keys[j]) rfl
    have hbl:=hnv.rk.lt (by omega)
    have hks:=HKS.out _ (List.getElem_mem hjk)
    have HSG:=Lib.hid (HSEG.out j _ hget hj0)
    have HMJ:=Lib.hid (HME.out j v.keys[j])
    have hln:=HSL.out (j - i0)
    subst ha
    have HGT:=Lib.hid hget
    generalize v.keys[j]=key at x0 hks HSG HMJ HGT
    have hI:(j:Int) < (kn:Int):=by omega
    have hI0:(0:Int)≤(j:Int):=by omega
    have hd:decide (j < i1)=true:=decide_eq_true hjl
    have hdi:decide ((j:Int) < (i1:Int))=true:=decide_eq_true (by omega)
    have p0:=blk_cell hO.hb 0
    have p1:=blk_cell hO.hb 1
    have plt:=lt_of_block hO.hb
    have q0:=blk_cell hb5 0
    have q1:=blk_cell hb5 1
    have q2:=blk_cell hb5 2
    have q3:=blk_cell hb5 3
    have qlt:=lt_of_block hb5
    simp only [gA,gZ,gS] at p0 p1 q0 q1 q2 q3
    have HO:=Lib.hid hO
    have HBw:=Lib.hid hBw
    have HB5:=Lib.hid hb5
    have HLN:Hid ((es++seg.take (j - i0)).length≤600000000):=by show _≤_; rw [List.length_append]; omega
    obtain ⟨xs,hxs⟩:∃ xs,es++seg.take (j - i0)=xs:=⟨_,rfl⟩
    rw [hxs] at HO HLN
    have HXS:=Lib.hid hxs
    have HCK:=Lib.hid (HCL.out key wr.drew hks)
    have HP1:Hid (∀ w',Tch [] wr.drew w'→w'.cell? ⟨nb,1,none⟩=some kv∧nb < w'.heap.size):=fun w' t=>⟨(t.cell plt (by simp)).trans p1,Nat.lt_of_lt_of_le plt t.size⟩
    have HKA:Hid (∀ w',Tch [] wr.drew w'→w'.ownsRow B 9 1 kv (xs.map En.key).length ((xs.map En.key).map Value.string)∧B≤w'.heap.size):=fun w' t=>⟨(HO.out.keep ((Tch.refl [] wr).drew.trans t)).hk,by have:=t.size; have:wr.drew.heap.size=wr.heap.size:=rfl; omega⟩
    have hap1:(xs.map En.key).length+1≤maxLen:=by unfold maxLen; have:=HLN.out; simp; omega
    have hap2:((xs.map En.key).length+1) * 16≤140737488355328:=by have:=HLN.out; simp; omega
    have HS4:Hid (∀ (wa w2:World),Tch [] wr.drew wa→wa.grownBy w2 kv.ownBlock→w2.frozen? ⟨nb,1,none⟩=false∧nb < w2.heap.size∧w2.cell? ⟨nb,1,none⟩=some kv):=fun wa w2 ta hg=>by
     have ha:=HO.out.keep ((Tch.refl [] wr).drew.trans ta)
     have hb2:w2.heap[nb]?=wa.heap[nb]?:=hg.block nb (lt_of_block ha.hb) (fun e=>ha.nk.1 e.symm)
     rw [ha.hb] at hb2
     exact ⟨blk_free hb2 1,lt_of_block hb2,blk_cell hb2 1⟩
    clear hO hb5 hBw hget hnv hln hxs
    go_upto_region 4 with fail
    go_cut [] from 10 to 58 (fun wx=>∃ x2 c2,OwV B nb false (.slice x2 (xs.length+1) c2) vv iv (xs.map En.key++[key]) (if false then xs.map En.val else []) (if false then [] else xs.map En.kid) wx∧Below B w wx∧wx.heap[w.heap.size]?=some (.cells #[.bool v.leaf,.slice (some ⟨v.kb,v.ko,none⟩) kn v.kc,.slice v.va v.vn v.vc,.slice v.ia v.im v.ic] 138 (0,0)))
    case first =>
     go_region_law (first
      | ((refine step_append_apart (by rfl) _ _ 69 (by rfl) B 9 i0s (.string ⟨#[]⟩) 1 16 Tryz.underlying69 his hzs0 hzs1 hzs2 rfl (by decide) kv (xs.map En.key).length ((xs.map En.key).map Value.string) (by rfl) (HKA.out _ (t3.alloc _)).1 ⟨w3.heap.size,0,none⟩ 1 1 [.string key] (by rfl) rfl (cells_one _ _ _) (fun x hx=>by simp only [List.mem_singleton] at hx; subst hx; rfl) (by omega) hap1 hap2 (HKA.out _ (t3.alloc _)).2 ?_); intro v' w4 hown4 hg4 hp4; obtain ⟨hf4,hl4,hc4⟩:=HS4.out _ w4 (t3.alloc _) hg4; obtain ⟨x2,c2,rfl⟩:=own_slice hown4)
      | (go_simp; go_at_call 50; (with_reducible refine HCK.out.mono ?_); rintro e w3 ⟨rfl,t3⟩; obtain ⟨p3,l3⟩:=HP1.out _ t3))
     all_goals
      obtain ⟨_,hO5,hb5w,hnq5⟩:=HO.out.addK hB (((Tch.refl [] wr).drew.trans t3).alloc (.cells #[.string key] 9)) key hown4 hg4 hp4
      have hBw5:Below B w (w4.setCell ⟨nb,1,none⟩ (.slice x2 ((xs.map En.key).length+1) c2)):=HTR.out _ _ HBw.out hb5w
      have hq5:=hnq5 _ _ (by omega) HB5.out
      rw [List.length_map] at hO5 hBw5 hq5
      have HM1:=Lib.hid hO5
      have HM2:=Lib.hid hBw5
      have HM3:=Lib.hid hq5
      clear hO5 hBw5 hq5 hg4 hp4 hown4 hf4 hl4 hc4 hnq5 hb5w
      go_wp2_with fail
      go_meet
      exact ⟨x2,c2,HM1.out,HM2.out,HM3.out⟩
    case rest =>
     obtain ⟨x2,c2,hO5,hBw5,hq5⟩:=hcut
     clear p0 p1 plt q0 q1 q2 q3 qlt x0
     have p0:=blk_cell hO5.hb 0
     have pX:=blk_cell hO5.hb 3
     have plt:=lt_of_block hO5.hb
     have q0:=blk_cell hq5 0
     have q1:=blk_cell hq5 1
     have q2:=blk_cell hq5 2
     have q3:=blk_cell hq5 3
     have qlt:=lt_of_block hq5
     simp only [gA,gZ,gS] at p0 pX q0 q1 q2 q3
     simp only [if_false,Bool.false_eq_true] at hO5
     have HO5:=Lib.hid hO5
     have HBw5:=Lib.hid hBw5
     have HQ5:=Lib.hid hq5
     have HPX:Hid (∀ w',Tch [] wc.drew w'→w'.cell? ⟨nb,3,none⟩=some iv∧nb < w'.heap.size):=fun w' t=>⟨(t.cell plt (by simp)).trans pX,Nat.lt_of_lt_of_le plt t.size⟩
     have HKA5:Hid (∀ w',Tch [] wc.drew w'→w'.ownsRow B 3 1 iv xs.length ((xs.map En.kid).map (Value.int .i64))∧B≤w'.heap.size):=fun w' t=>⟨by have:=(HO5.out.keep ((Tch.refl [] wc).drew.trans t)).hi; rw [List.length_map] at this; exact this,by have:=t.size; have:wc.drew.heap.size=wc.heap.size:=rfl; omega⟩
     have HS6:Hid (∀ (wa w2:World),Tch [] wc.drew wa→wa.grownBy w2 iv.ownBlock→w2.frozen? ⟨nb,3,none⟩=false∧nb < w2.heap.size∧w2.cell? ⟨nb,3,none⟩=some iv):=fun wa w2 ta hg=>by
      have ha:=HO5.out.keep ((Tch.refl [] wc).drew.trans ta)
      have hb2:w2.heap[nb]?=wa.heap[nb]?:=hg.block nb (lt_of_block ha.hb) (fun e=>ha.nk.2.2 e.symm)
      rw [ha.hb] at hb2
      exact ⟨blk_free hb2 3,lt_of_block hb2,blk_cell hb2 3⟩
     have HVC:=Lib.hid (HVO.out j wc.drew (HTR.out _ _ hBw5 ((Tch.refl [] wc).drew.below (by omega) (by simp))) (by omega))
     have hap3:xs.length+1≤maxLen:=by unfold maxLen; have:=HLN.out; omega
     have hap4:(xs.length+1) * 8≤140737488355328:=by have:=HLN.out; omega
     generalize v.kids.getD j 0=kd at *
     clear hO5 hBw5 hq5 hap1 hap2 HS4 HKA HP1 HO HBw HB5 HCK
     go_upto_region 7 with fail
     go_region_law (first
      | ((refine step_append_apart (by rfl) _ _ 50 (by rfl) B 3 i0i (.int .i64 0) 1 8 Tryz.underlying50 hii hzi0 hzi1 hzi2 rfl (by decide) iv xs.length ((xs.map En.kid).map (Value.int .i64)) (by rfl) (HKA5.out _ (t6.alloc _)).1 ⟨w6.heap.size,0,none⟩ 1 1 [.int .i64 kd] (by rfl) rfl (cells_one _ _ _) (fun x hx=>by simp only [List.mem_singleton] at hx; subst hx; rfl) (by omega) hap3 hap4 (HKA5.out _ (t6.alloc _)).2 ?_); intro v' w8 hown8 hg8 hp8; obtain ⟨hf8,hl8,hc8⟩:=HS6.out _ w8 (t6.alloc _) hg8; obtain ⟨x4,c4,rfl⟩:=own_slice hown8)
      | (go_simp; go_at_call 245; (with_reducible refine HVC.out.mono ?_); rintro e w6 ⟨rfl,t6⟩; obtain ⟨p6,l6⟩:=HPX.out _ t6))
     all_goals
      obtain ⟨_,hO9,hb9w,hnq9⟩:=HO5.out.addI hB (((Tch.refl [] wc).drew.trans t6).alloc (.cells #[.int .i64 kd] 3)) kd (by rw [List.length_map]; exact hown8) hg8 hp8
      have hBw9:Below B w (w8.setCell ⟨nb,3,none⟩ (.slice x4 (xs.length+1) c4)):=HTR.out _ _ HBw5.out hb9w
      have hq9:=hnq9 _ _ (by omega) HQ5.out
      have HR9:Hid (OwE B nb false (es++seg.take (j+1 - i0)) (w8.setCell ⟨nb,3,none⟩ (.slice x4 (xs.length+1) c4))∧Below B w (w8.setCell ⟨nb,3,none⟩ (.slice x4 (xs.length+1) c4))∧_):=⟨by
       rw [HSG.out,← List.append_assoc,HXS.out]
       refine ⟨.slice x2 (xs.length+1) c2,vv,.slice x4 (xs.length+1) c4,?_⟩
       simp only [if_false,Bool.false_eq_true,List.map_append,List.map_cons,List.map_nil,HMJ.out.1,HMJ.out.2]
       exact hO9,hBw9,hq9⟩
      clear hO9 hb9w hnq9 hBw9 hq9 hown8 hg8 hp8 HO5 HKA5 HS6 HVC hf8 hl8 hc8
      go_wp2
      go_roundw
      case rel=>exact ⟨j+1,by omega,by omega,by go_num,HR9.out.1,HR9.out.2.1,HR9.out.2.2⟩
      case measure=>simp [intOf]; omega
  · obtain rfl:j=i1:=by omega
    have HF:Hid (OwE B nb false (es++seg.take (j - i0)) wr∧Below B w wr):=⟨hOE,hBw⟩
    clear hOE hBw hb5
    go_wp2_with fail
    go_end0
    exact ⟨rfl,HF.out.1,HF.out.2⟩
end Go.Proofs.YtlkgnljdpakkcaaGreatDoor
/-
 'add' of package node: the entries of another node behind those of a node of the caller's own (DOC). Conditions: the other node's lists and texts are short.
-/
namespace Go.Proofs.YtlkgnljdpakkcaaGreatDoor
open Go.RowKit
set_option maxRecDepth 100000 in
set_option maxHeartbeats 4000000 in
theorem nadd_leaf (B nb i0 i1:Nat) (es:List En) (v:Nv) (w:World) (h:OwE B nb true es w) (hB:B≤nb) (hv:∀ w',Below B w w'→IsNv w' v) (ho:v.Ok) (h01:i0≤i1) (h1:i1≤v.keys.length) (hes:es.length≤500000000) :
 Calls Tryz.prog 230 #[.pointer (some ⟨nb,0,none⟩),.agg #[.bool v.leaf,.slice v.ka v.kn v.kc,.slice v.va v.vn v.vc,.slice v.ia v.im v.ic],.int .i64 i0,.int .i64 i1] w fun e w' =>
  e=.returned (.tuple #[])∧OwE B nb true (es++((mkN true v.keys v.vals v.kids).drop i0).take (i1 - i0)) w'∧Below B w w':=by
 obtain ⟨i0s,his,hzs0,hzs1,hzs2⟩:=info_parts Tryz.info_nstr
 obtain ⟨i0i,hii,hzi0,hzi1,hzi2⟩:=info_parts Tryz.info_nint
 have hnlt:nb < w.heap.size:=by obtain ⟨kv,vv,iv,hO⟩:=h; exact lt_of_block hO.hb
 have T0:Tch [] w (w.alloc (.cells #[.bool v.leaf,.slice v.ka v.kn v.kc,.slice v.va v.vn v.vc,.slice v.ia v.im v.ic] 138)):=(Tch.refl _ _).alloc _
 have HIS:Hid (∀ w',Below B w w'→IsNv w' v):=hv
 have HVO:Hid (∀ (k:Nat) w',Below B w w'→k≤1000000000→Calls Tryz.prog 244 _ w' fun e w2=>e=.returned (.string (v.vals.getD k ⟨#[]⟩))∧Tch [] w' w2):=fun k w' b hk=>nvalueOf_any v k w' (hv w' b) ho hk
 have HCL:Hid (∀ (s:ByteArray) w',s.size≤100000000→Calls Tryz.prog 50 #[.string s] w' fun e w2=>e=.returned (.string s)∧Tch [] w' w2):=fun s w' hs=>clone_any s w' (by omega)
 have HKS:=Lib.hid ho.ks
 have HGD:=Lib.hid (getd_small ho)
 have hk8:=ho.lk
 have hkn:v.kn=v.keys.length:=(hv w (Below.refl B w)).rk.hlen
 have HKN:=Lib.hid hkn
 have h1n:i1≤v.kn:=by omega
 have hk9:v.kn≤100000000:=by omega
 have HSEG:Hid (∀ (j:Nat) key,v.keys[j]?=some key→i0≤j→((mkN true v.keys v.vals v.kids).drop i0).take (j+1 - i0)=((mkN true v.keys v.vals v.kids).drop i0).take (j - i0)++[mkE true v.keys v.vals v.kids j key]):=fun j key hk hj=>by
  rw [show j+1 - i0=(j - i0)+1 from by omega,List.take_add_one,List.getElem?_drop,show i0+(j - i0)=j from by omega,mkN_get _ _ _ _ _ _ hk]
  rfl
 have HME:Hid (∀ (j:Nat) key,(mkE true v.keys v.vals v.kids j key).key=key∧(mkE true v.keys v.vals v.kids j key).val=v.vals.getD j ⟨#[]⟩):=fun j key=>⟨rfl,rfl⟩
 have HSL:Hid (∀ j:Nat,((((mkN true v.keys v.vals v.kids).drop i0).take j)).length≤100000000):=fun j=>by
  rw [List.length_take,List.length_drop,mkN_len]; omega
 have HTR:Hid (∀ (a b:World),Below B w a→Below B a b→Below B w b):=fun a b h1 h2=>⟨h2.os.trans h1.os,h2.tape.trans h1.tape,h2.output.trans h1.output,Nat.le_trans h1.size h2.size,fun k hk=>(h2.block k hk).trans (h1.block k hk)⟩
 have hb5:=blk_new w (.cells #[.bool v.leaf,.slice v.ka v.kn v.kc,.slice v.va v.vn v.vc,.slice v.ia v.im v.ic] 138)
 have hOW:=h.keep T0
 have hBW:Below B w (w.alloc (.cells #[.bool v.leaf,.slice v.ka v.kn v.kc,.slice v.va v.vn v.vc,.slice v.ia v.im v.ic] 138)):=T0.below (by omega) (by simp)
 generalize (mkN true v.keys v.vals v.kids).drop i0=seg at *
 generalize mkE true v.keys v.vals v.kids=mk at *
 generalize hka:v.ka=ka at *
 generalize hkn2:v.kn=kn at *
 clear ho hv h h1 hk8 hkn
 go_enter Tryz.func230,Tryz.ntmps230
 go_wp2_with fail
 generalize w.alloc (.cells #[.bool v.leaf,.slice ka kn v.kc,.slice v.va v.vn v.vc,.slice v.ia v.im v.ic] 138)=W1 at T0 hb5 hOW hBW ⊢
 go_loopw [8] (fun v8 wr=>∃ j:Nat,i0≤j∧j≤i1∧v8=.int .i64 j∧OwE B nb true (es++seg.take (j - i0)) wr∧Below B w wr∧wr.heap[w.heap.size]?=some (.cells #[.bool v.leaf,.slice ka kn v.kc,.slice v.va v.vn v.vc,.slice v.ia v.im v.ic] 138 (0,0))) (fun v8 _=>i1 - (intOf v8).toNat)
 case atStart=>exact ⟨i0,by omega,h01,rfl,by rw [Nat.sub_self,List.take_zero,List.append_nil]; exact hOW,hBW,hb5⟩
 case round =>
  clear hb5 hOW hBW
  obtain ⟨j,hj0,hj1,rfl,hOE,hBw,hb5⟩:=hrel
  by_cases hjl:j < i1
  · obtain ⟨kv,vv,iv,hO⟩:=hOE
    have hjk:j < v.keys.length:=by have:=HKN.out; omega
    have hget:=List.getElem?_eq_getElem hjk
    have hnv:=HIS.out wr hBw
    have ha:ka=some ⟨v.kb,v.ko,none⟩:=by rw [← hka]; exact hnv.rk.some_ (by omega)
    have x0:=hnv.rk.one hget (v:=.string v.keys[j]) rfl
    have hbl:=hnv.rk.lt (by omega)
    have hks:=HKS.out _ (List.getElem_mem hjk)
    have HSG:=Lib.hid (HSEG.out j _ hget hj0)
    have HMJ:=Lib.hid (HME.out j v.keys[j])
    have hln:=HSL.out (j - i0)
    subst ha
    have HGT:=Lib.hid hget
    generalize v.keys[j]=key at x0 hks HSG HMJ HGT
    have hI:(j:Int) < (kn:Int):=by omega
    have hI0:(0:Int)≤(j:Int):=by omega
    have hd:decide (j < i1)=true:=decide_eq_true hjl
    have hdi:decide ((j:Int) < (i1:Int))=true:=decide_eq_true (by omega)
    have p0:=blk_cell hO.hb 0
    have p1:=blk_cell hO.hb 1
    have plt:=lt_of_block hO.hb
    have q0:=blk_cell hb5 0
    have q1:=blk_cell hb5 1
    have q2:=blk_cell hb5 2
    have q3:=blk_cell hb5 3
    have qlt:=lt_of_block hb5
    simp only [gA,gZ,gS] at p0 p1 q0 q1 q2 q3
    have HO:=Lib.hid hO
    have HBw:=Lib.hid hBw
    have HB5:=Lib.hid hb5
    have HLN:Hid ((es++seg.take (j - i0)).length≤600000000):=by show _≤_; rw [List.length_append]; omega
    obtain ⟨xs,hxs⟩:∃ xs,es++seg.take (j - i0)=xs:=⟨_,rfl⟩
    rw [hxs] at HO HLN
    have HXS:=Lib.hid hxs
    have HCK:=Lib.hid (HCL.out key wr.drew hks)
    have HP1:Hid (∀ w',Tch [] wr.drew w'→w'.cell? ⟨nb,1,none⟩=some kv∧nb < w'.heap.size):=fun w' t=>⟨(t.cell plt (by simp)).trans p1,Nat.lt_of_lt_of_le plt t.size⟩
    have HKA:Hid (∀ w',Tch [] wr.drew w'→w'.ownsRow B 9 1 kv (xs.map En.key).length ((xs.map En.key).map Value.string)∧B≤w'.heap.size):=fun w' t=>⟨(HO.out.keep ((Tch.refl [] wr).drew.trans t)).hk,by have:=t.size; have:wr.drew.heap.size=wr.heap.size:=rfl; omega⟩
    have hap1:(xs.map En.key).length+1≤maxLen:=by unfold maxLen; have:=HLN.out; simp; omega
    have hap2:((xs.map En.key).length+1) * 16≤140737488355328:=by have:=HLN.out; simp; omega
    have HS4:Hid (∀ (wa w2:World),Tch [] wr.drew wa→wa.grownBy w2 kv.ownBlock→w2.frozen? ⟨nb,1,none⟩=false∧nb < w2.heap.size∧w2.cell? ⟨nb,1,none⟩=some kv):=fun wa w2 ta hg=>by
     have ha:=HO.out.keep ((Tch.refl [] wr).drew.trans ta)
     have hb2:w2.heap[nb]?=wa.heap[nb]?:=hg.block nb (lt_of_block ha.hb) (fun e=>ha.nk.1 e.symm)
     rw [ha.hb] at hb2
     exact ⟨blk_free hb2 1,lt_of_block hb2,blk_cell hb2 1⟩
    clear hO hb5 hBw hget hnv hln hxs
    go_upto_region 4 with fail
    go_cut [] from 10 to 58 (fun wx=>∃ x2 c2,OwV B nb true (.slice x2 (xs.length+1) c2) vv iv (xs.map En.key++[key]) (if true then xs.map En.val else []) (if true then [] else xs.map En.kid) wx∧Below B w wx∧wx.heap[w.heap.size]?=some (.cells #[.bool v.leaf,.slice (some ⟨v.kb,v.ko,none⟩) kn v.kc,.slice v.va v.vn v.vc,.slice v.ia v.im v.ic] 138 (0,0)))
    case first =>
     go_region_law (first
      | ((refine step_append_apart (by rfl) _ _ 69 (by rfl) B 9 i0s (.string ⟨#[]⟩) 1 16 Tryz.underlying69 his hzs0 hzs1 hzs2 rfl (by decide) kv (xs.map En.key).length ((xs.map En.key).map Value.string) (by rfl) (HKA.out _ (t3.alloc _)).1 ⟨w3.heap.size,0,none⟩ 1 1 [.string key] (by rfl) rfl (cells_one _ _ _) (fun x hx=>by simp only [List.mem_singleton] at hx; subst hx; rfl) (by omega) hap1 hap2 (HKA.out _ (t3.alloc _)).2 ?_); intro v' w4 hown4 hg4 hp4; obtain ⟨hf4,hl4,hc4⟩:=HS4.out _ w4 (t3.alloc _) hg4; obtain ⟨x2,c2,rfl⟩:=own_slice hown4)
      | (go_simp; go_at_call 50; (with_reducible refine HCK.out.mono ?_); rintro e w3 ⟨rfl,t3⟩; obtain ⟨p3,l3⟩:=HP1.out _ t3))
     all_goals
      obtain ⟨_,hO5,hb5w,hnq5⟩:=HO.out.addK hB (((Tch.refl [] wr).drew.trans t3).alloc (.cells #[.string key] 9)) key hown4 hg4 hp4
      have hBw5:Below B w (w4.setCell ⟨nb,1,none⟩ (.slice x2 ((xs.map En.key).length+1) c2)):=HTR.out _ _ HBw.out hb5w
      have hq5:=hnq5 _ _ (by omega) HB5.out
      rw [List.length_map] at hO5 hBw5 hq5
      have HM1:=Lib.hid hO5
      have HM2:=Lib.hid hBw5
      have HM3:=Lib.hid hq5
      clear hO5 hBw5 hq5 hg4 hp4 hown4 hf4 hl4 hc4 hnq5 hb5w
      go_wp2_with fail
      go_meet
      exact ⟨x2,c2,HM1.out,HM2.out,HM3.out⟩
    case rest =>
     obtain ⟨x2,c2,hO5,hBw5,hq5⟩:=hcut
     clear p0 p1 plt q0 q1 q2 q3 qlt x0
     have p0:=blk_cell hO5.hb 0
     have pX:=blk_cell hO5.hb 2
     have plt:=lt_of_block hO5.hb
     have q0:=blk_cell hq5 0
     have q1:=blk_cell hq5 1
     have q2:=blk_cell hq5 2
     have q3:=blk_cell hq5 3
     have qlt:=lt_of_block hq5
     simp only [gA,gZ,gS] at p0 pX q0 q1 q2 q3
     simp only [if_true] at hO5
     have HO5:=Lib.hid hO5
     have HBw5:=Lib.hid hBw5
     have HQ5:=Lib.hid hq5
     have HPX:Hid (∀ w',Tch [] wc.drew w'→w'.cell? ⟨nb,2,none⟩=some vv∧nb < w'.heap.size):=fun w' t=>⟨(t.cell plt (by simp)).trans pX,Nat.lt_of_lt_of_le plt t.size⟩
     have HKA5:Hid (∀ w',Tch [] wc.drew w'→w'.ownsRow B 9 1 vv xs.length ((xs.map En.val).map Value.string)∧B≤w'.heap.size):=fun w' t=>⟨by have:=(HO5.out.keep ((Tch.refl [] wc).drew.trans t)).hv; rw [List.length_map] at this; exact this,by have:=t.size; have:wc.drew.heap.size=wc.heap.size:=rfl; omega⟩
     have HS6:Hid (∀ (wa w2:World),Tch [] wc.drew wa→wa.grownBy w2 vv.ownBlock→w2.frozen? ⟨nb,2,none⟩=false∧nb < w2.heap.size∧w2.cell? ⟨nb,2,none⟩=some vv):=fun wa w2 ta hg=>by
      have ha:=HO5.out.keep ((Tch.refl [] wc).drew.trans ta)
      have hb2:w2.heap[nb]?=wa.heap[nb]?:=hg.block nb (lt_of_block ha.hb) (fun e=>ha.nk.2.1 e.symm)
      rw [ha.hb] at hb2
      exact ⟨blk_free hb2 2,lt_of_block hb2,blk_cell hb2 2⟩
     have HVC:=Lib.hid (HVO.out j wc.drew (HTR.out _ _ hBw5 ((Tch.refl [] wc).drew.below (by omega) (by simp))) (by omega))
     have hap3:xs.length+1≤maxLen:=by unfold maxLen; have:=HLN.out; omega
     have hap4:(xs.length+1) * 16≤140737488355328:=by have:=HLN.out; omega
     have hvs:=(HGD.out j).1
     generalize v.vals.getD j ⟨#[]⟩=vl at *
     have HCV:Hid (∀ w',Calls Tryz.prog 50 #[.string vl] w' _):=fun w'=>HCL.out vl w' hvs
     clear hO5 hBw5 hq5 hap1 hap2 HS4 HKA HP1 HO HBw HB5 HCK
     go_upto_region 6 with fail
     go_region_law (first
      | ((refine step_append_apart (by rfl) _ _ 69 (by rfl) B 9 i0s (.string ⟨#[]⟩) 1 16 Tryz.underlying69 his hzs0 hzs1 hzs2 rfl (by decide) vv xs.length ((xs.map En.val).map Value.string) (by rfl) (HKA5.out _ ((t6.trans t7).alloc _)).1 ⟨w7.heap.size,0,none⟩ 1 1 [.string vl] (by rfl) rfl (cells_one _ _ _) (fun x hx=>by simp only [List.mem_singleton] at hx; subst hx; rfl) (by omega) hap3 hap4 (HKA5.out _ ((t6.trans t7).alloc _)).2 ?_); intro v' w8 hown8 hg8 hp8; obtain ⟨hf8,hl8,hc8⟩:=HS6.out _ w8 ((t6.trans t7).alloc _) hg8; obtain ⟨x4,c4,rfl⟩:=own_slice hown8)
      | (go_simp; go_at_call 244; (with_reducible refine HVC.out.mono ?_); rintro e w6 ⟨rfl,t6⟩; obtain ⟨p6,l6⟩:=HPX.out _ t6)
      | (go_simp; go_at_call 50; (with_reducible refine (HCV.out _).mono ?_); rintro e w7 ⟨rfl,t7⟩; obtain ⟨p7,l7⟩:=HPX.out _ (t6.trans t7)))
     all_goals
      obtain ⟨_,hO9,hb9w,hnq9⟩:=HO5.out.addV hB (((Tch.refl [] wc).drew.trans (t6.trans t7)).alloc (.cells #[.string vl] 9)) vl (by rw [List.length_map]; exact hown8) hg8 hp8
      have hBw9:Below B w (w8.setCell ⟨nb,2,none⟩ (.slice x4 (xs.length+1) c4)):=HTR.out _ _ HBw5.out hb9w
      have hq9:=hnq9 _ _ (by omega) HQ5.out
      have HR9:Hid (OwE B nb true (es++seg.take (j+1 - i0)) (w8.setCell ⟨nb,2,none⟩ (.slice x4 (xs.length+1) c4))∧Below B w (w8.setCell ⟨nb,2,none⟩ (.slice x4 (xs.length+1) c4))∧_):=⟨by
       rw [HSG.out,← List.append_assoc,HXS.out]
       refine ⟨.slice x2 (xs.length+1) c2,.slice x4 (xs.length+1) c4,iv,?_⟩
       simp only [if_true,List.map_append,List.map_cons,List.map_nil,HMJ.out.1,HMJ.out.2]
       exact hO9,hBw9,hq9⟩
      clear hO9 hb9w hnq9 hBw9 hq9 hown8 hg8 hp8 HO5 HKA5 HS6 HVC hf8 hl8 hc8
      go_wp2
      go_roundw
      case rel=>exact ⟨j+1,by omega,by omega,by go_num,HR9.out.1,HR9.out.2.1,HR9.out.2.2⟩
      case measure=>simp [intOf]; omega
  · obtain rfl:j=i1:=by omega
    have HF:Hid (OwE B nb true (es++seg.take (j - i0)) wr∧Below B w wr):=⟨hOE,hBw⟩
    clear hOE hBw hb5
    go_wp2_with fail
    go_end0
    exact ⟨rfl,HF.out.1,HF.out.2⟩
end Go.Proofs.YtlkgnljdpakkcaaGreatDoor
/-
 'part' of package node: a node of some entries of another one,in new memory. Conditions: the node's lists and texts are short (Nv.Ok).
-/
namespace Go.Proofs.YtlkgnljdpakkcaaGreatDoor
open Go.RowKit
/-! ### plain facts -/
def Nrm (leaf:Bool) (e:En):Prop:=if leaf then e.kid=0 else e.val=⟨#[]⟩
theorem mkN_nrm (leaf:Bool) (keys vals:List ByteArray) (kids:List Int):∀ e ∈ mkN leaf keys vals kids,Nrm leaf e:=fun e he=>by
 unfold mkN at he
 obtain ⟨p,_,rfl⟩:=List.mem_map.1 he
 unfold Nrm mkE
 cases leaf <;> simp
theorem mkN_back (leaf:Bool) (es:List En) (h:∀ e ∈ es,Nrm leaf e):mkN leaf (es.map En.key) (if leaf then es.map En.val else []) (if leaf then [] else es.map En.kid)=es:=by
 apply List.ext_getElem?
 intro k
 rcases hk:es[k]? with _ | e
 · have h1:es.length≤k:=List.getElem?_eq_none_iff.1 hk
   rw [List.getElem?_eq_none (by rw [mkN_len,List.length_map]; exact h1)]
 · have hn:=h e (List.mem_of_getElem? hk)
   rw [mkN_get _ _ _ _ k e.key (by rw [List.getElem?_map,hk]; rfl)]
   obtain ⟨key,val,kid⟩:=e
   unfold mkE
   cases leaf
   · have hv:val=⟨#[]⟩:=hn
     subst hv
     simp [List.getD_eq_getElem?_getD,hk]
   · have hv:kid=0:=hn
     subst hv
     simp [List.getD_eq_getElem?_getD,hk]
def ksum (es:List En):Nat:=(es.map fun e=>e.key.size).sum
def vsum (es:List En):Nat:=(es.map fun e=>e.val.size).sum
theorem ksum_app (a b:List En):ksum (a++b)=ksum a+ksum b:=by simp [ksum]
theorem vsum_app (a b:List En):vsum (a++b)=vsum a+vsum b:=by simp [vsum]
theorem part_sum (es:List En) (i n:Nat):ksum ((es.drop i).take n)≤ksum es∧vsum ((es.drop i).take n)≤vsum es:=by
 have h1:es=es.take i++((es.drop i).take n++(es.drop i).drop n):=by rw [List.take_append_drop,List.take_append_drop]
 have h2:ksum es=ksum (es.take i)+(ksum ((es.drop i).take n)+ksum ((es.drop i).drop n)):=by
  conv=>lhs; rw [h1]
  rw [ksum_app,ksum_app]
 have h3:vsum es=vsum (es.take i)+(vsum ((es.drop i).take n)+vsum ((es.drop i).drop n)):=by
  conv=>lhs; rw [h1]
  rw [vsum_app,vsum_app]
 omega
theorem zip_vsum (vals:List ByteArray):∀ (keys:List ByteArray) (i:Nat),((keys.zipIdx i).map fun p=>(vals.getD p.2 ⟨#[]⟩).size).sum≤((vals.drop i).map ByteArray.size).sum
 | [],i=>by simp
 | k :: keys,i=>by
  have ih:=zip_vsum vals keys (i+1)
  rw [List.zipIdx_cons,List.map_cons,List.sum_cons]
  by_cases hi:i < vals.length
  · rw [List.drop_eq_getElem_cons hi,List.map_cons,List.sum_cons]
    have:vals.getD i ⟨#[]⟩=vals[i]:=by rw [List.getD_eq_getElem?_getD,List.getElem?_eq_getElem hi]; rfl
    simp only [this]
    omega
  · have h1:vals.getD i ⟨#[]⟩=⟨#[]⟩:=by rw [List.getD_eq_getElem?_getD,List.getElem?_eq_none (by omega)]; rfl
    have h2:(⟨#[]⟩:ByteArray).size=0:=rfl
    have h3:vals.drop (i+1)=[]:=List.drop_eq_nil_of_le (by omega)
    rw [h3] at ih
    simp only [h1,h2,List.map_nil,List.sum_nil] at ih ⊢
    omega
theorem zip_keys:∀ (keys:List ByteArray) (i:Nat),((keys.zipIdx i).map fun p=>p.1.size)=keys.map ByteArray.size
 | [],i=>rfl
 | k :: keys,i=>by rw [List.zipIdx_cons,List.map_cons,List.map_cons,zip_keys keys (i+1)]
theorem mkN_sums (leaf:Bool) (keys vals:List ByteArray) (kids:List Int):ksum (mkN leaf keys vals kids)=(keys.map ByteArray.size).sum∧vsum (mkN leaf keys vals kids)≤(vals.map ByteArray.size).sum:=by
 constructor
 · unfold ksum mkN
   rw [List.map_map,← zip_keys keys 0]
   rfl
 · have h:=zip_vsum vals keys 0
   unfold vsum mkN
   rw [List.map_map]
   cases leaf
   · have h0:(((keys.zipIdx).map ((fun e:En=>e.val.size) ∘ fun p=>mkE false keys vals kids p.2 p.1))).sum=0:=by
      have:((fun e:En=>e.val.size) ∘ fun p:ByteArray × Nat=>mkE false keys vals kids p.2 p.1)=fun _=>0:=by
       funext p; rfl
      rw [this]
      clear h this
      induction keys.zipIdx with
      | nil=>rfl
      | cons a l ih=>rw [List.map_cons,List.sum_cons,ih]
     omega
   · rw [List.drop_zero] at h
     exact h
theorem mkN_kidb (leaf:Bool) (keys vals:List ByteArray) (kids:List Int) (hk:∀ x ∈ kids,-9223372036854775808≤x∧x≤9223372036854775807):∀ e ∈ mkN leaf keys vals kids,-9223372036854775808≤e.kid∧e.kid≤9223372036854775807:=fun e he=>by
 unfold mkN at he
 obtain ⟨p,_,rfl⟩:=List.mem_map.1 he
 unfold mkE
 cases leaf
 · simp only [if_false,Bool.false_eq_true]
   rw [List.getD_eq_getElem?_getD]
   rcases hh:kids[p.2]? with _ | x
   · decide
   · exact hk x (List.mem_of_getElem? hh)
 · simp
theorem map_sum_mem (l:List ByteArray) (x:ByteArray) (h:x ∈ l):x.size≤(l.map ByteArray.size).sum:=by
 induction l with
 | nil=>cases h
 | cons a l ih =>
  rw [List.map_cons,List.sum_cons]
  rcases List.mem_cons.1 h with rfl | h
  · omega
  · have:=ih h; omega
structure Short (es:List En):Prop where
 len:es.length≤100000000
 sum:ksum es+vsum es≤100000000
 kid:∀ e ∈ es,-9223372036854775808≤e.kid∧e.kid≤9223372036854775807
/-! ### nodes that a call answers in new memory -/
structure NwN (B:Nat) (u:Nv) (w:World):Prop where
 hk:w.ownsRow B 9 1 (.slice u.ka u.kn u.kc) u.keys.length (u.keys.map Value.string)
 hv:w.ownsRow B 9 1 (.slice u.va u.vn u.vc) u.vals.length (u.vals.map Value.string)
 hi:w.ownsRow B 3 1 (.slice u.ia u.im u.ic) u.kids.length (u.kids.map (Value.int .i64))
 akv:Apart (.slice u.ka u.kn u.kc) (.slice u.va u.vn u.vc)
 aki:Apart (.slice u.ka u.kn u.kc) (.slice u.ia u.im u.ic)
 avi:Apart (.slice u.va u.vn u.vc) (.slice u.ia u.im u.ic)
theorem NwN.keep {B:Nat} {u:Nv} {w w':World} {L:List Nat} (h:NwN B u w) (t:Tch L w w') (hL:∀ k ∈ L,k < B):NwN B u w' :=
 have kp:∀ {e:TypeId} {v:Value} {n:Nat} {xs:List Value},w.ownsRow B e 1 v n xs→w'.ownsRow B e 1 v n xs:=fun hr=>own_keep hr t (fun k hk hm=>by have:=hL k hm; have:=(hr.lt k hk).1; omega)
 ⟨kp h.hk,kp h.hv,kp h.hi,h.akv,h.aki,h.avi⟩
theorem NwN.base {B B':Nat} {u:Nv} {w:World} (h:NwN B u w) (hb:B'≤B):NwN B' u w:=⟨own_base h.hk hb,own_base h.hv hb,own_base h.hi hb,h.akv,h.aki,h.avi⟩
theorem own_caps {B n k c:Nat} {e:TypeId} {x:Option Addr} {xs:List Value} {w:World} (h:w.ownsRow B e 1 (.slice x k c) n xs):k=n∧k≤c∧c≤maxLen∧(x=none→k=0∧c=0):=by
 rcases h.2 with ⟨hv,h0⟩ | ⟨g,cap,cur,hv,_,_,h1,h2,_⟩
 · cases hv; exact ⟨h0.symm,Nat.le_refl _,by unfold maxLen; omega,fun _=>⟨rfl,rfl⟩⟩
 · cases hv; exact ⟨rfl,h1,h2,fun h=>by cases h⟩
theorem fl_one {α:Type} (g:α→Value) (xs:List α):xs.flatMap (fun x=>[g x])=xs.map g:=by
 induction xs with
 | nil=>rfl
 | cons a l ih=>rw [List.flatMap_cons,ih]; rfl
theorem OwE.node {B nb:Nat} {leaf:Bool} {es:List En} {w:World} (h:OwE B nb leaf es w) (hn:∀ e ∈ es,Nrm leaf e) (hs:Short es) :
 ∃ u:Nv,w.heap[nb]?=some (.cells #[.bool u.leaf,.slice u.ka u.kn u.kc,.slice u.va u.vn u.vc,.slice u.ia u.im u.ic] 138 (0,0))∧u.Good w leaf es∧NwN B u w∧u.keys=es.map En.key∧u.vals=(if leaf then es.map En.val else [])∧u.kids=(if leaf then [] else es.map En.kid):=by
 obtain ⟨kv,vv,iv,h⟩:=h
 obtain ⟨xk,ck,rfl⟩:=own_slice h.hk
 obtain ⟨xv,cv,rfl⟩:=own_slice h.hv
 obtain ⟨xi,ci,rfl⟩:=own_slice h.hi
 have rk:=h.hk
 have rv:=h.hv
 have ri:=h.hi
 have ek:w.ownsRow B 9 1 (.slice xk (es.map En.key).length ck) (es.map En.key).length ((es.map En.key).flatMap fStr):=by
  rw [show ((es.map En.key).flatMap fStr)=(es.map En.key).map Value.string from fl_one _ _]; exact rk
 have ev:w.ownsRow B 9 1 (.slice xv (if leaf then es.map En.val else []).length cv) (if leaf then es.map En.val else []).length ((if leaf then es.map En.val else []).flatMap fStr):=by
  rw [show ((if leaf then es.map En.val else []).flatMap fStr)=(if leaf then es.map En.val else []).map Value.string from fl_one _ _]; exact rv
 have ei:w.ownsRow B 3 1 (.slice xi (if leaf then [] else es.map En.kid).length ci) (if leaf then [] else es.map En.kid).length ((if leaf then [] else es.map En.kid).flatMap fInt):=by
  rw [show ((if leaf then [] else es.map En.kid).flatMap fInt)=(if leaf then [] else es.map En.kid).map (Value.int .i64) from fl_one _ _]; exact ri
 obtain ⟨bk,hk1,hk2,_⟩:=IsR.own (f:=fStr) (sz:=1) (fun _=>rfl) ek rfl
 obtain ⟨bv,hv1,hv2,_⟩:=IsR.own (f:=fStr) (sz:=1) (fun _=>rfl) ev rfl
 obtain ⟨bi,hi1,hi2,_⟩:=IsR.own (f:=fInt) (sz:=1) (fun _=>rfl) ei rfl
 obtain ⟨k1,k2,k3,k4⟩:=own_caps rk
 obtain ⟨v1,v2,v3,v4⟩:=own_caps rv
 obtain ⟨i1,i2,i3,i4⟩:=own_caps ri
 have hks:((es.map En.key).map ByteArray.size).sum=ksum es:=by unfold ksum; rw [List.map_map]; rfl
 have hvs:((if leaf then es.map En.val else []).map ByteArray.size).sum≤vsum es:=by
  cases leaf
  · simp
  · simp only [if_true]; unfold vsum; rw [List.map_map]; exact Nat.le_refl _
 have hvl:(if leaf then es.map En.val else []).length≤es.length:=by cases leaf <;> simp
 have hil:(if leaf then [] else es.map En.kid).length≤es.length:=by cases leaf <;> simp
 have hsm:=hs.sum
 have hln:=hs.len
 refine ⟨⟨leaf,xk,(es.map En.key).length,ck,xv,(if leaf then es.map En.val else []).length,cv,xi,(if leaf then [] else es.map En.kid).length,ci,bk,0,bv,0,bi,0,es.map En.key,if leaf then es.map En.val else [],if leaf then [] else es.map En.kid⟩,h.hb,?_,⟨rk,rv,ri,h.akv,h.aki,h.avi⟩,rfl,rfl,rfl⟩
 refine ⟨⟨hk1,hv1,hi1⟩,rfl,mkN_back leaf es hn,?_,⟨?_,?_,?_,?_,?_,?_,?_⟩,⟨⟨k2,k3,k4⟩,⟨v2,v3,v4⟩,⟨i2,i3,i4⟩⟩⟩
 · unfold Nv.lens
   cases leaf <;> simp
 · show (es.map En.key).length≤_; rw [List.length_map]; omega
 · show (if leaf then es.map En.val else []).length≤_; omega
 · show (if leaf then [] else es.map En.kid).length≤_; omega
 · intro x hx; have:=map_sum_mem (es.map En.key) x hx; omega
 · intro x hx; have:=map_sum_mem (if leaf then es.map En.val else []) x hx; omega
 · intro x hx
   cases leaf
   · simp only [if_false,Bool.false_eq_true] at hx
     obtain ⟨e,he,rfl⟩:=List.mem_map.1 hx
     exact hs.kid e he
   · simp at hx
 · show ((es.map En.key).map ByteArray.size).sum+((if leaf then es.map En.val else []).map ByteArray.size).sum≤_; omega
theorem nadd_any (B nb i0 i1:Nat) (leaf:Bool) (es:List En) (v:Nv) (w:World) (h:OwE B nb leaf es w) (hB:B≤nb) (hv:∀ w',Below B w w'→IsNv w' v) (ho:v.Ok) (h01:i0≤i1) (h1:i1≤v.keys.length) (hes:es.length≤500000000) :
 Calls Tryz.prog 230 #[.pointer (some ⟨nb,0,none⟩),.agg #[.bool v.leaf,.slice v.ka v.kn v.kc,.slice v.va v.vn v.vc,.slice v.ia v.im v.ic],.int .i64 i0,.int .i64 i1] w fun e w' =>
  e=.returned (.tuple #[])∧OwE B nb leaf (es++((mkN leaf v.keys v.vals v.kids).drop i0).take (i1 - i0)) w'∧Below B w w':=by
 cases leaf
 · exact nadd_kids B nb i0 i1 es v w h hB hv ho h01 h1 hes
 · exact nadd_leaf B nb i0 i1 es v w h hB hv ho h01 h1 hes
theorem below_tch {B:Nat} {w W w':World} (t:Tch [] w W) (b:Below B W w') (hB:w.heap.size≤B):Tch [] w w' :=
 ⟨b.os.trans t.os,b.tape.trans t.tape,b.output.trans t.output,Nat.le_trans t.size b.size,fun k hk _=>(b.block k (by omega)).trans (t.block k hk (by simp))⟩
theorem short_mkN {v:Nv} (leaf:Bool) (ho:v.Ok):Short (mkN leaf v.keys v.vals v.kids):=by
 obtain ⟨h1,h2⟩:=mkN_sums leaf v.keys v.vals v.kids
 have h3:=ho.tot
 exact ⟨by rw [mkN_len]; exact ho.lk,by omega,mkN_kidb _ _ _ _ ho.is⟩
theorem Short.part {es:List En} (h:Short es) (i n:Nat):Short ((es.drop i).take n):=by
 obtain ⟨h1,h2⟩:=part_sum es i n
 have h3:=h.sum
 have h4:=h.len
 exact ⟨by rw [List.length_take,List.length_drop]; omega,by omega,fun e he=>h.kid e (List.mem_of_mem_drop (List.mem_of_mem_take he))⟩
end Go.Proofs.YtlkgnljdpakkcaaGreatDoor
