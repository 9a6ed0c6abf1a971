/-
  Parts of the proof: Tv, Dr, Nd2, Wks.
-/
import Derived.Test.YtlkgnljdpakkcaaGreatDoorM01
import Derived.Test.YtlkgnljdpakkcaaGreatDoorM02
import Derived.Test.YtlkgnljdpakkcaaGreatDoorM06
import Derived.Test.YtlkgnljdpakkcaaGreatDoorM10
import Derived.Test.YtlkgnljdpakkcaaGreatDoorM12
import Derived.Test.YtlkgnljdpakkcaaGreatDoorM04
import Derived.StillTailTactics
import Derived.Deep.RegionHeld3
set_option linter.unusedVariables false
set_option linter.unusedSimpArgs false
/-
 A tree of the program,and a draft of one,as they stand in memory. Plain notions over the program's types.
-/
namespace Go.Proofs.YtlkgnljdpakkcaaGreatDoor
open Go.RowKit
def nvz:Nv:=⟨false,none,0,0,none,0,0,none,0,0,0,0,0,0,0,0,[],[],[]⟩
def vNv (v:Nv):Value:=.agg #[.bool v.leaf,.slice v.ka v.kn v.kc,.slice v.va v.vn v.vc,.slice v.ia v.im v.ic]
def Nv.nod (v:Nv):Nod:=⟨v.leaf,v.es⟩
theorem zeroNd (w:World):(zeroValue 138).run Tryz.prog w=.ok (vNv nvz) w:=by kernel_rfl
structure Gd (w:World) (v:Nv):Prop where
 nv:IsNv w v
 lens:v.lens=true
 ok:v.Ok
 caps:v.caps
 row:NwN 0 v w
theorem Gd.keep {w w':World} {v:Nv} {L:List Nat} (h:Gd w v) (t:Tch L w w') (hk:∀ b,(Value.slice v.ka v.kn v.kc).ownBlock=some b→b ∉ L) (hv:∀ b,(Value.slice v.va v.vn v.vc).ownBlock=some b→b ∉ L) (hi:∀ b,(Value.slice v.ia v.im v.ic).ownBlock=some b→b ∉ L):Gd w' v:=by
 have r:=h.row
 have own:∀ {e:TypeId} {a:Option Addr} {n c:Nat} {xs:List Value} {α:Type} {f:α→List Value} {b o:Nat} {ys:List α},w.ownsRow 0 e 1 (.slice a n c) xs.length xs→IsR f 1 w a n b o ys→(∀ b,(Value.slice a n c).ownBlock=some b→b ∉ L)→IsR f 1 w' a n b o ys:=fun {e a n c xs α f b o ys} h1 h2 h3=>h2.keep t (fun hp hm=>by
  have:=h2.some_ hp
  subst this
  exact h3 b rfl hm)
 refine ⟨⟨?_,?_,?_⟩,h.lens,h.ok,h.caps,⟨own_keep r.hk t hk,own_keep r.hv t hv,own_keep r.hi t hi,r.akv,r.aki,r.avi⟩⟩
 · have:=r.hk
   exact h.nv.rk.keep t (fun hp hm=>by have:=h.nv.rk.some_ hp; rw [this] at hk; exact hk _ rfl hm)
 · exact h.nv.rv.keep t (fun hp hm=>by have:=h.nv.rv.some_ hp; rw [this] at hv; exact hv _ rfl hm)
 · exact h.nv.ri.keep t (fun hp hm=>by have:=h.nv.ri.some_ hp; rw [this] at hi; exact hi _ rfl hm)
theorem Gd.keep0 {w w':World} {v:Nv} (h:Gd w v) (t:Tch [] w w'):Gd w' v:=h.keep t (fun _ _=>by simp) (fun _ _=>by simp) (fun _ _=>by simp)
theorem gdz (w:World):Gd w nvz:=by
 refine ⟨⟨IsR.nil _ _ _ _,IsR.nil _ _ _ _,IsR.nil _ _ _ _⟩,rfl,?_,?_,⟨World.ownsRow_nil _ _ _ _,World.ownsRow_nil _ _ _ _,World.ownsRow_nil _ _ _ _,Apart.nil _,Apart.nil _,Apart.nil _⟩⟩
 · refine ⟨?_,?_,?_,?_,?_,?_,?_⟩ <;> simp [nvz]
 · unfold Nv.caps nvz maxLen; simp
theorem own_kind {w:World} {B b:Nat} {e:TypeId} {v:Value} {n:Nat} {xs:List Value} (h:w.ownsRow B e 1 v n xs) (hv:v.ownBlock=some b):∃ cs,w.heap[b]?=some (.cells cs e (0,0)):=by
 rcases h.2 with ⟨rfl,_⟩ | ⟨g,cap,cur,rfl,_,hg,_⟩
 · simp [Value.ownBlock] at hv
 · simp [Value.ownBlock] at hv; subst hv; exact ⟨cur,hg⟩
theorem Gd.kept {w w':World} {v:Nv} {L:List Nat} (h:Gd w v) (t:Tch L w w') (hL:∀ b ∈ L,∀ cs,w.heap[b]?≠some (.cells cs 9 (0,0))∧w.heap[b]?≠some (.cells cs 3 (0,0))):Gd w' v :=
 h.keep t (fun b hb hm=>by obtain ⟨cs,hc⟩:=own_kind h.row.hk hb; exact (hL b hm cs).1 hc) (fun b hb hm=>by obtain ⟨cs,hc⟩:=own_kind h.row.hv hb; exact (hL b hm cs).1 hc) (fun b hb hm=>by obtain ⟨cs,hc⟩:=own_kind h.row.hi hb; exact (hL b hm cs).2 hc)
def Hig (B:Nat) (v:Nv):Prop:=(∀ b,(Value.slice v.ka v.kn v.kc).ownBlock=some b→B≤b)∧(∀ b,(Value.slice v.va v.vn v.vc).ownBlock=some b→B≤b)∧(∀ b,(Value.slice v.ia v.im v.ic).ownBlock=some b→B≤b)
theorem NwN.hig {B B':Nat} {v:Nv} {w:World} (h:NwN B v w) (hb:B'≤B):Hig B' v:=⟨fun b e=>Nat.le_trans hb (h.hk.lt b e).1,fun b e=>Nat.le_trans hb (h.hv.lt b e).1,fun b e=>Nat.le_trans hb (h.hi.lt b e).1⟩
theorem Hig.base {B B':Nat} {v:Nv} (h:Hig B v) (hb:B'≤B):Hig B' v:=⟨fun b e=>Nat.le_trans hb (h.1 b e),fun b e=>Nat.le_trans hb (h.2.1 b e),fun b e=>Nat.le_trans hb (h.2.2 b e)⟩
theorem hig_z (B:Nat):Hig B nvz:=⟨fun b e=>by simp [nvz,Value.ownBlock] at e,fun b e=>by simp [nvz,Value.ownBlock] at e,fun b e=>by simp [nvz,Value.ownBlock] at e⟩
/-! ### maps of nodes -/
def mbnd:Nat:=1000000000
theorem IsMp.tight {w:World} {b n N:Nat} {f:Int→Option Value} (h:IsMp w b f n) (hs:∀ x,(Lit.int .i64 x).wf=true→f x≠none→0≤x∧x < N):IsMp w b f N:=by
 obtain ⟨D,h1,h2⟩:=h
 refine ⟨D,?_,h2⟩
 obtain ⟨es0,he,hd,hk⟩:=h1.entries Tryz.keyI
 obtain ⟨es,clock,hb,F,hn,hD⟩:=h1
 refine ⟨es,clock,hb,F,?_,hD⟩
 have hsz:es.size=es0.length:=by
  rw [hD] at he
  cases he
  simp [length_sorted]
 have hint:∀ p ∈ es0,∃ x,p.1=.int .i64 x∧0≤x∧x < (N:Int):=fun p hp=>by
  have hp0:=hp
  rw [hD] at he
  cases he
  obtain ⟨e,he,rfl⟩:=List.mem_map.1 (mem_sorted.1 hp)
  obtain ⟨y,hy⟩:=F.reads e he
  obtain ⟨x,_,hx,hw⟩:=Maps.keyOf_int_inv Tryz.underlying3 (Go.WideElems.rd_key hy)
  have hx2:(Go.WideElems.rg Tryz.prog 3 rv e).1=.int .i64 x:=by rw [Go.WideElems.rg_of hy]; exact hx
  refine ⟨x,hx2,hs x hw ?_⟩
  rw [h2 x hw,hD]
  have hown:w.ownsMap Tryz.prog 3 rv b n (.map ((es.toList.map (Go.WideElems.rg Tryz.prog 3 rv)).foldr DataW.insert [])):=⟨es,clock,hb,F,hn,rfl⟩
  rcases mp_has hown hw with ⟨_,u,a2,_⟩ | ⟨a1,_,_⟩
  · rw [a2]; simp
  · have:=List.any_eq_false.1 a1 _ hp0
    rw [hx2] at this
    simp [Lit.sameKey] at this
 have h3:∀ (l:List (Lit × DataW Value)),l.Pairwise (fun p q=>p.1≠q.1)→(∀ p ∈ l,∃ x,p.1=.int .i64 x∧0≤x∧x < (N:Int))→∃ m:List Int,m.length=l.length∧m.Nodup∧∀ x ∈ m,0≤x∧x < (N:Int)∧∃ p ∈ l,p.1=.int .i64 x:=by
  intro l
  induction l with
  | nil=>intro _ _; exact ⟨[],rfl,by simp,by simp⟩
  | cons p l ih =>
   intro hp hl
   obtain ⟨p1,p2⟩:=List.pairwise_cons.1 hp
   obtain ⟨m,m1,m2,m3⟩:=ih p2 (fun q hq=>hl q (by simp [hq]))
   obtain ⟨x,x1,x2,x3⟩:=hl p (by simp)
   refine ⟨x :: m,by simp [m1],List.nodup_cons.2 ⟨fun hm=>?_,m2⟩,fun y hy=>?_⟩
   · obtain ⟨_,_,q,hq,hqx⟩:=m3 x hm
     exact p1 q hq (by rw [x1,hqx])
   · rcases List.mem_cons.1 hy with rfl | hy
     · exact ⟨x2,x3,p,by simp,x1⟩
     · obtain ⟨y1,y2,q,hq,hqx⟩:=m3 y hy
       exact ⟨y1,y2,q,by simp [hq],hqx⟩
 obtain ⟨m,m1,m2,m3⟩:=h3 es0 hd hint
 have h4:=nodup_len N 0 m (fun x=>(List.nodup_iff_count.1 m2) x) (fun x hx=>by have:=m3 x hx; omega)
 omega
structure IsNm (w:World) (b:Nat) (f:Int→Option Nv):Prop where
 mp:IsMp w b (fun x=>(f x).map vNv) mbnd
 gd:∀ x v,f x=some v→Gd w v
 sup:∀ x v,f x=some v→0≤x∧x < topN
theorem IsNm.keep {w w':World} {b:Nat} {f:Int→Option Nv} {L:List Nat} (h:IsNm w b f) (t:Tch L w w') (hb:b ∉ L) (hL:∀ b ∈ L,∀ cs,w.heap[b]?≠some (.cells cs 9 (0,0))∧w.heap[b]?≠some (.cells cs 3 (0,0))):IsNm w' b f :=
 ⟨h.mp.keep t hb,fun x v hx=>(h.gd x v hx).kept t hL,h.sup⟩
theorem IsNm.keep0 {w w':World} {b:Nat} {f:Int→Option Nv} (h:IsNm w b f) (t:Tch [] w w'):IsNm w' b f:=h.keep t (by simp) (by simp)
def updN (f:Int→Option Nv) (x:Int) (v:Option Nv):Int→Option Nv:=fun y=>if y=x then v else f y
theorem updN_map (f:Int→Option Nv) (x:Int) (v:Option Nv):(fun y=>(updN f x v y).map vNv)=updF (fun y=>(f y).map vNv) x (v.map vNv):=by
 funext y; unfold updN updF; split <;> rfl
theorem IsNm.put {w w':World} {b:Nat} {f:Int→Option Nv} {x:Int} {v:Nv} (h:IsNm w b f) (hm:IsMp w' b (updF (fun y=>(f y).map vNv) x (some (vNv v))) (mbnd+1)) (t:Tch [b] w w') (hv:Gd w v) (hx:0≤x∧x < topN):IsNm w' b (updN f x (some v)):=by
 have hL:∀ c ∈ [b],∀ cs,w.heap[c]?≠some (.cells cs 9 (0,0))∧w.heap[c]?≠some (.cells cs 3 (0,0)):=fun c hc cs=>by
  simp only [List.mem_singleton] at hc
  subst hc
  exact ⟨fun e=>h.mp.ne e rfl,fun e=>h.mp.ne e rfl⟩
 have hsup:∀ y u,updN f x (some v) y=some u→0≤y∧y < topN:=fun y u hy=>by
  unfold updN at hy
  split at hy
  · rename_i e; subst e; exact hx
  · exact h.sup y u hy
 refine ⟨?_,fun y u hy=>?_,hsup⟩
 · rw [updN_map]
   refine (hm.tight (N:=topN) (fun y _ hy=>?_)).mono (by unfold topN mbnd; omega)
   have e:=updN_map f x (some v)
   have e2:=congrFun e y
   rw [show (some v).map vNv=some (vNv v) from rfl] at e2
   rw [← e2] at hy
   cases hu:updN f x (some v) y with
   | none=>rw [hu] at hy; exact absurd rfl hy
   | some u=>exact hsup y u hu
 · unfold updN at hy
   split at hy
   · cases hy; exact hv.kept t hL
   · exact (h.gd y u hy).kept t hL
theorem IsNm.del {w w':World} {b:Nat} {f:Int→Option Nv} {x:Int} (h:IsNm w b f) (hm:IsMp w' b (updF (fun y=>(f y).map vNv) x none) mbnd) (t:Tch [b] w w'):IsNm w' b (updN f x none):=by
 have hL:∀ c ∈ [b],∀ cs,w.heap[c]?≠some (.cells cs 9 (0,0))∧w.heap[c]?≠some (.cells cs 3 (0,0)):=fun c hc cs=>by
  simp only [List.mem_singleton] at hc
  subst hc
  exact ⟨fun e=>h.mp.ne e rfl,fun e=>h.mp.ne e rfl⟩
 refine ⟨?_,fun y u hy=>?_,fun y u hy=>?_⟩
 · rw [updN_map]; exact hm
 · unfold updN at hy
   split at hy
   · cases hy
   · exact (h.gd y u hy).kept t hL
 · unfold updN at hy
   split at hy
   · cases hy
   · exact h.sup y u hy
/-! ### a tree,a draft -/
structure Tv where
 root:Int
 jb:Nat
 b:Nat
 bs:Nat
 room:Nat
 mb:Nat
 lost:Bool
 f:Int→Option Nv
 D:Ds
def mN (f:Int→Option Nv) (x:Int):Nod:=((f x).map Nv.nod).getD nod0
structure IsTr (w:World) (tb:Nat) (T:Tv):Prop where
 blk:w.heap[tb]?=some (.cells #[.int .i64 T.root,.pointer (some ⟨T.jb,0,none⟩),.map (some T.mb),.bool T.lost] 128 (0,0))
 jn:IsJn w T.jb T.b T.room
 ds:IsDs w T.b T.bs T.D
 ns:IsNm w T.mb T.f
 room:T.room≤500
theorem IsTr.keep0 {w w':World} {tb:Nat} {T:Tv} (h:IsTr w tb T) (t:Tch [] w w'):IsTr w' tb T:=⟨t.keep h.blk (by simp),h.jn.keep t (by simp),h.ds.keep t (by simp) (by simp),h.ns.keep0 t,h.room⟩
structure Dv where
 root:Int
 tb:Nat
 mb:Nat
 fresh:Nat
 f:Int→Option Nv
def Dv.ov (d:Dv):Ov:=⟨fun x=>(d.f x).map Nv.nod,d.fresh⟩
structure IsDr (w:World) (db:Nat) (d:Dv) (H0:Nat):Prop where
 blk:w.heap[db]?=some (.cells #[.int .i64 d.root,.pointer (some ⟨d.tb,0,none⟩),.map (some d.mb),.int .i64 d.fresh] 200 (0,0))
 ns:IsNm w d.mb d.f
 own:∀ x v,d.f x=some v→w.ownsRow H0 3 1 (.slice v.ia v.im v.ic) v.kids.length (v.kids.map (Value.int .i64))
 apart:∀ x y v u,x≠y→d.f x=some v→d.f y=some u→Apart (.slice v.ia v.im v.ic) (.slice u.ia u.im u.ic)
 fr:d.fresh≤200000000
 hig:∀ x v,d.f x=some v→Hig H0 v
theorem IsDr.keep0 {w w':World} {db:Nat} {d:Dv} {H0:Nat} (h:IsDr w db d H0) (t:Tch [] w w'):IsDr w' db d H0:=⟨t.keep h.blk (by simp),h.ns.keep0 t,fun x v hx=>own_keep (h.own x v hx) t (fun _ _=>by simp),h.apart,h.fr,h.hig⟩
theorem mN_ov (T:Tv) (d:Dv) (x:Int):d.ov.m (mN T.f) x=(((d.f x).or (T.f x)).map Nv.nod).getD nod0:=by
 unfold Ov.m Dv.ov mN
 simp only
 cases d.f x <;> rfl
def Dv.at_ (d:Dv) (T:Tv) (x:Int):Nv:=((d.f x).or (T.f x)).getD nvz
theorem at_nod (d:Dv) (T:Tv) (x:Int):(d.at_ T x).nod=d.ov.m (mN T.f) x:=by
 rw [mN_ov]
 unfold Dv.at_
 cases (d.f x).or (T.f x) <;> rfl
theorem at_gd {w:World} {db tb H0:Nat} {d:Dv} {T:Tv} (hd:IsDr w db d H0) (ht:IsTr w tb T) (x:Int):Gd w (d.at_ T x):=by
 unfold Dv.at_
 cases h1:d.f x with
 | some v=>exact hd.ns.gd x v h1
 | none =>
  cases h2:T.f x with
  | some v=>exact ht.ns.gd x v h2
  | none=>exact gdz w
end Go.Proofs.YtlkgnljdpakkcaaGreatDoor
/-
 Small calls of a draft: is there a node,what stands under a number,a node is kept or dropped,is it lean.
-/
namespace Go.Proofs.YtlkgnljdpakkcaaGreatDoor
open Go.RowKit
theorem Gd.kn {w:World} {v:Nv} (h:Gd w v):v.kn=v.es.length:=by rw [v.es_len]; exact h.nv.rk.hlen
theorem Gd.im {w:World} {v:Nv} (h:Gd w v):v.im=if v.leaf then 0 else v.es.length:=by
 have h1:=h.lens
 rw [h.nv.ri.hlen]
 unfold Nv.lens at h1
 cases hl:v.leaf
 · rw [hl] at h1
   simp only [Bool.false_eq_true,if_false,Bool.and_eq_true,beq_iff_eq] at h1 ⊢
   rw [v.es_len]; exact h1.1
 · rw [hl] at h1
   simp only [if_true,Bool.and_eq_true,beq_iff_eq] at h1 ⊢
   exact h1.2
theorem isNone_any (v:Nv) (w:World) (h:Gd w v):Calls Tryz.prog 99 #[vNv v] w fun e w'=>e=.returned (.bool (decide (v.es=[])))∧Tch [] w w':=by
 have T0:Tch [] w (w.alloc (.cells #[.bool v.leaf,.slice v.ka v.kn v.kc,.slice v.va v.vn v.vc,.slice v.ia v.im v.ic] 138)):=(Tch.refl _ _).alloc _
 have hk:=h.kn
 have HR:Hid ((decide (v.es=[]))=((v.kn:Int) == 0)):=by
  show _=_
  rw [hk]
  cases v.es <;> simp; omega
 generalize decide (v.es=[])=r at HR ⊢
 unfold vNv
 clear h hk
 generalize v.leaf=vleaf at *
 generalize v.ka=vka at *
 generalize v.kn=vkn at *
 generalize v.kc=vkc at *
 generalize v.va=vva at *
 generalize v.vn=vvn at *
 generalize v.vc=vvc at *
 generalize v.ia=via at *
 generalize v.im=vim at *
 generalize v.ic=vic at *
 go_enter Tryz.func99,Tryz.ntmps99
 go_wp2_with fail
 go_ret
 exact ⟨by rw [HR.out]; rfl,T0⟩
theorem drop_any (db H0:Nat) (d:Dv) (x:Int) (w:World) (hd:IsDr w db d H0) (hx:0≤x∧x < topN) :
 Calls Tryz.prog 171 #[.pointer (some ⟨db,0,none⟩),.int .i64 x] w fun e w'=>e=.returned (.tuple #[])∧(IsDr w' db { d with f:=updN d.f x (some nvz) } H0∧Tch [d.mb] w w'):=by
 have c2:=blk_cell hd.blk 2
 simp only [gA,gZ,gS] at c2
 have hlt:=lt_of_block hd.blk
 have hmp:=hd.ns.mp
 have hwx:(Lit.int .i64 x).wf=true:=wfI (by omega) (by unfold topN at hx; omega)
 have hne:d.mb≠db:=hmp.ne hd.blk
 have HF:Hid (∀ w',IsMp w' d.mb (updF (fun y=>(d.f y).map vNv) x (some (vNv nvz))) (mbnd+1)→Tch [d.mb] w w'→IsDr w' db { d with f:=updN d.f x (some nvz) } H0):=fun w' hm t=>by
  have hL:∀ c ∈ [d.mb],∀ cs,w.heap[c]?≠some (.cells cs 9 (0,0))∧w.heap[c]?≠some (.cells cs 3 (0,0)):=fun c hc cs=>by
   simp only [List.mem_singleton] at hc
   subst hc
   exact ⟨fun e=>hmp.ne e rfl,fun e=>hmp.ne e rfl⟩
  refine ⟨t.keep hd.blk (by simp; exact fun e=>hne e.symm),hd.ns.put hm t (gdz w) hx,fun y v hy=>?_,fun y z v u hyz hy hz=>?_,hd.fr,fun y v hy=>by
   unfold updN at hy
   simp only at hy
   split at hy
   · cases hy; exact hig_z _
   · exact hd.hig y v hy⟩
  · unfold updN at hy
    simp only at hy
    split at hy
    · cases hy; exact World.ownsRow_nil _ _ _ _
    · have ho:=hd.own y v hy
      exact own_keep ho t (fun k hk hm2=>by obtain ⟨cs,hc⟩:=own_kind ho hk; exact (hL k hm2 cs).2 hc)
  · unfold updN at hy hz
    simp only at hy hz
    split at hy
    · cases hy; exact Apart.nil _
    · split at hz
      · cases hz; exact (Apart.nil _).symm
      · exact hd.apart y z v u hyz hy hz
 clear hd hne
 generalize d.mb=mb at *
 go_enter Tryz.func171,Tryz.ntmps171
 go_wp2_with (at_mapUpdate; refine wpList_store_mp _ rfl _ _ _ 124 rfl 138 Tryz.underlying124 mb mbnd _ rfl hmp (by unfold mbnd maxLen; omega) x rfl hwx ?_; intro w2 h2 t2)
 go_end0
 exact ⟨rfl,HF.out _ h2 t2,t2⟩
theorem IsDr.lay {w w':World} {db H0:Nat} {d d':Dv} {x:Int} {v:Nv} {L:List Nat} (h:IsDr w db d H0) (t:Tch L w w') (hL:∀ k ∈ L,k=db∨k=d.mb) (hm:IsMp w' d.mb (updF (fun y=>(d.f y).map vNv) x (some (vNv v))) (mbnd+1))
 (hb:w'.heap[db]?=some (.cells #[.int .i64 d'.root,.pointer (some ⟨d'.tb,0,none⟩),.map (some d'.mb),.int .i64 d'.fresh] 200 (0,0))) (hmb:d'.mb=d.mb) (hf:d'.f=updN d.f x (some v)) (hfr:d'.fresh≤200000000)
 (hv:Gd w v) (ho:w.ownsRow H0 3 1 (.slice v.ia v.im v.ic) v.kids.length (v.kids.map (Value.int .i64))) (ha:∀ y u,y≠x→d.f y=some u→Apart (.slice v.ia v.im v.ic) (.slice u.ia u.im u.ic)) (hx:0≤x∧x < topN) (hh:Hig H0 v):IsDr w' db d' H0:=by
 have hmp:=h.ns.mp
 have hK:∀ c ∈ L,∀ cs,w.heap[c]?≠some (.cells cs 9 (0,0))∧w.heap[c]?≠some (.cells cs 3 (0,0)):=fun c hc cs=>by
  rcases hL c hc with rfl | rfl
  · rw [h.blk]; exact ⟨by simp,by simp⟩
  · exact ⟨fun e=>hmp.ne e rfl,fun e=>hmp.ne e rfl⟩
 have hsup:∀ y u,updN d.f x (some v) y=some u→0≤y∧y < topN:=fun y u hy=>by
  unfold updN at hy
  split at hy
  · rename_i e; subst e; exact hx
  · exact h.ns.sup y u hy
 refine ⟨hb,⟨?_,fun y u hy=>?_,?_⟩,fun y u hy=>?_,fun y z u u' hyz hy hz=>?_,hfr,fun y u hy=>by
  rw [hf] at hy
  unfold updN at hy
  split at hy
  · cases hy; exact hh
  · exact h.hig y u hy⟩
 · rw [hf,hmb,updN_map]
   refine (hm.tight (N:=topN) (fun y _ hy=>?_)).mono (by unfold topN mbnd; omega)
   have e2:=congrFun (updN_map d.f x (some v)) y
   rw [show (some v).map vNv=some (vNv v) from rfl] at e2
   rw [← e2] at hy
   cases hu:updN d.f x (some v) y with
   | none=>rw [hu] at hy; exact absurd rfl hy
   | some u=>exact hsup y u hu
 · rw [hf] at hy
   unfold updN at hy
   split at hy
   · cases hy; exact hv.kept t hK
   · exact (h.ns.gd y u hy).kept t hK
 · rw [hf]; exact hsup
 · rw [hf] at hy
   unfold updN at hy
   split at hy
   · cases hy; exact own_keep ho t (fun k hk hm2=>by obtain ⟨cs,hc⟩:=own_kind ho hk; exact (hK k hm2 cs).2 hc)
   · have ho:=h.own y u hy
     exact own_keep ho t (fun k hk hm2=>by obtain ⟨cs,hc⟩:=own_kind ho hk; exact (hK k hm2 cs).2 hc)
 · rw [hf] at hy hz
   unfold updN at hy hz
   split at hy
   · cases hy
     rename_i e
     rw [if_neg (fun e2=>hyz (by rw [e,e2]))] at hz
     exact ha z u' (fun e2=>hyz (by rw [e,e2])) hz
   · split at hz
     · cases hz
       rename_i e1 e2
       exact (ha y u e1 hy).symm
     · exact h.apart y z u u' hyz hy hz
set_option maxRecDepth 100000 in
theorem put_any (db H0:Nat) (d:Dv) (v:Nv) (w:World) (hd:IsDr w db d H0) (hv:Gd w v) (ho:w.ownsRow H0 3 1 (.slice v.ia v.im v.ic) v.kids.length (v.kids.map (Value.int .i64))) (ha:∀ y u,d.f y=some u→Apart (.slice v.ia v.im v.ic) (.slice u.ia u.im u.ic)) (hfr:d.fresh < 200000000) (hh:Hig H0 v) :
 Calls Tryz.prog 136 #[.pointer (some ⟨db,0,none⟩),vNv v] w fun e w'=>e=.returned (.int .i64 d.ov.nx)∧(IsDr w' db { d with f:=updN d.f d.ov.nx (some v),fresh:=d.fresh+1 } H0∧Tch [db,d.mb] w w'):=by
 have c2:=blk_cell hd.blk 2
 have c3:=blk_cell hd.blk 3
 have f3:=blk_free hd.blk 3
 simp only [gA,gZ,gS] at c2 c3
 have hlt:=lt_of_block hd.blk
 have hmp:=hd.ns.mp
 have hne:d.mb≠db:=hmp.ne hd.blk
 have hnx:d.ov.nx=16384+(d.fresh:Int):=rfl
 have hx:(0:Int)≤16384+(d.fresh:Int)∧16384+(d.fresh:Int) < topN:=by unfold topN; omega
 have hwx:(Lit.int .i64 (16384+(d.fresh:Int))).wf=true:=wfI (by omega) (by omega)
 have HM:Hid (∀ W,Tch [db] w W→IsMp W d.mb (fun x=>(d.f x).map vNv) mbnd):=fun W t=>hmp.keep t (by simpa using hne)
 have HF:Hid (∀ W w',Tch [db] w W→W.heap[db]?=some (.cells #[.int .i64 d.root,.pointer (some ⟨d.tb,0,none⟩),.map (some d.mb),.int .i64 ((d.fresh:Int)+1)] 200 (0,0))→IsMp w' d.mb (updF (fun y=>(d.f y).map vNv) (16384+(d.fresh:Int)) (some (vNv v))) (mbnd+1)→Tch [d.mb] W w'→IsDr w' db { d with f:=updN d.f (16384+(d.fresh:Int)) (some v),fresh:=d.fresh+1 } H0∧Tch [db,d.mb] w w'):=fun W w' t hb hm t2=>by
  have t3:Tch [db,d.mb] w w':=(t.mono (by simp)).trans (t2.mono (by simp))
  refine ⟨hd.lay t3 (by simp) hm ?_ rfl rfl (by simp only; omega) hv ho (fun y u _ hy=>ha y u hy) hx hh,t3⟩
  have:=t2.keep hb (by simp; exact fun e=>hne e.symm)
  rw [this]
  simp
 have HB:Hid ((w.setCell ⟨db,3,none⟩ (.int .i64 ((d.fresh:Int)+1))).heap[db]?=some (.cells #[.int .i64 d.root,.pointer (some ⟨d.tb,0,none⟩),.map (some d.mb),.int .i64 ((d.fresh:Int)+1)] 200 (0,0))):=by
  show _=_
  exact blk_set hd.blk 3 (.int .i64 ((d.fresh:Int)+1))
 rw [hnx]
 have hf0:(0:Int)≤(d.fresh:Int)∧(d.fresh:Int) < 200000000:=by omega
 clear hd hv ho ha hne hnx hmp hfr hh
 generalize d.mb=mb at *
 generalize d.fresh=fresh at *
 unfold vNv at HF ⊢
 generalize v.leaf=vleaf at *
 generalize v.ka=vka at *
 generalize v.kn=vkn at *
 generalize v.kc=vkc at *
 generalize v.va=vva at *
 generalize v.vn=vvn at *
 generalize v.vc=vvc at *
 generalize v.ia=via at *
 generalize v.im=vim at *
 generalize v.ic=vic at *
 go_enter Tryz.func136,Tryz.ntmps136
 go_wp2_with fail
 obtain ⟨W,hW⟩:∃ W,W=(w.setCell ⟨db,3,none⟩ (.int .i64 ((fresh:Int)+1))).alloc (.cells #[.bool vleaf,.slice vka vkn vkc,.slice vva vvn vvc,.slice via vim vic] 138):=⟨_,rfl⟩
 rw [← hW]
 have T1:Tch [db] w W:=by rw [hW]; exact ((Tch.refl [db] w).setCell (by simp) _).alloc _
 have hbW:W.heap[db]?=some (.cells #[.int .i64 d.root,.pointer (some ⟨d.tb,0,none⟩),.map (some mb),.int .i64 ((fresh:Int)+1)] 200 (0,0)):=by rw [hW]; exact blk_alloc HB.out _
 have hbN:W.heap[w.heap.size]?=some (.cells #[.bool vleaf,.slice vka vkn vkc,.slice vva vvn vvc,.slice via vim vic] 138 (0,0)):=by
  rw [hW,show w.heap.size=(w.setCell ⟨db,3,none⟩ (.int .i64 ((fresh:Int)+1))).heap.size from by simp [World.setCell]]; exact blk_new _ _
 have d2:=blk_cell hbW 2
 have n0:=blk_cell hbN 0
 have n1:=blk_cell hbN 1
 have n2:=blk_cell hbN 2
 have n3:=blk_cell hbN 3
 simp only [gA,gZ,gS] at d2 n0 n1 n2 n3
 have hMW:=HM.out W.drew T1.drew
 have HF2:=Lib.hid (HF.out W.drew)
 have T1d:=T1.drew
 clear hW hbN HB HM HF c2 c3 f3
 go_still_tail 6,(by kernel_rfl)
 change wpList _ _ _ _ _ W.drew
 go_wp2_with (at_mapUpdate; refine wpList_store_mp _ rfl _ _ _ 124 rfl 138 Tryz.underlying124 mb mbnd _ rfl hMW (by unfold mbnd maxLen; omega) (16384+(fresh:Int)) rfl hwx ?_; intro w2 h2 t2)
 go_ret
 exact ⟨rfl,HF2.out _ T1d hbW h2 t2⟩
set_option maxRecDepth 100000 in
theorem node_any (db H0:Nat) (d:Dv) (T:Tv) (x:Int) (w:World) (hd:IsDr w db d H0) (ht:IsTr w d.tb T) (hx:0≤x∧x < topN) :
 Calls Tryz.prog 100 #[.pointer (some ⟨db,0,none⟩),.int .i64 x] w fun e w'=>e=.returned (vNv (d.at_ T x))∧Tch [] w w':=by
 have c1:=blk_cell hd.blk 1
 have c2:=blk_cell hd.blk 2
 have e2:=blk_cell ht.blk 2
 simp only [gA,gZ,gS] at c1 c2 e2
 have hlt:=lt_of_block hd.blk
 have hlt2:=lt_of_block ht.blk
 have hwx:(Lit.int .i64 x).wf=true:=wfI (by omega) (by unfold topN at hx; omega)
 have HD:Hid (∀ W,Tch [] w W→IsMp W d.mb (fun x=>(d.f x).map vNv) mbnd):=fun W t=>hd.ns.mp.keep t (by simp)
 have HT:Hid (∀ W,Tch [] w W→IsMp W T.mb (fun x=>(T.f x).map vNv) mbnd):=fun W t=>ht.ns.mp.keep t (by simp)
 unfold Dv.at_
 cases h1:d.f x with
 | some v =>
  have hv1:((fun x=>(d.f x).map vNv) x).getD (vNv nvz)=vNv v:=by simp [h1]
  have hs1:((fun x=>(d.f x).map vNv) x).isSome=true:=by simp [h1]
  simp only [Option.some_or,Option.getD_some]
  unfold vNv at hv1 ⊢
  clear hd ht HT h1 e2
  generalize d.mb=mb at *
  generalize T.mb=mb2 at *
  generalize v.leaf=vleaf at *
  generalize v.ka=vka at *
  generalize v.kn=vkn at *
  generalize v.kc=vkc at *
  generalize v.va=vva at *
  generalize v.vn=vvn at *
  generalize v.vc=vvc at *
  generalize v.ia=via at *
  generalize v.im=vim at *
  generalize v.ic=vic at *
  go_enter Tryz.func100,Tryz.ntmps100
  go_wp2_with (at_lookup; refine wpList_lookup_mp_ok _ rfl _ _ 124 rfl 138 Tryz.underlying124 (zeroNd _) mb mbnd _ rfl (HD.out _ ((Tch.refl [] w).alloc _)) x rfl hwx _ hv1 _ hs1 ?_)
  refine bodyPost_ret (v:=.agg #[.bool vleaf,.slice vka vkn vkc,.slice vva vvn vvc,.slice via vim vic]) (by simp [results,Tryz.results100,go_sem]) rfl ⟨rfl,?_⟩
  exact ((Tch.refl [] w).alloc _).alloc _
 | none =>
  have hv1:((fun x=>(d.f x).map vNv) x).getD (vNv nvz)=vNv nvz:=by simp [h1]
  have hs1:((fun x=>(d.f x).map vNv) x).isSome=false:=by simp [h1]
  have hv2:((fun x=>(T.f x).map vNv) x).getD (vNv nvz)=vNv (((none:Option Nv).or (T.f x)).getD nvz):=by show ((T.f x).map vNv).getD (vNv nvz)=_; cases T.f x <;> rfl
  generalize ((none:Option Nv).or (T.f x)).getD nvz=u at *
  have hz1:vNv nvz=.agg #[.bool false,.slice none 0 0,.slice none 0 0,.slice none 0 0]:=rfl
  rw [hz1] at hv1 hv2
  clear hz1
  unfold vNv at hv1 hv2 ⊢
  clear hd ht h1
  generalize d.mb=mb at *
  generalize T.mb=mb2 at *
  generalize d.tb=tb at *
  generalize u.leaf=uleaf at *
  generalize u.ka=uka at *
  generalize u.kn=ukn at *
  generalize u.kc=ukc at *
  generalize u.va=uva at *
  generalize u.vn=uvn at *
  generalize u.vc=uvc at *
  generalize u.ia=uia at *
  generalize u.im=uim at *
  generalize u.ic=uic at *
  go_enter Tryz.func100,Tryz.ntmps100
  go_wp2_with (at_lookup; first | refine wpList_lookup_mp_ok _ rfl _ _ 124 rfl 138 Tryz.underlying124 (zeroNd _) mb mbnd _ rfl (HD.out _ ((Tch.refl [] w).alloc _)) x rfl hwx _ hv1 _ hs1 ?_ | refine wpList_lookup_mp _ rfl _ _ 124 rfl 138 Tryz.underlying124 (zeroNd _) mb2 mbnd _ rfl (HT.out _ (((Tch.refl [] w).alloc _).alloc _)) x rfl hwx _ hv2 ?_)
  refine bodyPost_ret (v:=.agg #[.bool uleaf,.slice uka ukn ukc,.slice uva uvn uvc,.slice uia uim uic]) (by simp [results,Tryz.results100,go_sem]) rfl ⟨rfl,?_⟩
  exact ((Tch.refl [] w).alloc _).alloc _
end Go.Proofs.YtlkgnljdpakkcaaGreatDoor
/-
 A node made of rows of a call's own; what a node's entries say of its lists.
-/
namespace Go.Proofs.YtlkgnljdpakkcaaGreatDoor
open Go.RowKit
theorem node_own {B:Nat} {leaf:Bool} {es:List En} {w:World} {kv vv iv:Value} (rk:w.ownsRow B 9 1 kv es.length ((es.map En.key).map Value.string)) (rv:w.ownsRow B 9 1 vv (if leaf then es.map En.val else []).length ((if leaf then es.map En.val else []).map Value.string))
 (ri:w.ownsRow B 3 1 iv (if leaf then [] else es.map En.kid).length ((if leaf then [] else es.map En.kid).map (Value.int .i64))) (akv:Apart kv vv) (aki:Apart kv iv) (avi:Apart vv iv) (hn:∀ e ∈ es,Nrm leaf e) (hs:Short es) :
 ∃ u:Nv,vNv u=.agg #[.bool leaf,kv,vv,iv]∧Gd w u∧u.nod=⟨leaf,es⟩∧NwN B u w:=by
 obtain ⟨xk,ck,rfl⟩:=own_slice rk
 obtain ⟨xv,cv,rfl⟩:=own_slice rv
 obtain ⟨xi,ci,rfl⟩:=own_slice ri
 have rk:w.ownsRow B 9 1 (.slice xk (es.map En.key).length ck) (es.map En.key).length ((es.map En.key).map Value.string):=by rw [List.length_map]; exact rk
 have akv:Apart (.slice xk (es.map En.key).length ck) (.slice xv (if leaf then es.map En.val else []).length cv):=by rw [List.length_map]; exact akv
 have aki:Apart (.slice xk (es.map En.key).length ck) (.slice xi (if leaf then [] else es.map En.kid).length ci):=by rw [List.length_map]; exact aki
 have ek:w.ownsRow B 9 1 (.slice xk (es.map En.key).length ck) (es.map En.key).length ((es.map En.key).flatMap fStr):=by
  rw [show ((es.map En.key).flatMap fStr)=(es.map En.key).map Value.string from fl_one _ _]; exact rk
 have ev:w.ownsRow B 9 1 (.slice xv (if leaf then es.map En.val else []).length cv) (if leaf then es.map En.val else []).length ((if leaf then es.map En.val else []).flatMap fStr):=by
  rw [show ((if leaf then es.map En.val else []).flatMap fStr)=(if leaf then es.map En.val else []).map Value.string from fl_one _ _]; exact rv
 have ei:w.ownsRow B 3 1 (.slice xi (if leaf then [] else es.map En.kid).length ci) (if leaf then [] else es.map En.kid).length ((if leaf then [] else es.map En.kid).flatMap fInt):=by
  rw [show ((if leaf then [] else es.map En.kid).flatMap fInt)=(if leaf then [] else es.map En.kid).map (Value.int .i64) from fl_one _ _]; exact ri
 obtain ⟨bk,hk1,hk2,_⟩:=IsR.own (f:=fStr) (sz:=1) (fun _=>rfl) ek rfl
 obtain ⟨bv,hv1,hv2,_⟩:=IsR.own (f:=fStr) (sz:=1) (fun _=>rfl) ev rfl
 obtain ⟨bi,hi1,hi2,_⟩:=IsR.own (f:=fInt) (sz:=1) (fun _=>rfl) ei rfl
 obtain ⟨k1,k2,k3,k4⟩:=own_caps rk
 obtain ⟨v1,v2,v3,v4⟩:=own_caps rv
 obtain ⟨i1,i2,i3,i4⟩:=own_caps ri
 have hks:((es.map En.key).map ByteArray.size).sum=ksum es:=by unfold ksum; rw [List.map_map]; rfl
 have hvs:((if leaf then es.map En.val else []).map ByteArray.size).sum≤vsum es:=by
  cases leaf
  · simp
  · simp only [if_true]; unfold vsum; rw [List.map_map]; exact Nat.le_refl _
 have hvl:(if leaf then es.map En.val else []).length≤es.length:=by cases leaf <;> simp
 have hil:(if leaf then [] else es.map En.kid).length≤es.length:=by cases leaf <;> simp
 have hsm:=hs.sum
 have hln:=hs.len
 have hb:mkN leaf (es.map En.key) (if leaf then es.map En.val else []) (if leaf then [] else es.map En.kid)=es:=mkN_back leaf es hn
 refine ⟨⟨leaf,xk,(es.map En.key).length,ck,xv,(if leaf then es.map En.val else []).length,cv,xi,(if leaf then [] else es.map En.kid).length,ci,bk,0,bv,0,bi,0,es.map En.key,if leaf then es.map En.val else [],if leaf then [] else es.map En.kid⟩,?_,?_,?_,⟨rk,rv,ri,akv,aki,avi⟩⟩
 · unfold vNv; simp only [List.length_map]
 · refine ⟨⟨hk1,hv1,hi1⟩,?_,⟨?_,?_,?_,?_,?_,?_,?_⟩,⟨⟨k2,k3,k4⟩,⟨v2,v3,v4⟩,⟨i2,i3,i4⟩⟩,(NwN.base (B:=B) ⟨rk,rv,ri,akv,aki,avi⟩ (Nat.zero_le _))⟩
   · unfold Nv.lens
     cases leaf <;> simp
   · show (es.map En.key).length≤_; rw [List.length_map]; omega
   · show (if leaf then es.map En.val else []).length≤_; omega
   · show (if leaf then [] else es.map En.kid).length≤_; omega
   · intro x hx; have:=map_sum_mem (es.map En.key) x hx; omega
   · intro x hx; have:=map_sum_mem (if leaf then es.map En.val else []) x hx; omega
   · intro x hx
     cases leaf
     · simp only [if_false,Bool.false_eq_true] at hx
       obtain ⟨e,he,rfl⟩:=List.mem_map.1 hx
       exact hs.kid e he
     · simp at hx
   · show ((es.map En.key).map ByteArray.size).sum+((if leaf then es.map En.val else []).map ByteArray.size).sum≤_; omega
 · unfold Nv.nod Nv.es
   simp only
   rw [hb]
theorem mkN_keys (leaf:Bool) (keys vals:List ByteArray) (kids:List Int):(mkN leaf keys vals kids).map En.key=keys:=by
 apply List.ext_getElem?
 intro k
 rw [List.getElem?_map]
 rcases hk:keys[k]? with _ | x
 · rw [List.getElem?_eq_none (by rw [mkN_len]; exact List.getElem?_eq_none_iff.1 hk)]; rfl
 · rw [mkN_get _ _ _ _ k x hk]; rfl
theorem Nv.keysE (v:Nv):v.es.map En.key=v.keys:=mkN_keys _ _ _ _
theorem Nv.kidsE {v:Nv} (h:v.lens=true) (hl:v.leaf=false):v.es.map En.kid=v.kids:=by
 have h1:=h
 unfold Nv.lens at h1
 rw [hl] at h1
 simp only [Bool.false_eq_true,if_false,Bool.and_eq_true,beq_iff_eq] at h1
 apply List.ext_getElem?
 intro k
 rw [List.getElem?_map]
 rcases hk:v.keys[k]? with _ | x
 · have hkl:=List.getElem?_eq_none_iff.1 hk
   rw [List.getElem?_eq_none (by rw [v.es_len]; exact hkl),List.getElem?_eq_none (by rw [h1.1]; exact hkl)]; rfl
 · have:=mkN_get v.leaf v.keys v.vals v.kids k x hk
   rw [show v.es[k]?=some (mkE v.leaf v.keys v.vals v.kids k x) from this]
   have hlt:=(List.getElem?_eq_some_iff.1 hk).1
   rw [List.getElem?_eq_getElem (show k < v.kids.length by rw [h1.1]; exact hlt)]
   simp [mkE,hl,List.getD_eq_getElem?_getD,List.getElem?_eq_getElem (show k < v.kids.length by rw [h1.1]; exact hlt)]
theorem Nv.valsE {v:Nv} (h:v.lens=true) (hl:v.leaf=true):v.es.map En.val=v.vals:=by
 have h1:=h
 unfold Nv.lens at h1
 rw [hl] at h1
 simp only [if_true,Bool.and_eq_true,beq_iff_eq] at h1
 apply List.ext_getElem?
 intro k
 rw [List.getElem?_map]
 rcases hk:v.keys[k]? with _ | x
 · have hkl:=List.getElem?_eq_none_iff.1 hk
   rw [List.getElem?_eq_none (by rw [v.es_len]; exact hkl),List.getElem?_eq_none (by rw [h1.1]; exact hkl)]; rfl
 · have:=mkN_get v.leaf v.keys v.vals v.kids k x hk
   rw [show v.es[k]?=some (mkE v.leaf v.keys v.vals v.kids k x) from this]
   have hlt:=(List.getElem?_eq_some_iff.1 hk).1
   rw [List.getElem?_eq_getElem (show k < v.vals.length by rw [h1.1]; exact hlt)]
   simp [mkE,hl,List.getD_eq_getElem?_getD,List.getElem?_eq_getElem (show k < v.vals.length by rw [h1.1]; exact hlt)]
theorem Nv.nilE {v:Nv} (h:v.lens=true):(v.leaf=true→v.kids=[])∧(v.leaf=false→v.vals=[]):=by
 unfold Nv.lens at h
 cases hl:v.leaf
 · rw [hl] at h
   simp only [Bool.false_eq_true,if_false,Bool.and_eq_true,beq_iff_eq] at h
   exact ⟨(fun h=>by cases h),fun _=>List.eq_nil_of_length_eq_zero h.2⟩
 · rw [hl] at h
   simp only [if_true,Bool.and_eq_true,beq_iff_eq] at h
   exact ⟨fun _=>List.eq_nil_of_length_eq_zero h.2,fun h=>by cases h⟩
theorem Nv.nrm (v:Nv):∀ e ∈ v.es,Nrm v.leaf e:=mkN_nrm _ _ _ _
theorem Gd.key0 {w:World} {v:Nv} (h:Gd w v) (hne:v.es≠[]):∃ l,v.keys=v.nod.fk :: l:=by
 have:=v.keysE
 cases he:v.es with
 | nil=>exact absurd he hne
 | cons e es =>
  rw [he] at this
  refine ⟨es.map En.key,?_⟩
  rw [← this]
  unfold Nod.fk Nv.nod
  simp only [he]
  rfl
theorem isLean_any (v:Nv) (w:World) (h:Gd w v):Calls Tryz.prog 158 #[vNv v] w fun e w'=>e=.returned (.bool v.nod.lean)∧Tch [] w w':=by
 have T0:Tch [] w (w.alloc (.cells #[.bool v.leaf,.slice v.ka v.kn v.kc,.slice v.va v.vn v.vc,.slice v.ia v.im v.ic] 138)):=(Tch.refl _ _).alloc _
 have HW:Hid (∀ w',Tch [] w w'→Calls Tryz.prog 176 #[.agg #[.bool v.leaf,.slice v.ka v.kn v.kc,.slice v.va v.vn v.vc,.slice v.ia v.im v.ic]] w' fun e w2=>e=.returned (.int .i64 ((ndb v.leaf v.es).length:Nat))∧Tch [] w' w2):=fun w' t=>weight_any v w' (h.keep0 t).nv h.ok h.caps
 have him:=h.im
 unfold Nod.lean leanE Nv.nod vNv
 simp only
 cases hl:v.leaf
 · rw [hl] at him T0
   simp only [Bool.false_eq_true,if_false] at him ⊢
   have HR:Hid ((decide (v.es.length < 8))=decide ((v.im:Int) < 8)):=by
    show _=_
    rw [him]
    exact decide_eq_decide.2 (by omega)
   generalize decide (v.es.length < 8)=r at HR ⊢
   clear HW h him
   generalize v.ka=ka at *
   generalize v.kn=kn at *
   generalize v.kc=kc at *
   generalize v.va=va at *
   generalize v.vn=vn at *
   generalize v.vc=vc at *
   generalize v.ia=ia at *
   generalize v.im=im at *
   generalize v.ic=ic at *
   go_enter Tryz.func158,Tryz.ntmps158
   go_wp2_with fail
   go_ret
   exact ⟨by rw [HR.out]; rfl,T0⟩
 · rw [hl] at T0 HW
   simp only [if_true]
   have HR:Hid ((decide ((ndb true v.es).length < 256))=decide (((ndb true v.es).length:Int) < 256)):=by
    show _=_
    exact decide_eq_decide.2 (by omega)
   have HW2:=Lib.hid (HW.out _ T0)
   clear h him HW
   generalize (ndb true v.es).length=n at HR HW2 ⊢
   generalize decide (n < 256)=r at HR ⊢
   generalize v.ka=ka at *
   generalize v.kn=kn at *
   generalize v.kc=kc at *
   generalize v.va=va at *
   generalize v.vn=vn at *
   generalize v.vc=vc at *
   generalize v.ia=ia at *
   generalize v.im=im at *
   generalize v.ic=ic at *
   go_enter Tryz.func158,Tryz.ntmps158
   go_wp2_with (go_at_call 176; refine HW2.out.mono ?_; rintro e w2 ⟨rfl,t2⟩)
   go_ret
   exact ⟨by rw [HR.out]; rfl,T0.trans t2⟩
end Go.Proofs.YtlkgnljdpakkcaaGreatDoor
/-
 'withKids' of a draft: the node with other kids in the place of some. Conditions: the nodes of these numbers have entries; the lists are short.
-/
namespace Go.Proofs.YtlkgnljdpakkcaaGreatDoor
open Go.RowKit
def WkRel (w0:World) (B:Nat) (hs:List ByteArray) (v11 v16:Value) (wr:World):Prop :=
 ∃ k:Nat,k≤hs.length∧v16=.int .i64 (k:Int)∧wr.ownsRow B 9 1 v11 k ((hs.take k).map Value.string)∧Tch [] w0 wr
def NodePost (w:World) (n:Nod) (e:Ending) (w':World):Prop:=∃ u:Nv,e=.returned (vNv u)∧Gd w' u∧u.nod=n∧NwN w.heap.size u w'∧Tch [] w w'
theorem ksum_mem {es:List En} {B:Nat} (h:∀ e ∈ es,e.key.size≤B):ksum es≤es.length * B:=by
 unfold ksum
 induction es with
 | nil=>simp
 | cons e es ih =>
  rw [List.map_cons,List.sum_cons,List.length_cons,Nat.add_mul]
  have:=h e (by simp)
  have:=ih (fun x hx=>h x (by simp [hx]))
  omega
theorem vsum_mem {es:List En} {B:Nat} (h:∀ e ∈ es,e.val.size≤B):vsum es≤es.length * B:=by
 unfold vsum
 induction es with
 | nil=>simp
 | cons e es ih =>
  rw [List.map_cons,List.sum_cons,List.length_cons,Nat.add_mul]
  have:=h e (by simp)
  have:=ih (fun x hx=>h x (by simp [hx]))
  omega
theorem short_fit {leaf:Bool} {es:List En} (hl:es.length≤10000) (hf:∀ e ∈ es,fitA leaf e) (hv:leaf=false→∀ e ∈ es,e.val=⟨#[]⟩):Short es:=by
 have h1:=ksum_mem (es:=es) (B:=48) (fun e he=>(fitA_key (hf e he)).2)
 have h2:=vsum_mem (es:=es) (B:=200) (fun e he=>by
  have:=hf e he
  cases hl:leaf
  · rw [hv hl e he]; decide
  · rw [hl] at this; unfold fitA at this; simp only [if_true] at this; exact this.2.2.1)
 refine ⟨by omega,by omega,fun e he=>?_⟩
 have:=hf e he
 cases hl:leaf
 · rw [hl] at this; unfold fitA at this; simp only [Bool.false_eq_true,if_false] at this; have:=this.2.2; unfold topN at this; omega
 · rw [hl] at this; unfold fitA at this; simp only [if_true] at this; have:=this.2.2.2; omega
theorem Tch.put4 {w a:World} {b:Nat} {L:List Nat} (t:Tch L w a) (h:b ∈ L) (v0 v1 v2 v3:Value):Tch L w ((((a.setCell ⟨b,0,none⟩ v0).setCell ⟨b,1,none⟩ v1).setCell ⟨b,2,none⟩ v2).setCell ⟨b,3,none⟩ v3):=(((t.setCell h _).setCell h _).setCell h _).setCell h _
theorem blk_put4 {w:World} {b:Nat} {a0 a1 a2 a3:Value} {t:TypeId} {f:Nat × Nat} (h:w.heap[b]?=some (.cells #[a0,a1,a2,a3] t f)) (v0 v1 v2 v3:Value) :
 ((((w.setCell ⟨b,0,none⟩ v0).setCell ⟨b,1,none⟩ v1).setCell ⟨b,2,none⟩ v2).setCell ⟨b,3,none⟩ v3).heap[b]?=some (.cells #[v0,v1,v2,v3] t f):=blk_set (blk_set (blk_set (blk_set h 0 v0) 1 v1) 2 v2) 3 v3
theorem own_apart {w w':World} {B B' n n' k k':Nat} {e e':TypeId} {x y:Value} {xs ys:List Value} (h:w.ownsRow B e k x n xs) (h2:w'.ownsRow B' e' k' y n' ys) (hb:w.heap.size≤B'):Apart x y:=fun b h3 h4=>by
 have:=(h.lt b h3).2
 have:=(h2.lt b h4).1
 omega
theorem own_ptr {α:Type} {f:α→List Value} {w:World} {B m n c b o:Nat} {e:TypeId} {a:Option Addr} {ys:List Value} {xs:List α} (h:w.ownsRow B e 1 (.slice a n c) m ys) (hr:IsR f 1 w a n b o xs):∃ b o,IsR f 1 w a n b o xs∧∀ y,a=some y→y=⟨b,o,none⟩:=by
 rcases h.2 with ⟨hv,h0⟩ | ⟨g,cap,cur,hv,_⟩
 · cases hv
   exact ⟨b,o,hr,fun y h=>by cases h⟩
 · cases hv
   rcases Nat.eq_zero_or_pos m with h0 | h0
   · subst h0
     obtain rfl:xs=[]:=List.eq_nil_of_length_eq_zero hr.hlen.symm
     exact ⟨g,0,IsR.nil _ _ _ _,fun y h=>by cases h; rfl⟩
   · refine ⟨b,o,hr,fun y h=>?_⟩
     have:=hr.some_ h0
     rw [this] at h
     cases h; rfl
theorem withKids_key (M:Int→Nod) (s:Ov) (es:List En) (i j:Nat) (kids:List Int):(withKids M s es i j kids).map En.key=(es.map En.key).take i++kids.map (fun k=>(s.m M k).fk)++(es.map En.key).drop j:=by
 unfold withKids
 rw [List.map_append,List.map_append,List.map_take,List.map_drop,List.map_map]
 rfl
theorem withKids_kid (M:Int→Nod) (s:Ov) (es:List En) (i j:Nat) (kids:List Int):(withKids M s es i j kids).map En.kid=(es.map En.kid).take i++kids++(es.map En.kid).drop j:=by
 unfold withKids
 rw [List.map_append,List.map_append,List.map_take,List.map_drop,List.map_map]
 congr 2
 exact (List.map_congr_left (fun k _=>rfl)).trans (List.map_id kids)
theorem withKids_val (M:Int→Nod) (s:Ov) (es:List En) (i j:Nat) (kids:List Int) (h:∀ e ∈ es,e.val=⟨#[]⟩):∀ e ∈ withKids M s es i j kids,e.val=⟨#[]⟩:=fun e he=>by
 unfold withKids at he
 rcases List.mem_append.1 he with he | he
 · rcases List.mem_append.1 he with he | he
   · exact h e (List.mem_of_mem_take he)
   · obtain ⟨k,_,rfl⟩:=List.mem_map.1 he; rfl
 · exact h e (List.mem_of_mem_drop he)
theorem withKids_len (M:Int→Nod) (s:Ov) (es:List En) (i j:Nat) (kids:List Int):(withKids M s es i j kids).length≤es.length+kids.length+es.length:=by
 unfold withKids
 simp only [List.length_append,List.length_map,List.length_take,List.length_drop]
 omega
set_option maxRecDepth 100000 in
set_option maxHeartbeats 1000000 in
theorem withKids_any (db H0:Nat) (d:Dv) (T:Tv) (v:Nv) (i j:Nat) (a:Option Addr) (n c b o:Nat) (kids:List Int) (w:World) (hd:IsDr w db d H0) (ht:IsTr w d.tb T) (hv:Gd w v) (hleaf:v.leaf=false) (hij:i≤j) (hj:j≤v.es.length)
 (hr:IsR fInt 1 w a n b o kids) (hz:a=none→n=0∧c=0) (hkid:∀ k ∈ kids,0≤k∧k < topN∧(d.ov.m (mN T.f) k).es≠[]) (hl:v.es.length≤2000) (hn:n≤2000)
 (hfit:∀ e ∈ withKids (mN T.f) d.ov v.es i j kids,fitA false e) (hval:∀ e ∈ v.es,e.val=⟨#[]⟩) :
 Calls Tryz.prog 140 #[.pointer (some ⟨db,0,none⟩),vNv v,.int .i64 i,.int .i64 j,.slice a n c] w (NodePost w ⟨false,withKids (mN T.f) d.ov v.es i j kids⟩):=by
 obtain ⟨hs,hhs⟩:∃ hs:List ByteArray,hs=kids.map (fun k=>(d.ov.m (mN T.f) k).fk):=⟨_,rfl⟩
 obtain rfl:=hr.hlen
 have hhl:hs.length=kids.length:=by rw [hhs]; simp
 obtain ⟨w0,hw0⟩:∃ w0,w0=(w.alloc (.cells #[.bool v.leaf,.slice v.ka v.kn v.kc,.slice v.va v.vn v.vc,.slice v.ia v.im v.ic] 138)).alloc (.cells #[.bool false,.slice none 0 0,.slice none 0 0,.slice none 0 0] 138):=⟨_,rfl⟩
 have T0:Tch [] w w0:=by rw [hw0]; exact ((Tch.refl _ _).alloc _).alloc _
 have hbN:w0.heap[w.heap.size]?=some (.cells #[.bool v.leaf,.slice v.ka v.kn v.kc,.slice v.va v.vn v.vc,.slice v.ia v.im v.ic] 138 (0,0)):=by rw [hw0]; exact blk_alloc (blk_new _ _) _
 have hbR:w0.heap[w.heap.size+1]?=some (.cells #[.bool false,.slice none 0 0,.slice none 0 0,.slice none 0 0] 138 (0,0)):=by
  rw [hw0,show w.heap.size+1=(w.alloc (.cells #[.bool v.leaf,.slice v.ka v.kn v.kc,.slice v.va v.vn v.vc,.slice v.ia v.im v.ic] 138)).heap.size from by simp]; exact blk_new _ _
 have HND:Hid (∀ (k:Int) W,Tch [] w W→k ∈ kids→Calls Tryz.prog 100 #[.pointer (some ⟨db,0,none⟩),.int .i64 k] W fun e w'=>∃ u:Nv,e=.returned (vNv u)∧Gd w' u∧(∃ l,u.keys=(d.ov.m (mN T.f) k).fk :: l)∧Tch [] W w'):=fun k W t hk=>by
  obtain ⟨k1,k2,k3⟩:=hkid k hk
  refine (node_any db H0 d T k W (hd.keep0 t) (ht.keep0 t) ⟨k1,k2⟩).mono ?_
  rintro e w' ⟨he,t2⟩
  have hg:=at_gd (hd.keep0 t) (ht.keep0 t) k
  have hnod:=at_nod d T k
  refine ⟨_,he,hg.keep0 t2,?_,t2⟩
  rw [← hnod]
  exact hg.key0 (by rw [← hnod] at k3; exact k3)
 have HKR:Hid (∀ W,Tch [] w W→∀ k:Nat,(hk:k < kids.length)→W.cell? ⟨b,o+k,none⟩=some (.int .i64 kids[k])∧a=some ⟨b,o,none⟩):=fun W t k hk =>
  ⟨(hr.keep0 t).one (List.getElem?_eq_getElem hk) rfl,hr.some_ (by omega)⟩
 obtain ⟨i0,hi,hz0,hz1,hz2⟩:=info_parts Tryz.info_cS
 have hget:∀ k:Nat,(hk:k < kids.length)→hs.take (k+1)=hs.take k++[(d.ov.m (mN T.f) kids[k]).fk]:=fun k hk=>by
  rw [List.take_add_one,hhs,List.getElem?_map,List.getElem?_eq_getElem hk]; rfl
 have HGET:=Lib.hid hget
 have HHS:=Lib.hid hhs
 have HZ:=Lib.hid hz
 have HV:=Lib.hid hv
 have HFIT:=Lib.hid hfit
 have HVAL:=Lib.hid hval
 have HR:=Lib.hid hr
 have HHL:=Lib.hid hhl
 have HL:=Lib.hid hleaf
 clear hget hhs hz hv hfit hval hr hhl hkid hd ht hleaf
 have hfd:∀ (l:Bool) (a1 a2 a3:Option Addr) (n1 c1 n2 c2 n3 c3:Nat) (W:World),(Instr.field 138 (.agg #[.bool l,.slice a1 n1 c1,.slice a2 n2 c2,.slice a3 n3 c3]) 1).run Tryz.prog W=.ok (.slice a1 n1 c1) W:=fun _ _ _ _ _ _ _ _ _ _ _=>by kernel_rfl
 unfold vNv
 go_enter Tryz.func140,Tryz.ntmps140
 go_wp2_with fail
 rw [← hw0]
 have Tw:=T0
 clear hw0
 go_loopw [11,16] (fun v11 v16 wr=>WkRel w0 w0.heap.size hs v11 v16 wr) (fun _ v16 _=>kids.length - (intOf v16).toNat)
 case atStart=>exact ⟨0,Nat.zero_le _,rfl,World.ownsRow_nil _ _ _ _,Tch.refl _ _⟩
 case round =>
  obtain ⟨k,hk,rfl,hown,t⟩:=hrel
  rw [HHL.out] at hk
  have TW:=T0.trans t
  by_cases hlt:k < kids.length
  · obtain ⟨ck,ha⟩:=HKR.out wr TW k hlt
    have hI:(k:Int) < (kids.length:Int):=by omega
    have hI0:(0:Int)≤(k:Int):=by omega
    have hG:=Lib.hid (HGET.out k hlt)
    have hM:=Lib.hid (HND.out kids[k] wr TW (List.getElem_mem _))
    generalize kids[k]=kk at ck hG hM
    obtain rfl:=ha
    generalize (d.ov.m (mN T.f) kk).fk=fk at hG hM
    go_wp2_with fail
    refine hM.out.mono ?_
    rintro e w5 ⟨u,rfl,hg,⟨l,hkl⟩,t5⟩
    have r:=hg.nv.rk
    rw [hkl] at r
    have c0:=r.one (k:=0) rfl (v:=.string fk) rfl
    have ha2:=r.some_ (by have:=r.hlen; simp at this; omega)
    have hkn:(0:Int) < (u.kn:Int):=by have:=r.hlen; simp at this; omega
    have h5:=own_keep hown t5 (fun _ _=>by simp)
    have T5:=t.trans t5
    have hsz:=T5.size
    unfold vNv
    clear r hg hkl
    rw [ha2]
    rw [Nat.add_zero] at c0
    generalize u.kb=kb at *
    generalize u.ko=ko at *
    generalize u.leaf=uleaf at *
    generalize u.ka=uka at *
    generalize u.kn=ukn at *
    generalize u.kc=ukc at *
    generalize u.va=uva at *
    generalize u.vn=uvn at *
    generalize u.vc=uvc at *
    generalize u.ia=uia at *
    generalize u.im=uim at *
    generalize u.ic=uic at *
    go_wp2_with (at_builtin; refine wpList_append_own _ rfl _ _ 69 rfl w0.heap.size 9 i0 _ 1 16 Tryz.underlying69 hi hz0 hz1 hz2 rfl (by decide) _ k _ rfl (h5.alloc _) ⟨w5.heap.size,0,none⟩ 1 1 [.string fk] rfl rfl (cell_one_new _ _ _) (by simp [Value.oneCell']) (by unfold maxLen; omega) (by omega) (by simp; omega) ?_; intro v2 w6 hv2 hg2 _)
    have T6:Tch [] w0 w6:=Tch.own (T5.alloc _) (h5.alloc _) (Nat.le_refl _) hg2
    go_roundw
    case rel=>exact ⟨k+1,by have:=HHL.out; omega,by go_num,by rw [hG.out]; simpa using hv2,T6⟩
    case measure=>simp [intOf]; omega
  · obtain rfl:k=kids.length:=by omega
    obtain ⟨x11,c11,rfl⟩:=own_slice hown
    rw [show hs.take kids.length=hs from List.take_of_length_le (by rw [HHL.out]; exact Nat.le_refl _)] at hown
    have hcap:=own_caps hown
    obtain ⟨bo,hrk,hbo,_⟩:=IsR.own (f:=fStr) (sz:=1) (fun _=>rfl) (show wr.ownsRow w0.heap.size 9 1 (.slice x11 kids.length c11) kids.length (hs.flatMap fStr) from by rw [show hs.flatMap fStr=hs.map Value.string from fl_one _ _]; exact hown) HHL.out.symm
    have td:Tch [] wr wr.drew:=(Tch.refl [] wr).drew
    have hv:=HV.out
    obtain ⟨es,hes⟩:∃ es,es=withKids (mN T.f) d.ov v.es i j kids:=⟨_,rfl⟩
    have hki:=Nv.kidsE hv.lens HL.out
    have hkl:=v.es_len
    have hil:v.kids.length=v.es.length:=by rw [← hki]; simp
    have hE5:es.map En.key=v.keys.take i++hs++v.keys.drop j:=by rw [hes,withKids_key,Nv.keysE,HHS.out]
    have hE6:es.map En.kid=v.kids.take i++kids++v.kids.drop j:=by rw [hes,withKids_kid,hki]
    have k1:=hv.nv.rk.hlen
    have k3:=hv.nv.ri.hlen
    have HFIN:Hid (∀ e ∈ es,Nrm false e):=fun e he=>by rw [hes] at he; exact withKids_val _ _ _ _ _ _ HVAL.out e he
    have HSH:Hid (Short es):=by
     show _
     rw [hes]
     refine short_fit (leaf:=false) ?_ HFIT.out (fun _=>withKids_val _ _ _ _ _ _ HVAL.out)
     have:=withKids_len (mN T.f) d.ov v.es i j kids
     omega
    have HRK:Hid (∀ W,Tch [] wr W→Calls Tryz.prog 168 #[.slice v.ka v.kn v.kc,.int .i64 i,.int .i64 j,.slice x11 kids.length c11] W (CatPostS W (es.map En.key))):=fun W t'=>by
     have g:=hv.keep0 (TW.trans t')
     rw [hE5]
     obtain ⟨b1,o1,r1,y1⟩:=own_ptr g.row.hk g.nv.rk
     exact replS_any i j v.ka x11 v.kn v.kc b1 o1 kids.length c11 bo 0 v.keys hs W r1 (hrk.keep0 t') g.caps.1.1 y1 g.caps.1.2.2 (hcap.2.2.2) hij (by omega) (by omega) (by omega)
    have HRI:Hid (∀ W,Tch [] wr W→Calls Tryz.prog 172 #[.slice v.ia v.im v.ic,.int .i64 i,.int .i64 j,.slice a kids.length c] W (CatPostI W (es.map En.kid))):=fun W t'=>by
     have g:=hv.keep0 (TW.trans t')
     rw [hE6]
     obtain ⟨b1,o1,r1,y1⟩:=own_ptr g.row.hi g.nv.ri
     exact replI_any i j v.ia a v.im v.ic b1 o1 kids.length c b o v.kids kids W r1 (HR.out.keep0 (TW.trans t')) g.caps.2.2.1 y1 g.caps.2.2.2.2 HZ.out hij (by omega) (by omega) (by omega)
    have TR0:w.heap.size+1 < wr.heap.size:=Nat.lt_of_lt_of_le (lt_of_block hbR) t.size
    have hxw:w.heap.size≤w.heap.size+1:=by omega
    have hbN2:=t.keep hbN (by simp)
    have hbR2:=t.keep hbR (by simp)
    have HS:Hid (∀ W,Tch [w.heap.size+1] wr W→W.cell? ⟨w.heap.size,1,none⟩=some (.slice v.ka v.kn v.kc)∧W.cell? ⟨w.heap.size,3,none⟩=some (.slice v.ia v.im v.ic)):=fun W t'=>by
     have h:=t'.keep hbN2 (by simp)
     exact ⟨by rw [blk_cell h]; rfl,by rw [blk_cell h]; rfl⟩
    have HB2:Hid (∀ W,Tch [] wr W→W.heap[w.heap.size+1]?=some (.cells #[.bool false,.slice none 0 0,.slice none 0 0,.slice none 0 0] 138 (0,0))):=fun W t'=>t'.keep hbR2 (by simp)
    have HTW:=Lib.hid TW
    have HES:=Lib.hid hes
    clear hes hE5 hE6 hki hkl hil k1 k3
    clear hrk hown TW hbN2 hbR2 hv hcap hbo t hbN hbR Tw T0
    have HTR:=Lib.hid TR0
    have HXW:=Lib.hid hxw
    clear TR0 hxw
    generalize hX:w.heap.size=X at *
    have HX:=Lib.hid hX
    clear hX
    go_wp2_with fail
    go_region_held3 (fun w'=>w'.cell? ⟨X,1,none⟩=some (.slice v.ka v.kn v.kc)∧w'.cell? ⟨X,3,none⟩=some (.slice v.ia v.im v.ic))
     (first | exact HS.out _ (td.mono (by simp)) | exact HS.out _ ((td.trans t5).mono (by simp)) | exact HS.out _ ((td.trans (t5.trans t6)).mono (by simp)) | exact HS.out _ (((td.trans (t5.trans t6)).mono (by simp)).put4 (by simp) _ _ _ _))
     (first | (go_at_call 168; refine (HRK.out _ td).mono ?_; rintro e w5 ⟨v5,rfl,o5,t5⟩; obtain ⟨x5,c5,rfl⟩:=own_slice o5) | (go_at_call 172; refine (HRI.out _ (td.trans t5)).mono ?_; rintro e w6 ⟨v6,rfl,o6,t6⟩; obtain ⟨x6,c6,rfl⟩:=own_slice o6; have hR:=HB2.out _ (td.trans (t5.trans t6)); have r0:=blk_cell hR 0; have r1:=blk_cell hR 1; have r2:=blk_cell hR 2; have r3:=blk_cell hR 3; simp only [gA,gZ,gS] at r0 r1 r2 r3; have f0:=blk_free hR 0; have f1:=blk_free hR 1; have f2:=blk_free hR 2; have f3:=blk_free hR 3))
    have T6:=td.trans (t5.trans t6)
    have hR:=blk_put4 (HB2.out _ T6) (.bool false) (.slice x5 (es.map En.key).length c5) (.slice none 0 0) (.slice x6 (es.map En.kid).length c6)
    simp only [List.length_map] at hR o5 o6
    have T7:=(T6.mono (L':=[X+1]) (by simp)).put4 (b:=X+1) (by simp) (.bool false) (.slice x5 es.length c5) (.slice none 0 0) (.slice x6 es.length c6)
    have t7:=(Tch.refl [X+1] w6).put4 (b:=X+1) (by simp) (.bool false) (.slice x5 es.length c5) (.slice none 0 0) (.slice x6 es.length c6)
    generalize ((((w6.setCell ⟨X+1,0,none⟩ (.bool false)).setCell ⟨X+1,1,none⟩ (.slice x5 es.length c5)).setCell ⟨X+1,2,none⟩ (.slice none 0 0)).setCell ⟨X+1,3,none⟩ (.slice x6 es.length c6))=W at hR T7 t7 ⊢
    have q0:=blk_cell hR 0
    have q1:=blk_cell hR 1
    have q2:=blk_cell hR 2
    have q3:=blk_cell hR 3
    simp only [gA,gZ,gS] at q0 q1 q2 q3
    have hbase:wr.drew.heap.size≤w5.heap.size:=t5.size
    have hB:w.heap.size≤wr.drew.heap.size:=HTW.out.size
    have p5:W.ownsRow w.heap.size 9 1 (.slice x5 es.length c5) es.length ((es.map En.key).map Value.string):=own_base (own_keep (own_keep o5 t6 (fun _ _=>by simp)) t7 (fun k hk hm=>by
     have h1:=(o5.lt k hk).1
     have h2:=HTR.out
     have h3:wr.drew.heap.size=wr.heap.size:=rfl
     simp at hm
     omega)) hB
    have p6:W.ownsRow w.heap.size 3 1 (.slice x6 es.length c6) es.length ((es.map En.kid).map (Value.int .i64)):=own_base (own_keep o6 t7 (fun k hk hm=>by
     have h1:=(o6.lt k hk).1
     have h2:=HTR.out
     have h3:wr.drew.heap.size=wr.heap.size:=rfl
     simp at hm
     omega)) (Nat.le_trans hB hbase)
    obtain ⟨u,hu,hg,hun,hnw⟩:=node_own (leaf:=false) (es:=es) (w:=W) (vv:=.slice none 0 0) p5 (World.ownsRow_nil _ _ _ _) (by simp only [Bool.false_eq_true,if_false,List.length_map]; exact p6) (Apart.symm (Apart.nil _)) (own_apart o5 o6 (Nat.le_refl _)) (Apart.nil _) HFIN.out HSH.out
    have HP:Hid (NodePost w ⟨false,withKids (mN T.f) d.ov v.es i j kids⟩ (.returned (vNv u)) W):=⟨u,rfl,hg,by rw [hun,HES.out],hnw,HTW.out.transNew T7 (fun m hm=>Or.inr (by simp at hm; rw [hm,← HX.out]; omega))⟩
    rw [hu] at HP
    clear o5 o6 p5 p6 hg hun hnw hu T7 t7 T6 hR
    go_wp2_with fail
    refine bodyPost_ret (v:=.agg #[.bool false,.slice x5 es.length c5,.slice none 0 0,.slice x6 es.length c6]) (by simp [results,Tryz.results140,go_sem,q0,q1,q2,q3]) rfl HP.out
end Go.Proofs.YtlkgnljdpakkcaaGreatDoor
