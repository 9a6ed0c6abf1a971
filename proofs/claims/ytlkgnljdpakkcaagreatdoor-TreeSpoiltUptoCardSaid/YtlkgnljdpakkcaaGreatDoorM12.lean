/-
  Parts of the proof: Tf, Tg, Tl, Tr.
-/
import Derived.Test.YtlkgnljdpakkcaaGreatDoorM11
set_option linter.unusedVariables false
set_option linter.unusedSimpArgs false
/-
 New nodes are given sectors: numbers turned,the tree is the same. Plain; of no program.
-/
namespace Go.Proofs.YtlkgnljdpakkcaaGreatDoor
def tn (g:Int→Option Int) (x:Int):Int:=(g x).getD x
def mapE (g:Int→Option Int) (e:En):En:={ e with kid:=tn g e.kid }
def mapK (g:Int→Option Int) (n:Nod):Nod:=⟨n.leaf,n.es.map (mapE g)⟩
theorem mapK_fk (g:Int→Option Int) (n:Nod) (h:n.es≠[]):(mapK g n).fk=n.fk:=by
 unfold mapK Nod.fk
 cases hn:n.es with
 | nil=>exact absurd hn h
 | cons e l=>rfl
theorem mapK_lean (g:Int→Option Int) (n:Nod):(mapK g n).lean=n.lean:=by
 unfold Nod.lean leanE mapK
 simp only
 cases n.leaf
 · simp
 · simp only [if_true]
   congr 2
   rw [w_ndb,w_ndb,List.length_map]
   have:wE true (n.es.map (mapE g))=wE true n.es:=by
    induction n.es with
    | nil=>rfl
    | cons e l ih=>rw [List.map_cons,wE_cons,wE_cons,ih,w_leaf,w_leaf]; rfl
   rw [this]
theorem mapK_w (g:Int→Option Int) (leaf:Bool):∀ (l:List En),(∀ e ∈ l,tn g e.kid≤e.kid)→wE leaf (l.map (mapE g))≤wE leaf l
 | [],_=>by simp [wE]
 | e :: l,h=>by
  rw [List.map_cons,wE_cons,wE_cons]
  have h1:=mapK_w g leaf l (fun e he=>h e (by simp [he]))
  have h2:=h e (by simp)
  have h3:(enb leaf (mapE g e)).length≤(enb leaf e).length:=by
   cases leaf
   · rw [w_other,w_other]
     have:=w_ub_mono (tn g e.kid).toNat e.kid.toNat (by omega)
     show (ub e.key.size).length+e.key.size+(ub (tn g e.kid).toNat).length≤_
     omega
   · rw [w_leaf,w_leaf]; exact Nat.le_refl _
  omega
theorem mapK_leaf {g:Int→Option Int} (h0:g 0=none):∀ (l:List En),(∀ e ∈ l,fitL e)→l.map (mapE g)=l
 | [],_=>rfl
 | e :: l,h=>by
  rw [List.map_cons,mapK_leaf h0 l (fun e he=>h e (by simp [he]))]
  have:=(h e (by simp)).2.2.2
  unfold mapE tn
  rw [this,h0]
  cases e
  simp only at this
  subst this
  rfl
theorem sh_turn {M M':Int→Nod} {g:Int→Option Int} (h0:g 0=none):∀ {h:Nat} {a:Int},(∀ x ∈ nums M h a,M' (tn g x)=mapK g (M x)∧1≤tn g x∧tn g x≤x)→Sh M h a →
 Sh M' h (tn g a)∧flat M' h (tn g a)=flat M h a∧nums M' h (tn g a)=(nums M h a).map (tn g)
 | 0,a,hx,hs=>by
  have h1:=(hx a (by simp [nums])).1
  have h2:mapK g (M a)=M a:=by
   unfold mapK
   rw [mapK_leaf h0 _ hs.1.2]
  rw [h2] at h1
  refine ⟨?_,?_,rfl⟩
  · unfold Sh at hs ⊢; rw [h1]; exact hs
  · unfold flat; rw [h1]
 | h+1,a,hx,hs=>by
  obtain ⟨⟨hl,hk⟩,hne,hw⟩:=hs
  have h1:=(hx a (nums_self _ _ _)).1
  have hes:(M' (tn g a)).es=(M a).es.map (mapE g):=by rw [h1]; rfl
  have hle:(M' (tn g a)).leaf=false:=by rw [h1]; exact hl
  have hsub:∀ e ∈ (M a).es,∀ x ∈ nums M h e.kid,x ∈ nums M (h+1) a:=fun e he x hm=>by
   rw [nums]; exact List.mem_cons_of_mem _ (List.mem_flatMap.2 ⟨e,he,hm⟩)
  have ih:∀ e ∈ (M a).es,Sh M' h (tn g e.kid)∧flat M' h (tn g e.kid)=flat M h e.kid∧nums M' h (tn g e.kid)=(nums M h e.kid).map (tn g):=fun e he=>sh_turn h0 (fun x hm=>hx x (hsub e he x hm)) (hk e he).1
  refine ⟨⟨⟨hle,fun e' he'=>?_⟩,?_,?_⟩,?_,?_⟩
  · rw [hes] at he'
    obtain ⟨e,he,rfl⟩:=List.mem_map.1 he'
    obtain ⟨k1,k2,k3⟩:=hk e he
    have hx1:=hx e.kid (hsub e he _ (nums_self _ _ _))
    refine ⟨(ih e he).1,⟨k2.1,hx1.2.1,?_,?_⟩,?_⟩
    · have:=k2.2.2.1
      show tn g e.kid < topN
      omega
    · show e.key=(M' (tn g e.kid)).fk
      rw [hx1.1,mapK_fk _ _ k1.ne]; exact k2.2.2.2
    · show (M' (tn g e.kid)).lean=false
      rw [hx1.1,mapK_lean]; exact k3
  · rw [hes]; simpa using hne
  · rw [hes,hle]
    rw [hl] at hw
    rw [w_ndb,List.length_map]
    rw [w_ndb] at hw
    have:=mapK_w g false (M a).es (fun e he=>(hx e.kid (hsub e he _ (nums_self _ _ _))).2.2)
    omega
  · rw [flat,flat,hes,List.flatMap_map]
    exact fm_congr fun e he=>(ih e he).2.1
  · rw [nums,nums,hes,List.flatMap_map,List.map_cons,List.map_flatMap]
    congr 1
    exact fm_congr fun e he=>(ih e he).2.2
/-! ### the sectors that new nodes are given -/
structure Fs (B:Int→Nod) (s:Ov) (S:List Int) (sec:Nat) (k:Nat) (N:Int→Option Nod) (free:Nat) (g:Int→Option Int):Prop where
 dom:∀ x y,g x=some y→16384≤x∧x < 16384+(k:Int)∧x ∈ S∧1≤y∧y < sec∧y ∉ S
 tot:∀ x ∈ S,16384≤x→x < 16384+(k:Int)→∃ y,g x=some y
 inj:∀ x x' y,g x=some y→g x'=some y→x=x'
 hi:∀ x,16384≤x→N x=if x < 16384+(k:Int) then none else s.N x
 lo:∀ x,x < 16384→(∃ a,g a=some x∧N x=s.N a)∨((∀ a,g a≠some x)∧N x=s.N x)
 low:∀ x,1≤x→x < (free:Int)→((N x).getD (B x)).es≠[]
 f0:1≤free
 f1:free≤16384
theorem Fs.start (B:Int→Nod) (s:Ov) (S:List Int) (sec:Nat):Fs B s S sec 0 s.N 1 (fun _=>none) :=
 ⟨fun x y h=>by simp at h,fun x hx h1 h2=>by simp at h2; omega,fun x x' y h=>by simp at h,fun x hx=>by rw [if_neg (by simp; omega)],fun x hx=>Or.inr ⟨by simp,rfl⟩,fun x h1 h2=>by omega,by omega,by omega⟩
def remv (N:Int→Option Nod) (a:Int):Int→Option Nod:=fun x=>if x=a then none else N x
def insr (N:Int→Option Nod) (a:Int) (n:Nod):Int→Option Nod:=fun x=>if x=a then some n else N x
theorem Fs.skip {B:Int→Nod} {s:Ov} {S:List Int} {sec k:Nat} {N:Int→Option Nod} {free:Nat} {g:Int→Option Int} (f:Fs B s S sec k N free g) (hn:16384+(k:Int) ∉ S):Fs B s S sec (k+1) (remv N (16384+(k:Int))) free g:=by
 refine ⟨fun x y h=>?_,fun x hx h1 h2=>?_,f.inj,fun x hx=>?_,fun x hx=>?_,fun x h1 h2=>?_,f.f0,f.f1⟩
 · have:=f.dom x y h; refine ⟨this.1,by omega,this.2.2⟩
 · refine f.tot x hx h1 ?_
   have:x≠16384+(k:Int):=fun e=>hn (by rw [← e]; exact hx)
   omega
 · unfold remv
   by_cases h:x=16384+(k:Int)
   · rw [if_pos h,if_pos (by omega)]
   · rw [if_neg h,f.hi x hx]
     by_cases h2:x < 16384+(k:Int)
     · rw [if_pos h2,if_pos (by omega)]
     · rw [if_neg h2,if_neg (by omega)]
 · unfold remv
   rw [if_neg (by omega)]
   exact f.lo x hx
 · unfold remv
   have:=f.f1
   rw [if_neg (by omega)]
   exact f.low x h1 h2
theorem Fs.next {B:Int→Nod} {s:Ov} {S:List Int} {sec k:Nat} {N:Int→Option Nod} {free:Nat} {g:Int→Option Int} {a:Int} (ha:16384≤a) (hB:∀ x,16384≤x→B x=nod0) (h0:remv N a 16384=none)
 (hl:∀ x,1≤x→x < (free:Int)→((remv N a x).getD (B x)).es≠[]) (hne:((remv N a free).getD (B free)).es≠[]) (hf:free≤16384):(∀ x,1≤x→x < ((free+1:Nat):Int)→((remv N a x).getD (B x)).es≠[])∧free+1≤16384:=by
 refine ⟨fun x h1 h2=>?_,?_⟩
 · by_cases h:x=free
   · rw [h]; exact hne
   · exact hl x h1 (by omega)
 · rcases Nat.lt_or_ge free 16384 with h | h
   · omega
   · have:(free:Int)=16384:=by omega
     rw [this,h0,hB 16384 (by omega)] at hne
     exact absurd rfl hne
theorem Fs.give {B:Int→Nod} {s:Ov} {S:List Int} {sec k:Nat} {N:Int→Option Nod} {free free':Nat} {g:Int→Option Int} (f:Fs B s S sec k N free g) (hs:16384+(k:Int) ∈ S) (hS:∀ x ∈ S,(s.m B x).es≠[]) (hB:∀ x,16384≤x→B x=nod0) (hsec:sec≤16384)
 (h1:1≤free') (h2:free' < sec) (hl:∀ x,1≤x→x < (free':Int)→((remv N (16384+(k:Int)) x).getD (B x)).es≠[]) (he:((remv N (16384+(k:Int)) free').getD (B free')).es=[]) {n:Nod} (hn:s.N (16384+(k:Int))=some n) :
 Fs B s S sec (k+1) (insr (remv N (16384+(k:Int))) free' n) free' (fun x=>if x=16384+(k:Int) then some (free':Int) else g x):=by
 have hne:n.es≠[]:=by
  have:=hS _ hs
  unfold Ov.m at this
  rw [hn] at this
  exact this
 have hpl:∀ a,g a≠some (free':Int):=fun a ha=>by
  have hd:=f.dom a _ ha
  rcases f.lo free' (by omega) with ⟨b,hb,hN⟩ | ⟨hno,_⟩
  · have hab:=f.inj _ _ _ ha hb
    subst hab
    unfold remv at he
    rw [if_neg (by omega),hN] at he
    have h9:=hS a hd.2.2.1
    unfold Ov.m at h9
    cases h8:s.N a with
    | none=>rw [h8,hB a hd.1] at h9; exact absurd rfl h9
    | some m=>rw [h8] at h9 he; exact h9 he
  · exact hno a ha
 have hfS:(free':Int) ∉ S:=fun hm=>by
  have h9:=hS _ hm
  rcases f.lo free' (by omega) with ⟨b,hb,hN⟩ | ⟨_,hN⟩
  · exact hpl b hb
  · unfold remv at he
    rw [if_neg (by omega),hN] at he
    exact h9 he
 refine ⟨fun x y h=>?_,fun x hx hx1 hx2=>?_,fun x x' y ha hb=>?_,fun x hx=>?_,fun x hx=>?_,fun x hx1 hx2=>?_,h1,by omega⟩
 · by_cases hx:x=16384+(k:Int)
   · simp only [if_pos hx,Option.some.injEq] at h
     subst h; subst hx
     exact ⟨by omega,by omega,hs,by omega,by omega,hfS⟩
   · simp only [if_neg hx] at h
     have:=f.dom x y h
     exact ⟨this.1,by omega,this.2.2⟩
 · by_cases h:x=16384+(k:Int)
   · exact ⟨free',by simp only [if_pos h]⟩
   · simp only [if_neg h]
     exact f.tot x hx hx1 (by omega)
 · by_cases h3:x=16384+(k:Int)
   · by_cases h4:x'=16384+(k:Int)
     · omega
     · simp only [if_pos h3,if_neg h4] at ha hb
       cases ha
       exact absurd hb (hpl x')
   · by_cases h4:x'=16384+(k:Int)
     · simp only [if_neg h3,if_pos h4] at ha hb
       cases hb
       exact absurd ha (hpl x)
     · simp only [if_neg h3,if_neg h4] at ha hb
       exact f.inj x x' y ha hb
 · unfold insr remv
   rw [if_neg (by omega)]
   by_cases h:x=16384+(k:Int)
   · rw [if_pos h,if_pos (by omega)]
   · rw [if_neg h,f.hi x hx]
     by_cases h2:x < 16384+(k:Int)
     · rw [if_pos h2,if_pos (by omega)]
     · rw [if_neg h2,if_neg (by omega)]
 · unfold insr remv
   by_cases h:x=(free':Int)
   · left
     refine ⟨16384+(k:Int),by simp [h],?_⟩
     rw [if_pos h,hn]
   · rw [if_neg h,if_neg (by omega)]
     rcases f.lo x hx with ⟨a,ha,hN⟩ | ⟨hno,hN⟩
     · left
       refine ⟨a,?_,hN⟩
       have:=(f.dom a x ha).2.1
       simp only [if_neg (show ¬ a=16384+(k:Int) by omega)]
       exact ha
     · right
       refine ⟨fun a ha=>?_,hN⟩
       by_cases h3:a=16384+(k:Int)
       · simp only [if_pos h3,Option.some.injEq] at ha
         exact h ha.symm
       · simp only [if_neg h3] at ha
         exact hno a ha
 · unfold insr
   rw [if_neg (by omega)]
   exact hl x hx1 hx2
theorem Fs.full {B:Int→Nod} {s:Ov} {S:List Int} {sec k:Nat} {N:Int→Option Nod} {free free':Nat} {g:Int→Option Int} (f:Fs B s S sec k N free g) (hs:16384+(k:Int) ∈ S) (hone:∀ x,S.count x≤1) (hout:∀ x,x ∉ S→(s.m B x).es=[]) (hsec:sec≤16384) (h0:1≤sec)
 (h2:sec≤free') (hl:∀ x,1≤x→x < (free':Int)→((remv N (16384+(k:Int)) x).getD (B x)).es≠[]):sec≤S.length:=by
 have hex:∀ i:Nat,i < sec - 1→∃ a ∈ S,a≠16384+(k:Int)∧((16384≤a∧g a=some ((i:Int)+1))∨(a < 16384∧a=(i:Int)+1)):=fun i hi=>by
  have h3:=hl ((i:Int)+1) (by omega) (by omega)
  unfold remv at h3
  rw [if_neg (by omega)] at h3
  rcases f.lo ((i:Int)+1) (by omega) with ⟨a,ha,hN⟩ | ⟨hno,hN⟩
  · have hd:=f.dom a _ ha
    exact ⟨a,hd.2.2.1,by omega,Or.inl ⟨hd.1,ha⟩⟩
  · refine ⟨(i:Int)+1,?_,by omega,Or.inr ⟨by omega,rfl⟩⟩
    refine Decidable.byContradiction fun hn=>?_
    rw [hN] at h3
    exact h3 (hout _ hn)
 have hcount:∀ m:Nat,m≤sec - 1→∃ l:List Int,l.length=m∧l.Nodup∧∀ a ∈ l,a ∈ S∧a≠16384+(k:Int)∧∃ i:Nat,i < m∧((16384≤a∧g a=some ((i:Int)+1))∨(a < 16384∧a=(i:Int)+1)):=by
  intro m
  induction m with
  | zero=>intro _; exact ⟨[],rfl,by simp,by simp⟩
  | succ m ih =>
   intro hm
   obtain ⟨l,l1,l2,l3⟩:=ih (by omega)
   obtain ⟨a,a1,a2,a3⟩:=hex m (by omega)
   refine ⟨a :: l,by simp [l1],?_,?_⟩
   · rw [List.nodup_cons]
     refine ⟨fun hm2=>?_,l2⟩
     obtain ⟨_,_,i,hi,h4⟩:=l3 a hm2
     rcases a3 with ⟨b1,b2⟩ | ⟨b1,b2⟩
     · rcases h4 with ⟨c1,c2⟩ | ⟨c1,c2⟩
       · rw [b2] at c2; simp only [Option.some.injEq] at c2; omega
       · omega
     · rcases h4 with ⟨c1,c2⟩ | ⟨c1,c2⟩
       · omega
       · omega
   · intro b hb
     rcases List.mem_cons.1 hb with rfl | hb
     · exact ⟨a1,a2,m,by omega,a3⟩
     · obtain ⟨b1,b2,i,hi,b3⟩:=l3 b hb
       exact ⟨b1,b2,i,by omega,b3⟩
 obtain ⟨l,l1,l2,l3⟩:=hcount (sec - 1) (Nat.le_refl _)
 have hnd:((16384+(k:Int)) :: l).Nodup:=List.nodup_cons.2 ⟨fun hm=>(l3 _ hm).2.1 rfl,l2⟩
 have hsub:∀ a ∈ (16384+(k:Int)) :: l,a ∈ S:=fun a ha=>by
  rcases List.mem_cons.1 ha with rfl | ha
  · exact hs
  · exact (l3 a ha).1
 have:=hnd.length_le_of_subset hsub
 simp only [List.length_cons,l1] at this
 omega
end Go.Proofs.YtlkgnljdpakkcaaGreatDoor
/-
 The tree behind the change,under its sectors' numbers: it is right,and its nodes are fit. Plain; of no program.
-/
namespace Go.Proofs.YtlkgnljdpakkcaaGreatDoor
theorem sh_all {M:Int→Nod}:∀ {h:Nat} {a:Int},Sh M h a→∀ x ∈ nums M h a,∃ k,Sh M k x∧k≤h
 | 0,a,hs,x,hx=>by simp only [nums,List.mem_singleton] at hx; subst hx; exact ⟨0,hs,Nat.le_refl _⟩
 | h+1,a,hs,x,hx=>by
  rw [nums] at hx
  rcases List.mem_cons.1 hx with rfl | hx
  · exact ⟨h+1,hs,Nat.le_refl _⟩
  · obtain ⟨e,he,hx⟩:=List.mem_flatMap.1 hx
    obtain ⟨k,h1,h2⟩:=sh_all (hs.1.2 e he).1 x hx
    exact ⟨k,h1,by omega⟩
theorem Tr.ne {M:Int→Nod} {root:Int} {h:Nat} {F:List En} {S:List Int} (t:Tr M root h F S):∀ x ∈ S,(M x).es≠[]:=by
 intro x hx
 rcases t with ⟨_,_,rfl,_⟩ | ⟨_,hs,_,_,rfl,_⟩
 · simp at hx
 · obtain ⟨k,h1,_⟩:=sh_all hs x hx
   exact h1.ne
theorem srt_sub {M:Int→Nod}:∀ {h:Nat} {a:Int},Sh M h a→Srt (flat M h a)→∀ x ∈ nums M h a,Srt (M x).es
 | 0,a,hs,hsr,x,hx=>by simp only [nums,List.mem_singleton] at hx; subst hx; exact hsr
 | h+1,a,hs,hsr,x,hx=>by
  have hK:∀ e ∈ (M a).es,Sh M h e.kid∧KE M e:=fun e he=>⟨(hs.1.2 e he).1,(hs.1.2 e he).2.1⟩
  rw [nums] at hx
  rcases List.mem_cons.1 hx with rfl | hx
  · exact kids_srt hK hsr
  · obtain ⟨e,he,hx⟩:=List.mem_flatMap.1 hx
    refine srt_sub (hK e he).1 ?_ x hx
    obtain ⟨u,v,huv⟩:=List.append_of_mem he
    rw [flat,huv,List.flatMap_append,List.flatMap_cons] at hsr
    exact (Srt.app.1 (Srt.app.1 hsr).2.1).1
theorem Tr.rise {M:Int→Nod} {root:Int} {h:Nat} {F:List En} {S:List Int} (t:Tr M root h F S):∀ x ∈ S,Srt (M x).es:=by
 intro x hx
 rcases t with ⟨_,_,rfl,_⟩ | ⟨_,hs,_,rfl,rfl,hsr⟩
 · simp at hx
 · exact srt_sub hs hsr x hx
theorem fit_srt (leaf:Bool):∀ (es:List En) (p:Option ByteArray),(∀ e ∈ es,fitE leaf e=true)→Srt es→(∀ q,p=some q→∀ e ∈ es,slt q e.key=true)→fitFrom leaf p es=true
 | [],_,_,_,_=>by cases ‹Option ByteArray› <;> rfl
 | e :: es,p,h1,h2,h3=>by
  have ih:=fit_srt leaf es (some e.key) (fun x hx=>h1 x (by simp [hx])) (Srt.cons.1 h2).2 (fun q hq x hx=>by cases hq; exact (Srt.cons.1 h2).1 x hx)
  have he:=h1 e (by simp)
  cases p with
  | none =>
   show (fitE leaf e && true && fitFrom leaf (some e.key) es)=true
   rw [ih,he]; rfl
  | some q =>
   show (fitE leaf e && !sle e.key q && fitFrom leaf (some e.key) es)=true
   rw [ih,he,sle_is,h3 q rfl e (by simp)]; rfl
theorem Tr.fit {M:Int→Nod} {root:Int} {h:Nat} {F:List En} {S:List Int} (t:Tr M root h F S) (hlt:∀ x ∈ S,1≤x∧x < 16384):∀ x ∈ S,fitN (M x).leaf (M x).es=true∧∀ e ∈ (M x).es,if (M x).leaf then e.kid=0 else e.val=⟨#[]⟩∧0≤e.kid∧e.kid < 16384:=by
 intro x hx
 have hr:=t.rise x hx
 rcases t with ⟨_,_,rfl,_⟩ | ⟨_,hs,_,rfl,rfl,hsr⟩
 · simp at hx
 · obtain ⟨k,hk,_⟩:=sh_all hs x hx
   have hkid:∀ e ∈ (M x).es,(M x).leaf=false→e.val=⟨#[]⟩∧1≤e.kid∧e.kid < 16384:=by
    intro e he hl
    cases k with
    | zero=>have:=hk.1.1; rw [hl] at this; cases this
    | succ k =>
     obtain ⟨q1,q2,_⟩:=hk.1.2 e he
     have hm:e.kid ∈ nums M h root:=by
      clear hr hlt q1 q2
      have:∀ {h:Nat} {a:Int},Sh M h a→∀ x ∈ nums M h a,(M x).leaf=false→∀ e ∈ (M x).es,e.kid ∈ nums M h a:=by
       intro h
       induction h with
       | zero =>
        intro a hs x hx hl e he
        simp only [nums,List.mem_singleton] at hx
        subst hx
        rw [hs.1.1] at hl; cases hl
       | succ h ih =>
        intro a hs x hx hl e he
        rw [nums] at hx ⊢
        rcases List.mem_cons.1 hx with rfl | hx
        · exact List.mem_cons_of_mem _ (List.mem_flatMap.2 ⟨e,he,nums_self _ _ _⟩)
        · obtain ⟨e',he',hx⟩:=List.mem_flatMap.1 hx
          exact List.mem_cons_of_mem _ (List.mem_flatMap.2 ⟨e',he',ih (hs.1.2 e' he').1 x hx hl e he⟩)
      exact this hs x hx hl e he
     exact ⟨q2.1,q2.2.1,(hlt _ hm).2⟩
   have hfit:=hk.fit
   have hw:=(sh_body.1 hk).2.2
   have hne:=hk.ne
   refine ⟨?_,fun e he=>?_⟩
   · unfold fitN
     rw [fit_srt _ _ none (fun e he=>?_) hr (fun q hq=>by cases hq)]
     · simp only [Bool.true_and,Bool.and_eq_true,decide_eq_true_eq,Bool.or_eq_true]
       exact ⟨hw,Or.inr (List.length_pos_iff.2 hne)⟩
     · have h1:=hfit e he
       unfold fitA at h1
       unfold fitE
       cases hl:(M x).leaf
       · rw [hl] at h1
         simp only [Bool.false_eq_true,if_false] at h1 ⊢
         have:=hkid e he hl
         simp only [Bool.and_eq_true,decide_eq_true_eq]
         exact ⟨⟨h1.1,h1.2.1⟩,this.2.1,this.2.2⟩
       · rw [hl] at h1
         simp only [if_true] at h1 ⊢
         simp only [Bool.and_eq_true,decide_eq_true_eq]
         exact ⟨⟨h1.1,h1.2.1⟩,h1.2.2.1⟩
   · cases hl:(M x).leaf
     · have:=hkid e he hl
       simp only [Bool.false_eq_true,if_false]
       exact ⟨this.1,by omega,this.2.2⟩
     · have h1:=hfit e he
       unfold fitA at h1
       rw [hl] at h1
       simp only [if_true] at h1 ⊢
       exact h1.2.2.2
def finM (B:Int→Nod) (N:Int→Option Nod) (g:Int→Option Int) (x:Int):Nod:=((N x).map (mapK g)).getD (B x)
structure Fin (B:Int→Nod) (sec:Nat) (N:Int→Option Nod) (g:Int→Option Int) (root:Int) (h:Nat) (F:List En) (S:List Int):Prop where
 tr:Tr (finM B N g) root h F S
 one:∀ x,S.count x≤1
 inn:∀ x ∈ S,1≤x∧x < sec
 out:∀ x,x ∉ S→(finM B N g x).es=[]
 none_:∀ x,16384≤x→N x=none
theorem fs_done {B:Int→Nod} {s:Ov} {root:Int} {h:Nat} {F:List En} {S:List Int} {sec:Nat} {N:Int→Option Nod} {free:Nat} {g:Int→Option Int} (d:Dok B s root h F S) (f:Fs B s S sec s.fresh N free g)
 (hk:∀ x,∀ e ∈ (B x).es,e.kid < 16384) (hsec:sec≤16384) (hlow:∀ x,(B x).es≠[]→x < sec):Fin B sec N g (tn g root) h F (S.map (tn g)):=by
 have hne:=d.tr.ne
 have hg0:∀ x,x < 16384→g x=none:=fun x hx=>by
  cases hgx:g x with
  | none=>rfl
  | some y=>have:=(f.dom x y hgx).1; omega
 have hlo:∀ x,x < 16384→tn g x=x:=fun x hx=>by unfold tn; rw [hg0 x hx]; rfl
 have hhi:∀ x ∈ S,16384≤x→∃ y,g x=some y∧tn g x=y∧1≤y∧y < sec∧y ∉ S:=fun x hx h1=>by
  have h2:=d.inn x hx
  obtain ⟨y,hy⟩:=f.tot x hx h1 (by unfold Ov.nx at h2; omega)
  have:=f.dom x y hy
  exact ⟨y,hy,by unfold tn; rw [hy]; rfl,this.2.2.2.1,this.2.2.2.2.1,this.2.2.2.2.2⟩
 have hold:∀ x ∈ S,x < 16384→(∀ a,g a≠some x)∧N x=s.N x:=fun x hx h1=>by
  rcases f.lo x h1 with ⟨a,ha,_⟩ | h2
  · exact absurd hx (f.dom a x ha).2.2.2.2.2
  · exact h2
 have hmap:∀ x ∈ S,finM B N g (tn g x)=mapK g (s.m B x)∧1≤tn g x∧tn g x≤x∧tn g x < sec:=fun x hx=>by
  rcases Int.lt_or_le x 16384 with h1 | h1
  · rw [hlo x h1]
    refine ⟨?_,(d.inn x hx).1,Int.le_refl _,hlow x (d.low x hx h1)⟩
    unfold finM Ov.m
    rw [(hold x hx h1).2]
    cases s.N x with
    | some n=>rfl
    | none =>
     show B x=mapK g (B x)
     unfold mapK
     have:(B x).es.map (mapE g)=(B x).es:=by
      have h2:=hk x
      generalize (B x).es=l at h2
      induction l with
      | nil=>rfl
      | cons e l ih =>
       rw [List.map_cons,ih (fun e he=>h2 e (by simp [he]))]
       congr 1
       unfold mapE
       rw [hlo e.kid (h2 e (by simp))]
     rw [this]
  · obtain ⟨y,hy,h2,h3,h4,h5⟩:=hhi x hx h1
    rw [h2]
    refine ⟨?_,h3,by omega,h4⟩
    have hN:N y=s.N x:=by
     rcases f.lo y (by omega) with ⟨a,ha,hN⟩ | ⟨hno,_⟩
     · rw [f.inj _ _ _ ha hy] at hN; exact hN
     · exact absurd hy (hno x)
    unfold finM Ov.m
    rw [hN]
    cases hx2:s.N x with
    | some n=>rfl
    | none =>
     exfalso
     have:=hne x hx
     unfold Ov.m at this
     rw [hx2,d.old x h1] at this
     exact this rfl
 have hinj:∀ x ∈ S,∀ x' ∈ S,tn g x=tn g x'→x=x':=fun x hx x' hx' he=>by
  rcases Int.lt_or_le x 16384 with h1 | h1
  · rcases Int.lt_or_le x' 16384 with h2 | h2
    · rw [hlo x h1,hlo x' h2] at he; exact he
    · obtain ⟨y,hy,h3,_,_,h5⟩:=hhi x' hx' h2
      rw [hlo x h1,h3] at he
      exact absurd (he ▸ hx) h5
  · obtain ⟨y,hy,h3,_,_,h5⟩:=hhi x hx h1
    rcases Int.lt_or_le x' 16384 with h2 | h2
    · rw [hlo x' h2,h3] at he
      exact absurd (he.symm ▸ hx') (by exact h5)
    · obtain ⟨y',hy',h3',_⟩:=hhi x' hx' h2
      rw [h3,h3'] at he
      subst he
      exact f.inj _ _ _ hy hy'
 refine ⟨?_,?_,?_,?_,fun x hx=>?_⟩
 · rcases d.tr with ⟨rfl,rfl,rfl,rfl⟩ | ⟨hr,hs,h2,rfl,rfl,hsr⟩
   · exact Or.inl ⟨hlo 0 (by omega),rfl,rfl,rfl⟩
   · obtain ⟨t1,t2,t3⟩:=sh_turn (M':=finM B N g) (hg0 0 (by omega)) (fun x hx=>⟨(hmap x hx).1,(hmap x hx).2.1,(hmap x hx).2.2.1⟩) hs
     have hrm:=hmap root (nums_self _ _ _)
     refine Or.inr ⟨hrm.2.1,t1,fun h1=>?_,t2.symm,t3.symm,hsr⟩
     rw [hrm.1]
     show 2≤((s.m B root).es.map (mapE g)).length
     rw [List.length_map]
     exact h2 h1
 · have hnd:(S.map (tn g)).Nodup:=by
    rw [List.nodup_iff_pairwise_ne,List.pairwise_map]
    have h1:S.Nodup:=List.nodup_iff_count.2 d.one
    refine List.Pairwise.imp_of_mem (fun {a b} ha hb hab=>?_) (List.nodup_iff_pairwise_ne.1 h1)
    exact fun e=>hab (hinj a ha b hb e)
   exact fun x=>(List.nodup_iff_count.1 hnd) x
 · intro y hy
   obtain ⟨x,hx,rfl⟩:=List.mem_map.1 hy
   exact ⟨(hmap x hx).2.1,(hmap x hx).2.2.2⟩
 · intro y hy
   rcases Int.lt_or_le y 16384 with h1 | h1
   · rcases f.lo y h1 with ⟨a,ha,hN⟩ | ⟨hno,hN⟩
     · exfalso
       apply hy
       have:=(f.dom a y ha)
       exact List.mem_map.2 ⟨a,this.2.2.1,by unfold tn; rw [ha]; rfl⟩
     · have hyS:y ∉ S:=fun hm=>hy (List.mem_map.2 ⟨y,hm,hlo y h1⟩)
       have:=d.out y hyS
       unfold Ov.m at this
       unfold finM
       rw [hN]
       cases h2:s.N y with
       | none=>rw [h2] at this; exact this
       | some n =>
        rw [h2] at this
        show (mapK g n).es=[]
        unfold mapK
        have h3:n.es=[]:=this
        simp [h3]
   · unfold finM
     rw [f.hi y h1]
     have:(if y < 16384+(s.fresh:Int) then (none:Option Nod) else s.N y)=none:=by
      split
      · rfl
      · exact d.new y (by unfold Ov.nx; omega)
     rw [this,d.old y h1]
     rfl
 · rw [f.hi x hx]
   split
   · rfl
   · exact d.new x (by unfold Ov.nx; omega)
theorem fs_few {B:Int→Nod} {s:Ov} {root:Int} {h:Nat} {F:List En} {S:List Int} {sec:Nat} {N:Int→Option Nod} {free:Nat} {g:Int→Option Int} (d:Dok B s root h F S) (f:Fs B s S sec s.fresh N free g) {l:List Int} (hl:∀ x,x ∉ l→s.N x=none)
 {W:List Int} (hd:W.Nodup) (hW:∀ x ∈ W,N x≠none):W.length≤l.length:=by
 have hne:=d.tr.ne
 have hex:∀ x ∈ W,∃ a,a ∈ l∧(g a=some x∨(a=x∧∀ b,g b≠some x)):=fun x hx=>by
  have h1:=hW x hx
  have hx6:x < 16384:=by
   rcases Int.lt_or_le x 16384 with h2 | h2
   · exact h2
   · exfalso
     rw [f.hi x h2] at h1
     split at h1
     · exact h1 rfl
     · exact h1 (d.new x (by unfold Ov.nx; omega))
  rcases f.lo x hx6 with ⟨a,ha,hN⟩ | ⟨hno,hN⟩
  · refine ⟨a,?_,Or.inl ha⟩
    refine Decidable.byContradiction fun hn=>?_
    rw [hN] at h1
    exact h1 (hl a hn)
  · refine ⟨x,?_,Or.inr ⟨rfl,hno⟩⟩
    refine Decidable.byContradiction fun hn=>?_
    rw [hN] at h1
    exact h1 (hl x hn)
 have hlist:∀ (V:List Int),V.Nodup→(∀ x ∈ V,x ∈ W)→∃ m:List Int,m.length=V.length∧m.Nodup∧(∀ a ∈ m,a ∈ l∧∃ x ∈ V,g a=some x∨(a=x∧∀ b,g b≠some x)):=by
  intro V
  induction V with
  | nil=>intro _ _; exact ⟨[],rfl,by simp,by simp⟩
  | cons x V ih =>
   intro hv hvw
   obtain ⟨hv1,hv2⟩:=List.nodup_cons.1 hv
   obtain ⟨m,m1,m2,m3⟩:=ih hv2 (fun y hy=>hvw y (by simp [hy]))
   obtain ⟨a,a1,a2⟩:=hex x (hvw x (by simp))
   refine ⟨a :: m,by simp [m1],List.nodup_cons.2 ⟨fun hm=>?_,m2⟩,fun b hb=>?_⟩
   · obtain ⟨_,y,hy,h3⟩:=m3 a hm
     have hxy:x≠y:=fun e=>hv1 (e ▸ hy)
     rcases a2 with h4 | ⟨h4,h5⟩
     · rcases h3 with h6 | ⟨h6,h7⟩
       · rw [h4] at h6; cases h6; exact hxy rfl
       · subst h6
         have:=(f.dom a x h4).1
         have hyW:=hvw a (by simp [hy])
         have h1:=hW a hyW
         rw [f.hi a this] at h1
         split at h1
         · exact h1 rfl
         · exact h1 (d.new a (by unfold Ov.nx; omega))
     · rcases h3 with h6 | ⟨h6,h7⟩
       · subst h4
         have:=(f.dom a y h6).1
         have h1:=hW a (hvw a (by simp))
         rw [f.hi a this] at h1
         split at h1
         · exact h1 rfl
         · exact h1 (d.new a (by unfold Ov.nx; omega))
       · exact hxy (by rw [← h4,← h6])
   · rcases List.mem_cons.1 hb with rfl | hb
     · exact ⟨a1,x,by simp,a2⟩
     · obtain ⟨b1,y,hy,b2⟩:=m3 b hb
       exact ⟨b1,y,by simp [hy],b2⟩
 obtain ⟨m,m1,m2,m3⟩:=hlist W hd (fun x hx=>hx)
 rw [← m1]
 exact m2.length_le_of_subset (fun a ha=>(m3 a ha).1)
end Go.Proofs.YtlkgnljdpakkcaaGreatDoor
/-
 A tree read from sectors: what is read is a tree,and a tree that stands there is read. Plain; of no program.
-/
namespace Go.Proofs.YtlkgnljdpakkcaaGreatDoor
abbrev Rd:=Int→Option Nod
abbrev Nm:=Int→Option Nod
def lbK (f:Nm→Int→Option (Nat × Nm)):List En→Bool→Nat→Nm→Option (Nat × Nm)
 | [],_,lv,N=>some (lv,N)
 | e :: es,first,lv,N=>match f N e.kid with
  | none=>none
  | some (b,N')=>if (first=false∧b≠lv)∨(((N' e.kid).getD nod0).lean=true∨((N' e.kid).getD nod0).fk≠e.key) then none else lbK f es false b N'
def lb (R:Rd) (sec:Nat):Nat→Nm→Int→Option (Nat × Nm)
 | 0,_,_=>none
 | k+1,N,a=>if N a≠none∨(sec:Int)≤a then none else
  match R a with
  | none=>none
  | some n=>match lbK (lb R sec k) (if n.leaf then [] else n.es) true 0 (insr N a n) with
   | none=>none
   | some (lv,N')=>some (lv+1,N')
def rzs:ByteArray→List En→Bool
 | _,[]=>true
 | p,e :: es=>slt p e.key && rzs e.key es
def isRt (n:Nod):Bool:=decide (1 < n.es.length) || (n.leaf && decide (n.es.length=1))
def RdOk (R:Rd):Prop:=∀ a n,R a=some n→fitN n.leaf n.es=true∧∀ e ∈ n.es,if n.leaf then e.kid=0 else e.val=⟨#[]⟩∧1≤e.kid∧e.kid < 16384
def gM (N:Nm) (x:Int):Nod:=(N x).getD nod0
def Sh0 (M:Int→Nod) (h:Nat) (a:Int):Prop:=Body M h (M a)∧(ndb (M a).leaf (M a).es).length≤1024
theorem sh0_sh {M:Int→Nod} {h:Nat} {a:Int} (hs:Sh0 M h a) (hne:(M a).es≠[]):Sh M h a:=sh_body.2 ⟨hs.1,hne,hs.2⟩
theorem nonlean_ne {n:Nod} (h:n.lean=false):n.es≠[]:=by
 intro e
 unfold Nod.lean leanE at h
 rw [e] at h
 cases hl:n.leaf
 · rw [hl] at h; simp at h
 · rw [hl] at h
   have:=w_ndb true []
   have h2:=w_ub2 (n:=([]:List En).length) (by simp)
   rw [wE_nil] at this
   simp only [if_true,decide_eq_false_iff_not] at h
   omega
theorem fit_parts {leaf:Bool}:∀ {es:List En} {p:Option ByteArray},fitFrom leaf p es=true→(∀ e ∈ es,fitE leaf e=true)∧Srt es∧∀ q,p=some q→∀ e ∈ es,slt q e.key=true
 | [],p,_=>⟨by simp,by simp [Srt],by simp⟩
 | e :: es,p,h=>by
  have h0:fitE leaf e=true∧(∀ q,p=some q→slt q e.key=true)∧fitFrom leaf (some e.key) es=true:=by
   cases p with
   | none =>
    have h:(fitE leaf e && true && fitFrom leaf (some e.key) es)=true:=h
    simp only [Bool.and_true,Bool.and_eq_true] at h
    exact ⟨h.1,(fun q hq=>by cases hq),h.2⟩
   | some q =>
    have h:(fitE leaf e && !sle e.key q && fitFrom leaf (some e.key) es)=true:=h
    simp only [Bool.and_eq_true] at h
    refine ⟨h.1.1,fun q' hq=>?_,h.2⟩
    cases hq
    have:=h.1.2
    rw [sle_is] at this
    simpa using this
  obtain ⟨h1,h2,h3⟩:=h0
  obtain ⟨i1,i2,i3⟩:=fit_parts h3
  refine ⟨fun x hx=>?_,Srt.cons.2 ⟨fun b hb=>i3 _ rfl b hb,i2⟩,fun q hq x hx=>?_⟩
  · rcases List.mem_cons.1 hx with rfl | hx
    · exact h1
    · exact i1 x hx
  · rcases List.mem_cons.1 hx with rfl | hx
    · exact h2 q hq
    · exact lt_tr (h2 q hq) (i3 _ rfl x hx)
theorem fitN_parts {leaf:Bool} {es:List En} (h:fitN leaf es=true):(∀ e ∈ es,fitE leaf e=true)∧Srt es∧(ndb leaf es).length≤1024∧(leaf=false→es≠[]):=by
 unfold fitN at h
 simp only [Bool.and_eq_true,decide_eq_true_eq,Bool.or_eq_true] at h
 obtain ⟨i1,i2,_⟩:=fit_parts h.1.1
 refine ⟨i1,i2,h.1.2,fun hl e=>?_⟩
 rcases h.2 with h2 | h2
 · rw [hl] at h2; cases h2
 · rw [e] at h2; simp at h2
theorem fitE_L {e:En} (h:fitE true e=true) (hk:e.kid=0):fitL e:=by
 unfold fitE at h
 simp only [Bool.and_eq_true,decide_eq_true_eq,if_true] at h
 exact ⟨h.1.1,h.1.2,h.2,hk⟩
theorem gM_ins {N:Nm} {a:Int} {n:Nod} (x:Int):gM (insr N a n) x=if x=a then n else gM N x:=by
 unfold gM insr; split <;> rfl
structure Adds (N N':Nm) (sec:Nat) (S:List Int):Prop where
 one:∀ x,S.count x≤1
 inn:∀ x ∈ S,N x=none∧N' x≠none∧x < sec
 out:∀ x,x ∉ S→N' x=N x
theorem Adds.keep {N N':Nm} {sec:Nat} {S:List Int} (h:Adds N N' sec S) {x:Int} (hx:N x≠none):N' x=N x:=by
 by_cases hm:x ∈ S
 · exact absurd (h.inn x hm).1 hx
 · exact h.out x hm
theorem Adds.trans {N N1 N2:Nm} {sec:Nat} {S T:List Int} (h:Adds N N1 sec S) (k:Adds N1 N2 sec T):Adds N N2 sec (S++T):=by
 have hdis:∀ x,x ∈ S→x ∉ T:=fun x h1 h2=>(h.inn x h1).2.1 (k.inn x h2).1
 refine ⟨fun x=>?_,fun x hx=>?_,fun x hx=>?_⟩
 · rw [List.count_append]
   have q1:=h.one x
   have q2:=k.one x
   by_cases hm:x ∈ S
   · have:=count_not (hdis x hm); omega
   · have:=count_not hm; omega
 · rcases List.mem_append.1 hx with hx | hx
   · refine ⟨(h.inn x hx).1,?_,(h.inn x hx).2.2⟩
     rw [k.keep (h.inn x hx).2.1]
     exact (h.inn x hx).2.1
   · refine ⟨?_,(k.inn x hx).2.1,(k.inn x hx).2.2⟩
     rw [← h.out x (fun hm=>hdis x hm hx)]
     exact (k.inn x hx).1
 · simp only [List.mem_append,not_or] at hx
   rw [k.out x hx.2,h.out x hx.1]
def LbOk (R:Rd) (sec:Nat) (f:Nm→Int→Option (Nat × Nm)):Prop:=∀ N a lv N',f N a=some (lv,N')→∃ h,lv=h+1∧Sh0 (gM N') h a∧Adds N N' sec (nums (gM N') h a)∧N' a=R a∧∀ x ∈ nums (gM N') h a,N' x=R x
theorem lbK_ok {R:Rd} {sec:Nat} {f:Nm→Int→Option (Nat × Nm)} (hf:LbOk R sec f):∀ (es:List En) (first:Bool) (lv0:Nat) (N:Nm) (lv:Nat) (N':Nm),lbK f es first lv0 N=some (lv,N')→(∀ e ∈ es,e.val=⟨#[]⟩∧1≤e.kid∧e.kid < 16384)→(first=false→1≤lv0) →
 (es=[]∧lv=lv0∧N'=N)∨(es≠[]∧∃ h,lv=h+1∧(first=false→lv0=lv)∧(∀ e ∈ es,Sh (gM N') h e.kid∧KE (gM N') e∧(gM N' e.kid).lean=false)∧Adds N N' sec (bnums (gM N') (h+1) es)∧∀ x ∈ bnums (gM N') (h+1) es,N' x=R x)
 | [],first,lv0,N,lv,N',h,_,_=>by
  simp only [lbK,Option.some.injEq,Prod.mk.injEq] at h
  exact Or.inl ⟨rfl,h.1.symm,h.2.symm⟩
 | e :: es,first,lv0,N,lv,N',h,hk,h1=>by
  rw [lbK] at h
  cases hfe:f N e.kid with
  | none=>rw [hfe] at h; cases h
  | some r =>
   obtain ⟨b,N1⟩:=r
   rw [hfe] at h
   simp only at h
   split at h
   · cases h
   · rename_i hc
     obtain ⟨h2,e2,s2,a2,ra,rx⟩:=hf N e.kid b N1 hfe
     have hlean:(gM N1 e.kid).lean=false:=by
      cases hl:(gM N1 e.kid).lean
      · rfl
      · exact absurd (Or.inr (Or.inl hl)) hc
     have hkey:(gM N1 e.kid).fk=e.key:=Decidable.byContradiction fun hn=>hc (Or.inr (Or.inr hn))
     have hlv:first=false→b=lv0:=fun hfi=>Decidable.byContradiction fun hn=>hc (Or.inl ⟨hfi,hn⟩)
     have hs:=sh0_sh s2 (nonlean_ne hlean)
     right
     refine ⟨by simp,?_⟩
     rcases lbK_ok hf es false b N1 lv N' h (fun x hx=>hk x (by simp [hx])) (fun _=>by omega) with ⟨rfl,rfl,rfl⟩ | ⟨hne,h3,e3,e3b,k3,a3,r3⟩
     · refine ⟨h2,e2,fun hfi=>(hlv hfi).symm,fun x hx=>?_,?_,fun x hx=>?_⟩
       · simp only [List.mem_singleton] at hx
         subst hx
         have:=hk x (by simp)
         exact ⟨hs,⟨this.1,this.2.1,by unfold topN; omega,hkey.symm⟩,hlean⟩
       · rw [bnums_cons]; simpa [bnums] using a2
       · rw [bnums_cons] at hx; simp [bnums] at hx; exact rx x hx
     · have e4:=e3b rfl
       have hh:h2=h3:=by omega
       subst hh
       have hsame:∀ x ∈ nums (gM N1) h2 e.kid,gM N' x=gM N1 x:=fun x hx=>by
        unfold gM; rw [a3.keep (a2.inn x hx).2.1]
       obtain ⟨c1,c2,c3⟩:=sh_congr hsame
       have hce:=hsame e.kid (nums_self _ _ _)
       refine ⟨h2,e3,fun hfi=>by rw [← hlv hfi]; exact e4,fun x hx=>?_,?_,fun x hx=>?_⟩
       · rcases List.mem_cons.1 hx with rfl | hx
         · have:=hk x (by simp)
           exact ⟨c3 hs,⟨this.1,this.2.1,by unfold topN; omega,by rw [hce]; exact hkey.symm⟩,by rw [hce]; exact hlean⟩
         · exact k3 x hx
       · rw [bnums_cons,c2]; exact a2.trans a3
       · rw [bnums_cons,c2] at hx
         rcases List.mem_append.1 hx with hx | hx
         · rw [a3.keep (a2.inn x hx).2.1]; exact rx x hx
         · exact r3 x hx
theorem lb_ok {R:Rd} {sec:Nat} (hR:RdOk R):∀ k,LbOk R sec (lb R sec k)
 | 0=>fun N a lv N' h=>by simp [lb] at h
 | k+1=>fun N a lv N' h=>by
  rw [lb] at h
  split at h
  · cases h
  · rename_i hc
    have hNa:N a=none:=Decidable.byContradiction fun hn=>hc (Or.inl hn)
    have has:a < sec:=by
     rcases Int.lt_or_le a sec with h1 | h1
     · exact h1
     · exact absurd (Or.inr h1) hc
    cases hRa:R a with
    | none=>rw [hRa] at h; cases h
    | some n =>
     rw [hRa] at h
     simp only at h
     cases hlk:lbK (lb R sec k) (if n.leaf then [] else n.es) true 0 (insr N a n) with
     | none=>rw [hlk] at h; cases h
     | some r =>
      obtain ⟨lv1,N1⟩:=r
      rw [hlk] at h
      simp only [Option.some.injEq,Prod.mk.injEq] at h
      obtain ⟨rfl,rfl⟩:=h
      obtain ⟨hfit,hnorm⟩:=hR a n hRa
      obtain ⟨f1,f2,f3,f4⟩:=fitN_parts hfit
      have hi:insr N a n a=some n:=by unfold insr; rw [if_pos rfl]
      have haa:Adds N (insr N a n) sec [a]:=⟨fun x=>by simp only [List.count_cons,List.count_nil]; split <;> omega,fun x hx=>by
       simp only [List.mem_singleton] at hx
       subst hx
       exact ⟨hNa,by rw [hi]; simp,has⟩,fun x hx=>by
       simp only [List.mem_singleton] at hx
       unfold insr; rw [if_neg hx]⟩
      have hkk:∀ e ∈ (if n.leaf then [] else n.es),e.val=⟨#[]⟩∧1≤e.kid∧e.kid < 16384:=fun e he=>by
       cases hl:n.leaf
       · rw [hl] at he hnorm
         simp only [Bool.false_eq_true,if_false] at he hnorm
         exact hnorm e he
       · rw [hl] at he; simp at he
      rcases lbK_ok (lb_ok hR k) _ true 0 _ _ _ hlk hkk (fun h=>by cases h) with ⟨h1,rfl,rfl⟩ | ⟨h1,h2,e2,_,k2,a2,r2⟩
      · -- a leaf
        have hleaf:n.leaf=true:=by
         cases hl:n.leaf
         · rw [hl] at h1; exact absurd (by simpa using h1) (f4 hl)
         · rfl
        have hM:gM (insr N a n) a=n:=by rw [gM_ins,if_pos rfl]
        refine ⟨0,rfl,⟨?_,?_⟩,haa,by rw [hi],fun x hx=>?_⟩
        · rw [hM]
          refine ⟨hleaf,fun e he=>?_⟩
          have q1:=f1 e he
          have q2:=hnorm e he
          rw [hleaf] at q1 q2
          exact fitE_L q1 (by simpa using q2)
        · rw [hM]; exact f3
        · simp only [nums,List.mem_singleton] at hx; subst hx; rw [hi]; exact hRa.symm
      · have hleaf:n.leaf=false:=by
         cases hl:n.leaf
         · rfl
         · rw [hl] at h1; simp at h1
        rw [hleaf] at k2 a2 r2
        simp only [Bool.false_eq_true,if_false] at k2 a2 r2
        have hNa1:N1 a=some n:=by rw [a2.keep (x:=a) (by rw [hi]; simp),hi]
        have hM:gM N1 a=n:=by unfold gM; rw [hNa1]; rfl
        refine ⟨h2+1,by omega,⟨?_,by rw [hM]; exact f3⟩,?_,by rw [hNa1],fun x hx=>?_⟩
        · rw [hM]; exact ⟨hleaf,k2⟩
        · rw [nums_body,hM]
          exact haa.trans a2
        · rw [nums_body,hM] at hx
          rcases List.mem_cons.1 hx with rfl | hx
          · rw [hNa1]; exact hRa.symm
          · exact r2 x hx
theorem lb_full {R:Rd} {sec:Nat} {M:Int→Nod}:∀ (h k:Nat) (N:Nm) (a:Int),h < k→Sh M h a→(∀ x ∈ nums M h a,R x=some (M x)∧x < sec∧N x=none)→(∀ x,(nums M h a).count x≤1) →
 ∃ N',lb R sec k N a=some (h+1,N')∧∀ x,N' x=if x ∈ nums M h a then some (M x) else N x:=by
 intro h
 induction h with
 | zero =>
  intro k N a hk hs hx _
  obtain ⟨k,rfl⟩:∃ k',k=k'+1:=⟨k - 1,by omega⟩
  have h0:=hx a (nums_self _ _ _)
  have hcnd:¬ (N a≠none∨(sec:Int)≤a):=by
   rintro (h1 | h1)
   · exact h1 h0.2.2
   · have:=h0.2.1; omega
  rw [lb,if_neg hcnd,h0.1]
  simp only
  rw [hs.1.1]
  simp only [if_true]
  rw [lbK]
  refine ⟨_,rfl,fun x=>?_⟩
  unfold insr
  simp only [nums,List.mem_singleton]
  by_cases hxa:x=a
  · subst hxa; simp
  · rw [if_neg hxa,if_neg hxa]
 | succ h ih =>
  intro k N a hk hs hx hone
  obtain ⟨k,rfl⟩:∃ k',k=k'+1:=⟨k - 1,by omega⟩
  have h0:=hx a (nums_self _ _ _)
  obtain ⟨⟨hl,hkids⟩,hne,hw⟩:=hs
  have hcnd:¬ (N a≠none∨(sec:Int)≤a):=by
   rintro (h1 | h1)
   · exact h1 h0.2.2
   · have:=h0.2.1; omega
  rw [lb,if_neg hcnd,h0.1]
  simp only
  rw [hl]
  simp only [Bool.false_eq_true,if_false]
  have hnb:nums M (h+1) a=a :: bnums M (h+1) (M a).es:=nums_body _ _ _
  rw [hnb] at hone hx
  have hloop:∀ (es:List En) (first:Bool) (lv0:Nat) (N:Nm),(∀ e ∈ es,Sh M h e.kid∧KE M e∧(M e.kid).lean=false)→(first=false→lv0=h+1)→(∀ x ∈ bnums M (h+1) es,R x=some (M x)∧x < sec∧N x=none)→(∀ x,(bnums M (h+1) es).count x≤1) →
   ∃ N',lbK (lb R sec k) es first lv0 N=some (if es=[] then lv0 else h+1,N')∧∀ x,N' x=if x ∈ bnums M (h+1) es then some (M x) else N x:=by
   intro es
   induction es with
   | nil =>
    intro first lv0 N _ _ _ _
    exact ⟨N,by rw [lbK]; simp,fun x=>by simp [bnums]⟩
   | cons e es ih2 =>
    intro first lv0 N hk2 hf hx2 hone2
    rw [bnums_cons] at hx2 hone2
    obtain ⟨k1,k2,k3⟩:=hk2 e (by simp)
    obtain ⟨N1,e1,g1⟩:=ih k N e.kid (by omega) k1 (fun x hm=>hx2 x (List.mem_append_left _ hm)) (fun x=>by
     have:=hone2 x
     rw [List.count_append] at this
     omega)
    have hdis:∀ x,x ∈ bnums M (h+1) es→x ∉ nums M h e.kid:=fun x h1 h2=>by
     have:=hone2 x
     rw [List.count_append] at this
     have:=count_mem h1
     have:=count_mem h2
     omega
    obtain ⟨N2,e2,g2⟩:=ih2 false (h+1) N1 (fun x hm=>hk2 x (by simp [hm])) (fun _=>rfl) (fun x hm=>by
     have:=hx2 x (List.mem_append_right _ hm)
     refine ⟨this.1,this.2.1,?_⟩
     rw [g1,if_neg (hdis x hm)]
     exact this.2.2) (fun x=>by
     have:=hone2 x
     rw [List.count_append] at this
     omega)
    have hMe:(N1 e.kid).getD nod0=M e.kid:=by rw [g1,if_pos (nums_self _ _ _)]; rfl
    refine ⟨N2,?_,fun x=>?_⟩
    · rw [lbK,e1]
      simp only
      rw [hMe,if_neg,e2]
      · rw [show (if es=[] then h+1 else h+1)=h+1 from by split <;> rfl,if_neg (List.cons_ne_nil e es)]
      · rintro (⟨h1,h2⟩ | h1 | h1)
        · exact h2 (hf h1).symm
        · rw [k3] at h1; cases h1
        · exact h1 k2.2.2.2.symm
    · rw [g2,bnums_cons]
      simp only [List.mem_append]
      by_cases h1:x ∈ bnums M (h+1) es
      · rw [if_pos h1,if_pos (Or.inr h1)]
      · rw [if_neg h1,g1]
        by_cases h2:x ∈ nums M h e.kid
        · rw [if_pos h2,if_pos (Or.inl h2)]
        · rw [if_neg h2,if_neg (by simp [h1,h2])]
  have han:a ∉ bnums M (h+1) (M a).es:=fun hm=>by
   have h1:=hone a
   rw [List.count_cons,if_pos (by simp)] at h1
   have h2:=count_mem hm
   omega
  obtain ⟨N',e1,g1⟩:=hloop (M a).es true 0 (insr N a (M a)) hkids (fun h=>by cases h) (fun x hm=>by
   have:=hx x (by simp [hm])
   refine ⟨this.1,this.2.1,?_⟩
   unfold insr
   rw [if_neg (ne_of_mem_not hm han)]
   exact this.2.2) (fun x=>by
   have:=hone x
   rw [List.count_cons] at this
   omega)
  rw [e1,if_neg hne]
  refine ⟨N',rfl,fun x=>?_⟩
  rw [g1,hnb]
  simp only [List.mem_cons]
  by_cases h1:x ∈ bnums M (h+1) (M a).es
  · rw [if_pos h1,if_pos (Or.inr h1)]
  · rw [if_neg h1]
    unfold insr
    by_cases h2:x=a
    · subst h2; simp
    · rw [if_neg h2,if_neg (by simp [h1,h2])]
theorem rzs_srt:∀ {l:List En} {p:ByteArray},rzs p l=true↔Srt l∧∀ e ∈ l,slt p e.key=true
 | [],p=>by simp [rzs,Srt]
 | e :: l,p=>by
  rw [rzs,Bool.and_eq_true,rzs_srt,Srt.cons]
  constructor
  · rintro ⟨h1,h2,h3⟩
    refine ⟨⟨h3,h2⟩,fun x hx=>?_⟩
    rcases List.mem_cons.1 hx with rfl | hx
    · exact h1
    · exact lt_tr h1 (h3 x hx)
  · rintro ⟨⟨h1,h2⟩,h3⟩
    exact ⟨h3 e (by simp),h2,h1⟩
theorem isRt_is {M:Int→Nod} {h:Nat} {a:Int} (hs:Sh0 M h a):isRt (M a)=true↔(M a).es≠[]∧(1≤h→2≤(M a).es.length):=by
 have hl:=hs.1.leaf_is
 unfold isRt
 simp only [Bool.or_eq_true,Bool.and_eq_true,decide_eq_true_eq]
 rw [hl]
 simp only [decide_eq_true_eq]
 constructor
 · rintro (h1 | ⟨h1,h2⟩)
   · exact ⟨fun e=>by rw [e] at h1; simp at h1,fun _=>h1⟩
   · exact ⟨fun e=>by rw [e] at h2; simp at h2,fun h3=>by omega⟩
 · rintro ⟨h1,h2⟩
   have:=List.length_pos_iff.2 h1
   by_cases h3:h=0
   · by_cases h4:(M a).es.length=1
     · exact Or.inr ⟨h3,h4⟩
     · left; omega
   · left; have:=h2 (by omega); omega
end Go.Proofs.YtlkgnljdpakkcaaGreatDoor
/-
 What a tree tells: a key's value,what stands from a key on; and the document's list of pairs. Plain; of no program.
-/
namespace Go.Proofs.YtlkgnljdpakkcaaGreatDoor
def ho (M:Int→Nod):Nat→Int→ByteArray→List En
 | 0,a,k=>((M a).es.drop (plcN (M a).es k)).filter fun e=>!slt e.key k
 | h+1,a,k=>((M a).es.drop (plcN (M a).es k)).flatMap fun e=>ho M h e.kid k
def fromL (F:List En) (k:ByteArray):List En:=F.filter fun e=>!slt e.key k
theorem fromL_low {L R:List En} {k:ByteArray} (h:∀ e ∈ L,slt e.key k=true):fromL (L++R) k=fromL R k:=by
 unfold fromL
 rw [List.filter_append,List.filter_eq_nil_iff.2 (fun e he=>by rw [h e he]; simp)]
 rfl
theorem ho_srt {M:Int→Nod} {k:ByteArray}:∀ {h:Nat} {a:Int},Sh M h a→Srt (flat M h a)→ho M h a k=fromL (flat M h a) k
 | 0,a,hs,hsr=>by
  show ((M a).es.drop (plcN (M a).es k)).filter _=fromL (M a).es k
  have hsr:Srt (M a).es:=hsr
  obtain ⟨L,m,G,he,hL,hm,hG⟩:=srt_cut k (M a).es hsr
  rw [he]
  have hlow:∀ e ∈ L++m,slt k e.key=false:=fun e he=>by
   rcases List.mem_append.1 he with h1 | h1
   · exact lt_anti (hL e h1)
   · rcases hm with rfl | ⟨y,rfl,hy⟩
     · simp at h1
     · simp at h1; subst h1; rw [hy]; exact lt_irr _
  rw [plc_cut k (L++m) G hlow hG]
  conv=>rhs; rw [← List.take_append_drop ((L++m).length - 1) (L++m++G)]
  rw [fromL_low]
  · rfl
  · intro e he
    rw [List.take_append_of_le_length (by omega)] at he
    rcases hm with rfl | ⟨y,rfl,hy⟩
    · rw [List.append_nil] at he
      exact hL e (List.mem_of_mem_take he)
    · rw [show (L++[y]).length - 1=L.length from by simp,List.take_left] at he
      exact hL e he
 | h+1,a,hs,hsr=>by
  have hK:∀ e ∈ (M a).es,Sh M h e.kid∧KE M e:=fun e he=>⟨(hs.1.2 e he).1,(hs.1.2 e he).2.1⟩
  rw [flat_body] at hsr ⊢
  obtain ⟨A,e,C,hsp,hp,hA,hC⟩:=kid_place k hK hsr hs.2.1
  show ((M a).es.drop (plcN (M a).es k)).flatMap (fun e=>ho M h e.kid k)=_
  rw [hp]
  have hd:(M a).es.drop A.length=[e]++C:=by rw [hsp,List.append_assoc,List.drop_left]
  rw [hd]
  have hsplit:bflat M (h+1) (M a).es=bflat M (h+1) A++bflat M (h+1) ([e]++C):=by rw [hsp,List.append_assoc,bflat_app]
  rw [hsplit,fromL_low hA]
  have hsr2:Srt (bflat M (h+1) ([e]++C)):=by rw [hsplit] at hsr; exact (Srt.app.1 hsr).2.1
  have hall:∀ x ∈ [e]++C,x ∈ (M a).es:=fun x hx=>by rw [hsp]; simp at hx ⊢; rcases hx with h1 | h1 <;> simp [h1]
  generalize [e]++C=D at hsr2 hall
  clear hd hsplit
  induction D with
  | nil=>rfl
  | cons x D ih =>
   rw [bflat_cons] at hsr2 ⊢
   obtain ⟨s1,s2,_⟩:=Srt.app.1 hsr2
   rw [List.flatMap_cons,ih s2 (fun y hy=>hall y (by simp [hy])),ho_srt (hK x (hall x (by simp))).1 s1]
   unfold fromL
   rw [List.filter_append]
theorem ho_all {M:Int→Nod} {k:ByteArray} (hk:k.data.toList=[]):∀ {h:Nat} {a:Int},Sh M h a→ho M h a k=flat M h a
 | 0,a,hs=>by
  have hlt:∀ e ∈ (M a).es,slt k e.key=true:=fun e he=>by
   have:=(hs.1.2 e he).1
   unfold slt
   rw [ByteArray.toList_eq,ByteArray.toList_eq,hk]
   cases hx:e.key.data.toList with
   | nil =>
    have h2:e.key.data.toList.length=e.key.size:=by simp
    rw [hx] at h2; simp at h2; omega
   | cons b l=>rfl
  show ((M a).es.drop (plcN (M a).es k)).filter _=(M a).es
  have:=plc_cut k [] (M a).es (by simp) hlt
  rw [List.nil_append] at this
  rw [this]
  simp only [List.length_nil,Nat.zero_sub,List.drop_zero]
  exact List.filter_eq_self.2 (fun e he=>by rw [lt_anti (hlt e he)]; rfl)
 | h+1,a,hs=>by
  have hlt:∀ e ∈ (M a).es,slt k e.key=true:=fun e he=>by
   have:=fitA_key (hs.fit e he)
   unfold slt
   rw [ByteArray.toList_eq,ByteArray.toList_eq,hk]
   cases hx:e.key.data.toList with
   | nil =>
    have h2:e.key.data.toList.length=e.key.size:=by simp
    rw [hx] at h2; simp at h2; omega
   | cons b l=>rfl
  show ((M a).es.drop (plcN (M a).es k)).flatMap (fun e=>ho M h e.kid k)=(M a).es.flatMap fun e=>flat M h e.kid
  have:=plc_cut k [] (M a).es (by simp) hlt
  rw [List.nil_append] at this
  rw [this]
  simp only [List.length_nil,Nat.zero_sub,List.drop_zero]
  exact fm_congr fun e he=>ho_all hk (hs.1.2 e he).1
def getT (M:Int→Nod):Nat→Int→ByteArray→Option ByteArray
 | 0,a,k=>if hitE (M a).es k=true then some ((M a).es.getD (plcN (M a).es k) en0).val else none
 | h+1,a,k=>getT M h (kidAt (M a).es (plcN (M a).es k)) k
theorem look_not {L:List En} {k:ByteArray} (h:∀ e ∈ L,e.key≠k):look L k=none:=by
 unfold look
 rw [List.find?_eq_none.2 (fun e he=>by simpa using h e he)]
 rfl
theorem look_app (L R:List En) (k:ByteArray):look (L++R) k=(look L k).or (look R k):=by
 unfold look
 rw [List.find?_append]
 cases L.find? (fun e=>decide (e.key=k)) <;> rfl
theorem getT_is {M:Int→Nod} {k:ByteArray}:∀ {h:Nat} {a:Int},Sh M h a→Srt (flat M h a)→getT M h a k=look (flat M h a) k
 | 0,a,hs,hsr=>by
  have hsr:Srt (M a).es:=hsr
  show (if hitE (M a).es k=true then some ((M a).es.getD (plcN (M a).es k) en0).val else none)=look (M a).es k
  obtain ⟨L,m,G,he,hL,hm,hG⟩:=srt_cut k (M a).es hsr
  rw [he,look_app,look_app,look_not (fun e h=>lt_ne (hL e h)),look_not (L:=G) (fun e h=>(lt_ne (hG e h)).symm)]
  rcases hm with rfl | ⟨y,rfl,hy⟩
  · rw [List.append_nil,if_neg]
    · rfl
    · unfold hitE
      cases hg:(L++G)[plcN (L++G) k]? with
      | none=>simp
      | some e =>
       have hne:e.key≠k:=by
        rcases List.mem_append.1 (List.mem_of_getElem? hg) with h1 | h1
        · exact lt_ne (hL e h1)
        · exact (lt_ne (hG e h1)).symm
       simp only [beq_iff_eq]
       intro h2
       apply hne
       rw [ByteArray.toList_eq,ByteArray.toList_eq] at h2
       cases hx:e.key with | mk x=>cases hy:k with | mk y =>
        rw [hx,hy] at h2
        simp only at h2
        congr 1
        exact Array.toList_inj.1 h2
  · have hp:plcN (L++[y]++G) k=L.length:=by
     rw [plc_cut k (L++[y]) G ?_ hG]
     · simp
     · intro x hx
       rcases List.mem_append.1 hx with h1 | h1
       · exact lt_anti (hL x h1)
       · simp at h1; subst h1; rw [hy]; exact lt_irr _
    have hh:hitE (L++[y]++G) k=true:=by
     unfold hitE
     rw [hp]
     simp [hy]
    rw [if_pos hh,hp]
    simp [look,hy,List.getD_eq_getElem?_getD]
 | h+1,a,hs,hsr=>by
  have hK:∀ e ∈ (M a).es,Sh M h e.kid∧KE M e:=fun e he=>⟨(hs.1.2 e he).1,(hs.1.2 e he).2.1⟩
  rw [flat_body] at hsr ⊢
  obtain ⟨A,e,C,hsp,hp,hA,hC⟩:=kid_place k hK hsr hs.2.1
  show getT M h (kidAt (M a).es (plcN (M a).es k)) k=_
  rw [hp]
  rw [hsp] at hsr ⊢
  rw [kidAt_at,bflat_app,bflat_app,look_app,look_app,look_not (fun x hx=>lt_ne (hA x hx)),look_not (L:=bflat M (h+1) C) (fun x hx=>(lt_ne (hC x hx)).symm)]
  rw [bflat_app,bflat_app,show bflat M (h+1) [e]=flat M h e.kid from by simp [bflat]] at *
  have hse:Srt (flat M h e.kid):=(Srt.app.1 (Srt.app.1 hsr).1).2.1
  rw [getT_is (hK e (by rw [hsp]; simp)).1 hse]
  cases look (flat M h e.kid) k <;> rfl
/-! ### the document's list -/
def oneR (c:Ch):Bool→List En→List En
 | put,[]=>if put then [] else [⟨c.key,c.val,0⟩]
 | put,e :: l=>(if put=false∧slt e.key c.key=false then [⟨c.key,c.val,0⟩] else [])++((if e.key=c.key then [] else [e])++oneR c (put || !slt e.key c.key) l)
theorem oneR_true (c:Ch):∀ (l:List En),oneR c true l=l.filter fun e=>!decide (e.key=c.key)
 | []=>rfl
 | e :: l=>by
  rw [oneR,if_neg (by simp),Bool.true_or,oneR_true c l]
  by_cases h:e.key=c.key
  · rw [if_pos h,List.filter_cons]; simp [h]
  · rw [if_neg h,List.filter_cons]; simp [h]
theorem oneR_low (c:Ch):∀ (L R:List En),(∀ e ∈ L,slt e.key c.key=true)→oneR c false (L++R)=L++oneR c false R
 | [],R,_=>rfl
 | e :: L,R,h=>by
  have h1:=h e (by simp)
  rw [List.cons_append,oneR,if_neg (by rw [h1]; simp),if_neg (lt_ne h1),h1]
  simp only [Bool.not_true,Bool.or_false,List.nil_append]
  rw [oneR_low c L R (fun x hx=>h x (by simp [hx]))]
  rfl
theorem oneR_is (c:Ch) (l:List En) (hs:Srt l):oneR c c.gone l=altL l c:=by
 obtain ⟨L,m,G,rfl,hL,hm,hG⟩:=srt_cut c.key l hs
 rw [altL_cut c rfl hL hm hG]
 have fL:L.filter (fun e=>!decide (e.key=c.key))=L:=List.filter_eq_self.2 (fun e he=>by simp [lt_ne (hL e he)])
 have fG:G.filter (fun e=>!decide (e.key=c.key))=G:=List.filter_eq_self.2 (fun e he=>by simp [(lt_ne (hG e he)).symm])
 cases hg:c.gone
 · have hn:newE c=[⟨c.key,c.val,0⟩]:=by unfold newE; rw [hg]; rfl
   rw [List.append_assoc,oneR_low c L _ hL,hn,List.append_assoc]
   congr 1
   rcases hm with rfl | ⟨y,rfl,hy⟩
   · cases G with
     | nil=>rfl
     | cons g G =>
      have h1:=hG g (by simp)
      rw [List.nil_append,oneR,if_pos ⟨rfl,lt_anti h1⟩,if_neg (lt_ne h1).symm,lt_anti h1]
      simp only [Bool.not_false,Bool.or_true]
      rw [oneR_true]
      rw [List.filter_cons] at fG
      simp only [show decide (g.key=c.key)=false from by simp [(lt_ne h1).symm],Bool.not_false,if_true,List.cons.injEq,true_and] at fG
      rw [fG]; rfl
   · rw [List.singleton_append,oneR,if_pos ⟨rfl,by rw [hy]; exact lt_irr _⟩,if_pos hy,hy,lt_irr]
     simp only [Bool.not_false,Bool.or_true]
     rw [oneR_true,fG]; rfl
 · have hn:newE c=[]:=by unfold newE; rw [hg]; rfl
   rw [oneR_true,List.filter_append,List.filter_append,fL,fG,hn]
   rcases hm with rfl | ⟨y,rfl,hy⟩
   · simp
   · simp [hy]
def chk:List Ch→List ByteArray→Int
 | [],_=>0
 | c :: cs,met=>if c.key.size < 1∨48 < c.key.size then 50 else if 200 < c.val.size then 51 else if met.any (fun k=>decide (k=c.key))=true then 30 else chk cs (met++[c.key])
theorem chk_ok:∀ {cs:List Ch} {met:List ByteArray},chk cs met=0→(∀ c ∈ cs,c.ok)∧(met.Nodup→(met++cs.map Ch.key).Nodup)
 | [],met,_=>⟨by simp,by simp⟩
 | c :: cs,met,h=>by
  rw [chk] at h
  by_cases h1:c.key.size < 1∨48 < c.key.size
  · rw [if_pos h1] at h; omega
  rw [if_neg h1] at h
  by_cases h2:200 < c.val.size
  · rw [if_pos h2] at h; omega
  rw [if_neg h2] at h
  by_cases h3:met.any (fun k=>decide (k=c.key))=true
  · rw [if_pos h3] at h; omega
  rw [if_neg h3] at h
  obtain ⟨i1,i2⟩:=chk_ok h
  refine ⟨fun x hx=>?_,fun hm=>?_⟩
  · rcases List.mem_cons.1 hx with rfl | hx
    · exact ⟨by omega,by omega,by omega⟩
    · exact i1 x hx
  · have:=i2 (by
     rw [List.nodup_append]
     refine ⟨hm,by simp,fun a ha b hb hab=>?_⟩
     simp only [List.mem_singleton] at hb
     subst hb; subst hab
     exact h3 (List.any_eq_true.2 ⟨_,ha,by simp⟩))
    simpa using this
end Go.Proofs.YtlkgnljdpakkcaaGreatDoor
