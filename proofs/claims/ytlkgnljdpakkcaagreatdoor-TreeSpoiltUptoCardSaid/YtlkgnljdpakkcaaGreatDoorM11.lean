/-
  Parts of the proof: Tb, Tc, Td.
-/
import Derived.Test.YtlkgnljdpakkcaaGreatDoorM10
set_option linter.unusedVariables false
set_option linter.unusedSimpArgs false
/-
 One change of a tree,whole: below a number,h levels down. Plain; of no program.
-/
namespace Go.Proofs.YtlkgnljdpakkcaaGreatDoor
theorem bflat_cons (M:Int→Nod) (h:Nat) (e:En) (es:List En):bflat M (h+1) (e :: es)=flat M h e.kid++bflat M (h+1) es:=by
 show (e :: es).flatMap (fun e=>flat M h e.kid)=_
 rw [List.flatMap_cons]; rfl
theorem bnums_cons (M:Int→Nod) (h:Nat) (e:En) (es:List En):bnums M (h+1) (e :: es)=nums M h e.kid++bnums M (h+1) es:=by
 show (e :: es).flatMap (fun e=>nums M h e.kid)=_
 rw [List.flatMap_cons]; rfl
theorem bflat_mem {M:Int→Nod} {h:Nat} {es:List En} {x:En}:x ∈ bflat M (h+1) es↔∃ e ∈ es,x ∈ flat M h e.kid:=List.mem_flatMap
theorem flat_low {M:Int→Nod} {h:Nat} {a:Int} (hs:Sh M h a) (hsr:Srt (flat M h a)):∀ x ∈ flat M h a,slt x.key (M a).fk=false:=by
 obtain ⟨y,l,h1,h2⟩:=flat_head hs
 intro x hx
 rw [h1] at hx hsr
 obtain ⟨h3,_⟩:=Srt.cons.1 hsr
 rw [← h2]
 rcases List.mem_cons.1 hx with rfl | hx
 · exact lt_irr _
 · exact lt_anti (h3 x hx)
theorem kids_srt {M:Int→Nod} {h:Nat}:∀ {es:List En},(∀ e ∈ es,Sh M h e.kid∧KE M e)→Srt (bflat M (h+1) es)→Srt es
 | [],_,_=>by simp [Srt]
 | e :: es,hk,hs=>by
  rw [bflat_cons,Srt.app] at hs
  obtain ⟨h1,h2,h3⟩:=hs
  refine Srt.cons.2 ⟨fun b hb=>?_,kids_srt (fun e he=>hk e (by simp [he])) h2⟩
  obtain ⟨k1,k2⟩:=hk e (by simp)
  obtain ⟨j1,j2⟩:=hk b (by simp [hb])
  obtain ⟨x,l,e1,e2⟩:=flat_head k1
  obtain ⟨y,m,e3,e4⟩:=flat_head j1
  have:=h3 x (by rw [e1]; simp) y (bflat_mem.2 ⟨b,hb,by rw [e3]; simp⟩)
  rw [k2.2.2.2,j2.2.2.2,← e2,← e4]
  exact this
theorem kid_place {M:Int→Nod} {h:Nat} {es:List En} (key:ByteArray) (hk:∀ e ∈ es,Sh M h e.kid∧KE M e) (hs:Srt (bflat M (h+1) es)) (hne:es≠[]) :
 ∃ A e C,es=A++[e]++C∧plcN es key=A.length∧(∀ x ∈ bflat M (h+1) A,slt x.key key=true)∧∀ x ∈ bflat M (h+1) C,slt key x.key=true:=by
 have hsr:=kids_srt hk hs
 obtain ⟨L,m,G,rfl,hL,hm,hG⟩:=srt_cut key es hsr
 have hlow:∀ e ∈ L++m,slt key e.key=false:=fun e he=>by
  rcases List.mem_append.1 he with h1 | h1
  · exact lt_anti (hL e h1)
  · rcases hm with rfl | ⟨y,rfl,hy⟩
    · simp at h1
    · simp at h1; subst h1; rw [hy]; exact lt_irr _
 have hp:=plc_cut key (L++m) G hlow hG
 have habove:∀ (C:List En),(∀ e ∈ C,e ∈ G)→∀ x ∈ bflat M (h+1) C,slt key x.key=true:=fun C hC x hx=>by
  obtain ⟨e,he,hx⟩:=bflat_mem.1 hx
  have heG:=hC e he
  obtain ⟨k1,k2⟩:=hk e (by simp [heG])
  have hse:Srt (flat M h e.kid):=by
   refine List.Pairwise.sublist ?_ hs
   rw [show bflat M (h+1) (L++m++G)=(L++m++G).flatMap (fun e=>flat M h e.kid) from rfl]
   obtain ⟨u,v,huv⟩:=List.append_of_mem (show e ∈ L++m++G by simp [heG])
   rw [huv,List.flatMap_append,List.flatMap_cons]
   exact (List.sublist_append_left _ _).trans (List.sublist_append_right _ _)
  have h3:=flat_low k1 hse x hx
  have h4:=hG e heG
  rw [k2.2.2.2] at h4
  cases h5:slt key x.key
  · have:=le_lt_tr (a:=x.key) (b:=key) (c:=(M e.kid).fk) h5 h4
    rw [h3] at this; cases this
  · rfl
 rcases (L++m).eq_nil_or_concat with h0 | ⟨A,e,h0⟩
 · rw [h0] at hp hs hne ⊢
   cases G with
   | nil=>simp at hne
   | cons g G=>exact ⟨[],g,G,by simp,by simpa using hp,by intro x hx; simp [bflat] at hx,habove G (fun e he=>by simp [he])⟩
 · rw [List.concat_eq_append] at h0
   rw [h0] at hp hs ⊢
   refine ⟨A,e,G,by simp,by rw [hp]; simp,fun x hx=>?_,habove G (fun e he=>he)⟩
   rw [bflat_app,bflat_app,Srt.app] at hs
   obtain ⟨h1,_,_⟩:=hs
   obtain ⟨_,_,h3⟩:=Srt.app.1 h1
   obtain ⟨k1,k2⟩:=hk e (by rw [h0]; simp)
   obtain ⟨y,l,e1,e2⟩:=flat_head k1
   have h4:=h3 x hx y (by rw [show bflat M (h+1) [e]=flat M h e.kid from by simp [bflat],e1]; simp)
   have h5:=hlow e (by rw [h0]; simp)
   rw [k2.2.2.2,← e2] at h5
   exact lt_le_tr h4 h5
structure Ch.ok (c:Ch):Prop where
 k1:1≤c.key.size
 k2:c.key.size≤48
 v:c.val.size≤200
theorem newE_fit {c:Ch} (hc:c.ok):∀ e ∈ newE c,fitL e:=by
 intro e he
 unfold newE at he
 cases hg:c.gone
 · rw [hg] at he
   simp only [Bool.false_eq_true,if_false,List.mem_singleton] at he
   subst he
   exact ⟨hc.k1,hc.k2,hc.v,rfl⟩
 · rw [hg] at he; simp at he
theorem altL_w {es:List En} {c:Ch} (hc:c.ok) (hs:Srt es):wE true (altL es c)≤wE true es+251∧(altL es c).length≤es.length+1∧es.length≤(altL es c).length+1:=by
 obtain ⟨L,m,G,rfl,hL,hm,hG⟩:=srt_cut c.key es hs
 rw [altL_cut c rfl hL hm hG]
 have h1:wE true (newE c)≤251∧(newE c).length≤1:=by
  have hf:=newE_fit hc
  unfold newE at hf ⊢
  cases hg:c.gone
  · rw [hg] at hf
    simp only [Bool.false_eq_true,if_false,List.mem_singleton,forall_eq] at hf ⊢
    have:=w_leaf_le hf
    rw [wE_cons,wE_nil]
    simp; omega
  · simp [wE]
 have h2:m.length≤1:=by rcases hm with rfl | ⟨e,rfl,_⟩ <;> simp
 simp only [wE_app,List.length_append]
 omega
structure AltOk (B:Int→Nod) (s:Ov) (h:Nat) (a:Int) (c:Ch) (r:Ov × List Int):Prop where
 one:r.2=[]∨r.2=[a]∨∃ b,r.2=[a,b]∧16384≤b∧(r.1.m B a).lean=false∧(r.1.m B b).lean=false
 ne:altL (flat (s.m B) h a) c≠[]→r.2≠[]
 sh:∀ t ∈ r.2,Sh (r.1.m B) h t
 flat:r.2.flatMap (flat (r.1.m B) h)=altL (flat (s.m B) h a) c
 cnt:∃ R:List Int,(∀ x,(r.2.flatMap (nums (r.1.m B) h)++R).count x=(nums (s.m B) h a++frs s.fresh r.1.fresh).count x)∧∀ x ∈ R,r.1.N x=some nod0
 same:∀ x,x ∉ nums (s.m B) h a→x ∉ frs s.fresh r.1.fresh→r.1.N x=s.N x
 fr0:s.fresh≤r.1.fresh
 fr1:r.1.fresh≤s.fresh+2 * (h+1)
 len:(r.2.flatMap (nums (r.1.m B) h)).length≤(nums (s.m B) h a).length+h+1
 tch:∃ l:List Int,l.length+2≤4 * (h+1)∧a ∈ l∧∀ x,x ∉ l→r.1.N x=s.N x
theorem nonlean_two {M:Int→Nod} {h:Nat} {a:Int} (hs:Sh M h a) (hl:(M a).lean=false):2≤(M a).es.length∧2≤(flat M h a).length:=by
 have hb:=(sh_body.1 hs).1
 have hleaf:=hb.leaf_is
 unfold Nod.lean leanE at hl
 cases h with
 | zero =>
  simp only [decide_true] at hleaf
  rw [hleaf,if_pos rfl,decide_eq_false_iff_not] at hl
  have h1:=w_ndb true (M a).es
  have h2:=wE_le true 251 (M a).es (fun e he=>(w_leaf_le (hs.1.2 e he)).2.1)
  have h3:=(sh_body.1 hs).2.2
  rw [hleaf] at h3
  have h4:=w_ub2 (n:=(M a).es.length) (by
   have:=wE_ge true 3 (M a).es (fun e he=>(w_leaf_le (hs.1.2 e he)).1)
   omega)
  have:2≤(M a).es.length:=by omega
  exact ⟨this,this⟩
 | succ h =>
  rw [decide_eq_false (by omega)] at hleaf
  rw [hleaf,if_neg (by simp),decide_eq_false_iff_not] at hl
  refine ⟨by omega,?_⟩
  have h1:∀ (es:List En),(∀ e ∈ es,Sh M h e.kid)→es.length≤(bflat M (h+1) es).length:=by
   intro es
   induction es with
   | nil=>intro _; simp
   | cons e es ih =>
    intro hk
    rw [bflat_cons,List.length_append,List.length_cons]
    obtain ⟨x,l,e1,_⟩:=flat_head (hk e (by simp))
    have:=ih (fun e he=>hk e (by simp [he]))
    rw [e1,List.length_cons]
    omega
  have:=h1 (M a).es (fun e he=>(hb.2 e he).1)
  rw [flat_body]
  omega
theorem altB_leaf {B:Int→Nod} {s:Ov} {a:Int} {c:Ch} (hc:c.ok) (hs:Sh (s.m B) 0 a) (hsr:Srt (flat (s.m B) 0 a)) (ha:a < s.nx):AltOk B s 0 a c (altB B 0 s a c):=by
 have hsr':Srt (s.m B a).es:=hsr
 have hleaf:=hs.1.1
 have hd:altB B 0 s a c=settle s a ⟨true,altL (s.m B a).es c⟩:=by rw [altB,altE_is _ _ hsr']
 rw [hd]
 have hfl:flat (s.m B) 0 a=(s.m B a).es:=rfl
 have hnu:nums (s.m B) 0 a=[a]:=rfl
 by_cases hne:altL (s.m B a).es c=[]
 · have he:settle s a ⟨true,altL (s.m B a).es c⟩=(s.set a nod0,[]):=by unfold settle; rw [if_pos hne]
   rw [he]
   refine ⟨Or.inl rfl,fun h=>absurd hne h,by simp,?_,⟨[a],fun x=>?_,fun x hx=>?_⟩,fun x hx _=>?_,Nat.le_refl _,?_,?_,⟨[a],by simp,by simp,fun x hx=>?_⟩⟩
   · rw [hfl,hne]; rfl
   · rw [hnu,show (s.set a nod0).fresh=s.fresh from rfl,frs_self]; simp
   · simp only [List.mem_singleton] at hx; subst hx
     show (if x=x then some nod0 else _)=_
     rw [if_pos rfl]
   · rw [hnu] at hx; simp only [List.mem_singleton] at hx
     show (if x=a then _ else s.N x)=_
     rw [if_neg hx]
   · show s.fresh≤_; omega
   · rw [hnu]; simp
   · simp only [List.mem_singleton] at hx
     show (if x=a then _ else s.N x)=_
     rw [if_neg hx]
 · have hw:=altL_w hc hsr'
   have h3:=(sh_body.1 hs).2.2
   rw [hleaf] at h3
   have h1:=w_ndb true (s.m B a).es
   have h2:=w_ndb true (altL (s.m B a).es c)
   have h5:=wE_ge true 3 (s.m B a).es (fun e he=>(w_leaf_le (hs.1.2 e he)).1)
   have h4:=w_ub2 (n:=(altL (s.m B a).es c).length) (by omega)
   have hb:Body (s.m B) 0 ⟨true,altL (s.m B a).es c⟩:=⟨rfl,fun e he=>by
    rcases altL_mem.1 he with h | h
    · exact hs.1.2 e h.1
    · exact newE_fit hc e h⟩
   obtain ⟨s1,s2,s3,s4,s5,s6,s7⟩:=settle_ok (B:=B) (s:=s) (h:=0) (a:=a) hb hne (by simp only; omega) ha (by simp [bnums]) (by simp [bnums])
   refine ⟨?_,?_,s2,s3,⟨[],fun x=>?_,by simp⟩,?_,s6,by omega,?_,?_⟩
   · rcases s1 with ⟨_,e,_⟩ | ⟨p,q,_,e,_,_,_,e1,e2⟩
     · exact Or.inr (Or.inl e)
     · exact Or.inr (Or.inr ⟨_,e,by unfold Ov.nx; omega,e1,e2⟩)
   · intro _
     rcases s1 with ⟨_,e,_⟩ | ⟨p,q,_,e,_⟩ <;> rw [e] <;> simp
   · rw [List.append_nil,s4 x,hnu]; rfl
   · intro x hx hf
     rw [hnu] at hx
     exact s5 x (by simpa using hx) hf
   · have h6:=len_count s4
     rw [h6,hnu]
     simp only [bnums,List.cons_append,List.nil_append,List.length_cons,frs_len,List.length_nil]
     omega
   · refine ⟨[a,s.nx],by simp,by simp,fun x hx=>?_⟩
     simp only [List.mem_cons,List.not_mem_nil,or_false,not_or] at hx
     refine s5 x hx.1 (fun e=>hx.2 ?_)
     have:=frs_mem.1 e
     unfold Ov.nx; omega
theorem withKids_at (B:Int→Nod) (s:Ov) (A C:List En) (e:En) (ts:List Int):withKids B s (A++[e]++C) A.length (A.length+1) ts=A++ts.map (kidE B s)++C:=by
 unfold withKids
 congr 1
 · congr 1; simp
 · rw [show A.length+1=(A++[e]).length from by simp,List.drop_left]
theorem kidAt_at (A C:List En) (e:En):kidAt (A++[e]++C) A.length=e.kid:=by
 unfold kidAt; simp [List.getD_eq_getElem?_getD]
theorem altB_ok {B:Int→Nod} {c:Ch} (hc:c.ok):∀ (h:Nat) (s:Ov) (a:Int),Sh (s.m B) h a→Srt (flat (s.m B) h a)→(∀ x,(nums (s.m B) h a).count x≤1)→(∀ x ∈ nums (s.m B) h a,x < s.nx)→(1≤h→2≤(s.m B a).es.length)→16384+(s.fresh:Int)+2 * (h+1)≤topN →
 AltOk B s h a c (altB B h s a c):=by
 intro h
 induction h with
 | zero=>intro s a hs hsr _ hlt _ _; exact altB_leaf hc hs hsr (hlt a (nums_self _ _ _))
 | succ h ih =>
  intro s a hs hsr hn hlt h2 htop
  have h2:=h2 (by omega)
  obtain ⟨⟨hleaf,hkids⟩,hne,hw⟩:=hs
  have hK:∀ e ∈ (s.m B a).es,Sh (s.m B) h e.kid∧KE (s.m B) e:=fun e he=>⟨(hkids e he).1,(hkids e he).2.1⟩
  rw [flat_body] at hsr
  obtain ⟨A,e,C,hsp,hp,hA,hC⟩:=kid_place c.key hK hsr hne
  have hfl0:flat (s.m B) (h+1) a=bflat (s.m B) (h+1) (s.m B a).es:=flat_body _ _ _
  have hnu0:nums (s.m B) (h+1) a=a :: bnums (s.m B) (h+1) (s.m B a).es:=nums_body _ _ _
  rw [hnu0] at hn hlt
  have hdef:altB B (h+1) s a c=settle (mended B (altB B h s e.kid c).1 (A++(altB B h s e.kid c).2.map (kidE B (altB B h s e.kid c).1)++C) A.length).1 a ⟨false,(mended B (altB B h s e.kid c).1 (A++(altB B h s e.kid c).2.map (kidE B (altB B h s e.kid c).1)++C) A.length).2⟩:=by
   rw [altB,hp,hsp,withKids_at,kidAt_at]
  rw [hdef]
  have hwf:(ndb false (s.m B a).es).length≤1024:=by rw [hleaf] at hw; exact hw
  clear hdef hw
  rw [hsp] at hK hsr h2 hwf hkids hn hlt
  rw [hsp] at hnu0 hfl0
  obtain ⟨ke1,ke2⟩:=hK e (by simp)
  have hle:=(hkids e (by simp)).2.2
  rw [bflat_app,bflat_app,show bflat (s.m B) (h+1) [e]=flat (s.m B) h e.kid from by simp [bflat]] at hsr
  have hse:Srt (flat (s.m B) h e.kid):=(Srt.app.1 (Srt.app.1 hsr).1).2.1
  rw [bnums_app,bnums_app,show bnums (s.m B) (h+1) [e]=nums (s.m B) h e.kid from by simp [bnums]] at hn hlt
  have hlt':∀ x,(x=a∨x ∈ bnums (s.m B) (h+1) A∨x ∈ nums (s.m B) h e.kid∨x ∈ bnums (s.m B) (h+1) C)→x < s.nx:=fun x hx=>hlt x (by
   simp only [List.mem_cons,List.mem_append]; rcases hx with h | h | h | h
   · exact Or.inl h
   · exact Or.inr (Or.inl (Or.inl h))
   · exact Or.inr (Or.inl (Or.inr h))
   · exact Or.inr (Or.inr h))
  have hb:∀ x,(if a=x then 1 else 0)+(bnums (s.m B) (h+1) A).count x+(nums (s.m B) h e.kid).count x+(bnums (s.m B) (h+1) C).count x≤1:=fun x=>by
   have:=hn x
   simp only [List.count_append,List.count_cons,beq_iff_eq] at this
   omega
  have two:=nonlean_two ke1 hle
  have r:=ih s e.kid ke1 hse (fun x=>by have:=hb x; omega) (fun x hx=>hlt' x (Or.inr (Or.inr (Or.inl hx)))) (fun _=>two.1) (by push_cast at htop ⊢; omega)
  have hrne:(altB B h s e.kid c).2≠[]:=r.ne (fun e0=>by
   have:=(altL_w hc hse).2.2
   rw [e0] at this; simp at this; omega)
  generalize altB B h s e.kid c=st at r hrne ⊢
  obtain ⟨R1,cnt1,nil1⟩:=r.cnt
  have hfr0:=r.fr0
  have hfr1:=r.fr1
  have hnx:s.nx≤st.1.nx:=by unfold Ov.nx; omega
  have hAC:∀ x,x=a∨x ∈ bnums (s.m B) (h+1) A∨x ∈ bnums (s.m B) (h+1) C→st.1.N x=s.N x:=fun x hx=>by
   have hx1:1≤(if a=x then 1 else 0)+(bnums (s.m B) (h+1) A).count x+(bnums (s.m B) (h+1) C).count x:=by
    rcases hx with hx | hx | hx
    · rw [if_pos hx.symm]; omega
    · have:=count_mem hx; omega
    · have:=count_mem hx; omega
   have:=hb x
   refine r.same x (fun hm=>?_) (fun hm=>?_)
   · have:=count_mem hm; omega
   · have h3:=(frs_mem.1 hm).1
     have h4:=hlt' x (by rcases hx with h | h | h; exact Or.inl h; exact Or.inr (Or.inl h); exact Or.inr (Or.inr (Or.inr h)))
     unfold Ov.nx at h4; omega
  obtain ⟨a1,a2,a3,a4⟩:=kids_keep (M':=st.1.m B) (h:=h) (es:=A) (fun x hx=>m_same (hAC x (Or.inr (Or.inl hx))))
  obtain ⟨d1,d2,d3,d4⟩:=kids_keep (M':=st.1.m B) (h:=h) (es:=C) (fun x hx=>m_same (hAC x (Or.inr (Or.inr hx))))
  have hold:∀ t ∈ st.2,t ∈ nums (s.m B) h e.kid++frs s.fresh st.1.fresh:=fun t ht=>by
   refine mem_count ?_
   rw [← cnt1 t,List.count_append]
   have:=count_mem (List.mem_flatMap.2 ⟨t,ht,nums_self (st.1.m B) h t⟩)
   omega
  have hup:∀ x,x ∈ nums (s.m B) h e.kid++frs s.fresh st.1.fresh→x < st.1.nx:=fun x hx=>by
   rcases List.mem_append.1 hx with h6 | h6
   · have:=hlt' x (Or.inr (Or.inr (Or.inl h6))); omega
   · have:=frs_mem.1 h6; unfold Ov.nx; omega
  have htn:∀ t ∈ st.2,1≤t∧t < topN:=fun t ht=>by
   have h3:=hup t (hold t ht)
   refine ⟨?_,by unfold Ov.nx at h3; push_cast at htop; omega⟩
   rcases r.one with h4 | h4 | ⟨b,h4,h5,_⟩
   · rw [h4] at ht; simp at ht
   · rw [h4] at ht; simp at ht; subst ht; exact ke2.2.1
   · rw [h4] at ht
     simp only [List.mem_cons,List.not_mem_nil,or_false] at ht
     rcases ht with rfl | rfl
     · exact ke2.2.1
     · omega
  have hkt:∀ t ∈ st.2,Sh (st.1.m B) h t∧1≤t∧t < topN:=fun t ht=>⟨r.sh t ht,htn t ht⟩
  have hb1:bnums (st.1.m B) (h+1) (A++st.2.map (kidE B st.1)++C)=bnums (s.m B) (h+1) A++st.2.flatMap (nums (st.1.m B) h)++bnums (s.m B) (h+1) C:=by rw [bnums_app,bnums_app,kids_nums,a2,d2]
  have hf1:bflat (st.1.m B) (h+1) (A++st.2.map (kidE B st.1)++C)=altL (flat (s.m B) (h+1) a) c:=by
   rw [bflat_app,bflat_app,kids_flat,r.flat,a1,d1,hfl0,bflat_app,bflat_app,show bflat (s.m B) (h+1) [e]=flat (s.m B) h e.kid from by simp [bflat],altL_mid _ _ _ c hA hC]
  have hcx:∀ x,(st.2.flatMap (nums (st.1.m B) h)).count x+R1.count x=(nums (s.m B) h e.kid).count x+(frs s.fresh st.1.fresh).count x:=fun x=>by
   have:=cnt1 x
   simp only [List.count_append] at this
   exact this
  have hf01:∀ (x:Int) (i j:Nat),(frs i j).count x≤1:=fun x i j=>(List.nodup_iff_count.1 (frs_nodup i j)) x
  have hfz:∀ (x:Int) (i j:Nat),(x < 16384+(i:Int)∨16384+(j:Int)≤x)→(frs i j).count x=0:=fun x i j hx=>count_not (fun hm=>by have:=frs_mem.1 hm; omega)
  have hn1:∀ x,(bnums (st.1.m B) (h+1) (A++st.2.map (kidE B st.1)++C)).count x≤1:=fun x=>by
   rw [hb1]
   simp only [List.count_append]
   have q1:=hcx x
   have q2:=hb x
   have q3:=hf01 x s.fresh st.1.fresh
   by_cases hx:x < s.nx
   · have:=hfz x s.fresh st.1.fresh (Or.inl hx); omega
   · have g1:(bnums (s.m B) (h+1) A).count x=0:=count_not (fun hm=>hx (hlt' x (Or.inr (Or.inl hm))))
     have g2:(nums (s.m B) h e.kid).count x=0:=count_not (fun hm=>hx (hlt' x (Or.inr (Or.inr (Or.inl hm)))))
     have g3:(bnums (s.m B) (h+1) C).count x=0:=count_not (fun hm=>hx (hlt' x (Or.inr (Or.inr (Or.inr hm)))))
     omega
  have hl1:∀ x ∈ bnums (st.1.m B) (h+1) (A++st.2.map (kidE B st.1)++C),x < st.1.nx:=fun x hx=>by
   rw [hb1] at hx
   rcases List.mem_append.1 hx with hx | hx
   · rcases List.mem_append.1 hx with hx | hx
     · have:=hlt' x (Or.inr (Or.inl hx)); omega
     · refine hup x (mem_count ?_)
       rw [List.count_append]
       have:=count_mem hx
       have:=hcx x
       omega
   · have:=hlt' x (Or.inr (Or.inr (Or.inr hx))); omega
  have hts:1≤st.2.length∧st.2.length≤2:=by
   rcases r.one with h4 | h4 | ⟨b,h4,_⟩
   · exact absurd h4 hrne
   · rw [h4]; simp
   · rw [h4]; simp
  have hK1:∀ e' ∈ A++st.2.map (kidE B st.1)++C,Sh (st.1.m B) h e'.kid∧KE (st.1.m B) e':=fun e' he=>by
   simp only [List.mem_append] at he
   rcases he with (he | he) | he
   · exact a3 e' he (hK e' (by simp [he]))
   · exact kids_ok hkt e' he
   · exact d3 e' he (hK e' (by simp [he]))
  have hlean1:∀ j,j≠A.length→∀ e',(A++st.2.map (kidE B st.1)++C)[j]?=some e'→(st.1.m B e'.kid).lean=false:=by
   have hAl:∀ e' ∈ A,(st.1.m B e'.kid).lean=false:=fun e' he=>by rw [a4 e' he]; exact (hkids e' (by simp [he])).2.2
   have hCl:∀ e' ∈ C,(st.1.m B e'.kid).lean=false:=fun e' he=>by rw [d4 e' he]; exact (hkids e' (by simp [he])).2.2
   intro j hj e' he'
   rcases r.one with h4 | h4 | ⟨b,h4,_,h5,h6⟩
   · exact absurd h4 hrne
   · rw [h4] at he'
     rcases Nat.lt_or_ge j A.length with h7 | h7
     · rw [List.append_assoc,List.getElem?_append_left h7] at he'
       exact hAl e' (List.mem_of_getElem? he')
     · rw [List.getElem?_append_right (by simp; omega)] at he'
       exact hCl e' (List.mem_of_getElem? he')
   · have:=List.mem_of_getElem? he'
     rw [h4] at this
     simp only [List.mem_append,List.map_cons,List.map_nil,List.mem_cons,List.not_mem_nil,or_false] at this
     rcases this with (h7 | h7 | h7) | h7
     · exact hAl e' h7
     · subst h7; exact h5
     · subst h7; exact h6
     · exact hCl e' h7
  have m:=mended_ok (B:=B) (s:=st.1) (h:=h) (i:=A.length) hK1 (by simp; omega) (by simp at h2 ⊢; omega) hlean1 hn1 hl1 (by push_cast at htop; omega)
  have hw1:wE false (A++st.2.map (kidE B st.1)++C)≤wE false (A++[e]++C)+106∧(A++st.2.map (kidE B st.1)++C).length≤(A++[e]++C).length+1:=by
   have:=kids_w hkt
   simp only [wE_app,List.length_append,List.length_map,List.length_cons,List.length_nil]
   omega
  have hwn:=w_ndb false (A++[e]++C)
  generalize hes1:A++st.2.map (kidE B st.1)++C=es1 at *
  generalize mended B st.1 es1 A.length=r2 at m ⊢
  obtain ⟨R2,cnt2,nil2⟩:=m.cnt
  have hg0:=m.fr0
  have hg1:=m.fr1
  have hcx2:∀ x,(bnums (r2.1.m B) (h+1) r2.2).count x+R2.count x=(bnums (st.1.m B) (h+1) es1).count x+(frs st.1.fresh r2.1.fresh).count x:=fun x=>by
   have:=cnt2 x
   simp only [List.count_append] at this
   exact this
  have hcb:∀ x,(bnums (st.1.m B) (h+1) es1).count x=(bnums (s.m B) (h+1) A).count x+(st.2.flatMap (nums (st.1.m B) h)).count x+(bnums (s.m B) (h+1) C).count x:=fun x=>by rw [hb1]; simp only [List.count_append]
  have ha0:a < s.nx:=hlt' a (Or.inl rfl)
  have hza:(bnums (st.1.m B) (h+1) es1).count a=0∧∀ i j:Nat,s.fresh≤i→(frs i j).count a=0:=by
   have q0:∀ i j:Nat,s.fresh≤i→(frs i j).count a=0:=fun i j hi=>hfz a i j (Or.inl (by unfold Ov.nx at ha0; omega))
   refine ⟨?_,q0⟩
   have q1:=hcx a
   have q2:=hb a
   have q3:=q0 s.fresh st.1.fresh (Nat.le_refl _)
   have q4:=hcb a
   simp only [if_true] at q2
   omega
  have hb2:Body (r2.1.m B) (h+1) ⟨false,r2.2⟩:=⟨rfl,m.kids⟩
  have hlen2:r2.2.length < 16384:=by
   have:=m.n
   have h5:=wE_ge false 1 (A++[e]++C) (fun e' he=>by
    have:=fitA_w (leaf:=false) (e:=e') (by
     have:=Body.fit (M:=s.m B) (h:=h+1) (n:=⟨false,A++[e]++C⟩) ⟨rfl,hkids⟩ e' he
     exact this)
    omega)
   omega
  have hw2:(ndb false r2.2).length≤1500:=by
   have:=ndb_false_le hlen2
   have:=m.w
   omega
  obtain ⟨s1,s2,s3,s4,s5,s6,s7⟩:=settle_ok (B:=B) (s:=r2.1) (h:=h+1) (a:=a) hb2 m.ne hw2 (by unfold Ov.nx at ha0 ⊢; omega) (fun hm=>by
   have q1:=count_mem hm
   have q2:=hcx2 a
   have q3:=hza.2 st.1.fresh r2.1.fresh hfr0
   simp only at q1
   omega) (fun x hx=>by
   have q1:=count_mem hx
   have q2:=hcx2 x
   simp only at q1
   by_cases hx1:x ∈ bnums (st.1.m B) (h+1) es1
   · have:=hl1 x hx1; unfold Ov.nx at this ⊢; omega
   · have q3:=count_not hx1
     have:=frs_mem.1 (mem_count (show 1≤(frs st.1.fresh r2.1.fresh).count x by omega))
     unfold Ov.nx; omega)
  generalize settle r2.1 a ⟨false,r2.2⟩=r3 at s1 s2 s3 s4 s5 s6 s7 ⊢
  simp only at s3 s4
  have hfA:frs s.fresh r3.1.fresh=frs s.fresh st.1.fresh++(frs st.1.fresh r2.1.fresh++frs r2.1.fresh r3.1.fresh):=by
   rw [frs_app hfr0 (by omega),frs_app hg0 (by omega)]
  have hcx3:∀ x,(r3.2.flatMap (nums (r3.1.m B) (h+1))).count x=(if a=x then 1 else 0)+(bnums (r2.1.m B) (h+1) r2.2).count x+(frs r2.1.fresh r3.1.fresh).count x:=fun x=>by
   have:=s4 x
   simp only [List.count_append,List.count_cons,List.cons_append,beq_iff_eq] at this
   omega
  have hR1:∀ x ∈ R1,r3.1.N x=some nod0:=fun x hx=>by
   have q0:=count_mem hx
   have q1:=hcx x
   have q2:=hb x
   have q4:=hcb x
   have q3:=hf01 x s.fresh st.1.fresh
   have hxu:x < st.1.nx:=hup x (mem_count (by rw [List.count_append]; omega))
   have hz:(bnums (st.1.m B) (h+1) es1).count x=0∧(if a=x then 1 else 0)=0:=by
    by_cases hx:x < s.nx
    · have:=hfz x s.fresh st.1.fresh (Or.inl hx); omega
    · have g1:(bnums (s.m B) (h+1) A).count x=0:=count_not (fun hm=>hx (hlt' x (Or.inr (Or.inl hm))))
      have g2:(nums (s.m B) h e.kid).count x=0:=count_not (fun hm=>hx (hlt' x (Or.inr (Or.inr (Or.inl hm)))))
      have g3:(bnums (s.m B) (h+1) C).count x=0:=count_not (fun hm=>hx (hlt' x (Or.inr (Or.inr (Or.inr hm)))))
      have g4:a≠x:=fun e=>hx (e ▸ ha0)
      rw [if_neg g4]
      omega
   have hxa:x≠a:=fun e=>by rw [if_pos e.symm] at hz; omega
   rw [s5 x hxa (fun hm=>by have:=(frs_mem.1 hm).1; unfold Ov.nx at hxu; omega),m.same x (fun hm=>by have:=count_mem hm; omega) (fun hm=>by have:=(frs_mem.1 hm).1; unfold Ov.nx at hxu; omega)]
   exact nil1 x hx
  have hR2:∀ x ∈ R2,r3.1.N x=some nod0:=fun x hx=>by
   have q0:=count_mem hx
   have q1:=hcx2 x
   have hxu:x < r2.1.nx:=by
    by_cases hx1:x ∈ bnums (st.1.m B) (h+1) es1
    · have:=hl1 x hx1; unfold Ov.nx at this ⊢; omega
    · have q3:=count_not hx1
      have:=frs_mem.1 (mem_count (show 1≤(frs st.1.fresh r2.1.fresh).count x by omega))
      unfold Ov.nx; omega
   have hxa:x≠a:=fun e=>by
    subst e
    have:=hza.2 st.1.fresh r2.1.fresh hfr0
    omega
   rw [s5 x hxa (fun hm=>by have:=(frs_mem.1 hm).1; unfold Ov.nx at hxu; omega)]
   exact nil2 x hx
  refine ⟨?_,?_,s2,?_,⟨R1++R2,fun x=>?_,fun x hx=>?_⟩,fun x hx hf=>?_,by omega,by omega,?_,?_⟩
  · rcases s1 with ⟨_,e,_⟩ | ⟨p,q,_,e,_,_,_,e1,e2⟩
    · exact Or.inr (Or.inl e)
    · exact Or.inr (Or.inr ⟨_,e,by unfold Ov.nx; omega,e1,e2⟩)
  · intro _
    rcases s1 with ⟨_,e,_⟩ | ⟨p,q,_,e,_⟩ <;> rw [e] <;> simp
  · rw [s3,m.flat,hf1]
  · rw [hnu0,hfA]
    have q1:=hcx x
    have q2:=hcx2 x
    have q3:=hcx3 x
    have q4:=hcb x
    rw [bnums_app,bnums_app,show bnums (s.m B) (h+1) [e]=nums (s.m B) h e.kid from by simp [bnums]]
    simp only [List.count_append,List.count_cons,List.cons_append,beq_iff_eq]
    omega
  · rcases List.mem_append.1 hx with hx | hx
    · exact hR1 x hx
    · exact hR2 x hx
  · rw [hnu0,bnums_app,bnums_app,show bnums (s.m B) (h+1) [e]=nums (s.m B) h e.kid from by simp [bnums]] at hx
    rw [hfA] at hf
    simp only [List.mem_append,List.mem_cons,not_or] at hx hf
    rw [s5 x hx.1 hf.2.2,m.same x ?_ hf.2.1,r.same x hx.2.1.2 hf.1]
    rw [hb1]
    simp only [List.mem_append,not_or]
    refine ⟨⟨hx.2.1.1,fun hm=>?_⟩,hx.2.2⟩
    have q0:=count_mem hm
    have q1:=hcx x
    have q2:=count_not hx.2.1.2
    have q3:=count_not hf.1
    omega
  · have h6:=len_count s4
    have h7:=m.len
    have h8:=r.len
    rw [hb1] at h7
    rw [h6,hnu0,bnums_app,bnums_app,show bnums (s.m B) (h+1) [e]=nums (s.m B) h e.kid from by simp [bnums]]
    simp only [List.cons_append,List.length_append,List.length_cons,frs_len] at h7 ⊢
    omega
  · obtain ⟨l1,g1,g2,g3⟩:=r.tch
    obtain ⟨l2,g4,g5⟩:=m.tch
    refine ⟨l1++l2++[a,r2.1.nx],by simp; omega,by simp,fun x hx=>?_⟩
    simp only [List.mem_append,List.mem_cons,List.not_mem_nil,or_false,not_or] at hx
    have hke:kidAt es1 A.length=e.kid:=by
     rcases r.one with h4 | h4 | ⟨b,h4,_⟩
     · exact absurd h4 hrne
     · rw [← hes1,h4]; unfold kidAt kidE; simp [List.getD_eq_getElem?_getD]
     · rw [← hes1,h4]; unfold kidAt kidE; simp [List.getD_eq_getElem?_getD]
    rw [s5 x hx.2.1 (fun hm=>hx.2.2 (by have:=frs_mem.1 hm; unfold Ov.nx; omega)),g5 x hx.1.2 (fun e'=>hx.1.1 (by rw [e',hke]; exact g2)),g3 x hx.1.1]
end Go.Proofs.YtlkgnljdpakkcaaGreatDoor
/-
 A draft of a tree: one change of it,at the root; how high a tree may be,and how many sectors it may use. Plain; of no program.
-/
namespace Go.Proofs.YtlkgnljdpakkcaaGreatDoor
def Tr (M:Int→Nod) (root:Int) (h:Nat) (F:List En) (S:List Int):Prop :=
 (root=0∧F=[]∧S=[]∧h=0)∨(1≤root∧Sh M h root∧(1≤h→2≤(M root).es.length)∧F=flat M h root∧S=nums M h root∧Srt F)
theorem Tr.srt {M:Int→Nod} {root:Int} {h:Nat} {F:List En} {S:List Int} (t:Tr M root h F S):Srt F:=by
 rcases t with ⟨_,rfl,_⟩ | ⟨_,_,_,_,_,h⟩
 · simp [Srt]
 · exact h
structure Dok (B:Int→Nod) (s:Ov) (root:Int) (h:Nat) (F:List En) (S:List Int):Prop where
 tr:Tr (s.m B) root h F S
 one:∀ x,S.count x≤1
 inn:∀ x ∈ S,1≤x∧x < s.nx
 out:∀ x,x ∉ S→(s.m B x).es=[]
 new:∀ x,s.nx≤x→s.N x=none
 old:∀ x,16384≤x→B x=nod0
 low:∀ x ∈ S,x < 16384→(B x).es≠[]
def lowered (B:Int→Nod) (s:Ov) (t:Int):Ov × Int:=if (s.m B t).leaf=false∧(s.m B t).es.length=1 then (s.set t nod0,kidAt (s.m B t).es 0) else (s,t)
def alt (B:Int→Nod) (h:Nat) (s:Ov) (root:Int) (c:Ch):Ov × Int :=
 if root=0 then (if c.gone then (s,0) else (s.put ⟨true,altE [] c⟩,s.nx)) else
 match (altB B h s root c).2 with
 | []=>((altB B h s root c).1,0)
 | [t]=>lowered B (altB B h s root c).1 t
 | ts=>((altB B h s root c).1.put ⟨false,withKids B (altB B h s root c).1 [] 0 0 ts⟩,(altB B h s root c).1.nx)
def Grew (B:Int→Nod) (s:Ov) (h:Nat) (F:List En) (S:List Int) (r:Ov × Int):Prop :=
 ∃ h' S',Dok B r.1 r.2 h' F S'∧S'.length≤S.length+h+2∧s.fresh≤r.1.fresh∧r.1.fresh≤s.fresh+2 * (h+1)+1∧h'≤h+1∧∃ l:List Int,l.length≤4 * (h+1)∧∀ x,x ∉ l→r.1.N x=s.N x
theorem altL_nil (c:Ch):altL [] c=newE c:=by simp [altL]
theorem alt_ok {B:Int→Nod} {s:Ov} {root:Int} {h:Nat} {F:List En} {S:List Int} {c:Ch} (hc:c.ok) (d:Dok B s root h F S) (htop:16384+(s.fresh:Int)+2 * (h+1)+1≤topN):Grew B s h (altL F c) S (alt B h s root c):=by
 have hn0:(1:Int)≤s.nx∧s.nx < topN∧16384≤s.nx:=by unfold Ov.nx; omega
 rcases d.tr with ⟨rfl,rfl,rfl,rfl⟩ | ⟨hr,hsh,h2,rfl,rfl,hsr⟩
 · rw [altL_nil]
   by_cases hg:c.gone=true
   · have he:alt B 0 s 0 c=(s,0):=by unfold alt; rw [if_pos rfl,if_pos hg]
     rw [he,show newE c=[] from by unfold newE; rw [if_pos hg]]
     exact ⟨0,[],d,by simp,Nat.le_refl _,by simp; omega,by omega,[],by simp,fun _ _=>rfl⟩
   · have he:alt B 0 s 0 c=(s.put ⟨true,altE [] c⟩,s.nx):=by unfold alt; rw [if_pos rfl,if_neg hg]
     rw [he,altE_is [] c (by simp [Srt]),altL_nil]
     have hnew:newE c=[⟨c.key,c.val,0⟩]:=by unfold newE; rw [if_neg hg]
     have hfit:=newE_fit hc
     have hm:(s.put ⟨true,newE c⟩).m B s.nx=⟨true,newE c⟩:=by rw [m_put,if_pos rfl]
     have hw:(ndb true (newE c)).length≤1024:=by
      have a1:=w_ndb true (newE c)
      rw [hnew] at hfit a1 ⊢
      have a2:=w_leaf_le (hfit ⟨c.key,c.val,0⟩ (List.mem_singleton.2 rfl))
      rw [wE_cons,wE_nil] at a1
      have a3:=w_ub2 (n:=([⟨c.key,c.val,0⟩]:List En).length) (by show 1 < 16384; omega)
      omega
     refine ⟨0,[s.nx],⟨Or.inr ⟨hn0.1,?_,by omega,?_,by rw [nums],newE_srt c⟩,?_,?_,?_,?_,d.old,fun x hx hx2=>by simp only [List.mem_singleton] at hx; omega⟩,by simp,by show s.fresh≤s.fresh+1; omega,by show s.fresh+1≤_; omega,by omega,[s.nx],by simp,?_⟩
     · rw [sh_body,hm]; exact ⟨⟨rfl,hfit⟩,by rw [hnew]; simp,hw⟩
     · rw [flat,hm]
     · intro x; simp only [List.count_cons,List.count_nil]; split <;> omega
     · intro x hx; simp at hx; subst hx; refine ⟨hn0.1,?_⟩; show s.nx < (16384:Int)+((s.fresh+1:Nat):Int); unfold Ov.nx; omega
     · intro x hx; simp at hx; rw [m_put,if_neg hx]; exact d.out x (by simp)
     · intro x hx
       have hx:(16384:Int)+((s.fresh+1:Nat):Int)≤x:=hx
       show (if x=s.nx then _ else s.N x)=none
       rw [if_neg (by unfold Ov.nx; omega)]
       exact d.new x (by unfold Ov.nx; omega)
     · intro x hx; simp at hx
       show (if x=s.nx then _ else s.N x)=_
       rw [if_neg hx]
 · have r:=altB_ok hc h s root hsh hsr d.one (fun x hx=>(d.inn x hx).2) h2 (by omega)
   have he:alt B h s root c=match (altB B h s root c).2 with
    | []=>((altB B h s root c).1,0)
    | [t]=>lowered B (altB B h s root c).1 t
    | ts=>((altB B h s root c).1.put ⟨false,withKids B (altB B h s root c).1 [] 0 0 ts⟩,(altB B h s root c).1.nx):=by
    unfold alt; rw [if_neg (by omega)]
   rw [he]
   clear he
   generalize altB B h s root c=st at r ⊢
   obtain ⟨R,cnt,hnil⟩:=r.cnt
   have f0:=r.fr0
   have f1:=r.fr1
   have hflat:=r.flat
   have hlen:=r.len
   obtain ⟨l,hl1,hl2,hl3⟩:=r.tch
   have hcx:∀ x,(st.2.flatMap (nums (st.1.m B) h)).count x+R.count x=(nums (s.m B) h root).count x+(frs s.fresh st.1.fresh).count x:=fun x=>by
    have:=cnt x
    simp only [List.count_append] at this
    exact this
   have hone:∀ x,(nums (s.m B) h root).count x+(frs s.fresh st.1.fresh).count x≤1:=fun x=>by
    have q1:=d.one x
    have q2:=(List.nodup_iff_count.1 (frs_nodup s.fresh st.1.fresh)) x
    by_cases hx:x < s.nx
    · have:=count_not (fun hm:x ∈ frs s.fresh st.1.fresh=>by have:=frs_mem.1 hm; unfold Ov.nx at hx; omega); omega
    · have:=count_not (fun hm:x ∈ nums (s.m B) h root=>hx (d.inn x hm).2); omega
   have hinn:∀ x ∈ st.2.flatMap (nums (st.1.m B) h),1≤x∧x < st.1.nx:=fun x hx=>by
    have q1:=count_mem hx
    have q2:=hcx x
    by_cases hx1:x ∈ nums (s.m B) h root
    · have:=d.inn x hx1; unfold Ov.nx at this ⊢; omega
    · have q3:=count_not hx1
      have:=frs_mem.1 (mem_count (show 1≤(frs s.fresh st.1.fresh).count x by omega))
      unfold Ov.nx; omega
   have hout:∀ x,x ∉ st.2.flatMap (nums (st.1.m B) h)→(st.1.m B x).es=[]:=fun x hx=>by
    have q1:=count_not hx
    have q2:=hcx x
    by_cases hx1:1≤R.count x
    · have:=hnil x (mem_count hx1)
      unfold Ov.m; rw [this]; rfl
    · have q3:x ∉ nums (s.m B) h root:=fun hm=>by have:=count_mem hm; omega
      rw [m_same (r.same x q3 (fun hm=>by have:=count_mem hm; omega))]
      exact d.out x q3
   have hnew:∀ x,st.1.nx≤x→st.1.N x=none:=fun x hx=>by
    rw [r.same x (fun hm=>by have:=d.inn x hm; unfold Ov.nx at this hx; omega) (fun hm=>by have:=frs_mem.1 hm; unfold Ov.nx at hx; omega)]
    exact d.new x (by unfold Ov.nx at hx ⊢; omega)
   have hsr2:Srt (altL (flat (s.m B) h root) c):=altL_srt hsr
   have hlow:∀ x ∈ st.2.flatMap (nums (st.1.m B) h),x < 16384→(B x).es≠[]:=fun x hx hx2=>by
    have q1:=count_mem hx
    have q2:=hcx x
    by_cases hx1:x ∈ nums (s.m B) h root
    · exact d.low x hx1 hx2
    · have q3:=count_not hx1
      have:=frs_mem.1 (mem_count (show 1≤(frs s.fresh st.1.fresh).count x by omega))
      omega
   have hn1:(1:Int)≤st.1.nx∧st.1.nx < topN:=by unfold Ov.nx; omega
   rcases r.one with h4 | h4 | ⟨b,h4,h5,h6,h7⟩
   · rw [h4] at hflat hout hlen hcx ⊢
     simp only [List.flatMap_nil,List.length_nil] at hflat hout hlen ⊢
     rw [← hflat]
     exact ⟨0,[],⟨Or.inl ⟨rfl,rfl,rfl,rfl⟩,by simp,by simp,hout,hnew,d.old,by simp⟩,by simp,f0,by show st.1.fresh≤_; omega,by omega,l,by omega,hl3⟩
   · have hst:=r.sh root (by rw [h4]; simp)
     rw [h4] at hflat hout hlen hinn hcx hlow ⊢
     simp only [List.flatMap_cons,List.flatMap_nil,List.append_nil] at hflat hout hlen hinn hcx hlow ⊢
     by_cases hlo:(st.1.m B root).leaf=false∧(st.1.m B root).es.length=1
     · have he:lowered B st.1 root=(st.1.set root nod0,kidAt (st.1.m B root).es 0):=by unfold lowered; rw [if_pos hlo]
       rw [he]
       have hlf:=(sh_body.1 hst).1.leaf_is
       rw [hlo.1] at hlf
       obtain ⟨h,rfl⟩:∃ h',h=h'+1:=⟨h - 1,by
        rcases h with _ | h
        · simp at hlf
        · omega⟩
       obtain ⟨⟨_,hk⟩,_,_⟩:=hst
       obtain ⟨e,hes⟩:=List.length_eq_one_iff.1 hlo.2
       rw [hes] at hk
       obtain ⟨k1,k2,k3⟩:=hk e (by simp)
       have hkid:kidAt (st.1.m B root).es 0=e.kid:=by rw [hes]; rfl
       have hnu:nums (st.1.m B) (h+1) root=root :: nums (st.1.m B) h e.kid:=by rw [nums,hes]; simp
       have hfl:flat (st.1.m B) (h+1) root=flat (st.1.m B) h e.kid:=by rw [flat,hes]; simp
       have hrn:root ∉ nums (st.1.m B) h e.kid:=fun hm=>by
        have q0:=count_mem hm
        have q1:=hcx root
        have q2:=hone root
        rw [hnu,List.count_cons] at q1
        simp at q1
        omega
       obtain ⟨c1,c2,c3⟩:=sh_congr (M:=st.1.m B) (M':=(st.1.set root nod0).m B) (h:=h) (a:=e.kid) (fun x hx=>by rw [m_set,if_neg (ne_of_mem_not hx hrn)])
       have hme:(st.1.set root nod0).m B e.kid=st.1.m B e.kid:=by rw [m_set,if_neg (ne_of_mem_not (nums_self _ h _) hrn)]
       rw [hkid]
       refine ⟨h,nums (st.1.m B) h e.kid,⟨Or.inr ⟨k2.2.1,c3 k1,?_,by show _=flat ((st.1.set root nod0).m B) h e.kid; rw [c1,← hfl,hflat],c2.symm,hsr2⟩,?_,?_,?_,?_,d.old,fun x hx=>hlow x (by rw [hnu]; simp [hx])⟩,?_,f0,by show st.1.fresh≤_; omega,by omega,l,by omega,?_⟩
       · intro _; show 2≤((st.1.set root nod0).m B e.kid).es.length; rw [hme]; exact (nonlean_two k1 k3).1
       · intro x
         have q1:=hcx x
         have q2:=hone x
         rw [hnu,List.count_cons] at q1
         omega
       · intro x hx; exact hinn x (by rw [hnu]; simp [hx])
       · intro x hx
         rw [m_set]
         by_cases hxr:x=root
         · rw [if_pos hxr]; rfl
         · rw [if_neg hxr]
           exact hout x (by rw [hnu]; simp [hxr,hx])
       · intro x hx
         have hx:st.1.nx≤x:=hx
         have:=(hinn root (by rw [hnu]; simp)).2
         show (if x=root then _ else st.1.N x)=none
         rw [if_neg (by omega)]
         exact hnew x hx
       · rw [hnu] at hlen; simp at hlen; omega
       · intro x hx
         show (if x=root then _ else st.1.N x)=_
         rw [if_neg (fun e:x=root=>hx (by rw [e]; exact hl2))]
         exact hl3 x hx
     · have he:lowered B st.1 root=(st.1,root):=by unfold lowered; rw [if_neg hlo]
       rw [he]
       refine ⟨h,nums (st.1.m B) h root,⟨Or.inr ⟨hr,hst,fun h1=>?_,hflat.symm,rfl,hsr2⟩,fun x=>?_,hinn,hout,hnew,d.old,hlow⟩,by omega,f0,by show st.1.fresh≤_; omega,by omega,l,by omega,hl3⟩
       · have hlf:=(sh_body.1 hst).1.leaf_is
         rw [decide_eq_false (by omega)] at hlf
         have hne:=hst.ne
         have h9:(st.1.m B root).es.length≠0:=fun e=>hne (List.eq_nil_of_length_eq_zero e)
         have h8:(st.1.m B root).es.length≠1:=fun e=>hlo ⟨hlf,e⟩
         show 2≤(st.1.m B root).es.length
         omega
       · have q1:=hcx x
         have q2:=hone x
         omega
   · have hs1:=r.sh root (by rw [h4]; simp)
     have hs2:=r.sh b (by rw [h4]; simp)
     rw [h4] at hflat hout hlen hinn hcx hlow ⊢
     simp only [List.flatMap_cons,List.flatMap_nil,List.append_nil] at hflat hout hlen hinn hcx hlow ⊢
     have hwk:withKids B st.1 [] 0 0 [root,b]=[root,b].map (kidE B st.1):=by simp [withKids]
     rw [hwk]
     have hb1:=hinn b (by simp [nums_self])
     have hr1:=hinn root (by simp [nums_self])
     have hkt:∀ t ∈ [root,b],Sh (st.1.m B) h t∧1≤t∧t < topN:=fun t ht=>by
      simp only [List.mem_cons,List.not_mem_nil,or_false] at ht
      rcases ht with rfl | rfl
      · exact ⟨hs1,hr1.1,by omega⟩
      · exact ⟨hs2,hb1.1,by omega⟩
     have hM:∀ x ∈ bnums (st.1.m B) (h+1) ([root,b].map (kidE B st.1)),(st.1.put ⟨false,[root,b].map (kidE B st.1)⟩).m B x=st.1.m B x:=fun x hx=>by
      rw [kids_nums] at hx
      simp only [List.flatMap_cons,List.flatMap_nil,List.append_nil] at hx
      rw [m_put,if_neg (by have:=hinn x hx; omega)]
     obtain ⟨c1,c2,c3,c4⟩:=kids_keep (h:=h) hM
     have hmr:(st.1.put ⟨false,[root,b].map (kidE B st.1)⟩).m B st.1.nx=⟨false,[root,b].map (kidE B st.1)⟩:=by rw [m_put,if_pos rfl]
     have hnu:nums ((st.1.put ⟨false,[root,b].map (kidE B st.1)⟩).m B) (h+1) st.1.nx=st.1.nx :: (nums (st.1.m B) h root++nums (st.1.m B) h b):=by
      rw [nums_body,hmr]
      simp only
      rw [c2,kids_nums]
      simp
     have hnx2:(st.1.put ⟨false,[root,b].map (kidE B st.1)⟩).nx=st.1.nx+1:=by unfold Ov.put Ov.nx; simp only; omega
     have hz:st.1.nx ∉ nums (st.1.m B) h root++nums (st.1.m B) h b:=fun hm=>by have:=hinn _ hm; omega
     have hwid:=kids_w hkt
     refine ⟨h+1,st.1.nx :: (nums (st.1.m B) h root++nums (st.1.m B) h b),⟨Or.inr ⟨hn1.1,?_,fun _=>by show 2≤((st.1.put ⟨false,[root,b].map (kidE B st.1)⟩).m B st.1.nx).es.length; rw [hmr]; simp,?_,hnu.symm,hsr2⟩,fun x=>?_,?_,?_,?_,d.old,fun x hx hx2=>by
      rcases List.mem_cons.1 hx with rfl | hx
      · unfold Ov.nx at hx2; omega
      · exact hlow x hx hx2⟩,by simp only [List.length_cons]; omega,by show s.fresh≤st.1.fresh+1; omega,by show st.1.fresh+1≤_; omega,by omega,st.1.nx :: l,by simp only [List.length_cons]; omega,?_⟩
     · show Sh ((st.1.put ⟨false,[root,b].map (kidE B st.1)⟩).m B) (h+1) st.1.nx
       rw [sh_body,hmr]
       refine ⟨⟨rfl,fun e he=>?_⟩,by simp,?_⟩
       · have q:=c3 e he (kids_ok hkt e he)
         refine ⟨q.1,q.2,?_⟩
         rw [c4 e he]
         obtain ⟨t,ht,rfl⟩:=List.mem_map.1 he
         simp only [List.mem_cons,List.not_mem_nil,or_false] at ht
         rcases ht with rfl | rfl
         · exact h6
         · exact h7
       · have:=ndb_false_le (es:=[root,b].map (kidE B st.1)) (by simp)
         simp only [List.length_cons,List.length_nil] at hwid
         simp only
         omega
     · show _=flat ((st.1.put ⟨false,[root,b].map (kidE B st.1)⟩).m B) (h+1) st.1.nx
       rw [flat_body ((st.1.put ⟨false,[root,b].map (kidE B st.1)⟩).m B),hmr]
       simp only
       rw [c1,kids_flat]
       simp only [List.flatMap_cons,List.flatMap_nil,List.append_nil]
       exact hflat.symm
     · have q1:=hcx x
       have q2:=hone x
       rw [List.count_cons]
       by_cases hx:st.1.nx=x
       · subst hx
         rw [count_not hz]; simp
       · simp only [beq_iff_eq,if_neg hx]; omega
     · intro x hx
       show 1≤x∧x < (st.1.put ⟨false,[root,b].map (kidE B st.1)⟩).nx
       rw [hnx2]
       rcases List.mem_cons.1 hx with rfl | hx
       · omega
       · have:=hinn x hx; omega
     · intro x hx
       simp only [List.mem_cons,not_or] at hx
       rw [m_put,if_neg hx.1]
       exact hout x hx.2
     · intro x hx
       have hx:(st.1.put ⟨false,[root,b].map (kidE B st.1)⟩).nx≤x:=hx
       rw [hnx2] at hx
       show (if x=st.1.nx then _ else st.1.N x)=none
       rw [if_neg (by omega)]
       exact hnew x (by omega)
     · intro x hx
       simp only [List.mem_cons,not_or] at hx
       show (if x=st.1.nx then _ else st.1.N x)=_
       rw [if_neg hx.1]
       exact hl3 x hx.2
/-! ### how high; how many sectors -/
theorem sum_len {M:Int→Nod} {h k:Nat}:∀ (es:List En),(∀ e ∈ es,k≤(nums M h e.kid).length)→es.length * k≤(bnums M (h+1) es).length
 | [],_=>by simp [bnums]
 | e :: es,hk=>by
  rw [bnums_cons,List.length_append,List.length_cons,Nat.add_mul]
  have:=sum_len es (fun e he=>hk e (by simp [he]))
  have:=hk e (by simp)
  omega
theorem nonlean_pow {M:Int→Nod}:∀ {h:Nat} {a:Int},Sh M h a→(M a).lean=false→8 ^ h≤(nums M h a).length
 | 0,a,_,_=>by simp [nums]
 | h+1,a,hs,hl=>by
  unfold Nod.lean leanE at hl
  rw [hs.1.1,if_neg (by simp),decide_eq_false_iff_not] at hl
  rw [nums_body,List.length_cons]
  have h1:=sum_len (M:=M) (h:=h) (M a).es (fun e he=>nonlean_pow (hs.1.2 e he).1 (hs.1.2 e he).2.2)
  have h2:8 * 8 ^ h≤(M a).es.length * 8 ^ h:=Nat.mul_le_mul_right _ (by omega)
  rw [Nat.pow_succ]
  omega
theorem Tr.high {M:Int→Nod} {root:Int} {h:Nat} {F:List En} {S:List Int} (t:Tr M root h F S) (h1:1≤h):2 * 8 ^ (h - 1)≤S.length:=by
 rcases t with ⟨_,_,_,rfl⟩ | ⟨_,hs,h2,_,rfl,_⟩
 · omega
 · obtain ⟨h,rfl⟩:∃ h',h=h'+1:=⟨h - 1,by omega⟩
   rw [nums_body,List.length_cons]
   have h3:=sum_len (M:=M) (h:=h) (M root).es (fun e he=>nonlean_pow (hs.1.2 e he).1 (hs.1.2 e he).2.2)
   have h4:2 * 8 ^ h≤(M root).es.length * 8 ^ h:=Nat.mul_le_mul_right _ (h2 (by omega))
   rw [show h+1 - 1=h from by omega]
   omega
theorem Tr.low {M:Int→Nod} {root:Int} {h:Nat} {F:List En} {S:List Int} (t:Tr M root h F S) (k:Nat) (hS:S.length < 2 * 8 ^ k):h≤k:=by
 rcases Nat.lt_or_ge k h with h1 | h1
 · have:=t.high (by omega)
   have h2:8 ^ k≤8 ^ (h - 1):=Nat.pow_le_pow_right (by omega) (by omega)
   omega
 · exact h1
def bys (F:List En):Nat:=(F.map fun e=>e.key.size+e.val.size+4).sum
theorem bys_app (l m:List En):bys (l++m)=bys l+bys m:=by simp [bys]
theorem bys_leaf:∀ (l:List En),(∀ e ∈ l,fitL e)→wE true l≤bys l
 | [],_=>by simp [wE,bys]
 | e :: l,h=>by
  rw [wE_cons]
  have h1:=w_leaf_le (h e (by simp))
  have h2:=bys_leaf l (fun e he=>h e (by simp [he]))
  have h3:bys (e :: l)=e.key.size+e.val.size+4+bys l:=by simp [bys]
  omega
theorem sum_bys {M:Int→Nod} {h:Nat}:∀ (es:List En),(∀ e ∈ es,253 * (7 * (nums M h e.kid).length+1)≤8 * bys (flat M h e.kid))→253 * (7 * (bnums M (h+1) es).length+es.length)≤8 * bys (bflat M (h+1) es)
 | [],_=>by simp [bnums,bflat,bys]
 | e :: es,hk=>by
  rw [bnums_cons,bflat_cons,bys_app,List.length_append,List.length_cons]
  have:=sum_bys es (fun e he=>hk e (by simp [he]))
  have:=hk e (by simp)
  omega
theorem nonlean_bys {M:Int→Nod}:∀ {h:Nat} {a:Int},Sh M h a→(M a).lean=false→253 * (7 * (nums M h a).length+1)≤8 * bys (flat M h a)
 | 0,a,hs,hl=>by
  unfold Nod.lean leanE at hl
  have hleaf:=hs.1.1
  rw [hleaf,if_pos rfl,decide_eq_false_iff_not] at hl
  have h1:=w_ndb true (M a).es
  have h2:=bys_leaf (M a).es hs.1.2
  have h3:=hs.2.2
  rw [hleaf] at h3
  have h4:=w_ub2 (n:=(M a).es.length) (by
   have:=wE_ge true 3 (M a).es (fun e he=>(w_leaf_le (hs.1.2 e he)).1)
   omega)
  show 253 * (7 * [a].length+1)≤8 * bys (M a).es
  simp only [List.length_cons,List.length_nil]
  omega
 | h+1,a,hs,hl=>by
  unfold Nod.lean leanE at hl
  rw [hs.1.1,if_neg (by simp),decide_eq_false_iff_not] at hl
  have h1:=sum_bys (M:=M) (h:=h) (M a).es (fun e he=>nonlean_bys (hs.1.2 e he).1 (hs.1.2 e he).2.2)
  rw [nums_body,flat_body,List.length_cons]
  omega
theorem Tr.few {M:Int→Nod} {root:Int} {h:Nat} {F:List En} {S:List Int} (t:Tr M root h F S):1+S.length≤3+bys F / 100:=by
 rcases t with ⟨_,_,rfl,rfl⟩ | ⟨_,hs,h2,rfl,rfl,_⟩
 · show 1+0≤_; omega
 · cases h with
   | zero=>simp only [nums,List.length_cons,List.length_nil]; omega
   | succ h =>
    have h1:=sum_bys (M:=M) (h:=h) (M root).es (fun e he=>nonlean_bys (hs.1.2 e he).1 (hs.1.2 e he).2.2)
    rw [nums_body,flat_body,List.length_cons]
    omega
end Go.Proofs.YtlkgnljdpakkcaaGreatDoor
/-
 Changes of a tree,one behind the other: what it holds in the end doesn't hang on their order; how many numbers are new,how many touched. Plain; of no program.
-/
namespace Go.Proofs.YtlkgnljdpakkcaaGreatDoor
def altsL (F:List En) (cs:List Ch):List En:=cs.foldl altL F
theorem altsL_srt {F:List En} (h:Srt F):∀ (cs:List Ch),Srt (altsL F cs):=by
 intro cs
 induction cs generalizing F with
 | nil=>exact h
 | cons c cs ih=>exact ih (altL_srt h)
theorem altsL_snoc (F:List En) (cs:List Ch) (c:Ch):altsL F (cs++[c])=altL (altsL F cs) c:=by simp [altsL]
theorem altsL_mem:∀ {cs:List Ch} {F:List En} {x:En},(cs.map Ch.key).Nodup→(x ∈ altsL F cs↔(x ∈ F∧∀ c ∈ cs,x.key≠c.key)∨∃ c ∈ cs,x ∈ newE c)
 | [],F,x,_=>by simp [altsL]
 | c :: cs,F,x,hd=>by
  rw [List.map_cons,List.nodup_cons] at hd
  have ih:=altsL_mem (cs:=cs) (F:=altL F c) (x:=x) hd.2
  show x ∈ altsL (altL F c) cs↔_
  rw [ih,altL_mem]
  constructor
  · rintro (⟨h1 | h1,h2⟩ | ⟨d,h1,h2⟩)
    · exact Or.inl ⟨h1.1,fun d hd=>by
       rcases List.mem_cons.1 hd with rfl | hd
       · exact h1.2
       · exact h2 d hd⟩
    · exact Or.inr ⟨c,by simp,h1⟩
    · exact Or.inr ⟨d,by simp [h1],h2⟩
  · rintro (⟨h1,h2⟩ | ⟨d,h1,h2⟩)
    · exact Or.inl ⟨Or.inl ⟨h1,h2 c (by simp)⟩,fun d hd=>h2 d (by simp [hd])⟩
    · rcases List.mem_cons.1 h1 with rfl | h1
      · refine Or.inl ⟨Or.inr h2,fun e he heq=>hd.1 ?_⟩
        rw [← newE_key h2,heq]
        exact List.mem_map.2 ⟨e,he,rfl⟩
      · exact Or.inr ⟨d,h1,h2⟩
theorem altsL_perm {F:List En} {cs ds:List Ch} (hF:Srt F) (hd:(cs.map Ch.key).Nodup) (hp:cs.Perm ds):altsL F ds=altsL F cs:=by
 have hd2:(ds.map Ch.key).Nodup:=(hp.map _).nodup_iff.1 hd
 refine srt_ext (altsL_srt hF ds) (altsL_srt hF cs) (fun x=>?_)
 rw [altsL_mem hd2,altsL_mem hd]
 simp only [hp.mem_iff]
def look (F:List En) (key:ByteArray):Option ByteArray:=(F.find? fun e=>decide (e.key=key)).map En.val
def gr (F:List En) (c:Ch):Bool:=!c.gone && (match look F c.key with
 | none=>true
 | some v=>decide (v.size < c.val.size))
def ords (F:List En) (cs:List Ch):List Ch:=cs.filter (fun c=>!gr F c)++cs.filter (gr F)
theorem ords_perm (F:List En) (cs:List Ch):cs.Perm (ords F cs):=by
 have:=(List.filter_append_perm (gr F) cs).symm
 exact this.trans List.perm_append_comm
theorem ords_len (F:List En) (cs:List Ch):(ords F cs).length=cs.length:=(ords_perm F cs).length_eq.symm
theorem nodup_len:∀ (n:Nat) (a:Int) (l:List Int),(∀ x,l.count x≤1)→(∀ x ∈ l,a≤x∧x < a+n)→l.length≤n
 | 0,a,l,_,h=>by
  cases l with
  | nil=>simp
  | cons x l=>have:=h x (by simp); omega
 | n+1,a,l,h1,h2=>by
  have h3:=nodup_len n a (l.filter fun x=>decide (x≠a+n)) (fun x=>by
   have:=h1 x
   have:=List.Sublist.count_le x (List.filter_sublist (l:=l) (p:=fun x=>decide (x≠a+n)))
   omega) (fun x hx=>by
   have hx:=List.mem_filter.1 hx
   have:=h2 x hx.1
   have h4:x≠a+n:=by simpa using hx.2
   omega)
  have h4:l.length=(l.filter fun x=>decide (x≠a+n)).length+l.count (a+n):=by
   rw [List.count,← List.countP_eq_length_filter]
   have:=List.length_eq_countP_add_countP (p:=fun x=>decide (x≠a+n)) (l:=l)
   rw [this]
   congr 1
   apply List.countP_congr
   intro x _
   simp
  have:=h1 (a+n)
  omega
structure Din (B:Int→Nod) (F0:List En) (S0:List Int) (done:List Ch) (s:Ov) (root:Int) (h:Nat) (S:List Int):Prop where
 ok:Dok B s root h (altsL F0 done) S
 fr:s.fresh≤50 * done.length
 sm:done.length≤2000→S.length≤S0.length+9 * done.length∧∃ l:List Int,l.length≤24 * done.length∧∀ x,x ∉ l→s.N x=none
theorem Dok.small {B:Int→Nod} {s:Ov} {root:Int} {h:Nat} {F:List En} {S:List Int} (d:Dok B s root h F S):S.length≤16383+s.fresh :=
 nodup_len (16383+s.fresh) 1 S d.one (fun x hx=>by have:=d.inn x hx; unfold Ov.nx at this; omega)
theorem Din.h9 {B:Int→Nod} {F0:List En} {S0:List Int} {done:List Ch} {s:Ov} {root:Int} {h:Nat} {S:List Int} (d:Din B F0 S0 done s root h S) (hl:done.length≤1048576):h≤9∧16384+(s.fresh:Int)+2 * (h+1)+1≤topN:=by
 have h1:=d.ok.small
 have h2:=d.fr
 have h3:=d.ok.tr.low 9 (by
  have:(8:Nat) ^ 9=134217728:=by decide
  omega)
 refine ⟨h3,?_⟩
 unfold topN
 omega
theorem Din.start {B:Int→Nod} {root:Int} {h:Nat} {F:List En} {S:List Int} (t:Tr B root h F S) (h1:∀ x,S.count x≤1) (h2:∀ x ∈ S,1≤x∧x < 16384) (h3:∀ x,x ∉ S→B x=nod0) (h4:∀ x ∈ S,(B x).es≠[]):Din B F S [] ⟨fun _=>none,0⟩ root h S:=by
 refine ⟨⟨t,h1,fun x hx=>by have:=h2 x hx; unfold Ov.nx; simp; omega,fun x hx=>?_,fun _ _=>rfl,fun x hx=>h3 x (fun hm=>by have:=h2 x hm; omega),fun x hx _=>h4 x hx⟩,by simp,fun _=>⟨by simp,[],by simp,fun _ _=>rfl⟩⟩
 show (B x).es=[]
 rw [h3 x hx]; rfl
theorem Din.step {B:Int→Nod} {F0:List En} {S0:List Int} {done:List Ch} {s:Ov} {root:Int} {h:Nat} {S:List Int} {c:Ch} (hc:c.ok) (hS0:S0.length≤16383) (d:Din B F0 S0 done s root h S) (hl:done.length < 1048576) :
 ∃ h' S',Din B F0 S0 (done++[c]) (alt B h s root c).1 (alt B h s root c).2 h' S':=by
 obtain ⟨hh,htop⟩:=d.h9 (by omega)
 obtain ⟨h',S',k1,k2,k3,k4,k5,l,k6,k7⟩:=alt_ok hc d.ok htop
 have hf:=d.fr
 refine ⟨h',S',by rw [altsL_snoc]; exact k1,by simp; omega,fun hd=>?_⟩
 simp only [List.length_append,List.length_cons,List.length_nil] at hd ⊢
 obtain ⟨m1,l0,m2,m3⟩:=d.sm (by omega)
 have h5:=d.ok.tr.low 5 (by
  have:(8:Nat) ^ 5=32768:=by decide
  omega)
 refine ⟨by omega,l0++l,by simp; omega,fun x hx=>?_⟩
 simp only [List.mem_append,not_or] at hx
 rw [k7 x hx.2,m3 x hx.1]
end Go.Proofs.YtlkgnljdpakkcaaGreatDoor
