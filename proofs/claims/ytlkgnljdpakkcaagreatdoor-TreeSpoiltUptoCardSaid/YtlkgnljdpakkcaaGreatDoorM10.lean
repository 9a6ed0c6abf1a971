/-
  Parts of the proof: Jw, To, Tw, Ts, Ta.
-/
import Derived.Test.YtlkgnljdpakkcaaGreatDoorM09
import Derived.Test.YtlkgnljdpakkcaaGreatDoorM02
set_option linter.unusedVariables false
set_option linter.unusedSimpArgs false
/-
 A journal on a disk whose power stays on: Open,Commit and Read of it; and 'wakes' of chandlerlaw03.
-/
namespace Go.Proofs.YtlkgnljdpakkcaaGreatDoor
open Go.RowKit
theorem seen_size {w:World} {b bs:Nat} {D:Ds} (h:IsDs w b bs D):∀ j,(D.texts.getD j ⟨#[]⟩).size≤1024:=fun j=>isds_size h j
theorem jopen_clean {D:Ds} {room:Nat} (hon:D.on=true) (hlen:0 < D.texts.length) (h6:D.texts.length≤16384) (hc:Clean D) (h1:1≤room) (hr:room≤500):jopen room D=(0,D):=by
 have hrt:D.rtext 0=pad (D.texts.getD 0 ⟨#[]⟩):=(rd_in (D:=D) (i:=0) hon (by omega) (by omega)).2
 have hrc:D.rcode 0=0:=(rd_in (D:=D) (i:=0) hon (by omega) (by omega)).1
 unfold jopen
 rw [if_neg (by omega),if_neg (by rw [hrc]; simp),hrt,Int.toNat_natCast,hc,rhead_clean room _ hr (by unfold jlen; omega)]
theorem rep_getD (n j:Nat):(List.replicate n (⟨#[]⟩:ByteArray)).getD j ⟨#[]⟩=⟨#[]⟩:=by
 rw [List.getD_eq_getElem?_getD,List.getElem?_replicate]
 split <;> rfl
theorem fresh_clean (n:Nat):Clean (freshD n):=by
 unfold Clean freshD
 simp only
 rw [rep_getD]
theorem fresh_seen (n room:Nat) (h:room+1≤n) (hr:room≤500) (h6:n≤16384):Seen (freshD n) room [] (List.replicate (n - (room+1)) ⟨#[]⟩):=by
 refine ⟨by simp [freshD]; omega,?_,fun i hi=>?_⟩
 · have:=fresh_clean n
   unfold Clean at this
   rw [this]
   exact rhead_clean room _ hr (by simp; omega)
 · unfold cont freshD
   simp only
   rw [if_neg (by simp),rep_getD,rep_getD]
theorem Seen.clean {D:Ds} {room:Nat} {now:List ByteArray} (h:Seen D room [] now):jlen D room=now.length:=by unfold jlen; rw [h.len]; omega
theorem jopen_seen0 {D:Ds} {room:Nat} {now:List ByteArray} (hon:D.on=true) (hs:Seen D room [] now) (h1:1≤room) (hr:room≤500):jopen room D=(0,D):=by
 have hlen:0 < D.texts.length:=by rw [hs.len]; omega
 have hjl:=hs.clean
 have hrt:D.rtext 0=pad (D.texts.getD 0 ⟨#[]⟩):=(rd_in (D:=D) (i:=0) hon (by omega) (by omega)).2
 have hrc:D.rcode 0=0:=(rd_in (D:=D) (i:=0) hon (by omega) (by omega)).1
 unfold jopen
 rw [if_neg (by omega),if_neg (by rw [hrc]; simp),hrt,Int.toNat_natCast,hjl,hs.head]
theorem open_same (b bs room:Nat) (D:Ds) (w:World) (hd:IsDs w b bs D) (hn:D.done+502 < 9223372036854775807) (hjo:jopen room D=(0,D)) :
 Calls Tryz.prog 13 #[.pointer (some ⟨b,0,none⟩),.int .i64 room] w fun e w'=>∃ jb,e=.returned (.tuple #[.pointer (some ⟨jb,0,none⟩),.int .i64 0])∧(w.heap.size≤jb∧IsJn w' jb b room∧IsDs w' b bs D∧Tch [b,bs] w w'):=by
 refine (open_any b bs room D w hd hn).mono ?_
 rintro e w' ⟨t,hd',hx⟩
 rw [hjo] at hd' hx
 rcases hx with ⟨_,jb,he,hj,hjn⟩ | ⟨hne,_⟩
 · exact ⟨jb,he,hj,by simpa using hjn,hd',t⟩
 · exact absurd rfl hne
end Go.Proofs.YtlkgnljdpakkcaaGreatDoor
/-
 The order of texts,lists of entries in that order,and what a leaf holds behind a change. Plain; of no program.
-/
namespace Go.Proofs.YtlkgnljdpakkcaaGreatDoor
theorem bl_irr:∀ x:List UInt8,Go.Op.bytesLess x x=false
 | []=>rfl
 | a :: x=>by simp [Go.Op.bytesLess,bl_irr x,UInt8.lt_irrefl]
theorem bl_tr:∀ (x y z:List UInt8),Go.Op.bytesLess x y=true→Go.Op.bytesLess y z=true→Go.Op.bytesLess x z=true:=by
 intro x
 induction x with
 | nil=>intro y z h1 h2; cases z with
  | nil=>cases y <;> simp [Go.Op.bytesLess] at h2
  | cons c z=>simp [Go.Op.bytesLess]
 | cons a x ih=>intro y z h1 h2; cases y with
  | nil=>simp [Go.Op.bytesLess] at h1
  | cons b y=>cases z with
   | nil=>simp [Go.Op.bytesLess] at h2
   | cons c z =>
    simp only [Go.Op.bytesLess,Bool.or_eq_true,Bool.and_eq_true,decide_eq_true_eq,beq_iff_eq] at h1 h2 ⊢
    rcases h1 with h1 | ⟨rfl,h1⟩
    · rcases h2 with h2 | ⟨rfl,h2⟩
      · exact Or.inl (UInt8.lt_trans h1 h2)
      · exact Or.inl h1
    · rcases h2 with h2 | ⟨rfl,h2⟩
      · exact Or.inl h2
      · exact Or.inr ⟨rfl,ih y z h1 h2⟩
theorem bl_tri:∀ a b:List UInt8,Go.Op.bytesLess a b=false→Go.Op.bytesLess b a=false→a=b
 | [],[],_,_=>rfl
 | [],b :: y,h,_=>by simp [Go.Op.bytesLess] at h
 | a :: x,[],_,h=>by simp [Go.Op.bytesLess] at h
 | a :: x,b :: y,h1,h2=>by
  simp only [Go.Op.bytesLess,Bool.or_eq_false_iff,Bool.and_eq_false_iff,decide_eq_false_iff_not] at h1 h2
  have hab:a=b:=UInt8.toNat_inj.1 (by
   have h3:=h1.1; have h4:=h2.1
   rw [UInt8.lt_iff_toNat_lt] at h3 h4
   omega)
  subst hab
  rw [bl_tri x y (by rcases h1.2 with h | h; simp at h; exact h) (by rcases h2.2 with h | h; simp at h; exact h)]
theorem lt_irr (a:ByteArray):slt a a=false:=bl_irr _
theorem lt_tr {a b c:ByteArray} (h1:slt a b=true) (h2:slt b c=true):slt a c=true:=bl_tr _ _ _ h1 h2
theorem lt_anti {a b:ByteArray} (h:slt a b=true):slt b a=false:=by
 cases h2:slt b a
 · rfl
 · have:=lt_tr h h2; rw [lt_irr] at this; cases this
theorem lt_tri {a b:ByteArray} (h1:slt a b=false) (h2:slt b a=false):a=b:=by
 have:=bl_tri _ _ h1 h2
 rw [ByteArray.toList_eq,ByteArray.toList_eq] at this
 cases a with | mk x=>cases b with | mk y =>
  simp only at this
  congr 1
  exact Array.toList_inj.1 this
theorem lt_ne {a b:ByteArray} (h:slt a b=true):a≠b:=fun e=>by subst e; rw [lt_irr] at h; cases h
theorem lt_of_ne {a b:ByteArray} (h:a≠b) (h2:slt a b=false):slt b a=true:=by
 cases h3:slt b a
 · exact absurd (lt_tri h2 h3) h
 · rfl
theorem sle_is (a b:ByteArray):sle a b=!slt b a:=by
 unfold sle
 cases h:slt b a
 · cases h2:slt a b
   · rw [lt_tri h2 h]; simp
   · rfl
 · rw [lt_anti h]
   have hne:=lt_ne h
   simp only [Bool.false_or,Bool.not_true,beq_eq_false_iff_ne,ne_eq]
   intro he
   apply hne
   rw [ByteArray.toList_eq,ByteArray.toList_eq] at he
   cases a with | mk x=>cases b with | mk y =>
    simp only at he
    congr 1
    exact (Array.toList_inj.1 he).symm
theorem lt_le_tr {a b c:ByteArray} (h1:slt a b=true) (h2:slt c b=false):slt a c=true:=by
 by_cases h:b=c
 · rw [← h]; exact h1
 · exact lt_tr h1 (lt_of_ne (fun e=>h e.symm) h2)
theorem le_lt_tr {a b c:ByteArray} (h1:slt b a=false) (h2:slt b c=true):slt a c=true:=by
 by_cases h:a=b
 · rw [h]; exact h2
 · exact lt_tr (lt_of_ne (fun e=>h e.symm) h1) h2
def Srt (l:List En):Prop:=l.Pairwise fun a b=>slt a.key b.key=true
theorem Srt.app {l m:List En}:Srt (l++m)↔Srt l∧Srt m∧∀ a ∈ l,∀ b ∈ m,slt a.key b.key=true:=List.pairwise_append
theorem Srt.cons {a:En} {l:List En}:Srt (a :: l)↔(∀ b ∈ l,slt a.key b.key=true)∧Srt l:=List.pairwise_cons
structure Ch where
 key:ByteArray
 val:ByteArray
 gone:Bool
def newE (c:Ch):List En:=if c.gone then [] else [⟨c.key,c.val,0⟩]
def en0:En:=⟨⟨#[]⟩,⟨#[]⟩,0⟩
def hitE (es:List En) (key:ByteArray):Bool:=match es[plcN es key]? with
 | some e=>e.key.toList == key.toList
 | none=>false
def altE (es:List En) (c:Ch):List En :=
 if hitE es c.key=true then es.take (plcN es c.key)++newE c++es.drop (plcN es c.key+1)
 else if 0 < es.length∧slt (es.getD (plcN es c.key) en0).key c.key=true then es.take (plcN es c.key+1)++newE c++es.drop (plcN es c.key+1)
 else es.take (plcN es c.key)++newE c++es.drop (plcN es c.key)
def altL (es:List En) (c:Ch):List En:=es.filter (fun e=>slt e.key c.key)++newE c++es.filter (fun e=>slt c.key e.key)
theorem srt_cut (key:ByteArray):∀ (es:List En),Srt es→∃ L m G,es=L++m++G∧(∀ e ∈ L,slt e.key key=true)∧(m=[]∨∃ e,m=[e]∧e.key=key)∧∀ e ∈ G,slt key e.key=true
 | [],_=>⟨[],[],[],rfl,by simp,Or.inl rfl,by simp⟩
 | e :: es,h=>by
  obtain ⟨h1,h2⟩:=Srt.cons.1 h
  obtain ⟨L,m,G,rfl,hL,hm,hG⟩:=srt_cut key es h2
  cases h3:slt e.key key
  · cases h4:slt key e.key
    · have hk:=lt_tri h3 h4
      refine ⟨[],[e],L++m++G,rfl,by simp,Or.inr ⟨e,rfl,hk⟩,fun x hx=>?_⟩
      rw [← hk]; exact h1 x hx
    · refine ⟨[],[],e :: (L++m++G),rfl,by simp,Or.inl rfl,fun x hx=>?_⟩
      rcases List.mem_cons.1 hx with rfl | hx
      · exact h4
      · exact lt_tr h4 (h1 x hx)
  · exact ⟨e :: L,m,G,by simp,fun x hx=>by
     rcases List.mem_cons.1 hx with rfl | hx
     · exact h3
     · exact hL x hx,hm,hG⟩
theorem plc_low (key:ByteArray):∀ (L R:List En) (at_ i:Nat),(∀ e ∈ L,sle e.key key=true)→plcE key at_ i (L++R)=plcE key (if L=[] then at_ else i+L.length - 1) (i+L.length) R
 | [],R,at_,i,_=>by simp
 | e :: L,R,at_,i,h=>by
  rw [List.cons_append,plcE,if_pos (h e (by simp)),plc_low key L R i (i+1) (fun x hx=>h x (by simp [hx]))]
  rw [List.length_cons,show i+1+L.length=i+(L.length+1) from by omega]
  by_cases hl:L=[]
  · subst hl; simp
  · rw [if_neg hl,if_neg (List.cons_ne_nil e L)]
theorem plc_high (key:ByteArray):∀ (R:List En) (at_ i:Nat),(∀ e ∈ R,sle e.key key=false)→plcE key at_ i R=at_
 | [],at_,i,_=>rfl
 | e :: R,at_,i,h=>by
  rw [plcE,if_neg (by rw [h e (by simp)]; simp),plc_high key R at_ (i+1) (fun x hx=>h x (by simp [hx]))]
theorem plc_cut (key:ByteArray) (L R:List En) (hL:∀ e ∈ L,slt key e.key=false) (hR:∀ e ∈ R,slt key e.key=true):plcN (L++R) key=L.length - 1:=by
 unfold plcN
 rw [plc_low key L R 0 0 (fun e he=>by rw [sle_is,hL e he]; rfl),plc_high key R _ _ (fun e he=>by rw [sle_is,hR e he]; rfl)]
 by_cases hl:L=[]
 · subst hl; rfl
 · rw [if_neg hl]; omega
theorem altL_cut {key:ByteArray} (c:Ch) (hc:c.key=key) {L m G:List En} (hL:∀ e ∈ L,slt e.key key=true) (hm:m=[]∨∃ e,m=[e]∧e.key=key) (hG:∀ e ∈ G,slt key e.key=true):altL (L++m++G) c=L++newE c++G:=by
 subst hc
 unfold altL
 have g1:G.filter (fun e=>slt e.key c.key)=[]:=List.filter_eq_nil_iff.2 (fun e he=>by rw [lt_anti (hG e he)]; simp)
 have g2:L.filter (fun e=>slt c.key e.key)=[]:=List.filter_eq_nil_iff.2 (fun e he=>by rw [lt_anti (hL e he)]; simp)
 have g3:m.filter (fun e=>slt e.key c.key)=[]:=by
  rcases hm with rfl | ⟨e,rfl,he⟩
  · rfl
  · simp [he,lt_irr]
 have g4:m.filter (fun e=>slt c.key e.key)=[]:=by
  rcases hm with rfl | ⟨e,rfl,he⟩
  · rfl
  · simp [he,lt_irr]
 rw [List.filter_append,List.filter_append,List.filter_append,List.filter_append,List.filter_eq_self.2 hL,List.filter_eq_self.2 hG,g1,g2,g3,g4]
 simp
theorem altE_is (es:List En) (c:Ch) (h:Srt es):altE es c=altL es c:=by
 obtain ⟨L,m,G,rfl,hL,hm,hG⟩:=srt_cut c.key es h
 rw [altL_cut c rfl hL hm hG]
 unfold altE
 rcases hm with rfl | ⟨e,rfl,he⟩
 · rw [List.append_nil]
   have hp:=plc_cut c.key L G (fun e he=>lt_anti (hL e he)) hG
   have hh:hitE (L++G) c.key=false:=by
    unfold hitE
    cases hg:(L++G)[plcN (L++G) c.key]? with
    | none=>rfl
    | some e =>
     have hne:e.key≠c.key:=by
      rcases List.mem_append.1 (List.mem_of_getElem? hg) with h1 | h1
      · exact lt_ne (hL e h1)
      · exact (lt_ne (hG e h1)).symm
     simp only [beq_eq_false_iff_ne,ne_eq]
     intro h2
     apply hne
     rw [ByteArray.toList_eq,ByteArray.toList_eq] at h2
     cases hx:e.key with | mk x=>cases hy:c.key with | mk y =>
      rw [hx,hy] at h2
      simp only at h2
      congr 1
      exact Array.toList_inj.1 h2
   rw [hh,hp,if_neg (by simp)]
   rcases L.eq_nil_or_concat with rfl | ⟨L',x,rfl⟩
   · rw [if_neg ?_]
     · simp
     · rintro ⟨h1,h2⟩
       cases G with
       | nil=>simp at h1
       | cons g G =>
        simp at h2
        rw [lt_anti (hG g (by simp))] at h2
        cases h2
   · rw [List.concat_eq_append] at *
     rw [if_pos ?_]
     · rw [show (L'++[x]).length - 1+1=(L'++[x]).length from by simp,List.take_left,List.drop_left]
     · refine ⟨by simp; omega,?_⟩
       have:((L'++[x])++G).getD ((L'++[x]).length - 1) en0=x:=by simp [List.getD_eq_getElem?_getD]
       rw [this]; exact hL x (by simp)
 · have hp:plcN (L++[e]++G) c.key=L.length:=by
    rw [plc_cut c.key (L++[e]) G ?_ hG]
    · simp
    · intro x hx
      rcases List.mem_append.1 hx with h1 | h1
      · exact lt_anti (hL x h1)
      · simp at h1; subst h1; rw [he]; exact lt_irr _
   have hh:hitE (L++[e]++G) c.key=true:=by
    unfold hitE
    rw [hp]
    simp [he]
   rw [hh,hp,if_pos rfl]
   simp [List.drop_append]
theorem altL_mid (A m C:List En) (c:Ch) (hA:∀ e ∈ A,slt e.key c.key=true) (hC:∀ e ∈ C,slt c.key e.key=true):altL (A++m++C) c=A++altL m c++C:=by
 unfold altL
 have g1:C.filter (fun e=>slt e.key c.key)=[]:=List.filter_eq_nil_iff.2 (fun e he=>by rw [lt_anti (hC e he)]; simp)
 have g2:A.filter (fun e=>slt c.key e.key)=[]:=List.filter_eq_nil_iff.2 (fun e he=>by rw [lt_anti (hA e he)]; simp)
 rw [List.filter_append,List.filter_append,List.filter_append,List.filter_append,List.filter_eq_self.2 hA,List.filter_eq_self.2 hC,g1,g2]
 simp
theorem altL_mem {es:List En} {c:Ch} {x:En}:x ∈ altL es c↔(x ∈ es∧x.key≠c.key)∨x ∈ newE c:=by
 unfold altL
 simp only [List.mem_append,List.mem_filter]
 constructor
 · rintro ((⟨h1,h2⟩ | h) | ⟨h1,h2⟩)
   · exact Or.inl ⟨h1,lt_ne h2⟩
   · exact Or.inr h
   · exact Or.inl ⟨h1,(lt_ne h2).symm⟩
 · rintro (⟨h1,h2⟩ | h)
   · cases h3:slt x.key c.key
     · exact Or.inr ⟨h1,lt_of_ne h2 h3⟩
     · exact Or.inl (Or.inl ⟨h1,rfl⟩)
   · exact Or.inl (Or.inr h)
theorem newE_key {c:Ch} {x:En} (h:x ∈ newE c):x.key=c.key:=by
 unfold newE at h
 cases hg:c.gone
 · rw [hg] at h; simp at h; rw [h]
 · rw [hg] at h; simp at h
theorem newE_srt (c:Ch):Srt (newE c):=by
 unfold newE
 cases c.gone <;> simp [Srt]
theorem altL_srt {es:List En} {c:Ch} (h:Srt es):Srt (altL es c):=by
 unfold altL
 rw [Srt.app,Srt.app]
 refine ⟨⟨h.filter _,newE_srt c,fun a ha b hb=>?_⟩,h.filter _,fun a ha b hb=>?_⟩
 · rw [newE_key hb]; exact (List.mem_filter.1 ha).2
 · have h2:=(List.mem_filter.1 hb).2
   rcases List.mem_append.1 ha with h1 | h1
   · exact lt_tr (List.mem_filter.1 h1).2 h2
   · rw [newE_key h1]; exact h2
theorem srt_ext:∀ {l m:List En},Srt l→Srt m→(∀ x,x ∈ l↔x ∈ m)→l=m
 | [],[],_,_,_=>rfl
 | [],b :: m,_,_,h=>by have:=(h b).2 (by simp); simp at this
 | a :: l,[],_,_,h=>by have:=(h a).1 (by simp); simp at this
 | a :: l,b :: m,h1,h2,h=>by
  obtain ⟨h3,h4⟩:=Srt.cons.1 h1
  obtain ⟨h5,h6⟩:=Srt.cons.1 h2
  have hab:a=b:=by
   rcases List.mem_cons.1 ((h a).1 (by simp)) with e | e
   · exact e
   · rcases List.mem_cons.1 ((h b).2 (by simp)) with e2 | e2
     · exact e2.symm
     · have:=lt_tr (h5 a e) (h3 b e2); rw [lt_irr] at this; cases this
  subst hab
  congr 1
  refine srt_ext h4 h6 (fun x=>⟨fun hx=>?_,fun hx=>?_⟩)
  · rcases List.mem_cons.1 ((h x).1 (by simp [hx])) with e | e
    · subst e; have:=h3 x hx; rw [lt_irr] at this; cases this
    · exact e
  · rcases List.mem_cons.1 ((h x).2 (by simp [hx])) with e | e
    · subst e; have:=h5 x hx; rw [lt_irr] at this; cases this
    · exact e
end Go.Proofs.YtlkgnljdpakkcaaGreatDoor
/-
 The arithmetic of cuts: a node that weighs too much is cut in two parts that are neither too great nor lean. Plain; of no program.
-/
namespace Go.Proofs.YtlkgnljdpakkcaaGreatDoor
def wE (leaf:Bool) (es:List En):Nat:=(es.flatMap (enb leaf)).length
theorem wE_nil (leaf:Bool):wE leaf []=0:=rfl
theorem wE_cons (leaf:Bool) (e:En) (es:List En):wE leaf (e :: es)=(enb leaf e).length+wE leaf es:=by simp [wE]
theorem wE_app (leaf:Bool) (l m:List En):wE leaf (l++m)=wE leaf l+wE leaf m:=by simp [wE]
theorem w_ub1 {n:Nat} (h:n≤127):(ub n).length=1:=by rw [ub_small (by omega)]; rfl
theorem w_ub_pos (n:Nat):1≤(ub n).length:=by
 have:=ub_ne n
 rcases h:ub n with _ | ⟨a,l⟩
 · exact absurd h this
 · simp
theorem w_ub_mono:∀ (n m:Nat),n≤m→(ub n).length≤(ub m).length:=by
 intro n
 induction n using Nat.strongRecOn with
 | _ n ih =>
  intro m h
  by_cases hn:n < 128
  · rw [w_ub1 (by omega)]; exact w_ub_pos m
  · rw [ub_big hn,ub_big (show ¬ m < 128 by omega)]
    simp only [List.length_cons]
    have:=ih (n / 128) (by omega) (m / 128) (Nat.div_le_div_right h)
    omega
theorem w_ub2 {n:Nat} (h:n < 16384):(ub n).length≤2:=ub_len 1 n (by simpa using h)
theorem w_ub4 {n:Nat} (h:n < 268435456):(ub n).length≤4:=ub_len 3 n (by simpa using h)
theorem w_ndb (leaf:Bool) (es:List En):(ndb leaf es).length=1+(ub es.length).length+wE leaf es:=by unfold ndb wE; rw [List.length_cons,List.length_append]; omega
theorem w_tx (s:ByteArray):(tx s).length=(ub s.size).length+s.size:=by unfold tx; simp
theorem w_leaf (e:En):(enb true e).length=(ub e.key.size).length+e.key.size+((ub e.val.size).length+e.val.size):=by
 unfold enb; rw [if_pos rfl,List.length_append,w_tx,w_tx]
theorem w_other (e:En):(enb false e).length=(ub e.key.size).length+e.key.size+(ub e.kid.toNat).length:=by
 unfold enb; rw [if_neg (by simp),List.length_append,w_tx]
def fitL (e:En):Prop:=1≤e.key.size∧e.key.size≤48∧e.val.size≤200∧e.kid=0
theorem w_leaf_le {e:En} (h:fitL e):3≤(enb true e).length∧(enb true e).length≤251∧e.key.size+e.val.size≤(enb true e).length∧(enb true e).length≤e.key.size+e.val.size+3:=by
 obtain ⟨h1,h2,h3,_⟩:=h
 have a1:=w_ub1 (n:=e.key.size) (by omega)
 have a2:=w_ub2 (n:=e.val.size) (by omega)
 have a3:=w_ub_pos e.val.size
 rw [w_leaf]
 omega
def topN:Nat:=268435456
theorem w_other_le {e:En} (h1:1≤e.key.size) (h2:e.key.size≤48) (h3:0≤e.kid) (h4:e.kid < topN):3≤(enb false e).length∧(enb false e).length≤53:=by
 unfold topN at h4
 have a1:=w_ub1 (n:=e.key.size) (by omega)
 have a2:=w_ub4 (n:=e.kid.toNat) (by omega)
 have a3:=w_ub_pos e.kid.toNat
 rw [w_other]
 omega
theorem wE_le (leaf:Bool) (m:Nat):∀ es:List En,(∀ e ∈ es,(enb leaf e).length≤m)→wE leaf es≤es.length * m
 | [],_=>by simp [wE]
 | e :: es,h=>by
  rw [wE_cons,List.length_cons,Nat.add_mul]
  have:=wE_le leaf m es (fun x hx=>h x (by simp [hx]))
  have:=h e (by simp)
  omega
theorem wE_ge (leaf:Bool) (m:Nat):∀ es:List En,(∀ e ∈ es,m≤(enb leaf e).length)→es.length * m≤wE leaf es
 | [],_=>by simp [wE]
 | e :: es,h=>by
  rw [wE_cons,List.length_cons,Nat.add_mul]
  have:=wE_ge leaf m es (fun x hx=>h x (by simp [hx]))
  have:=h e (by simp)
  omega
theorem cut_at (leaf:Bool) (W last:Nat):∀ (d k s:Nat) (es:List En),last - k=d→k≤last→last+1 < k+es.length→2 * s < W →
 ∃ r:Nat,cutE leaf W last k s es=k+r∧1≤r∧k+r≤last+1∧(W≤2 * (s+wE leaf (es.take r))∨k+r=last+1)∧2 * (s+wE leaf (es.take (r - 1))) < W:=by
 intro d
 induction d with
 | zero =>
  intro k s es hd hk hl hw
  cases es with
  | nil=>simp at hl; omega
  | cons e es =>
   rw [cutE,if_pos (Or.inr (by omega))]
   exact ⟨1,rfl,by omega,by omega,Or.inr (by omega),by simpa [wE] using hw⟩
 | succ d ih =>
  intro k s es hd hk hl hw
  cases es with
  | nil=>simp at hl; omega
  | cons e es =>
   rw [cutE]
   by_cases h:W≤2 * (s+(enb leaf e).length)∨k=last
   · rw [if_pos h]
     refine ⟨1,rfl,by omega,by omega,?_,by simpa [wE] using hw⟩
     rcases h with h | h
     · left; simpa [wE] using h
     · right; omega
   · rw [if_neg h]
     obtain ⟨r,h1,h2,h3,h4,h5⟩:=ih (k+1) (s+(enb leaf e).length) es (by omega) (by omega) (by simp at hl; omega) (by omega)
     refine ⟨r+1,by omega,by omega,by omega,?_,?_⟩
     · rw [List.take_succ_cons,wE_cons]
       rcases h4 with h4 | h4
       · left; omega
       · right; omega
     · obtain ⟨r',rfl⟩:∃ r',r=r'+1:=⟨r - 1,by omega⟩
       rw [show r'+1+1 - 1=r'+1 from by omega,List.take_succ_cons,wE_cons]
       rw [show r'+1 - 1=r' from by omega] at h5
       omega
theorem split_one {leaf:Bool} {es:List En} (h:(ndb leaf es).length≤1024):splitN leaf es=[es]:=by unfold splitN; rw [if_pos (Or.inl h)]
theorem split_two {leaf:Bool} {es:List En} {m:Nat} (hm:∀ e ∈ es,(enb leaf e).length≤m) (h2:m≤260) (h3:(ndb leaf es).length≤1500) (h4:1024 < (ndb leaf es).length) (hp:∀ e ∈ es,3≤(enb leaf e).length) :
 ∃ p q,splitN leaf es=[p,q]∧es=p++q∧p≠[]∧q≠[]∧(ndb leaf p).length≤1024∧(ndb leaf q).length≤1024∧511≤wE leaf p∧1022≤2 * wE leaf q+2 * m:=by
 have n1:=w_ndb leaf es
 have l1:=wE_ge leaf 3 es hp
 have u1:=w_ub2 (n:=es.length) (by omega)
 have u0:=w_ub_pos es.length
 have hW:1022≤wE leaf es:=by omega
 have hW2:wE leaf es≤1498:=by omega
 have hlen:2≤es.length:=by
  have:=wE_le leaf m es hm
  rcases Nat.lt_or_ge es.length 2 with h | h
  · have:es.length * m≤1 * m:=Nat.mul_le_mul_right _ (by omega)
    omega
  · exact h
 obtain ⟨r,h5,h6,h7,h8,h9⟩:=cut_at leaf (wE leaf es) (es.length - 2) _ 0 0 es rfl (by omega) (by omega) (by omega)
 rw [Nat.zero_add] at h5 h7
 simp only [Nat.zero_add] at h8 h9
 have hc:cutN leaf es=r:=h5
 have hr:r < es.length:=by omega
 have htd:es.take r++es.drop r=es:=List.take_append_drop _ _
 have hsum:=wE_app leaf (es.take r) (es.drop r)
 rw [htd] at hsum
 have hstep:wE leaf (es.take r)≤wE leaf (es.take (r - 1))+m:=by
  have:es.take r=es.take (r - 1)++[es[r - 1]'(by omega)]:=by
   conv=>lhs; rw [show r=r - 1+1 from by omega]
   rw [List.take_add_one,List.getElem?_eq_getElem (by omega)]
   rfl
  rw [this,wE_app,wE_cons,wE_nil]
  have:=hm (es[r - 1]'(by omega)) (List.getElem_mem _)
  omega
 have hbig:wE leaf es≤2 * wE leaf (es.take r):=by
  rcases h8 with h | h
  · exact h
  · have hd:es.drop r=[es[r]'(by omega)]:=by
     rw [List.drop_eq_getElem_cons (by omega),List.drop_eq_nil_of_le (by omega)]
    rw [hd,wE_cons,wE_nil] at hsum
    have:=hm (es[r]'(by omega)) (List.getElem_mem _)
    omega
 have la:(es.take r).length=r:=by rw [List.length_take]; omega
 have lb:(es.drop r).length=es.length - r:=by rw [List.length_drop]
 have a1:=w_ndb leaf (es.take r)
 have a2:=w_ndb leaf (es.drop r)
 have a3:=w_ub2 (n:=(es.take r).length) (by omega)
 have a4:=w_ub2 (n:=(es.drop r).length) (by omega)
 refine ⟨es.take r,es.drop r,?_,htd.symm,?_,?_,by omega,by omega,by omega,by omega⟩
 · unfold splitN; rw [if_neg (by omega),hc]
 · intro h; rw [h] at la; simp at la; omega
 · intro h; rw [h] at lb; simp at lb; omega
def leanE (leaf:Bool) (es:List En):Bool:=if leaf then decide ((ndb leaf es).length < 256) else decide (es.length < 8)
def fitA (leaf:Bool) (e:En):Prop:=if leaf then fitL e else 1≤e.key.size∧e.key.size≤48∧0≤e.kid∧e.kid < topN
theorem fitA_key {leaf:Bool} {e:En} (h:fitA leaf e):1≤e.key.size∧e.key.size≤48:=by
 unfold fitA at h
 cases leaf
 · rw [if_neg (by simp)] at h; exact ⟨h.1,h.2.1⟩
 · rw [if_pos rfl] at h; exact ⟨h.1,h.2.1⟩
def mxE (leaf:Bool):Nat:=if leaf then 251 else 53
theorem fitA_w {leaf:Bool} {e:En} (h:fitA leaf e):3≤(enb leaf e).length∧(enb leaf e).length≤mxE leaf:=by
 unfold fitA at h
 unfold mxE
 cases leaf
 · rw [if_neg (by simp)] at h ⊢; exact w_other_le h.1 h.2.1 h.2.2.1 h.2.2.2
 · rw [if_pos rfl] at h ⊢; have:=w_leaf_le h; omega
theorem split_fit {leaf:Bool} {es:List En} (hf:∀ e ∈ es,fitA leaf e) (h3:(ndb leaf es).length≤1500) (h4:1024 < (ndb leaf es).length) :
 ∃ p q,splitN leaf es=[p,q]∧es=p++q∧p≠[]∧q≠[]∧(ndb leaf p).length≤1024∧(ndb leaf q).length≤1024∧leanE leaf p=false∧leanE leaf q=false:=by
 have hm:mxE leaf≤260:=by unfold mxE; split <;> omega
 obtain ⟨p,q,h1,h2,hp,hq,a1,a2,a3,a4⟩:=split_two (fun e he=>(fitA_w (hf e he)).2) hm h3 h4 (fun e he=>(fitA_w (hf e he)).1)
 refine ⟨p,q,h1,h2,hp,hq,a1,a2,?_,?_⟩
 · have b1:=w_ndb leaf p
   have b2:=w_ub_pos p.length
   have b3:=wE_le leaf (mxE leaf) p (fun e he=>(fitA_w (hf e (by rw [h2]; simp [he]))).2)
   unfold leanE
   cases leaf
   · rw [if_neg (by simp),decide_eq_false_iff_not]; simp [mxE] at b3; omega
   · rw [if_pos rfl,decide_eq_false_iff_not]; omega
 · have b1:=w_ndb leaf q
   have b2:=w_ub_pos q.length
   have b3:=wE_le leaf (mxE leaf) q (fun e he=>(fitA_w (hf e (by rw [h2]; simp [he]))).2)
   unfold leanE
   cases leaf
   · rw [if_neg (by simp),decide_eq_false_iff_not]; simp [mxE] at b3 a4; omega
   · rw [if_pos rfl,decide_eq_false_iff_not]; simp [mxE] at a4; omega
end Go.Proofs.YtlkgnljdpakkcaaGreatDoor
/-
 A tree as nodes under numbers: what it holds,which numbers it uses,what shape it has. Plain; of no program.
-/
namespace Go.Proofs.YtlkgnljdpakkcaaGreatDoor
theorem fm_congr {α β:Type} {f g:α→List β}:∀ {l:List α},(∀ a ∈ l,f a=g a)→l.flatMap f=l.flatMap g
 | [],_=>rfl
 | a :: l,h=>by rw [List.flatMap_cons,List.flatMap_cons,h a (by simp),fm_congr (fun b hb=>h b (by simp [hb]))]
structure Nod where
 leaf:Bool
 es:List En
def nod0:Nod:=⟨false,[]⟩
def Nod.lean (n:Nod):Bool:=leanE n.leaf n.es
def Nod.fk (n:Nod):ByteArray:=(n.es.headD en0).key
def flat (M:Int→Nod):Nat→Int→List En
 | 0,a=>(M a).es
 | h+1,a=>(M a).es.flatMap fun e=>flat M h e.kid
def nums (M:Int→Nod):Nat→Int→List Int
 | 0,a=>[a]
 | h+1,a=>a :: (M a).es.flatMap fun e=>nums M h e.kid
def KE (M:Int→Nod) (e:En):Prop:=e.val=⟨#[]⟩∧1≤e.kid∧e.kid < topN∧e.key=(M e.kid).fk
def Sh (M:Int→Nod):Nat→Int→Prop
 | 0,a=>((M a).leaf=true∧∀ e ∈ (M a).es,fitL e)∧(M a).es≠[]∧(ndb (M a).leaf (M a).es).length≤1024
 | h+1,a=>((M a).leaf=false∧∀ e ∈ (M a).es,Sh M h e.kid∧KE M e∧(M e.kid).lean=false)∧(M a).es≠[]∧(ndb (M a).leaf (M a).es).length≤1024
def Body (M:Int→Nod):Nat→Nod→Prop
 | 0,n=>n.leaf=true∧∀ e ∈ n.es,fitL e
 | h+1,n=>n.leaf=false∧∀ e ∈ n.es,Sh M h e.kid∧KE M e∧(M e.kid).lean=false
def bflat (M:Int→Nod):Nat→List En→List En
 | 0,es=>es
 | h+1,es=>es.flatMap fun e=>flat M h e.kid
def bnums (M:Int→Nod):Nat→List En→List Int
 | 0,es=>[]
 | h+1,es=>es.flatMap fun e=>nums M h e.kid
theorem sh_body {M:Int→Nod} {h:Nat} {a:Int}:Sh M h a↔Body M h (M a)∧(M a).es≠[]∧(ndb (M a).leaf (M a).es).length≤1024:=by cases h <;> rfl
theorem flat_body (M:Int→Nod) (h:Nat) (a:Int):flat M h a=bflat M h (M a).es:=by cases h <;> rfl
theorem nums_body (M:Int→Nod) (h:Nat) (a:Int):nums M h a=a :: bnums M h (M a).es:=by cases h <;> rfl
theorem nums_self (M:Int→Nod) (h:Nat) (a:Int):a ∈ nums M h a:=by rw [nums_body]; simp
theorem bflat_app (M:Int→Nod) (h:Nat) (l m:List En):bflat M h (l++m)=bflat M h l++bflat M h m:=by cases h <;> simp [bflat]
theorem bnums_app (M:Int→Nod) (h:Nat) (l m:List En):bnums M h (l++m)=bnums M h l++bnums M h m:=by cases h <;> simp [bnums]
theorem Body.app {M:Int→Nod} {h:Nat} {leaf:Bool} {l m:List En}:Body M h ⟨leaf,l++m⟩↔Body M h ⟨leaf,l⟩∧Body M h ⟨leaf,m⟩:=by
 cases h <;> simp only [Body,List.mem_append]
 all_goals
  constructor
  · rintro ⟨h1,h2⟩; exact ⟨⟨h1,fun e he=>h2 e (Or.inl he)⟩,h1,fun e he=>h2 e (Or.inr he)⟩
  · rintro ⟨⟨h1,h2⟩,_,h3⟩; exact ⟨h1,fun e he=>he.elim (h2 e) (h3 e)⟩
theorem Body.leaf_is {M:Int→Nod} {h:Nat} {n:Nod} (hb:Body M h n):n.leaf=decide (h=0):=by
 cases h
 · exact hb.1
 · rw [hb.1]; simp
theorem flat_head {M:Int→Nod}:∀ {h:Nat} {a:Int},Sh M h a→∃ x l,flat M h a=x :: l∧x.key=(M a).fk
 | 0,a,hs=>by
  obtain ⟨_,h2,_⟩:=hs
  rcases he:(M a).es with _ | ⟨x,l⟩
  · exact absurd he h2
  · exact ⟨x,l,by rw [flat,he],by simp [Nod.fk,he]⟩
 | h+1,a,hs=>by
  obtain ⟨⟨_,h1⟩,h2,_⟩:=hs
  rcases he:(M a).es with _ | ⟨e,l⟩
  · exact absurd he h2
  · rw [he] at h1
    obtain ⟨h3,h4,_⟩:=h1 e (by simp)
    obtain ⟨x,l',h5,h6⟩:=flat_head h3
    exact ⟨x,l'++l.flatMap (fun e=>flat M h e.kid),by rw [flat,he,List.flatMap_cons,h5]; rfl,by rw [h6,← h4.2.2.2]; simp [Nod.fk,he]⟩
theorem Sh.ne {M:Int→Nod} {h:Nat} {a:Int} (hs:Sh M h a):(M a).es≠[]:=(sh_body.1 hs).2.1
theorem Sh.fit {M:Int→Nod}:∀ {h:Nat} {a:Int},Sh M h a→∀ e ∈ (M a).es,fitA (M a).leaf e
 | 0,a,hs,e,he=>by
  unfold fitA; rw [hs.1.1,if_pos rfl]; exact hs.1.2 e he
 | h+1,a,hs,e,he=>by
  obtain ⟨h1,h2,h3⟩:=hs.1.2 e he
  have hne:=h1.ne
  have hk:1≤e.key.size∧e.key.size≤48:=by
   rw [h2.2.2.2]
   rcases hx:(M e.kid).es with _ | ⟨x,l⟩
   · exact absurd hx hne
   · have:=fitA_key (Sh.fit h1 x (by rw [hx]; simp))
     simpa [Nod.fk,hx] using this
  unfold fitA
  rw [hs.1.1,if_neg (by simp)]
  exact ⟨hk.1,hk.2,by have:=h2.2.1; omega,h2.2.2.1⟩
theorem Body.fit {M:Int→Nod} {h:Nat} {n:Nod} (hb:Body M h n):∀ e ∈ n.es,fitA n.leaf e:=by
 intro e he
 cases h with
 | zero=>unfold fitA; rw [hb.1,if_pos rfl]; exact hb.2 e he
 | succ h =>
  obtain ⟨h1,h2,h3⟩:=hb.2 e he
  have hne:=h1.ne
  have hk:1≤e.key.size∧e.key.size≤48:=by
   rw [h2.2.2.2]
   rcases hx:(M e.kid).es with _ | ⟨x,l⟩
   · exact absurd hx hne
   · have:=fitA_key (Sh.fit h1 x (by rw [hx]; simp))
     simpa [Nod.fk,hx] using this
  unfold fitA
  rw [hb.1,if_neg (by simp)]
  exact ⟨hk.1,hk.2,by have:=h2.2.1; omega,h2.2.2.1⟩
theorem sh_congr {M M':Int→Nod}:∀ {h:Nat} {a:Int},(∀ x ∈ nums M h a,M' x=M x)→flat M' h a=flat M h a∧nums M' h a=nums M h a∧(Sh M h a→Sh M' h a)
 | 0,a,hx=>by
  have h0:=hx a (by simp [nums])
  exact ⟨by simp [flat,h0],rfl,fun hs=>by unfold Sh at hs ⊢; rw [h0]; exact hs⟩
 | h+1,a,hx=>by
  have h0:=hx a (nums_self _ _ _)
  have hk:∀ e ∈ (M a).es,∀ x ∈ nums M h e.kid,M' x=M x:=fun e he x hm=>hx x (by rw [nums]; exact List.mem_cons_of_mem _ (List.mem_flatMap.2 ⟨e,he,hm⟩))
  refine ⟨?_,?_,fun hs=>?_⟩
  · rw [flat,flat,h0]
    exact fm_congr fun e he=>(sh_congr (hk e he)).1
  · rw [nums,nums,h0]
    congr 1
    exact fm_congr fun e he=>(sh_congr (hk e he)).2.1
  · obtain ⟨⟨h1,h2⟩,h3,h4⟩:=hs
    unfold Sh
    rw [h0]
    refine ⟨⟨h1,fun e he=>?_⟩,h3,h4⟩
    obtain ⟨h5,h6,h7⟩:=h2 e he
    have hk0:=hk e he e.kid (nums_self _ _ _)
    exact ⟨(sh_congr (hk e he)).2.2 h5,by unfold KE at h6 ⊢; rw [hk0]; exact h6,by rw [hk0]; exact h7⟩
theorem body_congr {M M':Int→Nod} {h:Nat} {n:Nod} (hx:∀ x ∈ bnums M h n.es,M' x=M x):bflat M' h n.es=bflat M h n.es∧bnums M' h n.es=bnums M h n.es∧(Body M h n→Body M' h n):=by
 cases h with
 | zero=>exact ⟨rfl,rfl,id⟩
 | succ h =>
  have hk:∀ e ∈ n.es,∀ x ∈ nums M h e.kid,M' x=M x:=fun e he x hm=>hx x (List.mem_flatMap.2 ⟨e,he,hm⟩)
  refine ⟨fm_congr fun e he=>(sh_congr (hk e he)).1,fm_congr fun e he=>(sh_congr (hk e he)).2.1,fun hb=>⟨hb.1,fun e he=>?_⟩⟩
  obtain ⟨h5,h6,h7⟩:=hb.2 e he
  have hk0:=hk e he e.kid (nums_self _ _ _)
  exact ⟨(sh_congr (hk e he)).2.2 h5,by unfold KE at h6 ⊢; rw [hk0]; exact h6,by rw [hk0]; exact h7⟩
/-! ### a draft: what is laid over a tree -/
structure Ov where
 N:Int→Option Nod
 fresh:Nat
def Ov.m (B:Int→Nod) (s:Ov) (x:Int):Nod:=(s.N x).getD (B x)
def Ov.set (s:Ov) (a:Int) (n:Nod):Ov:={ s with N:=fun x=>if x=a then some n else s.N x }
def Ov.nx (s:Ov):Int:=16384+(s.fresh:Int)
def Ov.put (s:Ov) (n:Nod):Ov:={ N:=fun x=>if x=s.nx then some n else s.N x,fresh:=s.fresh+1 }
def puts (leaf:Bool):Ov→List (List En)→Ov × List Int
 | s,[]=>(s,[])
 | s,p :: ps=>((puts leaf (s.put ⟨leaf,p⟩) ps).1,s.nx :: (puts leaf (s.put ⟨leaf,p⟩) ps).2)
def settle (s:Ov) (a:Int) (n:Nod):Ov × List Int :=
 if n.es=[] then (s.set a nod0,[]) else
 match splitN n.leaf n.es with
 | []=>(s,[a])
 | p :: ps=>((puts n.leaf (s.set a ⟨n.leaf,p⟩) ps).1,a :: (puts n.leaf (s.set a ⟨n.leaf,p⟩) ps).2)
def kidAt (es:List En) (i:Nat):Int:=(es.getD i en0).kid
def kidE (B:Int→Nod) (s:Ov) (k:Int):En:=⟨(s.m B k).fk,⟨#[]⟩,k⟩
def withKids (B:Int→Nod) (s:Ov) (es:List En) (i j:Nat) (kids:List Int):List En:=es.take i++kids.map (kidE B s)++es.drop j
def mended (B:Int→Nod) (s:Ov) (es:List En) (i:Nat):Ov × List En :=
 if (s.m B (kidAt es i)).lean=false then (s,es) else
 ((settle (s.set (kidAt es (i - 1+1)) nod0) (kidAt es (i - 1)) ⟨(s.m B (kidAt es (i - 1))).leaf,(s.m B (kidAt es (i - 1))).es++(s.m B (kidAt es (i - 1+1))).es⟩).1,
  withKids B (settle (s.set (kidAt es (i - 1+1)) nod0) (kidAt es (i - 1)) ⟨(s.m B (kidAt es (i - 1))).leaf,(s.m B (kidAt es (i - 1))).es++(s.m B (kidAt es (i - 1+1))).es⟩).1 es (i - 1) (i - 1+2)
   (settle (s.set (kidAt es (i - 1+1)) nod0) (kidAt es (i - 1)) ⟨(s.m B (kidAt es (i - 1))).leaf,(s.m B (kidAt es (i - 1))).es++(s.m B (kidAt es (i - 1+1))).es⟩).2)
def altB (B:Int→Nod):Nat→Ov→Int→Ch→Ov × List Int
 | 0,s,a,c=>settle s a ⟨true,altE (s.m B a).es c⟩
 | h+1,s,a,c =>
  settle (mended B (altB B h s (kidAt (s.m B a).es (plcN (s.m B a).es c.key)) c).1
   (withKids B (altB B h s (kidAt (s.m B a).es (plcN (s.m B a).es c.key)) c).1 (s.m B a).es (plcN (s.m B a).es c.key) (plcN (s.m B a).es c.key+1) (altB B h s (kidAt (s.m B a).es (plcN (s.m B a).es c.key)) c).2) (plcN (s.m B a).es c.key)).1
   a ⟨false,(mended B (altB B h s (kidAt (s.m B a).es (plcN (s.m B a).es c.key)) c).1
    (withKids B (altB B h s (kidAt (s.m B a).es (plcN (s.m B a).es c.key)) c).1 (s.m B a).es (plcN (s.m B a).es c.key) (plcN (s.m B a).es c.key+1) (altB B h s (kidAt (s.m B a).es (plcN (s.m B a).es c.key)) c).2) (plcN (s.m B a).es c.key)).2⟩
theorem m_set (B:Int→Nod) (s:Ov) (a:Int) (n:Nod) (x:Int):(s.set a n).m B x=if x=a then n else s.m B x:=by
 unfold Ov.m Ov.set; simp only; split <;> rfl
theorem m_put (B:Int→Nod) (s:Ov) (n:Nod) (x:Int):(s.put n).m B x=if x=s.nx then n else s.m B x:=by
 unfold Ov.m Ov.put; simp only; split <;> rfl
theorem m_same {B:Int→Nod} {s s':Ov} {x:Int} (h:s'.N x=s.N x):s'.m B x=s.m B x:=by unfold Ov.m; rw [h]
def frs (i j:Nat):List Int:=(List.range (j - i)).map fun k:Nat=>16384+(i:Int)+(k:Int)
theorem frs_mem {i j:Nat} {x:Int}:x ∈ frs i j↔16384+(i:Int)≤x∧x < 16384+(j:Int):=by
 unfold frs
 simp only [List.mem_map,List.mem_range]
 constructor
 · rintro ⟨k,hk,rfl⟩; omega
 · rintro ⟨h1,h2⟩; exact ⟨(x - 16384 - i).toNat,by omega,by omega⟩
theorem frs_self (i:Nat):frs i i=[]:=by simp [frs]
theorem frs_one (i:Nat):frs i (i+1)=[16384+(i:Int)]:=by
 unfold frs; rw [show i+1 - i=1 from by omega]; simp
theorem frs_app {i j k:Nat} (h1:i≤j) (h2:j≤k):frs i k=frs i j++frs j k:=by
 unfold frs
 rw [show k - i=(j - i)+(k - j) from by omega,List.range_add,List.map_append,List.map_map]
 congr 1
 apply List.map_congr_left
 intro a _
 simp only [Function.comp]
 omega
theorem frs_nodup (i j:Nat):(frs i j).Nodup:=by
 unfold frs
 rw [List.nodup_iff_pairwise_ne,List.pairwise_map]
 exact (List.nodup_iff_pairwise_ne.1 List.nodup_range).imp (fun h e=>h (by omega))
theorem ne_of_mem_not {α:Type} {l:List α} {x a:α} (h:x ∈ l) (hn:a ∉ l):x≠a:=fun e=>hn (by rw [← e]; exact h)
theorem settle_ok {B:Int→Nod} {s:Ov} {h:Nat} {a:Int} {n:Nod} (hb:Body (s.m B) h n) (hne:n.es≠[]) (hw:(ndb n.leaf n.es).length≤1500) (ha:a < s.nx) (han:a ∉ bnums (s.m B) h n.es) (hlt:∀ x ∈ bnums (s.m B) h n.es,x < s.nx) :
 ((ndb n.leaf n.es).length≤1024∧(settle s a n).2=[a]∧(settle s a n).1=s.set a n ∨
  ∃ p q,n.es=p++q∧(settle s a n).2=[a,s.nx]∧(settle s a n).1=(s.set a ⟨n.leaf,p⟩).put ⟨n.leaf,q⟩∧leanE n.leaf p=false∧leanE n.leaf q=false∧((settle s a n).1.m B a).lean=false∧((settle s a n).1.m B s.nx).lean=false) ∧
 (∀ t ∈ (settle s a n).2,Sh ((settle s a n).1.m B) h t) ∧
 (settle s a n).2.flatMap (flat ((settle s a n).1.m B) h)=bflat (s.m B) h n.es ∧
 (∀ x,((settle s a n).2.flatMap (nums ((settle s a n).1.m B) h)).count x=(a :: bnums (s.m B) h n.es++frs s.fresh (settle s a n).1.fresh).count x) ∧
 (∀ x,x≠a→x ∉ frs s.fresh (settle s a n).1.fresh→(settle s a n).1.N x=s.N x) ∧
 s.fresh≤(settle s a n).1.fresh∧(settle s a n).1.fresh≤s.fresh+1:=by
 have hfit:=hb.fit
 by_cases hw2:(ndb n.leaf n.es).length≤1024
 · have he:settle s a n=(s.set a n,[a]):=by
    unfold settle; rw [if_neg hne,split_one hw2]; rfl
   rw [he]
   have hM:∀ x ∈ bnums (s.m B) h n.es,(s.set a n).m B x=s.m B x:=fun x hx=>by rw [m_set,if_neg (ne_of_mem_not hx han)]
   have hMa:(s.set a n).m B a=n:=by rw [m_set,if_pos rfl]
   obtain ⟨c1,c2,c3⟩:=body_congr hM
   have hfr:(s.set a n).fresh=s.fresh:=rfl
   refine ⟨Or.inl ⟨hw2,rfl,rfl⟩,?_,?_,?_,?_,Nat.le_refl _,by rw [hfr]; omega⟩
   · intro t ht
     simp only [List.mem_singleton] at ht
     subst ht
     rw [sh_body,hMa]
     exact ⟨c3 hb,hne,hw2⟩
   · simp only [List.flatMap_cons,List.flatMap_nil,List.append_nil]
     rw [flat_body,hMa,c1]
   · intro x
     simp only [List.flatMap_cons,List.flatMap_nil,List.append_nil]
     rw [nums_body,hMa,c2,hfr,frs_self,List.append_nil]
   · intro x hx _
     show (if x=a then some n else s.N x)=s.N x
     rw [if_neg hx]
 · obtain ⟨p,q,h1,h2,hp,hq,a1,a2,a3,a4⟩:=split_fit hfit hw (by omega)
   have he:settle s a n=((s.set a ⟨n.leaf,p⟩).put ⟨n.leaf,q⟩,[a,s.nx]):=by
    unfold settle; rw [if_neg hne,h1]; rfl
   rw [he]
   have hnx:(s.set a ⟨n.leaf,p⟩).nx=s.nx:=rfl
   have hna:a≠s.nx:=by omega
   have hM:∀ x ∈ bnums (s.m B) h n.es,((s.set a ⟨n.leaf,p⟩).put ⟨n.leaf,q⟩).m B x=s.m B x:=fun x hx=>by
    have:=hlt x hx
    rw [m_put,hnx,if_neg (by omega),m_set,if_neg (ne_of_mem_not hx han)]
   have hMa:((s.set a ⟨n.leaf,p⟩).put ⟨n.leaf,q⟩).m B a=⟨n.leaf,p⟩:=by rw [m_put,hnx,if_neg hna,m_set,if_pos rfl]
   have hMb:((s.set a ⟨n.leaf,p⟩).put ⟨n.leaf,q⟩).m B s.nx=⟨n.leaf,q⟩:=by rw [m_put,hnx,if_pos rfl]
   obtain ⟨leaf,es⟩:=n
   simp only at h2
   subst h2
   obtain ⟨b1,b2⟩:=Body.app.1 hb
   obtain ⟨c1,c2,c3⟩:=body_congr (n:=⟨leaf,p⟩) (fun x hx=>hM x (by rw [bnums_app]; exact List.mem_append_left _ hx))
   obtain ⟨d1,d2,d3⟩:=body_congr (n:=⟨leaf,q⟩) (fun x hx=>hM x (by rw [bnums_app]; exact List.mem_append_right _ hx))
   have hfr:((s.set a ⟨leaf,p⟩).put ⟨leaf,q⟩).fresh=s.fresh+1:=rfl
   refine ⟨Or.inr ⟨p,q,rfl,rfl,rfl,a3,a4,by rw [hMa]; exact a3,by rw [hMb]; exact a4⟩,?_,?_,?_,?_,by rw [hfr]; omega,by rw [hfr]; omega⟩
   · intro t ht
     simp only [List.mem_cons,List.not_mem_nil,or_false] at ht
     rcases ht with rfl | rfl
     · rw [sh_body,hMa]; exact ⟨c3 b1,hp,a1⟩
     · rw [sh_body,hMb]; exact ⟨d3 b2,hq,a2⟩
   · simp only [List.flatMap_cons,List.flatMap_nil,List.append_nil]
     rw [flat_body,hMa,flat_body,hMb,c1,d1,bflat_app]
   · intro x
     simp only [List.flatMap_cons,List.flatMap_nil,List.append_nil]
     rw [nums_body,hMa,nums_body,hMb,c2,d2,hfr,frs_one,bnums_app]
     simp only [List.cons_append,List.count_cons,List.count_append,List.count_nil,Ov.nx]
     omega
   · intro x hx hf
     have:x≠s.nx:=by intro e; apply hf; rw [hfr,frs_one,e]; simp [Ov.nx]
     show (if x=s.nx then _ else if x=a then _ else s.N x)=s.N x
     rw [if_neg this,if_neg hx]
end Go.Proofs.YtlkgnljdpakkcaaGreatDoor
/-
 One change of a tree: what stands there behind it,which numbers are used,that its shape is kept. Plain; of no program.
-/
namespace Go.Proofs.YtlkgnljdpakkcaaGreatDoor
theorem fk_size {M:Int→Nod} {h:Nat} {a:Int} (hs:Sh M h a):1≤(M a).fk.size∧(M a).fk.size≤48:=by
 rcases hx:(M a).es with _ | ⟨x,l⟩
 · exact absurd hx hs.ne
 · have:=fitA_key (hs.fit x (by rw [hx]; simp))
   simpa [Nod.fk,hx] using this
theorem kidE_w {B:Int→Nod} {s:Ov} {h:Nat} {t:Int} (hs:Sh (s.m B) h t) (h1:1≤t) (h2:t < topN):(enb false (kidE B s t)).length≤53 :=
 (w_other_le (e:=kidE B s t) (fk_size hs).1 (fk_size hs).2 (by show 0≤t; omega) h2).2
theorem kids_w {B:Int→Nod} {s:Ov} {h:Nat}:∀ {ts:List Int},(∀ t ∈ ts,Sh (s.m B) h t∧1≤t∧t < topN)→wE false (ts.map (kidE B s))≤ts.length * 53
 | [],_=>by simp [wE]
 | t :: ts,hs=>by
  rw [List.map_cons,wE_cons,List.length_cons,Nat.add_mul]
  have h1:=hs t (by simp)
  have:=kidE_w h1.1 h1.2.1 h1.2.2
  have:=kids_w (ts:=ts) (fun t ht=>hs t (by simp [ht]))
  omega
theorem kids_flat (B:Int→Nod) (s:Ov) (M:Int→Nod) (h:Nat) (ts:List Int):bflat M (h+1) (ts.map (kidE B s))=ts.flatMap (flat M h):=by
 show (ts.map (kidE B s)).flatMap (fun e=>flat M h e.kid)=_
 rw [List.flatMap_map]; rfl
theorem kids_nums (B:Int→Nod) (s:Ov) (M:Int→Nod) (h:Nat) (ts:List Int):bnums M (h+1) (ts.map (kidE B s))=ts.flatMap (nums M h):=by
 show (ts.map (kidE B s)).flatMap (fun e=>nums M h e.kid)=_
 rw [List.flatMap_map]; rfl
theorem kids_ok {B:Int→Nod} {s:Ov} {h:Nat} {ts:List Int} (hs:∀ t ∈ ts,Sh (s.m B) h t∧1≤t∧t < topN):∀ e ∈ ts.map (kidE B s),Sh (s.m B) h e.kid∧KE (s.m B) e:=by
 intro e he
 obtain ⟨t,ht,rfl⟩:=List.mem_map.1 he
 have:=hs t ht
 exact ⟨this.1,rfl,this.2.1,this.2.2,rfl⟩
theorem kids_keep {M M':Int→Nod} {h:Nat} {es:List En} (hx:∀ x ∈ bnums M (h+1) es,M' x=M x):bflat M' (h+1) es=bflat M (h+1) es∧bnums M' (h+1) es=bnums M (h+1) es ∧
 (∀ e ∈ es,Sh M h e.kid∧KE M e→Sh M' h e.kid∧KE M' e)∧∀ e ∈ es,M' e.kid=M e.kid:=by
 have hk:∀ e ∈ es,∀ x ∈ nums M h e.kid,M' x=M x:=fun e he x hm=>hx x (List.mem_flatMap.2 ⟨e,he,hm⟩)
 have h0:∀ e ∈ es,M' e.kid=M e.kid:=fun e he=>hk e he e.kid (nums_self _ _ _)
 refine ⟨fm_congr fun e he=>(sh_congr (hk e he)).1,fm_congr fun e he=>(sh_congr (hk e he)).2.1,fun e he hb=>⟨(sh_congr (hk e he)).2.2 hb.1,?_⟩,h0⟩
 unfold KE; rw [h0 e he]; exact hb.2
theorem count_mem {l:List Int} {x:Int} (h:x ∈ l):1≤l.count x:=List.one_le_count_iff.2 h
theorem count_not {l:List Int} {x:Int} (h:x ∉ l):l.count x=0:=List.count_eq_zero.2 h
theorem mem_count {l:List Int} {x:Int} (h:1≤l.count x):x ∈ l:=List.one_le_count_iff.1 h
theorem len_count {l m:List Int} (h:∀ x,l.count x=m.count x):l.length=m.length:=(List.perm_iff_count.2 h).length_eq
theorem frs_len (i j:Nat):(frs i j).length=j - i:=by simp [frs]
theorem ndb_false_le {es:List En} (h:es.length < 16384):(ndb false es).length≤3+wE false es:=by
 have:=w_ndb false es
 have:=w_ub2 h
 omega
theorem two_at {es:List En} {f:Nat} (hf:f+1 < es.length):es=es.take f++[es.getD f en0,es.getD (f+1) en0]++es.drop (f+2):=by
 have h1:es.getD f en0=es[f]:=by simp [List.getD_eq_getElem?_getD,List.getElem?_eq_getElem (show f < es.length by omega)]
 have h2:es.getD (f+1) en0=es[f+1]:=by simp [List.getD_eq_getElem?_getD,List.getElem?_eq_getElem hf]
 rw [h1,h2]
 conv=>lhs; rw [← List.take_append_drop f es,List.drop_eq_getElem_cons (show f < es.length by omega),List.drop_eq_getElem_cons hf]
 simp
theorem lean_app (leaf:Bool) (l m:List En) (h:leanE leaf l=false∨leanE leaf m=false):leanE leaf (l++m)=false:=by
 unfold leanE at h ⊢
 cases leaf
 · simp only [Bool.false_eq_true,if_false,decide_eq_false_iff_not] at h ⊢
   simp only [List.length_append]; omega
 · simp only [if_true,decide_eq_false_iff_not] at h ⊢
   have a1:=w_ndb true l
   have a2:=w_ndb true m
   have a3:=w_ndb true (l++m)
   rw [wE_app] at a3
   have a4:=w_ub_mono l.length (l++m).length (by simp)
   have a5:=w_ub_mono m.length (l++m).length (by simp)
   omega
structure MendOk (B:Int→Nod) (s:Ov) (h:Nat) (es:List En) (i:Nat) (r:Ov × List En):Prop where
 kids:∀ e ∈ r.2,Sh (r.1.m B) h e.kid∧KE (r.1.m B) e∧(r.1.m B e.kid).lean=false
 flat:bflat (r.1.m B) (h+1) r.2=bflat (s.m B) (h+1) es
 cnt:∃ R:List Int,(∀ x,(bnums (r.1.m B) (h+1) r.2++R).count x=(bnums (s.m B) (h+1) es++frs s.fresh r.1.fresh).count x)∧∀ x ∈ R,r.1.N x=some nod0
 same:∀ x,x ∉ bnums (s.m B) (h+1) es→x ∉ frs s.fresh r.1.fresh→r.1.N x=s.N x
 fr0:s.fresh≤r.1.fresh
 fr1:r.1.fresh≤s.fresh+1
 len:(bnums (r.1.m B) (h+1) r.2).length≤(bnums (s.m B) (h+1) es).length
 tch:∃ l:List Int,l.length≤2∧∀ x,x ∉ l→x≠kidAt es i→r.1.N x=s.N x
 ne:r.2≠[]
 w:wE false r.2≤wE false es+106
 n:r.2.length≤es.length
theorem mended_ok {B:Int→Nod} {s:Ov} {h:Nat} {es:List En} {i:Nat} (hk:∀ e ∈ es,Sh (s.m B) h e.kid∧KE (s.m B) e) (hi:i < es.length) (h2:2≤es.length)
 (hl:∀ j,j≠i→∀ e,es[j]?=some e→(s.m B e.kid).lean=false) (hn:∀ x,(bnums (s.m B) (h+1) es).count x≤1) (hlt:∀ x ∈ bnums (s.m B) (h+1) es,x < s.nx) (htop:16384+(s.fresh:Int)+1≤topN) :
 MendOk B s h es i (mended B s es i):=by
 by_cases hlean:(s.m B (kidAt es i)).lean=false
 · have he:mended B s es i=(s,es):=by unfold mended; rw [if_pos hlean]
   rw [he]
   refine ⟨fun e he=>?_,rfl,⟨[],fun x=>by simp [frs_self],by simp⟩,fun _ _ _=>rfl,Nat.le_refl _,by simp,Nat.le_refl _,⟨[],by simp,fun _ _ _=>rfl⟩,?_,by simp,Nat.le_refl _⟩
   · obtain ⟨j,hj,rfl⟩:=List.mem_iff_getElem.1 he
     have hg:=List.getElem?_eq_getElem hj
     refine ⟨(hk _ he).1,(hk _ he).2,?_⟩
     by_cases e:j=i
     · subst e
       unfold kidAt at hlean
       rw [List.getD_eq_getElem?_getD,hg] at hlean
       exact hlean
     · exact hl j e _ hg
   · intro e; simp only at e; rw [e] at h2; simp at h2
 · have hf:i - 1+1 < es.length:=by omega
   have hsp:=two_at hf
   have hlr:(s.m B (es.getD (i - 1) en0).kid).lean=false∨(s.m B (es.getD (i - 1+1) en0).kid).lean=false:=by
    by_cases h0:i=0
    · right
      refine hl (i - 1+1) (by omega) _ ?_
      rw [List.getD_eq_getElem?_getD,List.getElem?_eq_getElem hf]; rfl
    · left
      refine hl (i - 1) (by omega) _ ?_
      rw [List.getD_eq_getElem?_getD,List.getElem?_eq_getElem (show i - 1 < es.length by omega)]; rfl
   have hone:(s.m B (es.getD (i - 1) en0).kid).lean=true∨(s.m B (es.getD (i - 1+1) en0).kid).lean=true:=by
    have:(s.m B (kidAt es i)).lean=true:=by simpa using hlean
    unfold kidAt at this
    by_cases h0:i=0
    · left; subst h0; exact this
    · right; rw [show i - 1+1=i from by omega]; exact this
   have hme:mended B s es i=((settle (s.set (es.getD (i - 1+1) en0).kid nod0) (es.getD (i - 1) en0).kid ⟨(s.m B (es.getD (i - 1) en0).kid).leaf,(s.m B (es.getD (i - 1) en0).kid).es++(s.m B (es.getD (i - 1+1) en0).kid).es⟩).1,
    es.take (i - 1)++(settle (s.set (es.getD (i - 1+1) en0).kid nod0) (es.getD (i - 1) en0).kid ⟨(s.m B (es.getD (i - 1) en0).kid).leaf,(s.m B (es.getD (i - 1) en0).kid).es++(s.m B (es.getD (i - 1+1) en0).kid).es⟩).2.map (kidE B (settle (s.set (es.getD (i - 1+1) en0).kid nod0) (es.getD (i - 1) en0).kid ⟨(s.m B (es.getD (i - 1) en0).kid).leaf,(s.m B (es.getD (i - 1) en0).kid).es++(s.m B (es.getD (i - 1+1) en0).kid).es⟩).1)++es.drop (i - 1+2)):=by
    unfold mended; rw [if_neg hlean]; rfl
   rw [hme]
   clear hme
   have hki:kidAt es i=(es.getD (i - 1) en0).kid∨kidAt es i=(es.getD (i - 1+1) en0).kid:=by
    by_cases h0:i=0
    · left; subst h0; rfl
    · right; rw [show i - 1+1=i from by omega]; rfl
   generalize hkk:kidAt es i=ki at hki hlean
   have hlA:∀ e ∈ es.take (i - 1),(s.m B e.kid).lean=false:=fun e he=>by
    obtain ⟨j,hj,rfl⟩:=List.mem_iff_getElem.1 he
    rw [List.length_take] at hj
    exact hl j (by omega) _ (by rw [List.getElem_take]; exact List.getElem?_eq_getElem (by omega))
   have hlC:∀ e ∈ es.drop (i - 1+2),(s.m B e.kid).lean=false:=fun e he=>by
    obtain ⟨j,hj,rfl⟩:=List.mem_iff_getElem.1 he
    rw [List.length_drop] at hj
    exact hl (i - 1+2+j) (by omega) _ (by rw [List.getElem_drop]; exact List.getElem?_eq_getElem (by omega))
   generalize hA:es.take (i - 1)=A at *
   generalize hC:es.drop (i - 1+2)=C at *
   generalize es.getD (i - 1) en0=l at *
   generalize es.getD (i - 1+1) en0=r at *
   have hAl:A.length=i - 1:=by rw [← hA,List.length_take]; omega
   clear hA hC hl hlean
   subst hsp
   obtain ⟨kl1,kl2⟩:=hk l (by simp)
   obtain ⟨kr1,kr2⟩:=hk r (by simp)
   have bl:=(sh_body.1 kl1).1
   have br:=(sh_body.1 kr1).1
   have wl:=(sh_body.1 kl1).2.2
   have wr:=(sh_body.1 kr1).2.2
   have hlf:(s.m B r.kid).leaf=(s.m B l.kid).leaf:=by rw [bl.leaf_is,br.leaf_is]
   have bj:Body (s.m B) h ⟨(s.m B l.kid).leaf,(s.m B l.kid).es++(s.m B r.kid).es⟩:=Body.app.2 ⟨bl,by
    rw [← hlf]; exact br⟩
   have hb:∀ x,(bnums (s.m B) (h+1) A).count x+((l.kid :: bnums (s.m B) h (s.m B l.kid).es).count x+(r.kid :: bnums (s.m B) h (s.m B r.kid).es).count x)+(bnums (s.m B) (h+1) C).count x≤1:=fun x=>by
    have:=hn x
    rw [bnums_app,bnums_app] at this
    rw [show bnums (s.m B) (h+1) [l,r]=nums (s.m B) h l.kid++nums (s.m B) h r.kid from by simp [bnums],nums_body,nums_body] at this
    simp only [List.count_append] at this
    exact this
   have hnums:bnums (s.m B) (h+1) (A++[l,r]++C)=bnums (s.m B) (h+1) A++((l.kid :: bnums (s.m B) h (s.m B l.kid).es)++(r.kid :: bnums (s.m B) h (s.m B r.kid).es))++bnums (s.m B) (h+1) C:=by
    rw [bnums_app,bnums_app,show bnums (s.m B) (h+1) [l,r]=nums (s.m B) h l.kid++nums (s.m B) h r.kid from by simp [bnums],nums_body,nums_body]
   rw [hnums] at hlt
   have hrl:r.kid≠l.kid:=fun e=>by
    have:=hb r.kid
    rw [e] at this
    simp only [List.count_cons,beq_self_eq_true,if_true] at this
    omega
   have hjn:bnums (s.m B) h ((s.m B l.kid).es++(s.m B r.kid).es)=bnums (s.m B) h (s.m B l.kid).es++bnums (s.m B) h (s.m B r.kid).es:=bnums_app _ _ _ _
   have hrj:r.kid ∉ bnums (s.m B) h ((s.m B l.kid).es++(s.m B r.kid).es):=fun hm=>by
    have h3:=count_mem hm
    rw [hjn,List.count_append] at h3
    have:=hb r.kid
    simp only [List.count_cons,beq_self_eq_true,if_true] at this
    omega
   have hlj:l.kid ∉ bnums (s.m B) h ((s.m B l.kid).es++(s.m B r.kid).es):=fun hm=>by
    have h3:=count_mem hm
    rw [hjn,List.count_append] at h3
    have:=hb l.kid
    simp only [List.count_cons,beq_self_eq_true,if_true] at this
    omega
   have hM1:∀ x ∈ bnums (s.m B) h ((s.m B l.kid).es++(s.m B r.kid).es),(s.set r.kid nod0).m B x=s.m B x:=fun x hx=>by rw [m_set,if_neg (ne_of_mem_not hx hrj)]
   obtain ⟨c1,c2,c3⟩:=body_congr (n:=⟨(s.m B l.kid).leaf,(s.m B l.kid).es++(s.m B r.kid).es⟩) hM1
   have hfl:=kl1.fit
   have hfr:=kr1.fit
   have hw:(ndb (s.m B l.kid).leaf ((s.m B l.kid).es++(s.m B r.kid).es)).length≤1500:=by
    have q1:=w_ndb (s.m B l.kid).leaf (s.m B l.kid).es
    have q2:=w_ndb (s.m B r.kid).leaf (s.m B r.kid).es
    have q3:=w_ndb (s.m B l.kid).leaf ((s.m B l.kid).es++(s.m B r.kid).es)
    rw [wE_app] at q3
    have p1:=wE_ge _ 3 _ (fun e he=>(fitA_w (hfl e he)).1)
    have p2:=wE_ge _ 3 _ (fun e he=>(fitA_w (hfr e he)).1)
    have p3:=wE_le _ _ _ (fun e he=>(fitA_w (hfl e he)).2)
    have p4:=wE_le _ _ _ (fun e he=>(fitA_w (hfr e he)).2)
    rw [hlf] at q2 p2 p4 wr
    have q4:=w_ub2 (n:=((s.m B l.kid).es++(s.m B r.kid).es).length) (by simp; omega)
    have q5:=w_ub_pos (s.m B l.kid).es.length
    have q6:=w_ub_pos (s.m B r.kid).es.length
    unfold Nod.lean leanE at hone
    rw [hlf] at hone
    cases hlv:(s.m B l.kid).leaf
    · rw [hlv] at q1 q2 q3 p3 p4 hone wl wr
      simp only [Bool.false_eq_true,if_false,decide_eq_true_eq] at hone
      simp [mxE] at p3 p4
      omega
    · rw [hlv] at q1 q2 q3 hone wl wr
      simp only [if_true,decide_eq_true_eq] at hone
      omega
   have hlm:l.kid ∈ bnums (s.m B) (h+1) A++((l.kid :: bnums (s.m B) h (s.m B l.kid).es)++(r.kid :: bnums (s.m B) h (s.m B r.kid).es))++bnums (s.m B) (h+1) C:=by simp
   obtain ⟨s1,s2,s3,s4,s5,s6,s7⟩:=settle_ok (B:=B) (s:=s.set r.kid nod0) (h:=h) (a:=l.kid) (c3 bj) (by simp [kl1.ne]) hw (hlt _ hlm) (by rw [c2]; exact hlj) (by
    intro x hx
    rw [c2] at hx
    simp only at hx
    rw [hjn] at hx
    refine hlt x ?_
    simp only [List.mem_append,List.mem_cons] at hx ⊢
    rcases hx with hx | hx
    · exact Or.inl (Or.inr (Or.inl (Or.inr hx)))
    · exact Or.inl (Or.inr (Or.inr (Or.inr hx))))
   rw [show (s.set r.kid nod0).fresh=s.fresh from rfl] at s4 s5 s6 s7
   rw [show (s.set r.kid nod0).nx=s.nx from rfl] at s1
   simp only at s1 s2 s3 s4 s5 s6 s7
   generalize hst:settle (s.set r.kid nod0) l.kid ⟨(s.m B l.kid).leaf,(s.m B l.kid).es++(s.m B r.kid).es⟩=st at *
   rw [c1,bflat_app] at s3
   rw [c2,hjn] at s4
   have hfrm:∀ x,x ∈ frs s.fresh st.1.fresh→x=s.nx:=fun x hx=>by
    have:=frs_mem.1 hx
    unfold Ov.nx; omega
   have hfree:∀ x,x≠l.kid→x≠r.kid→x ∉ frs s.fresh st.1.fresh→st.1.N x=s.N x:=fun x h3 h4 h5=>by
    rw [s5 x h3 h5]
    show (if x=r.kid then _ else s.N x)=s.N x
    rw [if_neg h4]
   have hAC:∀ x,x ∈ bnums (s.m B) (h+1) A∨x ∈ bnums (s.m B) (h+1) C→st.1.m B x=s.m B x:=fun x hx=>by
    have hx1:1≤(bnums (s.m B) (h+1) A).count x+(bnums (s.m B) (h+1) C).count x:=by
     rcases hx with hx | hx
     · have:=count_mem hx; omega
     · have:=count_mem hx; omega
    have:=hb x
    refine m_same (hfree x (fun e=>?_) (fun e=>?_) (fun e=>?_))
    · rw [e] at this hx1; simp only [List.count_cons,beq_self_eq_true,if_true] at this; omega
    · rw [e] at this hx1; simp only [List.count_cons,beq_self_eq_true,if_true] at this; omega
    · have h3:=hfrm x e
      have h4:=hlt x (by
       simp only [List.mem_append]
       rcases hx with hx | hx
       · exact Or.inl (Or.inl hx)
       · exact Or.inr hx)
      omega
   obtain ⟨a1,a2,a3,a4⟩:=kids_keep (h:=h) (es:=A) (fun x hx=>hAC x (Or.inl hx))
   obtain ⟨d1,d2,d3,d4⟩:=kids_keep (h:=h) (es:=C) (fun x hx=>hAC x (Or.inr hx))
   have hts:st.2=[l.kid]∨st.2=[l.kid,s.nx]:=by
    rcases s1 with ⟨_,e,_⟩ | ⟨p,q,_,e,_⟩
    · exact Or.inl e
    · exact Or.inr e
   have hsn:(1:Int)≤s.nx∧s.nx < topN:=by unfold Ov.nx; omega
   have hkt:∀ t ∈ st.2,Sh (st.1.m B) h t∧1≤t∧t < topN:=fun t ht=>by
    refine ⟨s2 t ht,?_⟩
    have:t=l.kid∨t=s.nx:=by
     rcases hts with e | e
     · rw [e] at ht; simp at ht; exact Or.inl ht
     · rw [e] at ht; simpa using ht
    rcases this with rfl | rfl
    · exact ⟨kl2.2.1,kl2.2.2.1⟩
    · exact hsn
   have hlean2:∀ t ∈ st.2,(st.1.m B t).lean=false:=fun t ht=>by
    rcases s1 with ⟨h3,e,e2⟩ | ⟨p,q,_,e,_,_,_,h4,h5⟩
    · rw [e] at ht
      simp only [List.mem_singleton] at ht
      subst ht
      rw [e2,m_set,if_pos rfl]
      refine lean_app _ _ _ ?_
      unfold Nod.lean at hlr
      rw [hlf] at hlr
      exact hlr
    · rw [e] at ht
      simp only [List.mem_cons,List.not_mem_nil,or_false] at ht
      rcases ht with rfl | rfl
      · exact h4
      · exact h5
   have hcount:∀ x,(bnums (st.1.m B) (h+1) (A++st.2.map (kidE B st.1)++C)++[r.kid]).count x=(bnums (s.m B) (h+1) (A++[l,r]++C)++frs s.fresh st.1.fresh).count x:=fun x=>by
    rw [hnums,bnums_app,bnums_app,kids_nums,a2,d2]
    have:=s4 x
    simp only [List.count_append,List.count_cons,List.count_nil,List.cons_append] at this ⊢
    omega
   refine ⟨?_,?_,⟨[r.kid],hcount,?_⟩,?_,s6,s7,?_,⟨[if ki=l.kid then r.kid else l.kid,s.nx],by simp,fun x hx hxk=>?_⟩,?_,?_,?_⟩
   · intro e he
     simp only [List.mem_append] at he
     rcases he with (he | he) | he
     · have:=a3 e he (hk e (by simp [he]))
       refine ⟨this.1,this.2,?_⟩
       rw [a4 e he]
       exact hlA e he
     · have:=kids_ok hkt e he
       obtain ⟨t,ht,rfl⟩:=List.mem_map.1 he
       exact ⟨this.1,this.2,hlean2 t ht⟩
     · have:=d3 e he (hk e (by simp [he]))
       refine ⟨this.1,this.2,?_⟩
       rw [d4 e he]
       exact hlC e he
   · rw [bflat_app,bflat_app,kids_flat,s3,a1,d1,bflat_app,bflat_app,show bflat (s.m B) (h+1) [l,r]=flat (s.m B) h l.kid++flat (s.m B) h r.kid from by simp [bflat],flat_body,flat_body]
   · intro x hx
     simp only [List.mem_singleton] at hx
     subst hx
     rw [s5 _ hrl (fun e=>?_)]
     · show (if r.kid=r.kid then some nod0 else _)=_
       rw [if_pos rfl]
     · have h3:=hfrm _ e
       have h4:=hlt r.kid (by simp)
       omega
   · intro x h3 h4
     rw [hnums] at h3
     simp only [List.mem_append,List.mem_cons,not_or] at h3
     exact hfree x h3.1.2.1.1 h3.1.2.2.1 h4
   · have h3:=len_count hcount
     simp only [List.length_append,frs_len,List.length_cons,List.length_nil] at h3 ⊢
     omega
   · simp only [List.mem_cons,List.not_mem_nil,or_false,not_or] at hx
     rw [hkk] at hxk
     rcases hki with e | e
     · rw [if_pos e] at hx
       exact hfree x (by rw [← e]; exact hxk) hx.1 (fun e=>hx.2 (hfrm x e))
     · rw [if_neg (by rw [e]; exact hrl)] at hx
       exact hfree x hx.1 (by rw [← e]; exact hxk) (fun e=>hx.2 (hfrm x e))
   · rcases hts with e | e <;> rw [e] <;> simp
   · have h3:=kids_w hkt
     rw [wE_app,wE_app,wE_app,wE_app,wE_cons,wE_cons]
     rcases hts with e | e <;> rw [e] at h3 ⊢ <;> simp at h3 ⊢ <;> omega
   · rcases hts with e | e <;> rw [e] <;> simp
end Go.Proofs.YtlkgnljdpakkcaaGreatDoor
