/-
  Parts of the proof: Jm, Met, Bld, Jn, Head, Rhd, Fin.
-/
import Derived.Test.YtlkgnljdpakkcaaGreatDoorM07
import Derived.Test.YtlkgnljdpakkcaaGreatDoorM02
import Derived.Maps.OwnOps
import Derived.Maps.Views
import Derived.Lib.Builder
import Derived.Shelf.Strings.Builder1
import Derived.Test.YtlkgnljdpakkcaaGreatDoorM03
import Derived.Deep.QuietTactic
import Derived.Deep.RegionWith
import Derived.BigQuiet
import Derived.BigGuardPart
import Derived.Lib.TrimByte
set_option linter.unusedVariables false
set_option linter.unusedSimpArgs false
/-
 A journal as the document has it: what each call answers and leaves,as plain functions on its disk ('Ds'). No condition.
-/
namespace Go.Proofs.YtlkgnljdpakkcaaGreatDoor
def wrs:List (Int × ByteArray)→Ds→Int × Ds
 | [],D=>(0,D)
 | p :: l,D=>if D.wcode p.1 p.2=0 then wrs l (D.wstate p.1 p.2) else (D.wcode p.1 p.2,D.wstate p.1 p.2)
def hdb (l:List Nat):ByteArray:=⟨(ub l.length++l.flatMap ub).toArray⟩
def jlen (D:Ds) (room:Nat):Nat:=D.texts.length - (room+1)
def rnums (s:List UInt8) (n:Nat):Nat→Nat→List Nat→Option (List Nat × Nat)
 | 0,p,met=>some (met,p)
 | c+1,p,met =>
  if (rdu (s.drop p) 0 0).1≠0∨n≤(rdu (s.drop p) 0 0).2.1∨(rdu (s.drop p) 0 0).2.1 ∈ met then none
  else rnums s n c (p+(rdu (s.drop p) 0 0).2.2) (met++[(rdu (s.drop p) 0 0).2.1])
def rhead (s:List UInt8) (room n:Nat):Option (List Nat) :=
 if (rdu s 0 0).1≠0∨room < (rdu s 0 0).2.1 then none else
 match rnums s n (rdu s 0 0).2.1 (rdu s 0 0).2.2 [] with
 | none=>none
 | some (l,p)=>if nil0 (s.drop p) then some l else none
def fin (room:Nat):Nat→List Nat→Ds→Int × Ds
 | _,[],D=>(0,D)
 | k,a :: l,D =>
  if D.rcode ((1+k:Nat):Int)≠0 then (D.rcode ((1+k:Nat):Int),D)
  else if D.wcode ((room+1+a:Nat):Int) (D.texts.getD (1+k) ⟨#[]⟩)=0 then fin room (k+1) l (D.wstate ((room+1+a:Nat):Int) (D.texts.getD (1+k) ⟨#[]⟩))
  else (D.wcode ((room+1+a:Nat):Int) (D.texts.getD (1+k) ⟨#[]⟩),D.wstate ((room+1+a:Nat):Int) (D.texts.getD (1+k) ⟨#[]⟩))
def fins (room:Nat) (l:List Nat) (D:Ds):Int × Ds:=if (fin room 0 l D).1=0 then wrs [(0,hdb [])] (fin room 0 l D).2 else fin room 0 l D
def jopen (room:Int) (D:Ds):Int × Ds :=
 if room < 1∨500 < room then (2,D) else if D.rcode 0≠0 then (D.rcode 0,D) else
 match rhead (D.rtext 0).data.toList room.toNat (jlen D room.toNat) with
 | none=>(32,D)
 | some []=>(0,D)
 | some (a :: l)=>fins room.toNat (a :: l) D
def ckc (n:Nat):List (Int × ByteArray)→List Int→Int
 | [],_=>0
 | p :: l,met=>if p.1 < 0∨n≤p.1 then 10 else if 1024 < p.2.size then 11 else if p.1 ∈ met then 30 else ckc n l (met++[p.1])
def cps:Nat→List (Int × ByteArray)→List (Int × ByteArray)
 | _,[]=>[]
 | k,p :: l=>(((1+k:Nat):Int),p.2) :: cps (k+1) l
def scs (room:Nat) (l:List (Int × ByteArray)):List (Int × ByteArray):=l.map fun p=>(((room+1+p.1.toNat:Nat):Int),p.2)
def ats (l:List (Int × ByteArray)):List Nat:=l.map fun p=>p.1.toNat
def cws (room:Nat) (l:List (Int × ByteArray)):List (Int × ByteArray):=cps 0 l++((0,hdb (ats l)) :: (scs room l++[(0,hdb [])]))
def jcommit (room:Nat) (l:List (Int × ByteArray)) (D:Ds):Int × Ds :=
 if room < l.length then (31,D) else if ckc (jlen D room) l []≠0∨l=[] then (ckc (jlen D room) l [],D) else wrs (cws room l) D
def jrcode (room:Nat) (D:Ds) (i:Int):Int:=if i < 0∨jlen D room≤i then 10 else D.rcode (room+1+i)
def jrtext (room:Nat) (D:Ds) (i:Int):ByteArray:=if i < 0∨jlen D room≤i then ⟨#[]⟩ else D.rtext (room+1+i)
/-! ### lists of writes -/
theorem wrs_app (l m:List (Int × ByteArray)):∀ D,wrs (l++m) D=if (wrs l D).1=0 then wrs m (wrs l D).2 else wrs l D:=by
 induction l with
 | nil=>intro D; simp [wrs]
 | cons p l ih =>
  intro D
  rw [List.cons_append,wrs,wrs]
  by_cases h:D.wcode p.1 p.2=0
  · rw [if_pos h,if_pos h,ih]
  · rw [if_neg h,if_neg h,if_neg (by simpa using h)]
theorem wst_len (D:Ds) (i:Int) (x:ByteArray):(D.wstate i x).texts.length=D.texts.length:=by
 unfold Ds.wstate; split; rfl; split; rfl; split; rfl; split; rfl; simp
theorem wrs_len (l:List (Int × ByteArray)):∀ D,(wrs l D).2.texts.length=D.texts.length:=by
 induction l with
 | nil=>intro D; rfl
 | cons p l ih =>
  intro D
  rw [wrs]
  split
  · rw [ih,wst_len]
  · exact wst_len _ _ _
theorem wst_done (D:Ds) (i:Int) (x:ByteArray):D.done≤(D.wstate i x).done∧(D.wstate i x).done≤D.done+1:=by
 unfold Ds.wstate; split; omega; split; omega; split; omega; split; (simp; omega); simp; omega
theorem wrs_done (l:List (Int × ByteArray)):∀ D,(wrs l D).2.done≤D.done+l.length:=by
 induction l with
 | nil=>intro D; simp [wrs]
 | cons p l ih =>
  intro D
  have h1:=(wst_done D p.1 p.2).2
  rw [wrs]
  split
  · have:=ih (D.wstate p.1 p.2)
    simp only [List.length_cons]
    omega
  · simp only [List.length_cons]
    omega
theorem fin_len (room:Nat) (l:List Nat):∀ k D,(fin room k l D).2.texts.length=D.texts.length:=by
 induction l with
 | nil=>intro k D; rfl
 | cons a l ih =>
  intro k D
  rw [fin]
  split
  · rfl
  · split
    · rw [ih,wst_len]
    · exact wst_len _ _ _
theorem cps_len (l:List (Int × ByteArray)):∀ k,(cps k l).length=l.length:=by
 induction l with
 | nil=>intro k; rfl
 | cons p l ih=>intro k; simp [cps,ih]
theorem rnums_len (s:List UInt8) (n:Nat):∀ c p met l q,rnums s n c p met=some (l,q)→l.length=met.length+c:=by
 intro c
 induction c with
 | zero=>intro p met l q h; simp only [rnums,Option.some.injEq,Prod.mk.injEq] at h; rw [← h.1]; rfl
 | succ c ih =>
  intro p met l q h
  rw [rnums] at h
  split at h
  · cases h
  · rw [ih _ _ _ _ h]; simp; omega
theorem rhead_len {s:List UInt8} {room n:Nat} {l:List Nat} (h:rhead s room n=some l):l.length≤room:=by
 unfold rhead at h
 split at h
 · cases h
 · split at h
   · cases h
   · rename_i l' p he
     split at h
     · cases h
       have:=rnums_len s n _ _ _ _ _ he
       simp at this
       omega
     · cases h
theorem rnums_in (s:List UInt8) (n:Nat):∀ c p met l q,rnums s n c p met=some (l,q)→(∀ a ∈ met,a < n)→met.Nodup→(∀ a ∈ l,a < n)∧l.Nodup:=by
 intro c
 induction c with
 | zero=>intro p met l q h h1 h2; simp only [rnums,Option.some.injEq,Prod.mk.injEq] at h; rw [← h.1]; exact ⟨h1,h2⟩
 | succ c ih =>
  intro p met l q h h1 h2
  rw [rnums] at h
  split at h
  · cases h
  · rename_i hc
    refine ih _ _ _ _ h ?_ ?_
    · intro a ha
      rcases List.mem_append.1 ha with ha | ha
      · exact h1 a ha
      · simp only [List.mem_singleton] at ha
        subst ha
        omega
    · rw [List.nodup_append]
      refine ⟨h2,by simp,fun a ha b hb hab=>?_⟩
      simp only [List.mem_singleton] at hb
      subst hb; subst hab
      exact hc (Or.inr (Or.inr ha))
theorem rhead_in {s:List UInt8} {room n:Nat} {l:List Nat} (h:rhead s room n=some l):(∀ a ∈ l,a < n)∧l.Nodup:=by
 unfold rhead at h
 split at h
 · cases h
 · split at h
   · cases h
   · rename_i l' p he
     split at h
     · cases h
       exact rnums_in s n _ _ _ _ _ he (by simp) (by simp)
     · cases h
end Go.Proofs.YtlkgnljdpakkcaaGreatDoor
/-
 'metBefore' of package journal: a map that counts numbers,each met at most once so far. Condition: the map is the call's own.
-/
namespace Go.Proofs.YtlkgnljdpakkcaaGreatDoor
open Go.RowKit Go.Maps
theorem Tryz.keyInt:Keyed Tryz.prog 3:=int_keyed Tryz.underlying3
theorem Tryz.zeroInt (w:World):(zeroValue 3).run Tryz.prog w=.ok (.int .i64 0) w:=by kernel_rfl
def MapOf (w:World) (mb n:Nat) (S:List Int):Prop :=
 ∃ D:DataW Unit,w.ownsMap Tryz.prog 3 (plainElem Tryz.prog 3) mb n D∧∀ x:Int,D.atKey (.int .i64 x) (.lit (.int .i64 0))=.lit (.int .i64 (if x ∈ S then 1 else 0))
theorem MapOf.kept {w w':World} {mb n:Nat} {S:List Int} {L:List Nat} (h:MapOf w mb n S) (t:Tch L w w') (hn:mb ∉ L):MapOf w' mb n S:=by
 obtain ⟨D,ho,ha⟩:=h
 have hlt:=ho.lt
 obtain ⟨es,clock,hb,F,hs,hD⟩:=ho
 exact ⟨D,⟨es,clock,(t.block mb hlt hn).trans hb,F,hs,hD⟩,ha⟩
theorem MapOf.lt {w:World} {mb n:Nat} {S:List Int} (h:MapOf w mb n S):mb < w.heap.size:=by
 obtain ⟨D,ho,ha⟩:=h
 exact ho.lt
theorem MapOf.made (w:World):MapOf (w.alloc (.map #[] 0)) w.heap.size 0 [] :=
 ⟨_,World.ownsMap_made _ _ _ _,fun x=>by simp [DataW.atKey]⟩
theorem Tch.mapped {w a b:World} {row:Nat} {L:List Nat} (t:Tch L w a) (hg:a.grownBy b (some row)) (h:row ∈ L):Tch L w b :=
 ⟨hg.os.trans t.os,hg.tape.trans t.tape,hg.output.trans t.output,Nat.le_trans t.size hg.size,fun k hk hn=>(hg.block k (Nat.lt_of_lt_of_le hk t.size) (fun e=>hn (by cases e; exact h))).trans (t.block k hk hn)⟩
theorem met_num {d:DataW Unit} {a b:Int} (h1:d=.lit (.int .i64 a)) (h2:d=.lit (.int .i64 b)):a=b:=by
 have h:=h1.symm.trans h2
 simpa using h
set_option maxRecDepth 100000 in
theorem met_yes (mb n:Nat) (S:List Int) (x:Int) (w:World) (h:MapOf w mb n S) (hx:(Lit.int .i64 x).wf=true) (hn:n≤10000) (hin:x ∈ S) :
 Calls Tryz.prog 87 #[.map (some mb),.int .i64 x] w fun e w'=>e=.returned (.bool true)∧Tch [mb] w w':=by
 obtain ⟨D,ho,ha⟩:=h
 have hx1:=ha x
 rw [if_pos hin] at hx1
 have hkey:=keyOf_int_mk Tryz.underlying3 hx
 have HA:=Lib.hid ha
 have HX:=Lib.hid hx1
 have HM:Hid (IsMap D):=by obtain ⟨es,clock,_,_,_,hD⟩:=ho; exact ⟨_,hD⟩
 clear ha hx1 hin
 have tok:True:=trivial
 go_enter Tryz.func87,Tryz.ntmps87
 go_wp2_with (first
  | (at_lookup; have _t:=tok; refine wpList_lookup_own_int _ rfl _ _ 188 rfl 3 3 .i64 Tryz.keyInt Tryz.underlying188 Tryz.underlying3 (Tryz.zeroInt _) mb n D rfl ho _ _ rfl hkey ?_; intro c hat hwc; obtain rfl:c=1:=met_num hat HX.out; clear tok)
  | (at_mapUpdate; refine wpList_mapUpdate_own _ rfl _ _ _ 188 rfl 3 3 Tryz.keyInt Tryz.underlying188 _ mb n D rfl ho (by unfold maxLen; omega) _ _ _ rfl rfl hkey _ [] (plainElem_int Tryz.underlying3 (a:=2) (by decide)) ?_; intro w1 hown1 hgrow1)
  | (at_lookup; refine wpList_lookup_own_int _ rfl _ _ 188 rfl 3 3 .i64 Tryz.keyInt Tryz.underlying188 Tryz.underlying3 (Tryz.zeroInt _) mb (n+1) _ rfl hown1 _ _ rfl hkey ?_; intro c2 hat2 hwc2; obtain rfl:c2=2:=met_num hat2 (atKey_put_same HM.out (by simp [WideAt.IsKeyLit]) _ _)))
 go_ret
 exact ⟨rfl,(Tch.refl [mb] w).mapped hgrow1 (by simp)⟩
set_option maxRecDepth 100000 in
theorem met_no (mb n:Nat) (S:List Int) (x:Int) (w:World) (h:MapOf w mb n S) (hx:(Lit.int .i64 x).wf=true) (hn:n≤10000) (hin:x ∉ S) :
 Calls Tryz.prog 87 #[.map (some mb),.int .i64 x] w fun e w'=>e=.returned (.bool false)∧(MapOf w' mb (n+1) (S++[x])∧Tch [mb] w w'):=by
 obtain ⟨D,ho,ha⟩:=h
 have hx1:=ha x
 rw [if_neg hin] at hx1
 have hkey:=keyOf_int_mk Tryz.underlying3 hx
 have HA:=Lib.hid ha
 have HX:=Lib.hid hx1
 have HM:Hid (IsMap D):=by obtain ⟨es,clock,_,_,_,hD⟩:=ho; exact ⟨_,hD⟩
 clear ha hx1 hin
 have tok:True:=trivial
 go_enter Tryz.func87,Tryz.ntmps87
 go_wp2_with (first
  | (at_lookup; have _t:=tok; refine wpList_lookup_own_int _ rfl _ _ 188 rfl 3 3 .i64 Tryz.keyInt Tryz.underlying188 Tryz.underlying3 (Tryz.zeroInt _) mb n D rfl ho _ _ rfl hkey ?_; intro c hat hwc; obtain rfl:c=0:=met_num hat HX.out; clear tok)
  | (at_mapUpdate; refine wpList_mapUpdate_own _ rfl _ _ _ 188 rfl 3 3 Tryz.keyInt Tryz.underlying188 _ mb n D rfl ho (by unfold maxLen; omega) _ _ _ rfl rfl hkey _ [] (plainElem_int Tryz.underlying3 (a:=1) (by decide)) ?_; intro w1 hown1 hgrow1)
  | (at_lookup; refine wpList_lookup_own_int _ rfl _ _ 188 rfl 3 3 .i64 Tryz.keyInt Tryz.underlying188 Tryz.underlying3 (Tryz.zeroInt _) mb (n+1) _ rfl hown1 _ _ rfl hkey ?_; intro c2 hat2 hwc2; obtain rfl:c2=1:=met_num hat2 (atKey_put_same HM.out (by simp [WideAt.IsKeyLit]) _ _)))
 go_ret
 refine ⟨rfl,⟨_,hown1,fun y=>?_⟩,(Tch.refl [mb] w).mapped hgrow1 (by simp)⟩
 by_cases hyx:y=x
 · subst hyx
   rw [atKey_put_same HM.out (by simp [WideAt.IsKeyLit]),if_pos (by simp)]
 · rw [atKey_put_other (by simpa using hyx),HA.out y]
   by_cases hy:y ∈ S
   · rw [if_pos hy,if_pos (by simp [hy])]
   · rw [if_neg hy,if_neg (by simp [hy,hyx])]
end Go.Proofs.YtlkgnljdpakkcaaGreatDoor
/-
 strings.Builder's WriteString and String,of a builder that the call has made itself. Condition: what is held and what is written are together at most 2^47 bytes.
-/
namespace Go.Proofs.YtlkgnljdpakkcaaGreatDoor
open Go.RowKit
theorem Tryz.bld_size:(Tryz.prog.info? 239).map (·.size)=some 2:=by kernel_rfl
theorem Tryz.bld_lies:liesAt Tryz.prog Tryz.prog.depth 239 (2 / Tryz.prog.cellsOf 239) 0 239 1=true:=by kernel_rfl
set_option maxHeartbeats 1000000 in
set_option maxRecDepth 100000 in
theorem bcheck_used (b:Nat) (w:World) (h0:w.cell? ⟨b,0,none⟩=some (.pointer (some ⟨b,0,none⟩))) :
 Calls Tryz.prog 167 #[.pointer (some ⟨b,0,none⟩)] w fun e w'=>e=.returned (.tuple #[])∧w'=w:=by
 obtain ⟨j,hj,_⟩:=Option.map_eq_some_iff.1 Tryz.bld_size
 go_enter Tryz.func167,Tryz.ntmps167
 go_wp2
 rw [Lib.run_neq_ptr_same w _ Tryz.underlying237 hj]
 go_wp2
 go_end0
 exact ⟨rfl,rfl⟩
set_option maxHeartbeats 1000000 in
set_option maxRecDepth 100000 in
theorem bcheck_fresh (b:Nat) (w:World) (h0:w.cell? ⟨b,0,none⟩=some (.pointer none)) (hsh:w.shape? b=some (239,2)) (hfz:w.frozen? ⟨b,0,none⟩=false) :
 Calls Tryz.prog 167 #[.pointer (some ⟨b,0,none⟩)] w fun e w'=>e=.returned (.tuple #[])∧w'=w.setCell ⟨b,0,none⟩ (.pointer (some ⟨b,0,none⟩)):=by
 obtain ⟨j,hj,hjs⟩:=Option.map_eq_some_iff.1 Tryz.bld_size
 go_enter Tryz.func167,Tryz.ntmps167
 go_wp2
 rw [Lib.run_to_unsafe w ⟨b,0,none⟩ Tryz.underlying237 Tryz.underlying304 hj (by rw [hjs]; decide) hsh (Nat.zero_lt_succ 1)]
 simp only [Result.andThen]
 rw [Oper.upon_value]
 go_wp2
 rw [run_callFunc_extern Tryz.func203 (by kernel_rfl) (by kernel_rfl) (by kernel_rfl) (e:=Extern.AbiNoEscape.same) (by kernel_rfl)]
 rw [Lib.run_noEscape]
 simp only [Result.andThen]
 rw [Oper.upon_value]
 go_wp2
 rw [Lib.run_from_unsafe w ⟨b,0,none⟩ Tryz.underlying304 Tryz.underlying237 hj hsh Tryz.bld_lies]
 simp only [Result.andThen]
 rw [Oper.upon_value]
 go_wp2
 go_end0
 exact ⟨rfl,rfl⟩
theorem bcheck_any (B b:Nat) (bs:List Value) (w:World) (h:Lib.IsBuilder 239 5 B b bs w) :
 Calls Tryz.prog 167 #[.pointer (some ⟨b,0,none⟩)] w fun e w'=>e=.returned (.tuple #[])∧(Lib.BuilderAt 239 5 B b (.pointer (some ⟨b,0,none⟩)) bs w'∧Below B w w'):=by
 rcases h with h | h
 · refine (bcheck_fresh b w h.cell0 h.shape h.frozen0).mono ?_
   rintro e w' ⟨rfl,rfl⟩
   exact ⟨rfl,h.used _,(Below.refl B w).setCell (p:=⟨b,0,none⟩) h.1 _⟩
 · refine (bcheck_used b w h.cell0).mono ?_
   rintro e w' ⟨rfl,rfl⟩
   exact ⟨rfl,h,Below.refl B _⟩
set_option maxHeartbeats 2000000 in
set_option maxRecDepth 100000 in
theorem bwrite_any (B b:Nat) (bs:List Value) (s:ByteArray) (w:World) (h:Lib.IsBuilder 239 5 B b bs w) (hlen:bs.length+s.size≤140737488355328) (hBw:B≤w.heap.size) :
 Calls Tryz.prog 133 #[.pointer (some ⟨b,0,none⟩),.string s] w fun e w'=>e=.returned (.tuple #[.int .i64 s.size,.nilIface])∧(Lib.IsBuilder 239 5 B b (bs++Lib.strCells s) w'∧Below B w w'):=by
 obtain ⟨i0,hi,hz0,hz1,hz2⟩:=info_parts Tryz.info_u8x
 go_enter Tryz.func133,Tryz.ntmps133
 go_wp2_with (go_at_call 167; refine (bcheck_any B b bs _ h).mono ?_)
 rintro e w1 ⟨rfl,h1,hb1⟩
 obtain ⟨hB,v,hbk,hown,hne⟩:=h1
 have c0:w1.cell? ⟨b,0,none⟩=some (.pointer (some ⟨b,0,none⟩)):=by rw [Lib.cell_of_heap hbk]; rfl
 have c1:w1.cell? ⟨b,1,none⟩=some v:=by rw [Lib.cell_of_heap hbk]; rfl
 go_wp2_with (at_builtin; refine Lib.wpList_append_own_string _ rfl _ _ 216 9 rfl B 5 i0 Tryz.underlying216 Tryz.underlying9 hi hz0 hz1 hz2 _ _ _ rfl hown s rfl ?c3 ?c4 ?c5 ?_)
 case c3=>unfold maxLen; omega
 case c4=>omega
 case c5=>have:=hb1.size; omega
 intro v' w2 hown' hgrow _
 have hlt:b < w1.heap.size:=lt_of_block hbk
 have hb2:w2.heap[b]?=some (.cells #[.pointer (some ⟨b,0,none⟩),v] 239 (0,0)):=by
  rw [hgrow.block b hlt (fun e=>hne e.symm)]
  exact hbk
 have d0:w2.cell? ⟨b,0,none⟩=some (.pointer (some ⟨b,0,none⟩)):=by rw [Lib.cell_of_heap hb2]; rfl
 have d1:w2.cell? ⟨b,1,none⟩=some v:=by rw [Lib.cell_of_heap hb2]; rfl
 have f1:w2.frozen? ⟨b,1,none⟩=false:=Lib.frozen_of_heap hb2 1
 obtain ⟨ao,n',cap,rfl⟩:∃ ao n' cap,v'=.slice ao n' cap:=by
  rcases hown'.2 with ⟨hv,_⟩ | ⟨g,cap,cur,hv,_⟩
  · exact ⟨_,_,_,hv⟩
  · exact ⟨_,_,_,hv⟩
 go_wp2
 go_ret2
 refine ⟨rfl,Or.inr ?_,?_⟩
 · exact Lib.BuilderAt.put (T:=239) (e:=5) hB hb2 (bs':=bs++Lib.strCells s) (by simpa [Lib.strCells_length] using hown') (by decide)
 · exact (hb1.grown hgrow (by have:=hb1.size; omega) (fun k hk=>(hown.lt k hk).1)).setCell (p:=⟨b,1,none⟩) hB _
end Go.Proofs.YtlkgnljdpakkcaaGreatDoor
/-
 What a journal and a list of numbers are in memory; the journal's small methods. Conditions: the journal is one that Open makes,of room at most 500,over a disk.
-/
namespace Go.Proofs.YtlkgnljdpakkcaaGreatDoor
open Go.RowKit
def IsJn (w:World) (jb b room:Nat):Prop:=w.heap[jb]?=some (.cells #[.pointer (some ⟨b,0,none⟩),.int .i64 room] 133 (0,0))
theorem IsJn.c0 {w:World} {jb b room:Nat} (h:IsJn w jb b room):w.cell? ⟨jb,0,none⟩=some (.pointer (some ⟨b,0,none⟩)):=blk_cell h 0
theorem IsJn.c1 {w:World} {jb b room:Nat} (h:IsJn w jb b room):w.cell? ⟨jb,1,none⟩=some (.int .i64 room):=blk_cell h 1
theorem IsJn.keep {L:List Nat} {w w':World} {jb b room:Nat} (h:IsJn w jb b room) (t:Tch L w w') (hn:jb ∉ L):IsJn w' jb b room:=t.keep h hn
theorem IsJn.lt {w:World} {jb b room:Nat} (h:IsJn w jb b room):jb < w.heap.size:=lt_of_block h
def IsNums (w:World) (v:Value) (l:List Nat):Prop:=w.ownsRow 0 3 1 v l.length (l.map fun a:Nat=>Value.int .i64 (a:Int))
theorem IsNums.keep {w w':World} {v:Value} {l:List Nat} {L:List Nat} (h:IsNums w v l) (t:Tch L w w') (hn:∀ k,v.ownBlock=some k→k ∉ L):IsNums w' v l:=own_keep h t hn
theorem IsNums.cases {w:World} {v:Value} {l:List Nat} (h:IsNums w v l):v=.slice none 0 0∧l=[] ∨
 ∃ g cap,v=.slice (some ⟨g,0,none⟩) l.length cap∧g < w.heap.size∧∀ k,k < l.length→w.cell? ⟨g,k,none⟩=some (.int .i64 ((l.getD k 0:Nat):Int)):=by
 rcases h.2 with ⟨h1,h2⟩ | ⟨g,cap,cur,h1,_,hb,_⟩
 · exact Or.inl ⟨h1,List.length_eq_zero_iff.1 h2⟩
 · refine Or.inr ⟨g,cap,h1,lt_of_block hb,fun k hk=>?_⟩
   subst h1
   have:=World.ownsRow.cells h rfl k (.int .i64 ((l.getD k 0:Nat):Int)) (by
    rw [List.getElem?_map,List.getD_eq_getElem?_getD,List.getElem?_eq_getElem hk]; rfl)
   rw [add_mk,Nat.zero_add] at this
   exact this
theorem onDisk_any (jb b room:Nat) (i:Int) (w:World) (h:IsJn w jb b room) (hr:room≤500) (h0 : -1000000≤i) (h1:i≤1000000) :
 Calls Tryz.prog 89 #[.pointer (some ⟨jb,0,none⟩),.int .i64 i] w fun e w'=>e=.returned (.int .i64 (1+room+i))∧w=w':=by
 have c1:=h.c1
 go_enter Tryz.func89,Tryz.ntmps89
 go_wp2
 go_ret
 exact ⟨rfl,rfl⟩
theorem jlen_any (jb b bs room:Nat) (D:Ds) (w:World) (h:IsJn w jb b room) (hd:IsDs w b bs D) (hr:room≤500) :
 Calls Tryz.prog 58 #[.pointer (some ⟨jb,0,none⟩)] w fun e w'=>e=.returned (.int .i64 (jlen D room:Nat))∧w=w':=by
 have c0:=h.c0
 have hl:=hd.len
 have HL:=Lib.hid (dlen b bs D w hd)
 have HO:=Lib.hid (onDisk_any jb b room 0 w h hr (by omega) (by omega))
 have HM:Hid (max ((D.texts.length:Int) - (1+(room:Int)+0)) 0=((jlen D room:Nat):Int)):=by show _=_; unfold jlen; omega
 go_enter Tryz.func58,Tryz.ntmps58
 go_wp2_with (first | (go_at_call 15; refine HL.out.mono ?_; rintro e w1 ⟨rfl,rfl⟩) | (go_at_call 89; refine HO.out.mono ?_; rintro e w1 ⟨rfl,rfl⟩))
 go_ret
 refine ⟨?_,rfl⟩
 rw [← HM.out]
 simp
theorem has_yes (jb b bs room:Nat) (D:Ds) (i:Int) (w:World) (h:IsJn w jb b room) (hd:IsDs w b bs D) (hr:room≤500) (h0:0≤i) (h1:i < jlen D room) :
 Calls Tryz.prog 119 #[.pointer (some ⟨jb,0,none⟩),.int .i64 i] w fun e w'=>e=.returned (.bool true)∧w=w':=by
 have HL:=Lib.hid (jlen_any jb b bs room D w h hd hr)
 go_enter Tryz.func119,Tryz.ntmps119
 go_wp2_with (first | (go_at_call 58; refine HL.out.mono ?_; rintro e w1 ⟨rfl,rfl⟩))
 go_ret
 exact ⟨rfl,rfl⟩
theorem has_no (jb b bs room:Nat) (D:Ds) (i:Int) (w:World) (h:IsJn w jb b room) (hd:IsDs w b bs D) (hr:room≤500) (h0:i < 0∨jlen D room≤i) :
 Calls Tryz.prog 119 #[.pointer (some ⟨jb,0,none⟩),.int .i64 i] w fun e w'=>e=.returned (.bool false)∧w=w':=by
 have HL:=Lib.hid (jlen_any jb b bs room D w h hd hr)
 by_cases hi:i < 0
 · have e1:decide (0≤i)=false:=by simp; omega
   clear h0
   go_enter Tryz.func119,Tryz.ntmps119
   go_wp2
   go_ret
   exact ⟨rfl,rfl⟩
 · have e1:0≤i:=by omega
   have e2:decide (i < ((jlen D room:Nat):Int))=false:=by simp; omega
   clear h0 hi
   go_enter Tryz.func119,Tryz.ntmps119
   go_wp2_with (first | (go_at_call 58; refine HL.out.mono ?_; rintro e w1 ⟨rfl,rfl⟩))
   go_ret
   exact ⟨rfl,rfl⟩
set_option maxRecDepth 100000 in
theorem jread_any (jb b bs room:Nat) (D:Ds) (i:Int) (w:World) (h:IsJn w jb b room) (hd:IsDs w b bs D) (hr:room≤500) :
 Calls Tryz.prog 80 #[.pointer (some ⟨jb,0,none⟩),.int .i64 i] w fun e w'=>e=.returned (.tuple #[.string (jrtext room D i),.int .i64 (jrcode room D i)])∧(IsDs w' b bs D∧Tch [b] w w'):=by
 by_cases hi:i < 0∨jlen D room≤i
 · have HN:=Lib.hid (has_no jb b bs room D i w h hd hr hi)
   have HF:Hid (jrtext room D i=⟨#[]⟩∧jrcode room D i=10∧IsDs w b bs D):=⟨by unfold jrtext; rw [if_pos hi],by unfold jrcode; rw [if_pos hi],hd⟩
   clear hi hd
   go_enter Tryz.func80,Tryz.ntmps80
   go_wp2_with (first | (go_at_call 119; refine HN.out.mono ?_; rintro e w1 ⟨rfl,rfl⟩))
   go_ret2
   refine ⟨?_,HF.out.2.2,Tch.refl _ _⟩
   rw [HF.out.1,HF.out.2.1]
   rfl
 · have hlen:=hd.len
   have hjl:jlen D room≤16384:=by unfold jlen; omega
   have HN:=Lib.hid (has_yes jb b bs room D i w h hd hr (by omega) (by omega))
   have HF:Hid (jrtext room D i=D.rtext (1+room+i)∧jrcode room D i=D.rcode (1+room+i)):=⟨by unfold jrtext; rw [if_neg hi]; congr 1; omega,by unfold jrcode; rw [if_neg hi]; congr 1; omega⟩
   have hd1:=hd.keep (Tch.refl [] w).drew (by simp) (by simp)
   have h1:IsJn w.drew jb b room:=h.keep (Tch.refl [] w).drew (by simp)
   have c0:=h.c0
   have HO:=Lib.hid (onDisk_any jb b room i w.drew h1 hr (by omega) (by omega))
   have HR:=Lib.hid (dread b bs D (1+room+i) w.drew hd1)
   rw [← HF.out.1,← HF.out.2] at HR
   clear hi hd hd1 h1 HF
   generalize jrtext room D i=t at HR ⊢
   generalize jrcode room D i=c at HR ⊢
   go_enter Tryz.func80,Tryz.ntmps80
   go_wp2_with (first | (go_at_call 119; refine HN.out.mono ?_; rintro e w1 ⟨rfl,rfl⟩))
   go_region_with (first | (go_at_call 89; refine HO.out.mono ?_; rintro e w1 ⟨rfl,rfl⟩) | (go_at_call 46; refine HR.out.mono ?_; rintro e w1 ⟨rfl,hd2,t2⟩))
   all_goals
    go_wp2
    go_ret2
    refine ⟨?_,hd2,?_⟩
    · rfl
    · exact (Tch.refl [b] w).drew.trans t2
end Go.Proofs.YtlkgnljdpakkcaaGreatDoor
/-
 'headOf' of package journal: the bytes of a head. Conditions: at most 500 numbers,each below 2^63.
-/
namespace Go.Proofs.YtlkgnljdpakkcaaGreatDoor
open Go.RowKit
def hk (l:List Nat) (k:Nat):List UInt8:=ub l.length++(l.take k).flatMap ub
theorem hk_all (l:List Nat):hdb l=⟨(hk l l.length).toArray⟩:=by unfold hdb hk; rw [List.take_length]
theorem hk_step (l:List Nat) (k:Nat) (h:k < l.length):hk l (k+1)=hk l k++ub (l.getD k 0):=by
 unfold hk
 rw [List.take_succ_eq_append_getElem h,List.flatMap_append,List.getD_eq_getElem?_getD,List.getElem?_eq_getElem h]
 simp
theorem ub_le (v:Nat) (h:v < 9223372036854775808):(ub v).length≤10:=ub_len 9 v (by simp; omega)
theorem hk_len (l:List Nat) (hb:∀ a ∈ l,a < 9223372036854775808) (hl:l.length≤500):∀ k,k≤l.length→(hk l k).length≤10+10 * k:=by
 intro k
 induction k with
 | zero=>intro _; unfold hk; simp; have:=ub_le l.length (by omega); omega
 | succ k ih =>
  intro h
  rw [hk_step l k (by omega),List.length_append]
  have h1:=ih (by omega)
  have h2:=ub_le (l.getD k 0) (hb _ (by rw [List.getD_eq_getElem?_getD,List.getElem?_eq_getElem (by omega)]; exact List.getElem_mem _))
  omega
theorem cells_app (a b:List UInt8):Lib.byteCells a++Lib.strCells ⟨b.toArray⟩=Lib.byteCells (a++b):=by
 simp [Lib.byteCells,Lib.strCells]
def HeRel (w:World) (l:List Nat) (v13:Value) (wr:World):Prop :=
 ∃ k:Nat,k≤l.length∧v13=.int .i64 k∧Lib.IsBuilder 239 5 w.heap.size w.heap.size (Lib.byteCells (hk l k)) wr∧Tch [] w wr
theorem bld_keep {w w':World} {B b:Nat} {bs:List Value} {L:List Nat} {T e:TypeId} (h:Lib.IsBuilder T e B b bs w) (t:Tch L w w') (hn:∀ k ∈ L,k < B):Lib.IsBuilder T e B b bs w':=by
 have key:∀ p,Lib.BuilderAt T e B b p bs w→Lib.BuilderAt T e B b p bs w':=fun p h=>by
  obtain ⟨h1,v,h2,h3,h4⟩:=h
  exact ⟨h1,v,t.keep h2 (fun hm=>by have:=hn b hm; omega),own_keep h3 t (fun k hk hm=>by have:=hn k hm; have:=(h3.lt k hk).1; omega),h4⟩
 rcases h with h | h
 · exact Or.inl (key _ h)
 · exact Or.inr (key _ h)
theorem hd_nil:hdb []=⟨(ub 0).toArray⟩:=by simp [hdb]
set_option maxRecDepth 100000 in
theorem headOf_nil (w:World):Calls Tryz.prog 90 #[.slice none 0 0] w fun e w'=>e=.returned (.string (hdb []))∧Tch [] w w':=by
 have hB:=Lib.fresh_isBuilder 239 5 w
 have HU:=Lib.hid (fun w1=>uint_any 0 w1 (by omega))
 go_enter Tryz.func90,Tryz.ntmps90
 go_wp2_with fail
 refine (HU.out _).mono ?_
 rintro e w1 ⟨rfl,t1⟩
 have T1:=((Tch.refl [] w).alloc (.cells #[.pointer none,.slice none 0 0] 239)).trans t1
 have hB1:=bld_keep hB t1 (by simp)
 clear hB t1
 go_wp2_with fail
 refine (bwrite_any w.heap.size w.heap.size [] ⟨(ub 0).toArray⟩ _ hB1 (by rw [ub_small (by omega)]; simp [ByteArray.size]) T1.size).mono ?_
 rintro e w2 ⟨rfl,hB2,b2⟩
 have T2:=T1.belowNew b2
 rw [show ([]:List Value)=Lib.byteCells [] from rfl,cells_app] at hB2
 clear hB1 T1 b2
 go_wp2_with fail
 refine wp_loop_rounds 1 ?_
 rw [rounds_succ]
 go_wp2_with fail
 refine (Tryz.Builder_String_any w.heap.size w.heap.size _ w2 hB2 T2.size).mono ?_
 rintro e w3 ⟨rfl,b3⟩
 go_wp2_with fail
 go_ret
 refine ⟨?_,T2.belowNew b3⟩
 rw [hd_nil]
 rfl
set_option maxRecDepth 100000 in
set_option maxHeartbeats 1000000 in
theorem headOf_any (v:Value) (l:List Nat) (w:World) (hv:IsNums w v l) (hl:l.length≤500) (hb:∀ a ∈ l,a < 9223372036854775808) :
 Calls Tryz.prog 90 #[v] w fun e w'=>e=.returned (.string (hdb l))∧Tch [] w w':=by
 rcases hv.cases with ⟨rfl,rfl⟩ | ⟨g,cap,rfl,hg,hc⟩
 · exact headOf_nil w
 have hB:=Lib.fresh_isBuilder 239 5 w
 have HU:Hid (∀ n:Nat,n < 9223372036854775808→∀ w1,_):=fun n hn w1=>uint_any n w1 (by omega)
 have HL:=Lib.hid (hk_len l hb hl)
 have HC:=Lib.hid hc
 have HB:=Lib.hid hb
 clear hc hb hv
 go_enter Tryz.func90,Tryz.ntmps90
 go_wp2_with fail
 refine (HU.out _ (by omega) _).mono ?_
 rintro e w1 ⟨rfl,t1⟩
 have T1:=((Tch.refl [] w).alloc (.cells #[.pointer none,.slice none 0 0] 239)).trans t1
 have hB1:=bld_keep hB t1 (by simp)
 clear hB t1
 go_wp2_with fail
 refine (bwrite_any w.heap.size w.heap.size [] ⟨(ub l.length).toArray⟩ _ hB1 (by have:=ub_le l.length (by omega); simp [ByteArray.size]; omega) T1.size).mono ?_
 rintro e w2 ⟨rfl,hB2,b2⟩
 have T2:=T1.belowNew b2
 rw [show ([]:List Value)=Lib.byteCells [] from rfl,cells_app] at hB2
 clear hB1 T1 b2
 go_wp2_with fail
 go_loopw [13] (fun v13 wr=>HeRel w l v13 wr) (fun v13 _=>l.length - (intOf v13).toNat)
 case atStart=>exact ⟨0,by omega,rfl,by simpa [hk] using hB2,T2⟩
 case round =>
  obtain ⟨k,hk,rfl,hbk,T⟩:=hrel
  by_cases hkl:k < l.length
  · have hck:=HC.out k hkl
    rw [← T.cell hg (by simp)] at hck
    have hx:l.getD k 0 < 9223372036854775808:=HB.out _ (by rw [List.getD_eq_getElem?_getD,List.getElem?_eq_getElem hkl]; exact List.getElem_mem _)
    have HS:=Lib.hid (hk_step l k hkl)
    have HUK:=HL.out k hk
    generalize l.getD k 0=x at hck hx HS
    have hux:=ub_le x hx
    have hxw:IntKind.u64.wrap (x:Int)=(x:Int):=by rw [IntKind.wrap_u64]; omega
    go_wp2_with fail
    refine (HU.out x hx _).mono ?_
    rintro e w5 ⟨rfl,t5⟩
    have hb5:=bld_keep hbk t5 (by simp)
    have T5:=T.trans t5
    go_wp2_with fail
    refine (bwrite_any w.heap.size w.heap.size _ ⟨(ub x).toArray⟩ _ hb5 (by rw [Lib.byteCells_length]; simp [ByteArray.size]; omega) T5.size).mono ?_
    rintro e w6 ⟨rfl,hb6,b6⟩
    rw [cells_app] at hb6
    go_wp2_with fail
    go_roundw
    case rel=>exact ⟨k+1,by omega,by go_num,by rw [HS.out]; exact hb6,T5.belowNew b6⟩
    case measure=>simp [intOf]; omega
  · obtain rfl:k=l.length:=by omega
    go_wp2_with fail
    refine (Tryz.Builder_String_any w.heap.size w.heap.size _ wr hbk T.size).mono ?_
    rintro e w3 ⟨rfl,b3⟩
    go_wp2_with fail
    go_ret
    refine ⟨?_,T.belowNew b3⟩
    rw [hk_all]
    rfl
end Go.Proofs.YtlkgnljdpakkcaaGreatDoor
/-
 'readHead' of package journal: what a head names,or that it is none. Conditions: the journal is one that Open makes,over a disk; the text's length is an int's.
-/
namespace Go.Proofs.YtlkgnljdpakkcaaGreatDoor
open Go.RowKit
theorem Tryz.info_int:(Tryz.prog.info? 3).map (fun i=>(i.zero,i.size,i.bytes))=some (some (.int .i64 0),1,8):=by kernel_rfl
theorem dropWhile_all (l:List UInt8) (h:l.all (· == 0)=true):l.dropWhile (· == 0)=[]:=by
 induction l with
 | nil=>rfl
 | cons a l ih =>
  simp only [List.all_cons,Bool.and_eq_true] at h
  rw [List.dropWhile_cons,if_pos h.1,ih h.2]
theorem dropWhile_some (l:List UInt8) (h:l.all (· == 0)=false):(l.dropWhile (· == 0)).all (· == 0)=false:=by
 induction l with
 | nil=>simp at h
 | cons a l ih =>
  rw [List.dropWhile_cons]
  by_cases ha:(a == 0)=true
  · rw [if_pos ha]
    simp only [List.all_cons,ha,Bool.true_and] at h
    exact ih h
  · rw [if_neg ha]; exact h
theorem trim_nil {l:List UInt8} (h:nil0 l=true):Lib.trimB l 0=[]:=by
 unfold Lib.trimB Lib.trimRightB Lib.trimLeftB
 rw [dropWhile_all l.reverse (by unfold nil0 at h; rw [List.all_reverse]; exact h)]
 rfl
theorem trim_some {l:List UInt8} (h:nil0 l=false):Lib.trimB l 0≠[]:=by
 unfold Lib.trimB Lib.trimRightB Lib.trimLeftB
 have h1:=dropWhile_some l.reverse (by unfold nil0 at h; rw [List.all_reverse]; exact h)
 have h2:=dropWhile_some (l.reverse.dropWhile (· == 0)).reverse (by rw [List.all_reverse]; exact h1)
 intro h3
 rw [h3] at h2
 simp at h2
theorem rdu_cases (L:List UInt8):(∃ c:Int,c≠0∧rdu L 0 0=(c,0,0))∨∃ u n:Nat,rdu L 0 0=(0,u,n)∧u < 18446744073709551616∧n≤L.length:=by
 have key:∀ (l:List UInt8) (i v:Nat),(∃ c:Int,c≠0∧rdu l i v=(c,0,0))∨∃ u n:Nat,rdu l i v=(0,u,n):=by
  intro l
  induction l with
  | nil =>
   intro i v
   by_cases hi:i=10
   · subst hi; exact Or.inl ⟨21,by omega,rdu_10 _ _⟩
   · exact Or.inl ⟨20,by omega,rdu_nil _ hi⟩
  | cons b l ih =>
   intro i v
   by_cases hi:i=10
   · subst hi; exact Or.inl ⟨21,by omega,rdu_10 _ _⟩
   by_cases hb:128≤b.toNat
   · rw [rdu_more l v hi hb]; exact ih _ _
   · by_cases h0:b.toNat=0∧i≠0
     · exact Or.inl ⟨21,by omega,rdu_zero l v hi h0.1 h0.2⟩
     · by_cases h9:i=9∧1 < b.toNat
       · obtain ⟨rfl,h9⟩:=h9
         exact Or.inl ⟨21,by omega,rdu_ten l v (by omega) h9⟩
       · exact Or.inr ⟨_,_,rdu_last l v hi (by omega) h0 h9⟩
 rcases key L 0 0 with h | ⟨u,n,h⟩
 · exact Or.inl h
 · have:=rdu_bound L 0 0 0 u n h (by simp) (by omega) rfl
   exact Or.inr ⟨u,n,h,this.1,by omega⟩
def RhPost (w:World) (s:List UInt8) (room n:Nat) (e:Ending) (w':World):Prop :=
 Tch [] w w'∧((rhead s room n=none∧e=.returned (.tuple #[.slice none 0 0,.bool false]))∨∃ l v,rhead s room n=some l∧e=.returned (.tuple #[v,.bool true])∧w'.ownsRow w.heap.size 3 1 v l.length (l.map fun a:Nat=>Value.int .i64 (a:Int)))
def RhRel (w:World) (s:List UInt8) (n cnt p0:Nat) (v7 v10 v31:Value) (wr:World):Prop :=
 ∃ (k p:Nat) (met:List Nat),k≤cnt∧v31=.int .u64 k∧v7=.int .i64 p∧p≤s.length∧met.length=k∧(∀ a ∈ met,a < n)∧MapOf wr w.heap.size k (met.map fun a:Nat=>(a:Int)) ∧
  wr.ownsRow w.heap.size 3 1 v10 met.length (met.map fun a:Nat=>Value.int .i64 (a:Int))∧Tch [] w wr∧rnums s n cnt p0 []=rnums s n (cnt - k) p met
theorem rhead_no1 {s:List UInt8} {room n:Nat} (h:(rdu s 0 0).1≠0∨room < (rdu s 0 0).2.1):rhead s room n=none:=by unfold rhead; rw [if_pos h]
theorem rhead_of {s:List UInt8} {room n cnt p:Nat} (h:rdu s 0 0=(0,cnt,p)) (hc:cnt≤room):rhead s room n=match rnums s n cnt p [] with
 | none=>none
 | some (l,p)=>if nil0 (s.drop p) then some l else none:=by unfold rhead; rw [h,if_neg (by simp; omega)] <;> rfl
theorem own_map_ne {w:World} {base size n m:Nat} {e:TypeId} {v:Value} {xs:List Value} {mb:Nat} {S:List Int} (h:w.ownsRow base e size v n xs) (hm:MapOf w mb m S):v.ownBlock≠some mb:=by
 obtain ⟨D,⟨es,clock,hb,_⟩,_⟩:=hm
 rcases h.2 with ⟨rfl,_⟩ | ⟨g,cap,cur,rfl,_,hg,_⟩
 · simp [Value.ownBlock]
 · intro he
   simp only [Value.ownBlock,Option.some.injEq] at he
   subst he
   rw [hb] at hg
   cases hg
set_option maxRecDepth 100000 in
set_option maxHeartbeats 2000000 in
theorem rhd_any (jb b bs room : Nat) (D : Ds) (s : ByteArray) (w : World) (h : IsJn w jb b room) (hd : IsDs w b bs D) (hr : room ≤ 500) (hs : s.size ≤ 9223372036854775807) :
    Calls Tryz.prog 47 #[.pointer (some ⟨jb, 0, none⟩), .string s] w (RhPost w s.data.toList room (jlen D room)) := by
  have hlen := hd.len
  have hjl : jlen D room ≤ 16384 := by unfold jlen; omega
  have HRD : Hid (∀ p w1, _) := fun p w1 => rdu_at s p w1 hs
  have HSZ := Lib.hid (Lib.size_eq s)
  have c1 := h.c1
  obtain ⟨i0, hi, hz0, hz1, hz2⟩ := info_parts Tryz.info_int
  have hmm := @run_makeMap Tryz.prog
  have hrw : IntKind.u64.wrap (room : Int) = (room : Int) := by rw [IntKind.wrap_u64]; omega
  have H0 := Lib.hid (HRD.out 0 w)
  rw [List.drop_zero] at H0
  rcases rdu_cases s.data.toList with ⟨c, hc, hr0⟩ | ⟨cnt, p0, hr0, hcnt, hp0⟩
  · have hne : (c != 0) = true := by simpa using hc
    have HF : Hid (RhPost w s.data.toList room (jlen D room) (.returned (.tuple #[.slice none 0 0, .bool false])) w) := ⟨Tch.refl _ _, Or.inl ⟨rhead_no1 (Or.inl (by rw [hr0]; exact hc)), rfl⟩⟩
    rw [rduE_no hr0 hc] at H0
    clear hr0 hc hd
    go_enter Tryz.func47, Tryz.ntmps47
    go_wp2_with (first | (go_at_call 86; refine H0.out.mono ?_; rintro e w1 ⟨rfl, rfl⟩))
    go_ret2
    exact HF.out
  by_cases hcr : room < cnt
  · have hne : decide (room < cnt) = true := by simpa using hcr
    have HF : Hid (RhPost w s.data.toList room (jlen D room) (.returned (.tuple #[.slice none 0 0, .bool false])) w) := ⟨Tch.refl _ _, Or.inl ⟨rhead_no1 (Or.inr (by rw [hr0]; exact hcr)), rfl⟩⟩
    rw [rduE_ok hr0] at H0
    clear hr0 hd hcr
    go_enter Tryz.func47, Tryz.ntmps47
    go_wp2_with (first | (go_at_call 86; refine H0.out.mono ?_; rintro e w1 ⟨rfl, rfl⟩))
    go_ret2
    exact HF.out
  have HRO := Lib.hid (rhead_of (n := jlen D room) hr0 (by omega : cnt ≤ room))
  rw [rduE_ok hr0, Nat.zero_add] at H0
  have hne : decide (room < cnt) = false := by simpa using hcr
  have hmap := MapOf.made w
  have T0 := (Tch.refl [] w).alloc (.map #[] 0)
  have hcb : cnt ≤ 500 := by omega
  clear hr0 hcr
  generalize hn : jlen D room = n at HRO hjl ⊢
  have HJ : Hid (∀ wr, Tch [] w wr → Calls Tryz.prog 58 #[.pointer (some ⟨jb, 0, none⟩)] wr fun e w' => e = .returned (.int .i64 (n : Nat)) ∧ wr = w') := fun wr t => by
    rw [← hn]; exact jlen_any jb b bs room D wr (h.keep t (by simp)) (hd.keep t (by simp) (by simp)) hr
  clear hn hd h
  go_enter Tryz.func47, Tryz.ntmps47
  go_wp2_with (first | (go_at_call 86; refine H0.out.mono ?_; rintro e w1 ⟨rfl, rfl⟩))
  clear hmm H0 c1 hrw hne
  go_loopw [7, 10, 31] (fun v7 v10 v31 wr => RhRel w s.data.toList n cnt p0 v7 v10 v31 wr) (fun _ _ v31 _ => cnt - (intOf v31).toNat)
  case atStart => exact ⟨0, p0, [], by omega, rfl, rfl, hp0, rfl, by simp, hmap, World.ownsRow_nil _ _ _ _, T0, rfl⟩
  case round =>
    obtain ⟨k, p, met, hk, rfl, rfl, hp, hml, hmn, hm, hown, T, hrn⟩ := hrel
    by_cases hkc : k < cnt
    · have hps : p ≤ s.size := by rw [HSZ.out]; exact hp
      have HE : Hid (rnums s.data.toList n cnt p0 [] = if (rdu (s.data.toList.drop p) 0 0).1 ≠ 0 ∨ n ≤ (rdu (s.data.toList.drop p) 0 0).2.1 ∨ (rdu (s.data.toList.drop p) 0 0).2.1 ∈ met then none
          else rnums s.data.toList n (cnt - (k + 1)) (p + (rdu (s.data.toList.drop p) 0 0).2.2) (met ++ [(rdu (s.data.toList.drop p) 0 0).2.1])) := by
        show _ = _
        rw [hrn, show cnt - k = (cnt - (k + 1)) + 1 from by omega, rnums]
      have HR := Lib.hid (HRD.out p wr)
      have HJ1 := Lib.hid (HJ.out wr T)
      have hkc2 : decide (k < cnt) = true := by simpa using hkc
      have HML := Lib.hid hml
      clear hrn hml
      rcases rdu_cases (s.data.toList.drop p) with ⟨c, hc, hr1⟩ | ⟨a, q, hr1, ha, hq⟩
      · have hne : (c != 0) = true := by simpa using hc
        have HF : Hid (RhPost w s.data.toList room n (.returned (.tuple #[.slice none 0 0, .bool false])) wr) := ⟨T, Or.inl ⟨by rw [HRO.out, HE.out, hr1, if_pos (Or.inl hc)], rfl⟩⟩
        rw [rduE_no hr1 hc] at HR
        clear hr1 hc hmn
        go_wp2_with (first | (go_at_call 86; refine HR.out.mono ?_; rintro e w1 ⟨rfl, rfl⟩))
        go_ret2
        exact HF.out
      rw [hr1] at HE
      simp only at HE
      rw [rduE_ok hr1] at HR
      have hq2 : p + q ≤ s.data.toList.length := by rw [List.length_drop] at hq; omega
      have hpq : ((p + q : Nat) : Int) ≤ 9223372036854775807 := by have := HSZ.out; omega
      clear hr1 hq hps
      by_cases han : n ≤ a
      · have HF : Hid (RhPost w s.data.toList room n (.returned (.tuple #[.slice none 0 0, .bool false])) wr) := ⟨T, Or.inl ⟨by rw [HRO.out, HE.out, if_pos (Or.inr (Or.inl han))], rfl⟩⟩
        have hne : decide (n ≤ a) = true := by simpa using han
        have hnw : IntKind.u64.wrap (n : Int) = (n : Int) := by rw [IntKind.wrap_u64]; omega
        clear hmn HE han
        go_wp2_with (first | (go_at_call 86; refine HR.out.mono ?_; rintro e w1 ⟨rfl, rfl⟩) | (go_at_call 58; refine HJ1.out.mono ?_; rintro e w1 ⟨rfl, rfl⟩))
        go_ret2
        exact HF.out
      have hne : decide (n ≤ a) = false := by simpa using han
      have hnw : IntKind.u64.wrap (n : Int) = (n : Int) := by rw [IntKind.wrap_u64]; omega
      have haw : IntKind.i64.wrap (a : Int) = (a : Int) := IntWalk.i64_in _ (by omega)
      by_cases ham : a ∈ met
      · have HF : Hid (∀ w1, Tch [w.heap.size] wr w1 → RhPost w s.data.toList room n (.returned (.tuple #[.slice none 0 0, .bool false])) w1) := fun w1 t1 => ⟨T.transNew t1 (by simp), Or.inl ⟨by rw [HRO.out, HE.out, if_pos (Or.inr (Or.inr ham))], rfl⟩⟩
        have HM := Lib.hid (met_yes w.heap.size k _ a wr hm (WalkArith.wf_i64 (by omega)) (by omega) (List.mem_map.2 ⟨a, ham, rfl⟩))
        clear hmn HE han ham
        go_wp2_with (first | (go_at_call 86; refine HR.out.mono ?_; rintro e w1 ⟨rfl, rfl⟩) | (go_at_call 58; refine HJ1.out.mono ?_; rintro e w1 ⟨rfl, rfl⟩) | (go_at_call 87; refine HM.out.mono ?_; rintro e w1 ⟨rfl, t1⟩))
        go_ret2
        exact HF.out _ t1
      have HM := Lib.hid (met_no w.heap.size k _ a wr hm (WalkArith.wf_i64 (by omega)) (by omega) (by
        rw [List.mem_map]; rintro ⟨x, hx, hxa⟩; exact ham (by have : x = a := by omega
                                                              rw [← this]; exact hx)))
      have HE2 : Hid (rnums s.data.toList n cnt p0 [] = rnums s.data.toList n (cnt - (k + 1)) (p + q) (met ++ [a])) := by
        show _ = _
        rw [HE.out, if_neg (by simp [han, ham])]
      have HMN : Hid (∀ x ∈ met ++ [a], x < n) := fun x hx => by
        rcases List.mem_append.1 hx with h1 | h1
        · exact hmn x h1
        · simp only [List.mem_singleton] at h1; omega
      have HNE := Lib.hid (own_map_ne hown hm)
      have hsz := T.size
      clear HE hmn ham hm han
      go_wp2_with (first | (go_at_call 86; refine HR.out.mono ?_; rintro e w1 ⟨rfl, rfl⟩) | (go_at_call 58; refine HJ1.out.mono ?_; rintro e w1 ⟨rfl, rfl⟩) | (go_at_call 87; refine HM.out.mono ?_; rintro e w1 ⟨rfl, hm1, t1⟩; have hown1 := own_keep hown t1 (by intro g hg hm2; simp only [List.mem_singleton] at hm2; exact HNE.out (by rw [hg, hm2])); have T1 := T.transNew t1 (by simp)) | (at_builtin; refine wpList_append_own _ rfl _ _ 50 rfl w.heap.size 3 i0 (.int .i64 0) 1 8 Tryz.underlying50 hi hz0 hz1 hz2 rfl (by decide) _ _ _ rfl (hown1.alloc _) ⟨w1.heap.size, 0, none⟩ 1 1 [.int .i64 (a : Int)] rfl rfl ?c1 ?c2 ?c3 ?c4 ?c5 ?_))
      case c1 => exact cells_one _ _ _
      case c2 => intro x hx; simp only [List.mem_singleton] at hx; subst hx; rfl
      case c3 => have := HML.out; unfold maxLen; omega
      case c4 => have := HML.out; omega
      case c5 => have := T1.size; simp; omega
      intro v' w2 hown2 hgrow _
      have T2 := (T1.alloc (.cells #[.int .i64 (a : Int)] 3)).own (hown1.alloc _) (Nat.le_refl _) hgrow
      have hm2 : MapOf w2 w.heap.size (k + 1) ((met ++ [a]).map fun x : Nat => (x : Int)) := by
        have hm3 := hm1.kept ((Tch.refl [] w1).alloc (.cells #[.int .i64 (a : Int)] 3)) (by simp)
        have hlt := hm3.lt
        obtain ⟨DD, ⟨es, clock, hb, F, hsz2, hD⟩, hat⟩ := hm3
        refine ⟨DD, ⟨es, clock, (hgrow.block _ hlt (fun e => ?_)).trans hb, F, hsz2, hD⟩, by simpa using hat⟩
        exact own_map_ne (hown1.alloc (.cells #[.int .i64 (a : Int)] 3)) (hm1.kept ((Tch.refl [] w1).alloc (.cells #[.int .i64 (a : Int)] 3)) (by simp)) e.symm
      have HO : Hid (w2.ownsRow w.heap.size 3 1 v' (met ++ [a]).length ((met ++ [a]).map fun x : Nat => Value.int .i64 (x : Int))) := by
        rw [List.length_append, List.map_append]
        exact hown2
      clear hown2 hown1 hown hgrow T1 hm1 t1
      go_wp2
      go_roundw
      case rel => exact ⟨k + 1, p + q, met ++ [a], by omega, by go_num, rfl, hq2, by rw [List.length_append, HML.out]; rfl, HMN.out, hm2, HO.out, T2, HE2.out⟩
      case measure => simp [intOf]; omega
    · obtain rfl : k = cnt := by omega
      have hps : p ≤ s.size := by rw [HSZ.out]; exact hp
      rw [Nat.sub_self] at hrn
      have HE : Hid (rhead s.data.toList room n = if nil0 (s.data.toList.drop p) then some met else none) := by
        show _ = _
        rw [HRO.out, hrn]; rfl
      have HT := Lib.hid (Tryz.strings_Trim_one (s.extract p s.size) 0 (by decide) wr (by have := Lib.extract_from s p; rw [this, Lib.size_mk, List.length_drop, ← HSZ.out]; omega))
      rw [Lib.extract_to_end] at HT
      have hx : s.extract p s.size = ⟨(s.data.toList.drop p).toArray⟩ := Lib.extract_from s p
      have hkc2 : decide (k < k) = false := by simp
      rw [hx] at HT
      have HT := Lib.hid (HT.out.mono (R' := fun e w' => e = .returned (.string ⟨(Lib.trimB (s.data.toList.drop p) 0).toArray⟩) ∧ Tch [] wr w') (fun e w' ⟨he, hw⟩ => ⟨he, by rcases hw with rfl | rfl; exact Tch.refl _ _; exact (Tch.refl _ _).drew⟩))
      clear hrn
      cases hz : nil0 (s.data.toList.drop p)
      · have h1 := trim_some hz
        have HF : Hid (∀ w1, Tch [] wr w1 → RhPost w s.data.toList room n (.returned (.tuple #[.slice none 0 0, .bool false])) w1) := fun w1 t1 => ⟨T.trans t1, Or.inl ⟨by rw [HE.out, hz]; rfl, rfl⟩⟩
        have HD := Lib.hid (And.intro hx hz)
        generalize Lib.trimB (s.data.toList.drop p) 0 = r at HT h1
        have hne : r.isEmpty = false := by
          cases r with
          | nil => exact absurd rfl h1
          | cons x r => rfl
        clear h1 hz
        go_wp2_with (first | (go_at_call 88; refine HT.out.mono ?_; rintro e w1 ⟨rfl, t1⟩))
        go_ret2
        exact HF.out _ t1
      · have h1 := trim_nil hz
        rw [h1] at HT
        have HF : Hid (∀ w1, Tch [] wr w1 → RhPost w s.data.toList room n (.returned (.tuple #[u10, .bool true])) w1) := fun w1 t1 => ⟨T.trans t1, Or.inr ⟨met, u10, by rw [HE.out, hz]; rfl, rfl, own_keep hown t1 (by simp)⟩⟩
        have HD := Lib.hid (And.intro hx hz)
        clear h1 hz
        go_wp2_with (first | (go_at_call 88; refine HT.out.mono ?_; rintro e w1 ⟨rfl, t1⟩))
        go_ret2
        exact HF.out _ t1
end Go.Proofs.YtlkgnljdpakkcaaGreatDoor
/-
 'finish' of package journal: the copies are brought to their sectors,then the head is emptied. Conditions: the journal is one that Open makes,over a disk; the numbers are its sectors',at most as many as its room; the count of writes stays below the greatest int64.
-/
namespace Go.Proofs.YtlkgnljdpakkcaaGreatDoor
open Go.RowKit
theorem pad_pad (x:ByteArray) (hx:x.size≤1024):pad (pad x)=pad x:=by
 have h:=pad_size x hx
 apply ba_ext
 show ((pad x).data.toList++List.replicate (1024 - (pad x).size) 0).toArray.toList=_
 rw [h,Nat.sub_self]
 simp
theorem pad_nonempty (x:ByteArray) (hx:x.size≤1024):pad x≠⟨#[]⟩:=by
 intro h
 have:=pad_size x hx
 rw [h] at this
 exact absurd this (by decide)
theorem wcode_pad (D:Ds) (i:Int) (x:ByteArray) (hx:x.size≤1024):D.wcode i (pad x)=D.wcode i x:=by
 have h:=pad_size x hx
 simp only [Ds.wcode]
 rw [if_neg (show ¬ 1024 < (pad x).size by omega),if_neg (show ¬ 1024 < x.size by omega)]
theorem isds_unpad {w:World} {b bs:Nat} {D:Ds} {i:Int} {x:ByteArray} (hx:x.size≤1024) (h:IsDs w b bs (D.wstate i (pad x))):IsDs w b bs (D.wstate i x):=by
 have hp:=pad_size x hx
 unfold Ds.wstate at h ⊢
 split at h
 · rename_i h1; rw [if_pos h1]; exact h
 · rename_i h1; rw [if_neg h1]
   split at h
   · rename_i h2; rw [if_pos h2]; exact h
   · rename_i h2; rw [if_neg h2]
     rw [if_neg (by omega)] at h
     rw [if_neg (by omega)]
     split at h
     · rename_i h3; rw [if_pos h3]; exact h
     · rename_i h3; rw [if_neg h3]
       obtain ⟨S,hk,hm,ho,hl,hs,r⟩:=h
       refine ⟨S,hk,hm,ho,by simpa using hl,fun q s y hq hy=>?_,by simpa using r⟩
       simp only at hy hs
       rw [List.getElem?_set] at hy
       by_cases hj:i.toNat=q
       · rw [if_pos hj] at hy
         by_cases hlt:i.toNat < D.texts.length
         · rw [if_pos hlt] at hy
           cases hy
           have h4:=hs q s (pad x) hq (by rw [List.getElem?_set,if_pos hj,if_pos hlt])
           refine ⟨Or.inr ?_,hx⟩
           rcases h4.1 with ⟨_,h5⟩ | h5
           · exact absurd h5 (pad_nonempty x hx)
           · rw [h5,pad_pad x hx]
         · rw [if_neg hlt] at hy; cases hy
       · rw [if_neg hj] at hy
         exact hs q s y hq (by rw [List.getElem?_set,if_neg hj]; exact hy)
theorem isds_size {w:World} {b bs:Nat} {D:Ds} (h:IsDs w b bs D) (i:Nat):(D.texts.getD i ⟨#[]⟩).size≤1024:=by
 obtain ⟨S,hk,hm,ho,hl,hs,_⟩:=h
 by_cases hi:i < D.texts.length
 · have e1:S.secs[i]?=some (S.secs[i]'(by omega)):=List.getElem?_eq_getElem (by omega)
   have e2:D.texts[i]?=some D.texts[i]:=List.getElem?_eq_getElem hi
   have:=(hs i _ _ e1 e2).2
   simpa [List.getD_eq_getElem?_getD,e2] using this
 · rw [List.getD_eq_getElem?_getD,List.getElem?_eq_none (by omega)]
   decide
theorem dwritep (b bs:Nat) (D:Ds) (i:Int) (x:ByteArray) (w:World) (hx:x.size≤1024) (hd:IsDs w b bs D) (hn:D.done < 9223372036854775807) :
 Calls Tryz.prog 32 #[.pointer (some ⟨b,0,none⟩),.int .i64 i,.string (pad x)] w fun e w'=>e=.returned (.int .i64 (D.wcode i x))∧(IsDs w' b bs (D.wstate i x)∧Tch [b,bs] w w'):=by
 refine (dwrite b bs D i (pad x) w hd hn).mono ?_
 rintro e w' ⟨rfl,hd',t'⟩
 exact ⟨by rw [wcode_pad D i x hx],isds_unpad hx hd',t'⟩
theorem rcode_of {D:Ds} {i:Nat} (h:D.rcode (i:Int)=0):D.rtext (i:Int)=pad (D.texts.getD i ⟨#[]⟩):=by
 unfold Ds.rcode at h
 unfold Ds.rtext
 split at h
 · omega
 · rename_i h1; rw [if_neg h1]
   split at h
   · omega
   · rename_i h2; rw [if_neg h2]; rfl
def FnRel (w:World) (b bs room:Nat) (l:List Nat) (D:Ds) (v12:Value) (wr:World):Prop :=
 ∃ (k:Nat) (E:Ds),k≤l.length∧v12=.int .i64 k∧IsDs wr b bs E∧fin room 0 l D=fin room k (l.drop k) E∧E.done≤D.done+k∧Tch [b,bs] w wr
def FnPost (w:World) (b bs room:Nat) (l:List Nat) (D:Ds) (e:Ending) (w':World):Prop :=
 e=.returned (.int .i64 (fins room l D).1)∧IsDs w' b bs (fins room l D).2∧Tch [b,bs] w w'
theorem wrs_one (D:Ds) (i:Int) (x:ByteArray):wrs [(i,x)] D=(D.wcode i x,D.wstate i x):=by
 simp only [wrs]
 by_cases h:D.wcode i x=0
 · rw [if_pos h,h]
 · rw [if_neg h]
theorem hd_size (l:List Nat) (hl:l.length≤500) (hb:∀ a ∈ l,a < 16384):(hdb l).size≤1024:=by
 have key:∀ k,k≤l.length→(hk l k).length≤2+2 * k:=by
  intro k
  induction k with
  | zero=>intro _; unfold hk; simp; exact ub_len 1 l.length (by simp; omega)
  | succ k ih =>
   intro h
   rw [hk_step l k (by omega),List.length_append]
   have h1:=ih (by omega)
   have h2:=ub_len 1 (l.getD k 0) (by
    have:=hb (l.getD k 0) (by rw [List.getD_eq_getElem?_getD,List.getElem?_eq_getElem (by omega)]; exact List.getElem_mem _)
    rw [show 128 ^ (1+1)=16384 from by decide]; exact this)
   omega
 rw [hk_all]
 have:=key l.length (Nat.le_refl _)
 rw [Lib.size_mk]
 omega
set_option maxRecDepth 100000 in
set_option maxHeartbeats 2000000 in
theorem fin_any (jb b bs room:Nat) (D:Ds) (v:Value) (l:List Nat) (w:World) (h:IsJn w jb b room) (hd0:IsDs w b bs D) (hj:jb≠b∧jb≠bs) (hr:room≤500) (hv:IsNums w v l) (hvb:∀ k,v.ownBlock=some k→k ∉ [b,bs])
 (hl:l.length≤room) (hin:∀ a ∈ l,a < 16384) (hn:D.done+501 < 9223372036854775807) :
 Calls Tryz.prog 48 #[.pointer (some ⟨jb,0,none⟩),v] w (FnPost w b bs room l D):=by
 have HH:=Lib.hid (fun w1=>headOf_nil w1)
 have hj2:jb ∉ [b,bs]:=by simp; exact hj
 have hlt:=hd0.lt
 have hjlt:=h.lt
 rcases hv.cases with ⟨rfl,rfl⟩ | ⟨g,cap,rfl,hg,hc⟩
 · have HF:Hid (∀ w1,IsDs w1 b bs (D.wstate 0 (hdb []))→Tch [b,bs] w w1→FnPost w b bs room [] D (.returned (.int .i64 (D.wcode 0 (hdb [])))) w1):=fun w1 hd1 t1=>by
    have e:fins room [] D=(D.wcode 0 (hdb []),D.wstate 0 (hdb [])):=by unfold fins; rw [fin,if_pos rfl,wrs_one]
    unfold FnPost; rw [e]; exact ⟨rfl,hd1,t1⟩
   have HW:Hid (∀ w1,IsDs w1 b bs D→_):=fun w1 h1=>dwrite b bs D 0 (hdb []) w1 h1 (by omega)
   have q0:=h.c0
   have hd2:IsDs w.drew b bs D:=hd0.keep (Tch.refl [] w).drew (by simp) (by simp)
   have T:Tch [b,bs] w w:=Tch.refl _ _
   clear hd0 hvb hv
   generalize D.wstate 0 (hdb [])=E2 at HW HF
   generalize D.wcode 0 (hdb [])=c at HW HF
   go_enter Tryz.func48,Tryz.ntmps48
   go_wp2_with fail
   refine wp_loop_rounds 1 ?_
   rw [rounds_succ]
   go_wp2_with fail
   go_region_with (first | (go_at_call 90; refine (HH.out _).mono ?_; rintro e w1 ⟨rfl,t1⟩; have hd3:=hd2.keep t1 (by simp) (by simp); have q1:=(h.keep (Tch.refl [] w).drew (by simp)).keep t1 (by simp) |>.c0) | (go_at_call 32; refine (HW.out _ hd3).mono ?_; rintro e w2 ⟨rfl,hd4,t4⟩))
   all_goals
    go_wp2
    go_ret
    exact HF.out _ hd4 ((T.drew.trans (t1.mono (by simp))).trans t4)
 · have hgb:g ∉ [b,bs]:=hvb g rfl
   have HC:=Lib.hid hc
   have HIN:=Lib.hid hin
   have HJN:Hid (∀ wr,Tch [b,bs] w wr→IsJn wr jb b room):=fun wr t=>h.keep t hj2
   clear hc hin hvb hv h
   go_enter Tryz.func48,Tryz.ntmps48
   go_wp2_with fail
   go_loopw [12] (fun v12 wr=>FnRel w b bs room l D v12 wr) (fun v12 _=>l.length - (intOf v12).toNat)
   case atStart=>exact ⟨0,D,by omega,rfl,hd0,rfl,by omega,Tch.refl _ _⟩
   case round =>
    obtain ⟨k,E,hk,rfl,hd,hf,hdn,T⟩:=hrel
    by_cases hkl:k < l.length
    · have hck:=HC.out k hkl
      rw [← T.cell hg hgb] at hck
      have hx:l.getD k 0 < 16384:=HIN.out _ (by rw [List.getD_eq_getElem?_getD,List.getElem?_eq_getElem hkl]; exact List.getElem_mem _)
      have hdr:l.drop k=l.getD k 0 :: l.drop (k+1):=by
       rw [List.drop_eq_getElem_cons hkl,List.getD_eq_getElem?_getD,List.getElem?_eq_getElem hkl]; rfl
      rw [hdr,fin] at hf
      generalize l.getD k 0=a at hck hx hf
      have hJ:=HJN.out wr T
      have c0:=hJ.c0
      have HR:=Lib.hid (dread b bs E ((1+k:Nat):Int) wr hd)
      by_cases hrc:E.rcode ((1+k:Nat):Int)=0
      · rw [if_neg (by simpa using hrc)] at hf
        rw [rcode_of hrc,hrc] at HR
        have hxs:=isds_size hd (1+k)
        generalize E.texts.getD (1+k) ⟨#[]⟩=x at hf HR hxs
        have HO:Hid (∀ w1,IsJn w1 jb b room→_):=fun w1 h1=>onDisk_any jb b room a w1 h1 hr (by omega) (by omega)
        have HW:Hid (∀ w1,IsDs w1 b bs E→_):=fun w1 h1=>dwritep b bs E ((room+1+a:Nat):Int) x w1 hxs h1 (by omega)
        rw [show (((1+k:Nat):Int))=1+(k:Int) from by omega] at HR
        have HE:=Lib.hid (wst_done E ((room+1+a:Nat):Int) x).2
        by_cases hwc:E.wcode ((room+1+a:Nat):Int) x=0
        · rw [if_pos hwc] at hf
          rw [hwc] at HW
          have HF:=Lib.hid hf
          clear hf hwc hrc hdr
          generalize E.wstate ((room+1+a:Nat):Int) x=E2 at HW HF HE
          rw [show ((room+1+a:Nat):Int)=1+(room:Int)+(a:Int) from by omega] at HW
          go_wp2_with (first | (go_at_call 46; refine HR.out.mono ?_; rintro e w1 ⟨rfl,hd1,t1⟩))
          have T1:=T.trans (t1.mono (L':=[b,bs]) (by simp))
          have hJ1:=HJN.out w1 T1
          have hJ2:IsJn w1.drew jb b room:=hJ1
          have hd2:IsDs w1.drew b bs E:=hd1.keep (Tch.refl [] w1).drew (by simp) (by simp)
          have q0:=hJ1.c0
          clear hJ c0 t1 hd
          go_region_with (first | (go_at_call 89; refine (HO.out _ hJ2).mono ?_; rintro e w2 ⟨rfl,rfl⟩) | (go_at_call 32; refine (HW.out _ hd2).mono ?_; rintro e w2 ⟨rfl,hd3,t3⟩))
          all_goals
           go_wp2
           go_roundw
           case rel=>exact ⟨k+1,E2,by omega,by go_num,hd3,HF.out,by have:=HE.out; omega,T1.drew.trans t3⟩
           case measure=>simp [intOf]; omega
        · rw [if_neg hwc] at hf
          have hne:(E.wcode ((room+1+a:Nat):Int) x != 0)=true:=by simpa using hwc
          have HF:Hid (∀ w1,IsDs w1 b bs (E.wstate ((room+1+a:Nat):Int) x)→Tch [b,bs] w w1→FnPost w b bs room l D (.returned (.int .i64 (E.wcode ((room+1+a:Nat):Int) x))) w1):=fun w1 hd1 t1=>by
           have e:fins room l D=(E.wcode ((room+1+a:Nat):Int) x,E.wstate ((room+1+a:Nat):Int) x):=by unfold fins; rw [hf,if_neg hwc]
           unfold FnPost; rw [e]; exact ⟨rfl,hd1,t1⟩
          clear hf hwc hrc hdr HE
          generalize E.wstate ((room+1+a:Nat):Int) x=E2 at HW HF
          generalize E.wcode ((room+1+a:Nat):Int) x=c at HW HF hne
          rw [show ((room+1+a:Nat):Int)=1+(room:Int)+(a:Int) from by omega] at HW
          go_wp2_with (first | (go_at_call 46; refine HR.out.mono ?_; rintro e w1 ⟨rfl,hd1,t1⟩))
          have T1:=T.trans (t1.mono (L':=[b,bs]) (by simp))
          have hJ1:=HJN.out w1 T1
          have hJ2:IsJn w1.drew jb b room:=hJ1
          have hd2:IsDs w1.drew b bs E:=hd1.keep (Tch.refl [] w1).drew (by simp) (by simp)
          have q0:=hJ1.c0
          clear hJ c0 t1 hd
          go_region_with (first | (go_at_call 89; refine (HO.out _ hJ2).mono ?_; rintro e w2 ⟨rfl,rfl⟩) | (go_at_call 32; refine (HW.out _ hd2).mono ?_; rintro e w2 ⟨rfl,hd3,t3⟩))
          all_goals
           go_wp2
           go_ret
           exact HF.out _ hd3 (T1.drew.trans t3)
      · rw [if_pos hrc] at hf
        have hne:(E.rcode ((1+k:Nat):Int) != 0)=true:=by simpa using hrc
        have HF:Hid (∀ w1,IsDs w1 b bs E→Tch [b,bs] w w1→FnPost w b bs room l D (.returned (.int .i64 (E.rcode ((1+k:Nat):Int)))) w1):=fun w1 hd1 t1=>by
         have e:fins room l D=(E.rcode ((1+k:Nat):Int),E):=by unfold fins; rw [hf,if_neg hrc]
         unfold FnPost; rw [e]; exact ⟨rfl,hd1,t1⟩
        clear hf hrc hJ hd
        generalize E.rcode ((1+k:Nat):Int)=c at HF HR hne
        rw [show (((1+k:Nat):Int))=1+(k:Int) from by omega] at HR
        go_wp2_with (first | (go_at_call 46; refine HR.out.mono ?_; rintro e w1 ⟨rfl,hd1,t1⟩))
        go_ret
        exact HF.out _ hd1 (T.trans (t1.mono (by simp)))
    · obtain rfl:k=l.length:=by omega
      rw [List.drop_length,fin] at hf
      have HF:Hid (∀ w1,IsDs w1 b bs (E.wstate 0 (hdb []))→Tch [b,bs] w w1→FnPost w b bs room l D (.returned (.int .i64 (E.wcode 0 (hdb [])))) w1):=fun w1 hd1 t1=>by
       have e:fins room l D=(E.wcode 0 (hdb []),E.wstate 0 (hdb [])):=by unfold fins; rw [hf,if_pos rfl,wrs_one]
       unfold FnPost; rw [e]; exact ⟨rfl,hd1,t1⟩
      have HW:Hid (∀ w1,IsDs w1 b bs E→_):=fun w1 h1=>dwrite b bs E 0 (hdb []) w1 h1 (by omega)
      have hJ1:=HJN.out wr T
      have q0:=hJ1.c0
      have hd2:IsDs wr.drew b bs E:=hd.keep (Tch.refl [] wr).drew (by simp) (by simp)
      clear hf hd
      generalize E.wstate 0 (hdb [])=E2 at HW HF
      generalize E.wcode 0 (hdb [])=c at HW HF
      go_wp2_with fail
      go_region_with (first | (go_at_call 90; refine (HH.out _).mono ?_; rintro e w1 ⟨rfl,t1⟩; have hd3:=hd2.keep t1 (by simp) (by simp); have q1:=(hJ1.keep (Tch.refl [] wr).drew (by simp)).keep t1 (by simp) |>.c0) | (go_at_call 32; refine (HW.out _ hd3).mono ?_; rintro e w2 ⟨rfl,hd4,t4⟩))
      all_goals
       go_wp2
       go_ret
       exact HF.out _ hd4 ((T.drew.trans (t1.mono (by simp))).trans t4)
end Go.Proofs.YtlkgnljdpakkcaaGreatDoor
