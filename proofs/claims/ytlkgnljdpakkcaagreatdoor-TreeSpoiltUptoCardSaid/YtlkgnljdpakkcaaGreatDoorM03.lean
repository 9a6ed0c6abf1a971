/-
  Parts of the proof: Rdu, Txt, Nb, Ns, Ne, Np, Nl.
-/
import Derived.Test.YtlkgnljdpakkcaaGreatDoorM02
import Derived.Laws.Shifts
import Derived.Laws.Bits64b
import Derived.Outline
import Derived.IntWalk
import Derived.Laws.DeepStrings4
import Derived.Test.YtlkgnljdpakkcaaGreatDoorM01
import Derived.Deep.RegionHeld3
import Derived.Deep.DeepFit
import Derived.BigQuiet
import Derived.BigGuardPart
import Derived.WalkLawsBesides
import Derived.Deep.RegionLaw
import Derived.StillTailTactics
import Derived.Laws.StructEq
set_option linter.unusedVariables false
set_option linter.unusedSimpArgs false
/-
 'ReadUint' of package pack: the number whose one form stands at a place of a text,and the place behind it; or why there is none. Condition: the text's length is an int's.
-/
namespace Go.Proofs.YtlkgnljdpakkcaaGreatDoor
open Go.RowKit
def lastB (b i:Nat):Bool:=decide (¬ (b=0∧i≠0)∧¬ (i=9∧1 < b))
theorem last_any (b i:Nat) (w:World) (hb:b < 256) (hi:i < 10) :
 Calls Tryz.prog 125 #[.int .u8 b,.int .i64 i] w fun e w'=>e=.returned (.bool (lastB b i))∧w=w':=by
 by_cases h0:b=0
 · subst h0
   by_cases h1:i=0
   · subst h1
     have HX:=Lib.hid (show lastB 0 0=true from by decide)
     go_enter Tryz.func125,Tryz.ntmps125
     go_wp2
     go_ret
     exact ⟨by rw [HX.out]; rfl,rfl⟩
   · have e1:((i:Int) == 0)=false:=by simp; omega
     have HX:=Lib.hid (show lastB 0 i=false from by unfold lastB; simp [h1])
     clear h1
     go_enter Tryz.func125,Tryz.ntmps125
     go_wp2
     go_ret
     exact ⟨by rw [HX.out]; rfl,rfl⟩
 · have e0:((b:Int) == 0)=false:=by simp; omega
   by_cases h9:i < 9
   · have HX:=Lib.hid (show lastB b i=true from by unfold lastB; simp; omega)
     have e9:(i:Int) < 9:=by omega
     clear h0
     go_enter Tryz.func125,Tryz.ntmps125
     go_wp2
     go_ret
     exact ⟨by rw [HX.out]; rfl,rfl⟩
   · obtain rfl:i=9:=by omega
     by_cases hb1:b≤1
     · have HX:=Lib.hid (show lastB b 9=true from by unfold lastB; simp; omega)
       have hb2:(b:Int)≤1:=by omega
       clear h0
       go_enter Tryz.func125,Tryz.ntmps125
       go_wp2
       go_ret
       exact ⟨by rw [HX.out]; rfl,rfl⟩
     · have HX:=Lib.hid (show lastB b 9=false from by unfold lastB; simp; omega)
       have hb2:decide ((b:Int)≤1)=false:=by simp; omega
       clear h0
       go_enter Tryz.func125,Tryz.ntmps125
       go_wp2
       go_ret
       exact ⟨by rw [HX.out]; rfl,rfl⟩
theorem and128_all:∀ k:Fin 256,(bits .and .u8 ((k.val:Nat):Int) 128 != 0)=decide (128≤k.val):=by decide +kernel
theorem andNot128_all:∀ k:Fin 256,bits .andNot .u8 ((k.val:Nat):Int) 128=((k.val % 128:Nat):Int):=by decide +kernel
theorem and128 (b:Nat) (h:b < 256):(bits .and .u8 (b:Int) 128 != 0)=decide (128≤b):=and128_all ⟨b,h⟩
theorem andNot128 (b:Nat) (h:b < 256):bits .andNot .u8 (b:Int) 128=((b % 128:Nat):Int):=andNot128_all ⟨b,h⟩
theorem digit_in (v k b:Nat) (hb:b < 256) (hk:k≤9) (hv:v < 128 ^ k) :
 ∃ v':Nat,bits .or .u64 (v:Int) (IntKind.u64.wrap (IntKind.u64.wrap (bits .andNot .u8 (b:Int) 128) * 2 ^ (k * 7)))=(v':Int)∧v' < 18446744073709551616∧(k≤8∨b % 128≤1→v'=v+b % 128 * 128 ^ k):=by
 rw [andNot128 b hb]
 have e7:(2:Nat) ^ (k * 7)=128 ^ k:=by rw [Nat.mul_comm,Nat.pow_mul]
 have hk9:(128:Nat) ^ k≤128 ^ 9:=Nat.pow_le_pow_right (by omega) hk
 have e9:(128:Nat) ^ 9=9223372036854775808:=by decide
 have w1:IntKind.u64.wrap ((b % 128:Nat):Int)=((b % 128:Nat):Int):=by rw [IntKind.wrap_u64]; omega
 have w2:IntKind.u64.wrap (((b % 128:Nat):Int) * 2 ^ (k * 7))=((b % 128 * 128 ^ k % 18446744073709551616:Nat):Int):=by
  rw [IntKind.wrap_u64,← e7]
  simp only [Int.natCast_emod,Int.natCast_mul,Int.natCast_pow]
  rfl
 rw [w1,w2,bits_or_u64_nat _ _ (by omega) (by omega)]
 refine ⟨_,rfl,Nat.or_lt_two_pow (n:=64) (by omega) (by omega),fun h=>?_⟩
 have hlt:b % 128 * 128 ^ k < 18446744073709551616:=by
  rcases h with h | h
  · have h4:(128:Nat) ^ k≤128 ^ 8:=Nat.pow_le_pow_right (by omega) h
    have e8:(128:Nat) ^ 8=72057594037927936:=by decide
    have:b % 128 * 128 ^ k≤127 * 128 ^ k:=Nat.mul_le_mul_right _ (by omega)
    omega
  · have:b % 128 * 128 ^ k≤1 * 128 ^ k:=Nat.mul_le_mul_right _ h
    omega
 rw [Nat.mod_eq_of_lt hlt,Nat.or_comm,← e7,Nat.mul_comm,← Nat.two_pow_add_eq_or_of_lt (by rw [e7]; exact hv),Nat.add_comm]
def rduE (L:List UInt8) (p:Nat):Ending:=.returned (.tuple #[.int .u64 (rdu L 0 0).2.1,.int .i64 (if (rdu L 0 0).1=0 then ((p+(rdu L 0 0).2.2:Nat):Int) else 0),.int .i64 (rdu L 0 0).1])
theorem rduE_ok {L:List UInt8} {p v n:Nat} (h:rdu L 0 0=(0,v,n)):rduE L p=.returned (.tuple #[.int .u64 v,.int .i64 ((p+n:Nat):Int),.int .i64 0]):=by
 unfold rduE; rw [h,if_pos rfl]
theorem rduE_no {L:List UInt8} {p:Nat} {c:Int} (h:rdu L 0 0=(c,0,0)) (hc:c≠0):rduE L p=.returned (.tuple #[.int .u64 0,.int .i64 0,.int .i64 c]):=by
 unfold rduE; rw [h,if_neg hc]; rfl
def RdRel (l:List UInt8) (m:Nat) (v7 v23:Value):Prop :=
 ∃ k v:Nat,k≤m∧v23=.int .i64 k∧v7=.int .u64 v∧v < 128 ^ k∧rdu l 0 0=rdu (l.drop k) k v
set_option maxRecDepth 100000 in
set_option maxHeartbeats 1000000 in
theorem rdu_any (s:ByteArray) (p:Nat) (w:World) (hs:s.size≤9223372036854775807) (hp:p < s.size) :
 Calls Tryz.prog 86 #[.string s,.int .i64 p] w fun e w'=>e=rduE (s.data.toList.drop p) p∧w=w':=by
 have e1:decide ((p:Int) < 0)=false:=by simp
 have e2:decide ((s.size:Int)≤(p:Int))=false:=by simp; omega
 have e3:decide (s.size≤p)=false:=by simp; omega
 obtain ⟨m,hm⟩:∃ m:Nat,m=min (s.size - p) 10:=⟨_,rfl⟩
 have hm1:min ((s.size:Int) - (p:Int)) 10=(m:Int):=by omega
 have hm2:m≤10∧m≤s.size - p∧(m=10∨m=s.size - p):=by omega
 have HL:Hid (∃ L,L=s.data.toList.drop p):=⟨_,rfl⟩
 obtain ⟨L,hL⟩:=HL.out
 rw [← hL]
 have HLx:=Lib.hid hL
 clear hL hm HL
 go_enter Tryz.func86,Tryz.ntmps86
 go_wp2
 have HM:=Lib.hid hm1
 clear hm1
 go_loop [7,23] (fun v7 v23=>RdRel L m v7 v23) (fun _ v23=>m - (intOf v23).toNat)
 case atStart=>exact ⟨0,0,by omega,rfl,rfl,by simp,by simp⟩
 case round =>
  obtain ⟨k,v,hk,rfl,rfl,hv,hr⟩:=hrel
  by_cases hkm:k < m
  · have hps:p+k < s.size:=by omega
    obtain ⟨v',hv1,hv2,hv3⟩:=digit_in v k (s[p+k]'hps).toNat (UInt8.toNat_lt _) (by omega) hv
    have hd:L.drop k=(s[p+k]'hps) :: L.drop (k+1):=by
     rw [HLx.out,List.drop_drop,List.drop_drop,List.drop_eq_getElem_cons (by rw [← Lib.size_eq]; exact hps)]
     rfl
    have hb8:=(s[p+k]'hps).toNat_lt
    by_cases hb:128≤(s[p+k]'hps).toNat
    · have ha:(bits .and .u8 ((s[p+k]'hps).toNat:Int) 128 != 0)=true:=by rw [and128 _ (by omega)]; simpa using hb
      have HR:Hid (v' < 128 ^ (k+1)∧rdu L 0 0=rdu (L.drop (k+1)) (k+1) v'):=by
       by_cases h9:k=9
       · subst h9
         refine ⟨by simp; omega,?_⟩
         rw [hr,hd,rdu_more _ _ (by omega) hb,rdu_10,rdu_10]
       · rw [hv3 (by omega)]
         refine ⟨?_,by rw [hr,hd,rdu_more _ _ (by omega) hb]⟩
         rw [Nat.pow_succ]
         have:(s[p+k]'hps).toNat % 128 * 128 ^ k≤127 * 128 ^ k:=Nat.mul_le_mul_right _ (by omega)
         omega
      clear hr hd hv3 hb hv
      go_wp2
      go_round
      case rel=>exact ⟨k+1,v',by omega,by go_num,rfl,HR.out⟩
      case measure=>simp [intOf]; omega
    · have ha:(bits .and .u8 ((s[p+k]'hps).toNat:Int) 128 != 0)=false:=by rw [and128 _ (by omega)]; simpa using hb
      have HLAST:=Lib.hid (last_any (s[p+k]'hps).toNat k w (by omega) (by omega))
      have hrb:rdu L 0 0=rdu ((s[p+k]'hps) :: L.drop (k+1)) k v:=by rw [hr,hd]
      by_cases hl:lastB (s[p+k]'hps).toNat k=true
      · rw [hl] at HLAST
        have hl2:=hl
        unfold lastB at hl2
        simp only [decide_eq_true_eq] at hl2
        have HF:Hid (rdu L 0 0=(0,v',k+1)):=by
         have h3:=hv3 (by
          by_cases h9:k≤8
          · exact Or.inl h9
          · right; omega)
         show _=_
         rw [hrb,rdu_last _ _ (by omega) (by omega) hl2.1 hl2.2,h3,Nat.mod_eq_of_lt (by omega)]
        clear hr hd hv3 hb hv hrb hl hl2
        go_wp2_with (first | (go_at_call 125; refine HLAST.out.mono ?_; rintro e w' ⟨rfl,rfl⟩))
        go_ret3
        refine ⟨?_,rfl⟩
        rw [rduE_ok HF.out,show ((p+(k+1):Nat):Int)=(p:Int)+(k:Int)+1 from by omega]
        rfl
      · have hl3:lastB (s[p+k]'hps).toNat k=false:=by simpa using hl
        rw [hl3] at HLAST
        have hl2:=hl
        unfold lastB at hl2
        simp only [decide_eq_true_eq] at hl2
        have HF:Hid (rdu L 0 0=(21,0,0)):=by
         show _=_
         rw [hrb]
         by_cases h0:(s[p+k]'hps).toNat=0∧k≠0
         · exact rdu_zero _ _ (by omega) h0.1 h0.2
         · obtain rfl:k=9:=by omega
           exact rdu_ten _ _ (by omega) (by omega)
        clear hr hd hv3 hb hv hrb hl hl2 hl3
        go_wp2_with (first | (go_at_call 125; refine HLAST.out.mono ?_; rintro e w' ⟨rfl,rfl⟩))
        go_ret3
        refine ⟨?_,rfl⟩
        rw [rduE_no HF.out (by decide)]
        rfl
  · obtain rfl:k=m:=by omega
    by_cases h10:k=10
    · subst h10
      have HF:Hid (rdu L 0 0=(21,0,0)):=by show _=_; rw [hr,rdu_10]
      have e4:decide ((s.size:Int) - (p:Int) < 10)=false:=by simp; omega
      clear hr hv
      go_wp2
      go_ret3
      refine ⟨?_,rfl⟩
      rw [rduE_no HF.out (by decide)]
      rfl
    · have HF:Hid (rdu L 0 0=(20,0,0)):=by
       show _=_
       rw [hr,show L.drop k=[] from by rw [HLx.out,List.drop_drop]; exact List.drop_eq_nil_of_le (by rw [← Lib.size_eq]; omega),rdu_nil _ h10]
      have e4:decide ((s.size:Int) - (p:Int) < 10)=true:=by simp; omega
      clear hr hv
      go_wp2
      go_ret3
      refine ⟨?_,rfl⟩
      rw [rduE_no HF.out (by decide)]
      rfl
theorem rdu_low (s:ByteArray) (i:Int) (w:World) (h:i < 0∨s.size≤i) :
 Calls Tryz.prog 86 #[.string s,.int .i64 i] w fun e w'=>e=.returned (.tuple #[.int .u64 0,.int .i64 0,.int .i64 20])∧w=w':=by
 by_cases h0:i < 0
 · go_enter Tryz.func86,Tryz.ntmps86
   go_wp2
   go_ret3
   exact ⟨rfl,rfl⟩
 · have e1:decide (i < 0)=false:=by simpa using h0
   have e2:(s.size:Int)≤i:=by omega
   go_enter Tryz.func86,Tryz.ntmps86
   go_wp2
   go_ret3
   exact ⟨rfl,rfl⟩
theorem rdu_at (s:ByteArray) (p:Nat) (w:World) (hs:s.size≤9223372036854775807) :
 Calls Tryz.prog 86 #[.string s,.int .i64 p] w fun e w'=>e=rduE (s.data.toList.drop p) p∧w=w':=by
 by_cases hp:p < s.size
 · exact rdu_any s p w hs hp
 · refine (rdu_low s p w (Or.inr (by omega))).mono ?_
   rintro e w' ⟨rfl,rfl⟩
   refine ⟨?_,rfl⟩
   rw [rduE_no (c:=20) (by rw [List.drop_eq_nil_of_le (by rw [← Lib.size_eq]; omega),rdu_nil _ (by omega)]) (by omega)]
end Go.Proofs.YtlkgnljdpakkcaaGreatDoor
/-
 Texts with their length ahead: 'Text' and 'ReadText' of package pack,and the document's. Conditions: texts shorter than 10^9 bytes.
-/
namespace Go.Proofs.YtlkgnljdpakkcaaGreatDoor
open Go.RowKit
theorem tx_ba (s:ByteArray):(⟨(ub s.size).toArray⟩:ByteArray)++s=⟨(tx s).toArray⟩:=by
 have h:s=⟨s.data.toList.toArray⟩:=by cases s; simp
 conv=>lhs; rw [h]
 rw [jjoin]
 rfl
theorem text_any (s:ByteArray) (w:World) (hs:s.size≤1000000000) :
 Calls Tryz.prog 145 #[.string s] w fun e w'=>e=.returned (.string ⟨(tx s).toArray⟩)∧Tch [] w w':=by
 have HU:=Lib.hid (fun w1=>uint_any s.size w1 (by omega))
 have hcw:IntKind.u64.wrap (s.size:Int)=(s.size:Int):=by rw [IntKind.wrap_u64]; omega
 have hl:=ub_len 9 s.size (by simp; omega)
 have hsum:¬ 9223372036854775807 < (⟨(ub s.size).toArray⟩:ByteArray).size+s.size:=by
  have:(⟨(ub s.size).toArray⟩:ByteArray).size=(ub s.size).length:=List.size_toArray
  omega
 have HJ:=Lib.hid (tx_ba s)
 clear hl
 go_enter Tryz.func145,Tryz.ntmps145
 go_wp2_with fail
 refine (HU.out _).mono ?_
 rintro e w1 ⟨rfl,t1⟩
 go_wp2_with fail
 go_ret
 exact ⟨by rw [HJ.out]; rfl,t1⟩
theorem slice_str (s:ByteArray) (q v:Nat) (h:q+v≤s.size) (w:World):(Instr.slice 9 (.string s) (some (.int .i64 (q:Int))) (some (.int .i64 ((q:Int)+(v:Int)))) none).run Tryz.prog w=.ok (.string (s.extract q (q+v))) w:=by
 rw [run_slice_string_if _ _ _ _ _ _ _ Tryz.underlying9,if_pos (by omega),if_pos (by omega)]
 rw [Int.toNat_natCast,show ((q:Int)+(v:Int)).toNat=q+v from by omega]
def rtxE (L:List UInt8) (p:Nat):Ending:=.returned (.tuple #[.string (rtx L).2.1,.int .i64 (if (rtx L).1=0 then ((p+(rtx L).2.2:Nat):Int) else 0),.int .i64 (rtx L).1])
theorem ext_drop (s:ByteArray) (p n v:Nat):s.extract (p+n) (p+n+v)=⟨(((s.data.toList.drop p).drop n).take v).toArray⟩:=by
 apply ba_ext
 rw [Lib.extract_data,List.drop_drop,List.toList_toArray,show p+n+v - (p+n)=v from by omega]
theorem clone_any (s:ByteArray) (w:World) (hs:s.size≤1000000000) :
 Calls Tryz.prog 50 #[.string s] w fun e w'=>e=.returned (.string s)∧Tch [] w w':=by
 have HC:=Lib.hid (Tryz.stringslite_Clone s w (by omega))
 go_enter Tryz.func50,Tryz.ntmps50
 go_wp2_with fail
 refine HC.out.mono ?_
 rintro e w1 ⟨rfl,t1⟩
 go_wp2_with fail
 go_ret
 exact ⟨rfl,Tch.ofBelow t1⟩
theorem rdtext_at (s:ByteArray) (p:Nat) (w:World) (hs:s.size≤1000000000) :
 Calls Tryz.prog 190 #[.string s,.int .i64 p] w fun e w'=>e=rtxE (s.data.toList.drop p) p∧Tch [] w w':=by
 have HR:=Lib.hid (rdu_at s p w (by omega))
 obtain ⟨L,hL⟩:∃ L,s.data.toList.drop p=L:=⟨_,rfl⟩
 rcases hr:rdu L 0 0 with ⟨c,v,n⟩
 have hll:L.length=s.size - p:=by rw [← hL,List.length_drop,← Lib.size_eq]
 by_cases hc:c=0
 · subst hc
   have hb:=rdu_bound L 0 0 0 v n hr (by simp) (by omega) rfl
   rw [hL,rduE_ok hr] at HR
   have hq:p+n≤s.size:=by omega
   have hw1:IntKind.u64.wrap ((s.size:Int) - ((p+n:Nat):Int))=(s.size:Int) - ((p+n:Nat):Int):=by rw [IntKind.wrap_u64]; omega
   by_cases ht:L.length - n < v
   · have hd:decide ((s.size:Int) - ((p+n:Nat):Int) < (v:Int))=true:=by simp; omega
     have HF:Hid (rtxE L p=.returned (.tuple #[.string ⟨#[]⟩,.int .i64 0,.int .i64 20])):=by show _=_; unfold rtxE rtx; rw [hr]; simp [ht]
     rw [hL]
     generalize p+n=q at HR hq hw1 hd
     clear hr hL hll ht hb
     go_enter Tryz.func190,Tryz.ntmps190
     go_wp2_with (first | (go_at_call 86; refine HR.out.mono ?_; rintro e w1 ⟨rfl,rfl⟩))
     go_ret3
     exact ⟨HF.out.symm,Tch.refl _ _⟩
   · have hd:decide ((s.size:Int) - ((p+n:Nat):Int) < (v:Int))=false:=by simp; omega
     have HF:Hid (rtxE L p=.returned (.tuple #[.string (s.extract (p+n) (p+n+v)),.int .i64 (((p+n:Nat):Int)+(v:Int)),.int .i64 0])):=by
      show _=_
      unfold rtxE rtx
      rw [hr,ext_drop,hL]
      simp [ht,Int.add_assoc]
     rw [hL]
     have hv:p+n+v≤s.size:=by omega
     have hw2:IntKind.i64.wrap (v:Int)=(v:Int):=IntWalk.i64_in _ (by omega)
     have hsl:=slice_str s (p+n) v hv
     generalize p+n=q at HR hq hw1 hd HF hv hsl
     clear hr hL hll ht hb
     have HCL:=Lib.hid (clone_any (s.extract q (q+v)) w (by rw [Lib.size_eq,Lib.extract_data,List.length_take,List.length_drop,← Lib.size_eq]; omega))
     go_enter Tryz.func190,Tryz.ntmps190
     go_wp2_with (go_at_call 86; refine HR.out.mono ?_; rintro e w1 ⟨rfl,rfl⟩)
     refine HCL.out.mono ?_
     rintro e w1 ⟨rfl,t1⟩
     go_wp2_with fail
     go_ret3
     exact ⟨HF.out.symm,t1⟩
 · have HF:Hid (rtxE L p=.returned (.tuple #[.string ⟨#[]⟩,.int .i64 0,.int .i64 c])):=by show _=_; unfold rtxE rtx; rw [hr]; simp [hc]
   rw [hL] at HR
   unfold rduE at HR
   rw [hr] at HR
   simp only [if_neg hc] at HR
   have hne:(c != 0)=true:=by simpa using hc
   rw [hL]
   clear hr hL hll hc
   go_enter Tryz.func190,Tryz.ntmps190
   go_wp2_with (first | (go_at_call 86; refine HR.out.mono ?_; rintro e w1 ⟨rfl,rfl⟩))
   go_ret3
   exact ⟨HF.out.symm,Tch.refl _ _⟩
end Go.Proofs.YtlkgnljdpakkcaaGreatDoor
/-
 The bytes of a node,by the document: 'entry' and 'Bytes'. Conditions: texts shorter than 10^9 bytes,the whole shorter than 10^18.
-/
namespace Go.Proofs.YtlkgnljdpakkcaaGreatDoor
open Go.RowKit
def Fine (es:List En):Prop:=∀ e ∈ es,e.key.size≤1000000000∧e.val.size≤1000000000 ∧ -9223372036854775808≤e.kid∧e.kid≤9223372036854775807
theorem ub10 (n:Nat) (h:n < 18446744073709551616):(ub n).length≤10:=ub_len 9 n (by simp; omega)
theorem tx_len (s:ByteArray) (h:s.size≤1000000000):(tx s).length≤s.size+10:=by
 unfold tx
 have:=ub10 s.size (by omega)
 rw [List.length_append,← Lib.size_eq]; omega
end Go.Proofs.YtlkgnljdpakkcaaGreatDoor
/-
 'Split' of the document's nodes: the node alone,or as two. Conditions: texts shorter than 10^9 bytes,fewer than 10^8 entries.
-/
namespace Go.Proofs.YtlkgnljdpakkcaaGreatDoor
open Go.RowKit
def wsum (leaf:Bool) (es:List En) (k:Nat):Nat:=((es.take k).flatMap (enb leaf)).length
theorem wsum_step (leaf:Bool) (es:List En) (k:Nat) (e:En) (h:es[k]?=some e):wsum leaf es (k+1)=wsum leaf es k+(enb leaf e).length:=by
 unfold wsum; rw [List.take_add_one,h,List.flatMap_append]; simp
theorem wsum_all (leaf:Bool) (es:List En):wsum leaf es es.length=(es.flatMap (enb leaf)).length:=by unfold wsum; rw [List.take_length]
theorem wsum_le (leaf:Bool) (es:List En) (k:Nat):wsum leaf es k≤(es.flatMap (enb leaf)).length:=by
 unfold wsum
 have:(es.flatMap (enb leaf)).length=((es.take k).flatMap (enb leaf)).length+((es.drop k).flatMap (enb leaf)).length:=by
  rw [← List.length_append,← List.flatMap_append,List.take_append_drop]
 omega
theorem flat_fine {leaf:Bool} {es:List En} (hf:Fine es):(es.flatMap (enb leaf)).length≤es.length * 2000000020:=by
 induction es with
 | nil=>simp
 | cons e es ih =>
  have:=ih (fun a ha=>hf a (List.mem_cons_of_mem _ ha))
  have he:=hf e (List.mem_cons_self ..)
  have hk:=tx_len e.key he.1
  have hv:=tx_len e.val he.2.1
  have hu:=ub10 e.kid.toNat (by omega)
  rw [List.flatMap_cons,List.length_append,List.length_cons,Nat.add_mul]
  have:(enb leaf e).length≤2000000020:=by
   unfold enb
   rw [List.length_append]
   split <;> omega
  omega
theorem ndb_small {leaf:Bool} {es:List En} (hf:Fine es) (hl:es.length≤100000000):(ndb leaf es).length≤1000000000000000000:=by
 have h1:=flat_fine (leaf:=leaf) hf
 have h2:=ub10 es.length (by omega)
 unfold ndb
 simp only [List.length_cons,List.length_append]
 omega
theorem cut_step (leaf:Bool) (W last s k:Nat) (es:List En) (e:En) (h:es[k]?=some e):cutE leaf W last k s (es.drop k)=if W≤2 * (s+(enb leaf e).length)∨k=last then k+1 else cutE leaf W last (k+1) (s+(enb leaf e).length) (es.drop (k+1)):=by
 obtain ⟨hk,he⟩:=List.getElem?_eq_some_iff.1 h
 rw [List.drop_eq_getElem_cons hk,he,cutE]
end Go.Proofs.YtlkgnljdpakkcaaGreatDoor
/-
 'Decode' of the document's nodes: the node that the bytes are,or none. Condition: the text is shorter than 10^9 bytes.
-/
namespace Go.Proofs.YtlkgnljdpakkcaaGreatDoor
open Go.RowKit
theorem rtx_size {L:List UInt8} {t:ByteArray} {n:Nat} (h:rtx L=(0,t,n)):t.size≤L.length:=by
 unfold rtx at h
 rcases hr:rdu L 0 0 with ⟨c,v,m⟩
 rw [hr] at h
 simp only at h
 split at h
 · simp only [Prod.mk.injEq] at h; omega
 · split at h
   · simp at h
   · simp only [Prod.mk.injEq] at h
     rw [← h.2.1]
     show (List.toArray _).size≤_
     rw [List.size_toArray,List.length_take,List.length_drop]
     omega
theorem ddec_cons {b:UInt8} {M:List UInt8} {cnt n0:Nat} (hb:b=1∨b=2) (hr:rdu M 0 0=(0,cnt,n0)):ddec (b :: M)=(match rdes (b == 1) (b :: M) cnt (1+n0) [] with | none=>none | some (es,p)=>if nil0 ((b :: M).drop p) && fitN (b == 1) es then some (b == 1,es) else none):=by
 unfold ddec
 have:¬ (b≠1∧b≠2):=by rcases hb with h | h <;> simp [h]
 simp only
 rw [if_neg this,hr]
 rcases rdes (b == 1) (b :: M) cnt (1+n0) [] with _ | ⟨es,p⟩ <;> simp
end Go.Proofs.YtlkgnljdpakkcaaGreatDoor
/-
 'Place' of the document's nodes: where a key belongs. Condition: there are fewer than 10^9 entries.
-/
namespace Go.Proofs.YtlkgnljdpakkcaaGreatDoor
open Go.RowKit
def hitN (es:List En) (key:ByteArray):Bool:=match es[plcN es key]? with
 | some e=>e.key.toList == key.toList
 | none=>false
end Go.Proofs.YtlkgnljdpakkcaaGreatDoor
/-
 The law's own functions over nodes: 'ref','fit','alike'. Conditions: lists and texts of fewer than 10^8 parts.
-/
namespace Go.Proofs.YtlkgnljdpakkcaaGreatDoor
open Go.RowKit
structure Nv where
 leaf:Bool
 ka:Option Addr
 kn:Nat
 kc:Nat
 va:Option Addr
 vn:Nat
 vc:Nat
 ia:Option Addr
 im:Nat
 ic:Nat
 kb:Nat
 ko:Nat
 vb:Nat
 vo:Nat
 ib:Nat
 io:Nat
 keys:List ByteArray
 vals:List ByteArray
 kids:List Int
structure IsNv (w:World) (v:Nv):Prop where
 rk:IsR fStr 1 w v.ka v.kn v.kb v.ko v.keys
 rv:IsR fStr 1 w v.va v.vn v.vb v.vo v.vals
 ri:IsR fInt 1 w v.ia v.im v.ib v.io v.kids
theorem IsNv.keep0 {w w':World} {v:Nv} (h:IsNv w v) (t:Tch [] w w'):IsNv w' v:=⟨h.rk.keep0 t,h.rv.keep0 t,h.ri.keep0 t⟩
def Nv.es (v:Nv):List En:=mkN v.leaf v.keys v.vals v.kids
structure Nv.Ok (v:Nv):Prop where
 lk:v.keys.length≤100000000
 lv:v.vals.length≤100000000
 li:v.kids.length≤100000000
 ks:∀ x ∈ v.keys,x.size≤100000000
 vs:∀ x ∈ v.vals,x.size≤100000000
 is:∀ x ∈ v.kids,-9223372036854775808≤x∧x≤9223372036854775807
 tot:(v.keys.map ByteArray.size).sum+(v.vals.map ByteArray.size).sum≤100000000
def Nv.upto (v:Nv) (B:Nat):Prop:=v.keys.length≤B∧v.vals.length≤B∧v.kids.length≤B∧(v.keys.map ByteArray.size).sum+(v.vals.map ByteArray.size).sum≤B
def Nv.lens (v:Nv):Bool:=if v.leaf then v.vals.length == v.keys.length && v.kids.length == 0 else v.kids.length == v.keys.length && v.vals.length == 0
theorem Nv.es_len (v:Nv):v.es.length=v.keys.length:=mkN_len _ _ _ _
theorem Nv.fine {v:Nv} (h:v.Ok):Fine v.es:=by
 intro e he
 unfold Nv.es mkN at he
 obtain ⟨p,hp,rfl⟩:=List.mem_map.1 he
 have hk:p.1 ∈ v.keys:=by
  obtain ⟨k,i⟩:=p
  have:=(List.mem_zipIdx' hp).2
  rw [this]; exact List.getElem_mem _
 have h1:=h.ks _ hk
 have hv:(v.vals.getD p.2 ⟨#[]⟩).size≤100000000:=by
  rw [List.getD_eq_getElem?_getD]
  rcases hh:v.vals[p.2]? with _ | x
  · decide
  · exact h.vs x (List.mem_of_getElem? hh)
 have hi : -9223372036854775808≤v.kids.getD p.2 0∧v.kids.getD p.2 0≤9223372036854775807:=by
  rw [List.getD_eq_getElem?_getD]
  rcases hh:v.kids[p.2]? with _ | x
  · decide
  · exact h.is x (List.mem_of_getElem? hh)
 have h0:(⟨#[]⟩:ByteArray).size=0:=rfl
 unfold mkE
 simp only
 cases v.leaf
 · simp only [if_false,Bool.false_eq_true]; omega
 · simp only [if_true]; omega
end Go.Proofs.YtlkgnljdpakkcaaGreatDoor
