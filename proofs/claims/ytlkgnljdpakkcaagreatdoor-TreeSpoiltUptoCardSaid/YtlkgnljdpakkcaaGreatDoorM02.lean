/-
  Parts of the proof: Shelf, Cc, Rp, Num, Nd, Str, Uint.
-/
import Derived.Shelf.Strings.Builder1
import Derived.Shelf.Strings.Builder2
import Derived.Shelf.Strings.Trim
import Derived.Shelf.Small.Utf8
import Derived.Shelf.Small.Bits
import Derived.Shelf.Small.Strs
import Derived.Shelf.Strings.BuilderF
import Derived.Shelf.Strings.BuilderK
import Derived.Shelf.Strconv.Itoa0
import Derived.Shelf.LaysM
import Derived.Shelf.Strconv.Clone
import Derived.Shelf.Strings.Search1
import Derived.Shelf.Strings.Search2
import Derived.Shelf.Strings.Search3
import Derived.Shelf.Strings.Cut
import Derived.Shelf.Strings.Shaped
import Derived.Shelf.Strings.Prefix
import Derived.Shelf.Strings.Runes
import Derived.Shelf.Strings.AsciiSet
import Derived.Shelf.Bits.Mul64
import Derived.Shelf.Strings.Repeat
import Derived.Shelf.Unicode.DecodeSlow
import Derived.Test.YtlkgnljdpakkcaaGreatDoorProg
import Derived.Test.YtlkgnljdpakkcaaGreatDoorM01
import Derived.LoopN
import Derived.OwnWalk
import Derived.StillTailTactics
import Derived.Lib.Strings
import GoSem.Op.String
import Derived.Test.YtlkgnljdpakkcaaGreatDoorRows
import Derived.Laws.NewBlocks
import Derived.Lib.BufferWrite
import Derived.Great.Walk
import Derived.Laws.BytesString
import Derived.Deep.DeepMust
import Derived.Lib.SmallJoins
import Derived.Laws.AppendOwn
import Derived.Laws.Bits
import Derived.Outline
set_option linter.unusedVariables false
set_option linter.unusedSimpArgs false
/-
 DERIVED: THE SHELF's CONTRACTS AT THIS DUMP,IN PLAIN WORDS (tools/lay-plain.mjs out of 'YtlkgnljdpakkcaaGreatDoorShelf.lean',which tools/lay-shelf.mjs wrote): THE SAME DECLARATIONS UNDER THE SAME NAMES: 'import','namespace','open','def','theorem' AND NOTHING ELSE: no command of the shelf's: FOR A HAND-IN. Each laying: the table of numbers ('.._ren') and one theorem,a field a fact of the dump's own or the kernel's comparison; each contract: ONE APPLICATION.
-/
namespace Go.Proofs
open Go.Shelf
def Tryz.lays169_ren:Go.Shelf.Ren:=⟨fun | 169=>135 | n=>n,fun | 70=>237 | 9=>9 | 0=>0 | 72=>239 | 37=>216 | 127=>246 | 3=>3 | 5=>5 | n=>n,fun | n=>n⟩
theorem Tryz.lays169:Go.Proofs.Lays.n169 Tryz.prog Tryz.lays169_ren:={
 mixed:=by kernel_rfl
 f169:=Tryz.func135.trans (congrArg some (by kernel_rfl))
 t0:=Tryz.underlying0
 a0:=Tryz.isAgg0
 z0:=Tryz.sizeOf0
 v0:=Tryz.zeroValue0
 t3:=Tryz.underlying3
 a3:=Tryz.isAgg3
 z3:=Tryz.sizeOf3
 v3:=Tryz.zeroValue3
 t9:=Tryz.underlying9
 a9:=Tryz.isAgg9
 z9:=Tryz.sizeOf9
 v9:=Tryz.zeroValue9
 t37:=Tryz.underlying216
 a37:=Tryz.isAgg216
 z37:=Tryz.sizeOf216
 v37:=Tryz.zeroValue216
 t70:=Tryz.underlying237
 a70:=Tryz.isAgg237
 z70:=Tryz.sizeOf237
 v70:=Tryz.zeroValue237
 t72:=Tryz.underlying239
 a72:=Tryz.isAgg239
 z72:=Tryz.sizeOf239
 v72:=Tryz.zeroValue239
 t127:=Tryz.underlying246
 a127:=Tryz.isAgg246
 z127:=Tryz.sizeOf246
 v127:=Tryz.zeroValue246 }
theorem Tryz.Builder_Extra_169:Builder.Extra Tryz.prog Tryz.lays169_ren:={
 sizeBuilder:=by kernel_rfl
 liesBuilder:=by kernel_rfl
 t5:=Tryz.underlying5
 a5:=Tryz.isAgg5
 z5:=Tryz.sizeOf5
 v5:=Tryz.zeroValue5
 infoByte:=by kernel_rfl
 cellsByte:=by kernel_rfl
 sizeByte:=by kernel_rfl
 neB5:=by decide }
open Go.RowKit in
theorem Tryz.Builder_String_any (B b:Nat) (l:List UInt8) (w:World) (h:Lib.IsBuilder 239 5 B b (Lib.byteCells l) w) (hBw:B≤w.heap.size) :
 Calls Tryz.prog 135 #[.pointer (some ⟨b,0,none⟩)] w fun e w'=>e=.returned (.string ⟨l.toArray⟩)∧Below B w w':=Any.Builder_String_any Tryz.lays169 Tryz.Builder_Extra_169 B b l w h hBw
def Tryz.lays160_ren:Go.Shelf.Ren:=⟨fun | 160=>88 | 232=>127 | 231=>126 | 227=>128 | 234=>130 | 233=>129 | 236=>132 | 235=>131 | 228=>163 | 271=>166 | 151=>165 | 197=>164 | 120=>202 | 152=>201 | 260=>200 | 137=>225 | 119=>226 | 224=>217 | 225=>216 | 217=>215 | 266=>234 | n=>n,fun | 9=>9 | 4=>4 | 3=>3 | 5=>5 | 117=>233 | 116=>232 | 0=>0 | 124=>236 | 21=>21 | 105=>266 | 46=>245 | 119=>324 | 139=>327 | 138=>326 | n=>n,fun | 3=>1 | 4=>2 | n=>n⟩
theorem Tryz.lays160:Go.Proofs.Lays.n160 Tryz.prog Tryz.lays160_ren:={
 mixed:=by kernel_rfl
 f119:=Tryz.func226.trans (congrArg some (by kernel_rfl))
 f120:=Tryz.func202.trans (congrArg some (by kernel_rfl))
 f137:=Tryz.func225.trans (congrArg some (by kernel_rfl))
 f151:=Tryz.func165.trans (congrArg some (by kernel_rfl))
 f152:=Tryz.func201.trans (congrArg some (by kernel_rfl))
 f160:=Tryz.func88.trans (congrArg some (by kernel_rfl))
 f197:=Tryz.func164.trans (congrArg some (by kernel_rfl))
 f217:=Tryz.func215.trans (congrArg some (by kernel_rfl))
 f224:=Tryz.func217.trans (congrArg some (by kernel_rfl))
 f225:=Tryz.func216.trans (congrArg some (by kernel_rfl))
 f227:=Tryz.func128.trans (congrArg some (by kernel_rfl))
 f228:=Tryz.func163.trans (congrArg some (by kernel_rfl))
 f231:=Tryz.func126.trans (congrArg some (by kernel_rfl))
 f232:=Tryz.func127.trans (congrArg some (by kernel_rfl))
 f233:=Tryz.func129.trans (congrArg some (by kernel_rfl))
 f234:=Tryz.func130.trans (congrArg some (by kernel_rfl))
 f235:=Tryz.func131.trans (congrArg some (by kernel_rfl))
 f236:=Tryz.func132.trans (congrArg some (by kernel_rfl))
 f260:=Tryz.func200.trans (congrArg some (by kernel_rfl))
 f266:=Tryz.func234.trans (congrArg some (by kernel_rfl))
 f271:=Tryz.func166.trans (congrArg some (by kernel_rfl))
 t0:=Tryz.underlying0
 a0:=Tryz.isAgg0
 z0:=Tryz.sizeOf0
 v0:=Tryz.zeroValue0
 t3:=Tryz.underlying3
 a3:=Tryz.isAgg3
 z3:=Tryz.sizeOf3
 v3:=Tryz.zeroValue3
 t4:=Tryz.underlying4
 a4:=Tryz.isAgg4
 z4:=Tryz.sizeOf4
 v4:=Tryz.zeroValue4
 t5:=Tryz.underlying5
 a5:=Tryz.isAgg5
 z5:=Tryz.sizeOf5
 v5:=Tryz.zeroValue5
 t9:=Tryz.underlying9
 a9:=Tryz.isAgg9
 z9:=Tryz.sizeOf9
 v9:=Tryz.zeroValue9
 t21:=Tryz.underlying21
 a21:=Tryz.isAgg21
 z21:=Tryz.sizeOf21
 v21:=Tryz.zeroValue21
 t46:=Tryz.underlying245
 a46:=Tryz.isAgg245
 z46:=Tryz.sizeOf245
 v46:=Tryz.zeroValue245
 t105:=Tryz.underlying266
 a105:=Tryz.isAgg266
 z105:=Tryz.sizeOf266
 v105:=Tryz.zeroValue266
 t116:=Tryz.underlying232
 a116:=Tryz.isAgg232
 z116:=Tryz.sizeOf232
 t117:=Tryz.underlying233
 a117:=Tryz.isAgg233
 z117:=Tryz.sizeOf233
 v117:=Tryz.zeroValue233
 t119:=Tryz.underlying324
 a119:=Tryz.isAgg324
 z119:=Tryz.sizeOf324
 t124:=Tryz.underlying236
 a124:=Tryz.isAgg236
 z124:=Tryz.sizeOf236
 v124:=Tryz.zeroValue236
 t138:=Tryz.underlying326
 a138:=Tryz.isAgg326
 z138:=Tryz.sizeOf326
 v138:=Tryz.zeroValue326
 t139:=Tryz.underlying327
 a139:=Tryz.isAgg327
 z139:=Tryz.sizeOf327
 v139:=Tryz.zeroValue327
 g3:=by kernel_rfl
 g4:=by kernel_rfl }
open Go.RowKit in
theorem Tryz.strings_Trim_one (s:ByteArray) (c:UInt8) (hc:c.toNat < 128) (w:World) (hs:s.size≤9223372036854775807) :
 Calls Tryz.prog 88 #[.string s,.string ⟨#[c]⟩] w fun e w'=>e=.returned (.string ⟨(Lib.trimB s.data.toList c).toArray⟩)∧(w'=w∨w'=w.drew):=Any.strings_Trim_one Tryz.lays160 s c hc w hs
def Tryz.laysM316_ren:Go.Shelf.Ren:=⟨fun | 316=>93 | n=>n,fun | 9=>9 | 3=>3 | 4=>4 | 37=>216 | 0=>0 | 127=>246 | 5=>5 | n=>n,fun | n=>n⟩
theorem Tryz.laysM316:Go.Proofs.LaysM.n316 Tryz.prog Tryz.laysM316_ren:={
 mixed:=by kernel_rfl
 f316:=Tryz.func93.trans (congrArg some (by kernel_rfl))
 t0:=Tryz.underlying0
 a0:=Tryz.isAgg0
 z0:=Tryz.sizeOf0
 v0:=Tryz.zeroValue0
 t3:=Tryz.underlying3
 a3:=Tryz.isAgg3
 z3:=Tryz.sizeOf3
 v3:=Tryz.zeroValue3
 t4:=Tryz.underlying4
 a4:=Tryz.isAgg4
 z4:=Tryz.sizeOf4
 v4:=Tryz.zeroValue4
 t9:=Tryz.underlying9
 a9:=Tryz.isAgg9
 z9:=Tryz.sizeOf9
 v9:=Tryz.zeroValue9
 t37:=Tryz.underlying216
 a37:=Tryz.isAgg216
 z37:=Tryz.sizeOf216
 v37:=Tryz.zeroValue216
 t127:=Tryz.underlying246
 a127:=Tryz.isAgg246
 z127:=Tryz.sizeOf246
 v127:=Tryz.zeroValue246
 t5:=Tryz.underlying5
 a5:=Tryz.isAgg5
 z5:=Tryz.sizeOf5
 v5:=Tryz.zeroValue5
 i0:=by kernel_rfl
 i3:=by kernel_rfl
 i4:=by kernel_rfl
 i5:=by kernel_rfl
 i9:=by kernel_rfl
 i37:=by kernel_rfl
 i127:=by kernel_rfl }
open Go.RowKit in
theorem Tryz.stringslite_Clone (s:ByteArray) (w:World) (hlim:s.size≤281474976710656) :
 Calls Tryz.prog 93 #[.string s] w fun e w'=>e=.returned (.string s)∧Below w.heap.size w w':=Any.stringslite_Clone Tryz.laysM316 s w hlim
def Tryz.lays105_ren:Go.Shelf.Ren:=⟨fun | 105=>124 | 212=>161 | 99=>113 | 165=>162 | 166=>133 | 170=>155 | 169=>135 | 263=>197 | 264=>198 | 206=>152 | 240=>167 | 241=>199 | 276=>203 | 277=>224 | n=>n,fun | 9=>9 | 3=>3 | 4=>4 | 20=>20 | 0=>0 | 46=>245 | 109=>263 | 5=>5 | 72=>239 | 76=>242 | 51=>113 | 146=>299 | 53=>185 | 148=>301 | 70=>237 | 37=>216 | 75=>241 | 127=>246 | 164=>304 | 80=>184 | n=>n,fun | n=>n⟩
theorem Tryz.lays105:Go.Proofs.Lays.n105 Tryz.prog Tryz.lays105_ren:={
 mixed:=by kernel_rfl
 f99:=Tryz.func113.trans (congrArg some (by kernel_rfl))
 f105:=Tryz.func124.trans (congrArg some (by kernel_rfl))
 f165:=Tryz.func162.trans (congrArg some (by kernel_rfl))
 f166:=Tryz.func133.trans (congrArg some (by kernel_rfl))
 f169:=Tryz.func135.trans (congrArg some (by kernel_rfl))
 f170:=Tryz.func155.trans (congrArg some (by kernel_rfl))
 f206:=Tryz.func152.trans (congrArg some (by kernel_rfl))
 f212:=Tryz.func161.trans (congrArg some (by kernel_rfl))
 f240:=Tryz.func167.trans (congrArg some (by kernel_rfl))
 f241:=Tryz.func199.trans (congrArg some (by kernel_rfl))
 f263:=Tryz.func197.trans (congrArg some (by kernel_rfl))
 f264:=Tryz.func198.trans (congrArg some (by kernel_rfl))
 f276:=Tryz.func203.trans (congrArg some (by kernel_rfl))
 f277:=Tryz.func224.trans (congrArg some (by kernel_rfl))
 t0:=Tryz.underlying0
 a0:=Tryz.isAgg0
 z0:=Tryz.sizeOf0
 v0:=Tryz.zeroValue0
 t3:=Tryz.underlying3
 a3:=Tryz.isAgg3
 z3:=Tryz.sizeOf3
 v3:=Tryz.zeroValue3
 t4:=Tryz.underlying4
 a4:=Tryz.isAgg4
 z4:=Tryz.sizeOf4
 v4:=Tryz.zeroValue4
 t5:=Tryz.underlying5
 a5:=Tryz.isAgg5
 z5:=Tryz.sizeOf5
 v5:=Tryz.zeroValue5
 t9:=Tryz.underlying9
 a9:=Tryz.isAgg9
 z9:=Tryz.sizeOf9
 v9:=Tryz.zeroValue9
 t20:=Tryz.underlying20
 a20:=Tryz.isAgg20
 z20:=Tryz.sizeOf20
 v20:=Tryz.zeroValue20
 t37:=Tryz.underlying216
 a37:=Tryz.isAgg216
 z37:=Tryz.sizeOf216
 v37:=Tryz.zeroValue216
 t46:=Tryz.underlying245
 a46:=Tryz.isAgg245
 z46:=Tryz.sizeOf245
 v46:=Tryz.zeroValue245
 t51:=Tryz.underlying113
 a51:=Tryz.isAgg113
 z51:=Tryz.sizeOf113
 v51:=Tryz.zeroValue113
 t53:=Tryz.underlying185
 a53:=Tryz.isAgg185
 z53:=Tryz.sizeOf185
 v53:=Tryz.zeroValue185
 t70:=Tryz.underlying237
 a70:=Tryz.isAgg237
 z70:=Tryz.sizeOf237
 v70:=Tryz.zeroValue237
 t72:=Tryz.underlying239
 a72:=Tryz.isAgg239
 z72:=Tryz.sizeOf239
 v72:=Tryz.zeroValue239
 t75:=Tryz.underlying241
 a75:=Tryz.isAgg241
 z75:=Tryz.sizeOf241
 v75:=Tryz.zeroValue241
 t76:=Tryz.underlying242
 a76:=Tryz.isAgg242
 z76:=Tryz.sizeOf242
 v76:=Tryz.zeroValue242
 t109:=Tryz.underlying263
 a109:=Tryz.isAgg263
 z109:=Tryz.sizeOf263
 v109:=Tryz.zeroValue263
 t127:=Tryz.underlying246
 a127:=Tryz.isAgg246
 z127:=Tryz.sizeOf246
 v127:=Tryz.zeroValue246
 t146:=Tryz.underlying299
 a146:=Tryz.isAgg299
 z146:=Tryz.sizeOf299
 v146:=Tryz.zeroValue299
 t148:=Tryz.underlying301
 a148:=Tryz.isAgg301
 z148:=Tryz.sizeOf301
 v148:=Tryz.zeroValue301
 t164:=Tryz.underlying304
 a164:=Tryz.isAgg304
 z164:=Tryz.sizeOf304
 v164:=Tryz.zeroValue304 }
theorem Tryz.Builder_Extra_105:Builder.Extra Tryz.prog Tryz.lays105_ren:={
 sizeBuilder:=by kernel_rfl
 liesBuilder:=by kernel_rfl
 t5:=Tryz.underlying5
 a5:=Tryz.isAgg5
 z5:=Tryz.sizeOf5
 v5:=Tryz.zeroValue5
 infoByte:=by kernel_rfl
 cellsByte:=by kernel_rfl
 sizeByte:=by kernel_rfl
 neB5:=by decide }
open Go.RowKit Go.Lib in
theorem Tryz.strings_Repeat (s:ByteArray) (c:Nat) (w:World) (hc:c≤9223372036854775807) (hlen:s.size * c≤140737488355328) :
 Calls Tryz.prog 124 #[.string s,.int .i64 c] w fun e w'=>e=.returned (.string ⟨(Lib.repeatL s.data.toList c).toArray⟩)∧Below w.heap.size w w':=Any.strings_Repeat Tryz.lays105 Tryz.Builder_Extra_105 s c w hc hlen
end Go.Proofs
/-
 slices.Concat of three slices of texts,or of numbers: a new row. Conditions: the slices are short.
-/
namespace Go.Proofs.YtlkgnljdpakkcaaGreatDoor
open Go.RowKit
section
variable {P:Program} (w:World)
theorem run_append_isr {α:Type} (enc:α→Value) (henc:∀ x,(enc x).oneCell'=true) (base:Nat) (t ty e:TypeId) (i:TypeInfo) (z:Value) (bytes:Nat) (ht:P.underlying t=some (.slice e)) (hi:P.info? e=some i) (hz:i.zero=some z)
 (hsize:i.size=1) (hby:i.bytes=bytes) (hzs:z.cells.size=1) (v:Value) (n:Nat) (xs:List Value) (hown:w.ownsRow base e 1 v n xs)
 (a:Option Addr) (m c b o:Nat) (ys:List α) (hr:IsR (fun x=>[enc x]) 1 w a m b o ys) (hnil:a=none→m=0∧c=0) (h63:n+m≤maxLen) (hbytes:(n+m) * bytes≤140737488355328) (hbase:base≤w.heap.size) :
 ∃ v' w',(Builtin.append_ #[t,t] ty #[v,.slice a m c]).run P w=.ok v' w'∧w'.ownsRow base e 1 v' (n+m) (xs++ys.map enc)∧w.grownBy w' v.ownBlock:=by
 obtain rfl:=hr.hlen
 cases a with
 | none =>
  obtain ⟨h0,rfl⟩:=hnil rfl
  have hy:ys=[]:=List.eq_nil_of_length_eq_zero h0
  subst hy
  refine ⟨v,w,run_append_owned_none w base t ty e i 1 ht hi v n xs hown,by simpa using hown,⟨rfl,rfl,rfl,Nat.le_refl _,fun _ _ _=>rfl⟩⟩
 | some a =>
  obtain ⟨v',w',h1,h2,h3,_⟩:=run_append_own (P:=P) w base t ty e i z 1 bytes ht hi hz hsize hby hzs (by omega) v n xs hown a ys.length c (ys.map enc) (by simp) (fun j u hu=>by
   rw [List.getElem?_map] at hu
   cases hy:ys[j]? with
   | none=>rw [hy] at hu; simp at hu
   | some y =>
    rw [hy] at hu
    simp only [Option.map_some,Option.some.injEq] at hu
    have hp:0 < ys.length:=by have:=(List.getElem?_eq_some_iff.1 hy).1; omega
    have ha:=hr.some_ hp
    cases ha
    have:=hr.one hy (v:=enc y) rfl
    rw [← hu]
    have hadd:(⟨b,o,none⟩:Addr).add j=⟨b,o+j,none⟩:=by unfold Addr.add; split <;> simp_all
    rw [hadd]; exact this) (fun u hu=>by obtain ⟨y,_,rfl⟩:=List.mem_map.1 hu; exact henc y) h63 hbytes hbase
  exact ⟨v',w',h1,h2,h3⟩
theorem wpList_append_isr {ops:Array Oper} {rest:List Oper} {o:Oper} {ac:Act} {Q:Exit→Act→World→Prop} (hgd:o.guard=none) (s x:Operand) (t:TypeId)
 (ho:o.op=.call { callee:=.builtin .append,args:=#[s,x],argTypes:=#[t,t] }) {α:Type} (enc:α→Value) (henc:∀ x,(enc x).oneCell'=true) (base:Nat) (e:TypeId) (i:TypeInfo) (z:Value) (bytes:Nat) (ht:P.underlying t=some (.slice e)) (hi:P.info? e=some i) (hz:i.zero=some z)
 (hsize:i.size=1) (hby:i.bytes=bytes) (hzs:z.cells.size=1) (v:Value) (n:Nat) (xs:List Value) (hs:ac.eval s=v) (hown:w.ownsRow base e 1 v n xs)
 (a:Option Addr) (m c b of:Nat) (ys:List α) (hx:ac.eval x=.slice a m c) (hr:IsR (fun x=>[enc x]) 1 w a m b of ys) (hnil:a=none→m=0∧c=0) (h63:n+m≤maxLen) (hbytes:(n+m) * bytes≤140737488355328) (hbase:base≤w.heap.size)
 (h:∀ v' w',w'.ownsRow base e 1 v' (n+m) (xs++ys.map enc)→w.grownBy w' v.ownBlock→wpList P ops Q rest (ac.put o.dst v') w'):wpList P ops Q (o :: rest) ac w :=
 wpList_plain hgd fun _ hK=>by
  obtain ⟨v',w',hr,h2,h3⟩:=run_append_isr (P:=P) w enc henc base t o.type e i z bytes ht hi hz hsize hby hzs v n xs hown a m c b of ys hr hnil h63 hbytes hbase
  unfold Oper.wp execOp
  simp only [ho,resolve,invoke,builtin,Sem.run_bind,Sem.run_pure,Result.andThen_ok,List.map_toArray,List.map_cons,List.map_nil,hs,hx,hr]
  exact hK _ _ (h v' w' h2 h3)
theorem run_append_make (t ti ty e:TypeId) (i:TypeInfo) (z:Value) (q:IntKind) (ht:P.underlying t=some (.slice e)) (hti:P.underlying ti=some (.int q)) (hi:P.info? e=some i) (hz:i.zero=some z) (hsize:i.size=1) (hzs:z.cells.size=1)
 (n:Nat) (h0:0 < n) (hn:n≤1000000000) (hb:i.bytes≤16) :
 (Builtin.append_ #[t,ti] ty #[.slice none 0 0,.int .i64 (n:Int)]).run P w =
  .ok (.slice (some ⟨w.heap.size,0,none⟩) n (grownCap w n 0 e)) (w.drew.alloc (.cells (Builtin.zeroCells z.cells n++Builtin.zeroCells z.cells (grownCap w n 0 e - n)) e)):=by
 have hn0:n≠0:=by omega
 have h63':¬ (9223372036854775807 < (n:Int)):=by omega
 have hl0:¬ ((n:Int) < 0):=by omega
 have hwr:IntKind.i64.wrap (n:Int)=(n:Int):=IntWalk.i64_in _ (by omega)
 have hbb:(n:Int) * (i.bytes:Int)≤1000000000 * 16:=by
  have h1:n * i.bytes≤1000000000 * 16:=Nat.mul_le_mul hn hb
  have h2:((n * i.bytes:Nat):Int)≤((1000000000 * 16:Nat):Int):=Int.ofNat_le.2 h1
  simpa using h2
 have hbig:¬ (281474976710656 < (n:Int) * (i.bytes:Int)):=by omega
 have h48':¬ (281474976710656 < Builtin.nextslicecap n 0 * i.bytes):=by
  rw [nextslicecap_zero h0]
  have h1:n * i.bytes≤1000000000 * 16:=Nat.mul_le_mul hn hb
  omega
 simp [Builtin.append_,run_underlying ht,run_underlying hti,sizeOf,typeInfo,zeroValue,hi,hz,hsize,asInt,asIntOf,hwr,hl0,hbig,hn0,h63',h48',Question.forced,newRow,grownCap,run_firstCells_none]
theorem wpList_append_make {ops:Array Oper} {rest:List Oper} {o:Oper} {ac:Act} {Q:Exit→Act→World→Prop} (hgd:o.guard=none) (s x:Operand) (t ti:TypeId)
 (ho:o.op=.call { callee:=.builtin .append,args:=#[s,x],argTypes:=#[t,ti] }) (e:TypeId) (i:TypeInfo) (z:Value) (q:IntKind) (ht:P.underlying t=some (.slice e)) (hti:P.underlying ti=some (.int q)) (hi:P.info? e=some i) (hz:i.zero=some z) (hsize:i.size=1) (hzs:z.cells.size=1)
 (n:Nat) (h0:0 < n) (hn:n≤1000000000) (hb:i.bytes≤16) (hs:ac.eval s=.slice none 0 0) (hx:ac.eval x=.int .i64 (n:Int))
 (h:wpList P ops Q rest (ac.put o.dst (.slice (some ⟨w.heap.size,0,none⟩) n (grownCap w n 0 e))) (w.drew.alloc (.cells (Builtin.zeroCells z.cells n++Builtin.zeroCells z.cells (grownCap w n 0 e - n)) e))):wpList P ops Q (o :: rest) ac w :=
 wpList_plain hgd fun _ hK=>by
  have hr:=run_append_make (P:=P) w t ti o.type e i z q ht hti hi hz hsize hzs n h0 hn hb
  unfold Oper.wp execOp
  simp only [ho,resolve,invoke,builtin,Sem.run_bind,Sem.run_pure,Result.andThen_ok,List.map_toArray,List.map_cons,List.map_nil,hs,hx,hr]
  exact hK _ _ h
end
/-! ### the walks -/
theorem Tryz.info_cS:(Tryz.prog.info? 9).map (fun i=>(i.zero,i.size,i.bytes))=some (some (.string ⟨#[]⟩),1,16):=by kernel_rfl
theorem Tryz.info_cI:(Tryz.prog.info? 3).map (fun i=>(i.zero,i.size,i.bytes))=some (some (.int .i64 0),1,8):=by kernel_rfl
def RoomFor (w:World) (e:TypeId) (n:Nat) (x:Ending) (w':World):Prop:=∃ v,x=.returned v∧w'.ownsRow w.heap.size e 1 v 0 []∧(∃ a c,v=.slice a 0 c)∧Tch [] w w'
set_option maxRecDepth 100000 in
theorem growS_any (n:Nat) (w:World) (hn:n≤1000000000):Calls Tryz.prog 227 #[.slice none 0 0,.int .i64 n] w (RoomFor w 9 n):=by
 by_cases h0:n=0
 · subst h0
   go_enter Tryz.func227,Tryz.ntmps227
   go_wp2_with fail
   go_ret
   exact ⟨_,rfl,World.ownsRow_nil _ _ _ _,⟨_,_,rfl⟩,Tch.refl _ _⟩
 · obtain ⟨i0,hi,hz0,hz1,hz2⟩:=info_parts Tryz.info_cS
   have hge:=grownCap_ge w n 0 9
   have hcm:=grownCap_le_maxLen w n 0 9 (by unfold maxLen; omega)
   have HF:Hid (RoomFor w 9 n (.returned (.slice (some ⟨w.heap.size,0,none⟩) 0 (grownCap w n 0 9))) (w.drew.alloc (.cells (Builtin.zeroCells (Value.string ⟨#[]⟩).cells n++Builtin.zeroCells (Value.string ⟨#[]⟩).cells (grownCap w n 0 9 - n)) 9))):=by
    have hzs:(Value.string ⟨#[]⟩).cells.size=1:=rfl
    refine ⟨_,rfl,World.ownsRow_made w.drew _ _ (Nat.le_refl _) hcm ?_,⟨_,_,rfl⟩,(Tch.refl [] w).drew.alloc _⟩
    rw [Array.size_append,size_zeroCells,size_zeroCells,hzs]; omega
   have hn1:(0:Int) < (n:Int):=by omega
   clear hcm
   go_enter Tryz.func227,Tryz.ntmps227
   go_wp2_with (at_builtin; refine wpList_append_make _ rfl _ _ 69 3 rfl 9 i0 _ .i64 Tryz.underlying69 Tryz.underlying3 hi hz0 hz1 rfl n (by omega) hn (by rw [hz2]; omega) rfl rfl ?_)
   go_ret
   exact HF.out
def CatPostS (w:World) (xs:List ByteArray) (e:Ending) (w':World):Prop:=∃ v,e=.returned v∧w'.ownsRow w.heap.size 9 1 v xs.length (xs.map (Value.string))∧Tch [] w w'
set_option maxRecDepth 100000 in
theorem catS_any (g:Nat) (a1 a2 a3:Option Addr) (n1 n2 n3 c1 c2 c3 b1 b2 b3 o1 o2 o3:Nat) (l1 l2 l3:List ByteArray) (w:World) (hb:w.heap[g]?=some (.cells #[.slice a1 n1 c1,.slice a2 n2 c2,.slice a3 n3 c3] 69 (0,0)))
 (r1:IsR fStr 1 w a1 n1 b1 o1 l1) (r2:IsR fStr 1 w a2 n2 b2 o2 l2) (r3:IsR fStr 1 w a3 n3 b3 o3 l3) (z1:a1=none→n1=0∧c1=0) (z2:a2=none→n2=0∧c2=0) (z3:a3=none→n3=0∧c3=0)
 (m1:n1≤100000000) (m2:n2≤100000000) (m3:n3≤100000000):Calls Tryz.prog 204 #[.slice (some ⟨g,0,none⟩) 3 3] w (CatPostS w (l1++l2++l3)):=by
 have q0:=blk_cell hb 0
 have q1:=blk_cell hb 1
 have q2:=blk_cell hb 2
 simp only [gA,gZ,gS] at q0 q1 q2
 have hlt:=lt_of_block hb
 have hl1:=r1.hlen
 have hl2:=r2.hlen
 have hl3:=r3.hlen
 have HG:Hid (∀ wx,Calls Tryz.prog 227 #[.slice none 0 0,.int .i64 ((n1:Int)+n2+n3)] wx (RoomFor wx 9 (n1+n2+n3))):=fun wx=>by
  have:=growS_any (n1+n2+n3) wx (by omega)
  push_cast at this
  exact this
 obtain ⟨i0,hi,hz0,hz1,hz2⟩:=info_parts Tryz.info_cS
 have HK:Hid (∀ w',Tch [] w w'→IsR fStr 1 w' a1 n1 b1 o1 l1∧IsR fStr 1 w' a2 n2 b2 o2 l2∧IsR fStr 1 w' a3 n3 b3 o3 l3∧w'.heap[g]?=some (.cells #[.slice a1 n1 c1,.slice a2 n2 c2,.slice a3 n3 c3] 69 (0,0))):=fun w' t=>⟨r1.keep0 t,r2.keep0 t,r3.keep0 t,t.keep hb (by simp)⟩
 have HL:Hid (n1=l1.length∧n2=l2.length∧n3=l3.length):=⟨hl1,hl2,hl3⟩
 clear hb r1 r2 r3 hl1 hl2 hl3
 go_enter Tryz.func204,Tryz.ntmps204
 go_wp2_with fail
 refine wp_loop_rounds 4 ?_
 rw [rounds_succ]; go_wp2_with fail
 rw [rounds_succ]; go_wp2_with fail
 rw [rounds_succ]; go_wp2_with fail
 rw [rounds_succ]; go_wp2_with fail
 refine (HG.out _).mono ?_
 rintro e w1 ⟨v,rfl,hv,⟨y0,k0,rfl⟩,t1⟩
 have hx1:=own_slice hv
 obtain ⟨r1,_,_,hb⟩:=HK.out w1 t1
 have q0:=blk_cell hb 0
 have q1:=blk_cell hb 1
 have q2:=blk_cell hb 2
 simp only [gA,gZ,gS] at q0 q1 q2
 have hsz:=t1.size
 go_wp2_with fail
 refine wp_loop_rounds 4 ?_
 rw [rounds_succ]; go_wp2_with (at_builtin; refine wpList_append_isr _ rfl _ _ 69 rfl (Value.string) (fun _=>rfl) w.heap.size 9 i0 _ 16 Tryz.underlying69 hi hz0 hz1 hz2 rfl _ 0 [] rfl hv a1 n1 c1 b1 o1 l1 rfl r1 z1 (by unfold maxLen; omega) (by omega) hsz ?_; intro v2 w2 hv2 hg2)
 have t2:=t1.own hv (Nat.le_refl _) hg2
 obtain ⟨_,r2,_,hb⟩:=HK.out w2 t2
 have q0:=blk_cell hb 0
 have q1:=blk_cell hb 1
 have q2:=blk_cell hb 2
 simp only [gA,gZ,gS] at q0 q1 q2
 have hsz:=t2.size
 obtain ⟨x2,k2,rfl⟩:=own_slice hv2
 rw [rounds_succ]; go_wp2_with (at_builtin; refine wpList_append_isr _ rfl _ _ 69 rfl (Value.string) (fun _=>rfl) w.heap.size 9 i0 _ 16 Tryz.underlying69 hi hz0 hz1 hz2 rfl _ (0+n1) ([]++l1.map (Value.string)) rfl hv2 a2 n2 c2 b2 o2 l2 rfl r2 z2 (by unfold maxLen; omega) (by omega) hsz ?_; intro v3 w3 hv3 hg3)
 have t3:=t2.own hv2 (Nat.le_refl _) hg3
 obtain ⟨_,_,r3,hb⟩:=HK.out w3 t3
 have q0:=blk_cell hb 0
 have q1:=blk_cell hb 1
 have q2:=blk_cell hb 2
 simp only [gA,gZ,gS] at q0 q1 q2
 have hsz:=t3.size
 obtain ⟨x3,k3,rfl⟩:=own_slice hv3
 rw [rounds_succ]; go_wp2_with (at_builtin; refine wpList_append_isr _ rfl _ _ 69 rfl (Value.string) (fun _=>rfl) w.heap.size 9 i0 _ 16 Tryz.underlying69 hi hz0 hz1 hz2 rfl _ (0+n1+n2) ([]++l1.map (Value.string)++l2.map (Value.string)) rfl hv3 a3 n3 c3 b3 o3 l3 rfl r3 z3 (by unfold maxLen; omega) (by omega) hsz ?_; intro v4 w4 hv4 hg4)
 have t4:=t3.own hv3 (Nat.le_refl _) hg4
 have HF:Hid (CatPostS w (l1++l2++l3) (.returned v4) w4):=by
  refine ⟨_,rfl,?_,t4⟩
  have e1:(l1++l2++l3).length=0+n1+n2+n3:=by obtain ⟨e1,e2,e3⟩:=HL.out; simp; omega
  rw [e1]
  have e2:(l1++l2++l3).map (Value.string)=[]++l1.map (Value.string)++l2.map (Value.string)++l3.map (Value.string):=by simp
  rw [e2]; exact hv4
 obtain ⟨x4,k4,rfl⟩:=own_slice hv4
 rw [rounds_succ]; go_wp2_with fail
 go_ret
 exact HF.out
set_option maxRecDepth 100000 in
theorem growI_any (n:Nat) (w:World) (hn:n≤1000000000):Calls Tryz.prog 231 #[.slice none 0 0,.int .i64 n] w (RoomFor w 3 n):=by
 by_cases h0:n=0
 · subst h0
   go_enter Tryz.func231,Tryz.ntmps231
   go_wp2_with fail
   go_ret
   exact ⟨_,rfl,World.ownsRow_nil _ _ _ _,⟨_,_,rfl⟩,Tch.refl _ _⟩
 · obtain ⟨i0,hi,hz0,hz1,hz2⟩:=info_parts Tryz.info_cI
   have hge:=grownCap_ge w n 0 3
   have hcm:=grownCap_le_maxLen w n 0 3 (by unfold maxLen; omega)
   have HF:Hid (RoomFor w 3 n (.returned (.slice (some ⟨w.heap.size,0,none⟩) 0 (grownCap w n 0 3))) (w.drew.alloc (.cells (Builtin.zeroCells (Value.int .i64 0).cells n++Builtin.zeroCells (Value.int .i64 0).cells (grownCap w n 0 3 - n)) 3))):=by
    have hzs:(Value.int .i64 0).cells.size=1:=rfl
    refine ⟨_,rfl,World.ownsRow_made w.drew _ _ (Nat.le_refl _) hcm ?_,⟨_,_,rfl⟩,(Tch.refl [] w).drew.alloc _⟩
    rw [Array.size_append,size_zeroCells,size_zeroCells,hzs]; omega
   have hn1:(0:Int) < (n:Int):=by omega
   clear hcm
   go_enter Tryz.func231,Tryz.ntmps231
   go_wp2_with (at_builtin; refine wpList_append_make _ rfl _ _ 50 3 rfl 3 i0 _ .i64 Tryz.underlying50 Tryz.underlying3 hi hz0 hz1 rfl n (by omega) hn (by rw [hz2]; omega) rfl rfl ?_)
   go_ret
   exact HF.out
def CatPostI (w:World) (xs:List Int) (e:Ending) (w':World):Prop:=∃ v,e=.returned v∧w'.ownsRow w.heap.size 3 1 v xs.length (xs.map (Value.int .i64))∧Tch [] w w'
set_option maxRecDepth 100000 in
theorem catI_any (g:Nat) (a1 a2 a3:Option Addr) (n1 n2 n3 c1 c2 c3 b1 b2 b3 o1 o2 o3:Nat) (l1 l2 l3:List Int) (w:World) (hb:w.heap[g]?=some (.cells #[.slice a1 n1 c1,.slice a2 n2 c2,.slice a3 n3 c3] 50 (0,0)))
 (r1:IsR fInt 1 w a1 n1 b1 o1 l1) (r2:IsR fInt 1 w a2 n2 b2 o2 l2) (r3:IsR fInt 1 w a3 n3 b3 o3 l3) (z1:a1=none→n1=0∧c1=0) (z2:a2=none→n2=0∧c2=0) (z3:a3=none→n3=0∧c3=0)
 (m1:n1≤100000000) (m2:n2≤100000000) (m3:n3≤100000000):Calls Tryz.prog 207 #[.slice (some ⟨g,0,none⟩) 3 3] w (CatPostI w (l1++l2++l3)):=by
 have q0:=blk_cell hb 0
 have q1:=blk_cell hb 1
 have q2:=blk_cell hb 2
 simp only [gA,gZ,gS] at q0 q1 q2
 have hlt:=lt_of_block hb
 have hl1:=r1.hlen
 have hl2:=r2.hlen
 have hl3:=r3.hlen
 have HG:Hid (∀ wx,Calls Tryz.prog 231 #[.slice none 0 0,.int .i64 ((n1:Int)+n2+n3)] wx (RoomFor wx 3 (n1+n2+n3))):=fun wx=>by
  have:=growI_any (n1+n2+n3) wx (by omega)
  push_cast at this
  exact this
 obtain ⟨i0,hi,hz0,hz1,hz2⟩:=info_parts Tryz.info_cI
 have HK:Hid (∀ w',Tch [] w w'→IsR fInt 1 w' a1 n1 b1 o1 l1∧IsR fInt 1 w' a2 n2 b2 o2 l2∧IsR fInt 1 w' a3 n3 b3 o3 l3∧w'.heap[g]?=some (.cells #[.slice a1 n1 c1,.slice a2 n2 c2,.slice a3 n3 c3] 50 (0,0))):=fun w' t=>⟨r1.keep0 t,r2.keep0 t,r3.keep0 t,t.keep hb (by simp)⟩
 have HL:Hid (n1=l1.length∧n2=l2.length∧n3=l3.length):=⟨hl1,hl2,hl3⟩
 clear hb r1 r2 r3 hl1 hl2 hl3
 go_enter Tryz.func207,Tryz.ntmps207
 go_wp2_with fail
 refine wp_loop_rounds 4 ?_
 rw [rounds_succ]; go_wp2_with fail
 rw [rounds_succ]; go_wp2_with fail
 rw [rounds_succ]; go_wp2_with fail
 rw [rounds_succ]; go_wp2_with fail
 refine (HG.out _).mono ?_
 rintro e w1 ⟨v,rfl,hv,⟨y0,k0,rfl⟩,t1⟩
 have hx1:=own_slice hv
 obtain ⟨r1,_,_,hb⟩:=HK.out w1 t1
 have q0:=blk_cell hb 0
 have q1:=blk_cell hb 1
 have q2:=blk_cell hb 2
 simp only [gA,gZ,gS] at q0 q1 q2
 have hsz:=t1.size
 go_wp2_with fail
 refine wp_loop_rounds 4 ?_
 rw [rounds_succ]; go_wp2_with (at_builtin; refine wpList_append_isr _ rfl _ _ 50 rfl (Value.int .i64) (fun _=>rfl) w.heap.size 3 i0 _ 8 Tryz.underlying50 hi hz0 hz1 hz2 rfl _ 0 [] rfl hv a1 n1 c1 b1 o1 l1 rfl r1 z1 (by unfold maxLen; omega) (by omega) hsz ?_; intro v2 w2 hv2 hg2)
 have t2:=t1.own hv (Nat.le_refl _) hg2
 obtain ⟨_,r2,_,hb⟩:=HK.out w2 t2
 have q0:=blk_cell hb 0
 have q1:=blk_cell hb 1
 have q2:=blk_cell hb 2
 simp only [gA,gZ,gS] at q0 q1 q2
 have hsz:=t2.size
 obtain ⟨x2,k2,rfl⟩:=own_slice hv2
 rw [rounds_succ]; go_wp2_with (at_builtin; refine wpList_append_isr _ rfl _ _ 50 rfl (Value.int .i64) (fun _=>rfl) w.heap.size 3 i0 _ 8 Tryz.underlying50 hi hz0 hz1 hz2 rfl _ (0+n1) ([]++l1.map (Value.int .i64)) rfl hv2 a2 n2 c2 b2 o2 l2 rfl r2 z2 (by unfold maxLen; omega) (by omega) hsz ?_; intro v3 w3 hv3 hg3)
 have t3:=t2.own hv2 (Nat.le_refl _) hg3
 obtain ⟨_,_,r3,hb⟩:=HK.out w3 t3
 have q0:=blk_cell hb 0
 have q1:=blk_cell hb 1
 have q2:=blk_cell hb 2
 simp only [gA,gZ,gS] at q0 q1 q2
 have hsz:=t3.size
 obtain ⟨x3,k3,rfl⟩:=own_slice hv3
 rw [rounds_succ]; go_wp2_with (at_builtin; refine wpList_append_isr _ rfl _ _ 50 rfl (Value.int .i64) (fun _=>rfl) w.heap.size 3 i0 _ 8 Tryz.underlying50 hi hz0 hz1 hz2 rfl _ (0+n1+n2) ([]++l1.map (Value.int .i64)++l2.map (Value.int .i64)) rfl hv3 a3 n3 c3 b3 o3 l3 rfl r3 z3 (by unfold maxLen; omega) (by omega) hsz ?_; intro v4 w4 hv4 hg4)
 have t4:=t3.own hv3 (Nat.le_refl _) hg4
 have HF:Hid (CatPostI w (l1++l2++l3) (.returned v4) w4):=by
  refine ⟨_,rfl,?_,t4⟩
  have e1:(l1++l2++l3).length=0+n1+n2+n3:=by obtain ⟨e1,e2,e3⟩:=HL.out; simp; omega
  rw [e1]
  have e2:(l1++l2++l3).map (Value.int .i64)=[]++l1.map (Value.int .i64)++l2.map (Value.int .i64)++l3.map (Value.int .i64):=by simp
  rw [e2]; exact hv4
 obtain ⟨x4,k4,rfl⟩:=own_slice hv4
 rw [rounds_succ]; go_wp2_with fail
 go_ret
 exact HF.out
end Go.Proofs.YtlkgnljdpakkcaaGreatDoor
/-
 'replaced' of package tree: a new list,with items in the place of some. Conditions: the lists are short.
-/
namespace Go.Proofs.YtlkgnljdpakkcaaGreatDoor
open Go.RowKit
theorem slice_to {P:Program} (t e:TypeId) (ht:P.underlying t=some (.slice e)) (hz:∀ w,(Go.sizeOf e).run P w=.ok 1 w) (b o n c i:Nat) (h:i≤c) (W:World) :
 (Instr.slice t (.slice (some ⟨b,o,none⟩) n c) none (some (.int .i64 (i:Int))) none).run P W=.ok (.slice (some ⟨b,o,none⟩) i c) W:=by
 have h1:(0:Int)≤(i:Int):=by omega
 simp [Instr.slice,Instr.sliceBounds,Instr.sliceBound,asIntOf,run_underlying ht,hz,h1,go_sem]
 exact fun h9=>absurd h9 (by omega)
theorem slice_from {P:Program} (t e:TypeId) (ht:P.underlying t=some (.slice e)) (hz:∀ w,(Go.sizeOf e).run P w=.ok 1 w) (b o n c j:Nat) (h:j≤n) (hc:n≤c) (W:World) :
 (Instr.slice t (.slice (some ⟨b,o,none⟩) n c) (some (.int .i64 (j:Int))) none none).run P W=.ok (.slice (some ⟨b,if c=j then o else o+j,none⟩) (n - j) (c - j)) W:=by
 have h1:(0:Int)≤(j:Int):=by omega
 simp [Instr.slice,Instr.sliceBounds,Instr.sliceBound,asIntOf,run_underlying ht,hz,h1,go_sem]
 by_cases h4:c=j
 · simp [h4]
   exact fun h9=>absurd h9 (by omega)
 · simp [h4]
   exact fun h9=>absurd h9 (by omega)
theorem IsR.less {α:Type} {f:α→List Value} {w:World} {a:Option Addr} {len b o:Nat} {xs:List α} (h:IsR f 1 w a len b o xs) (i n:Nat) (hi:i+n≤len) (a2:Option Addr) (ha:0 < n→a2=some ⟨b,o+i,none⟩):IsR f 1 w a2 n b (o+i) ((xs.drop i).take n):=by
 have:=h.part i n hi a2 (by simpa using ha)
 simpa using this
set_option maxRecDepth 100000 in
theorem replS_any (i j:Nat) (a a4:Option Addr) (n c b o n4 c4 b4 o4:Nat) (xs ys:List ByteArray) (w:World) (hr:IsR fStr 1 w a n b o xs) (hs:IsR fStr 1 w a4 n4 b4 o4 ys) (hnc:n≤c) (ha:∀ y,a=some y→y=⟨b,o,none⟩) (hz:a=none→n=0∧c=0) (hz4:a4=none→n4=0∧c4=0)
 (hij:i≤j) (hj:j≤n) (m1:n≤100000000) (m4:n4≤100000000):Calls Tryz.prog 168 #[.slice a n c,.int .i64 i,.int .i64 j,.slice a4 n4 c4] w (CatPostS w (xs.take i++ys++xs.drop j)):=by
 have hl:=hr.hlen
 have HC:Hid (∀ (g:Nat) (a1 a3:Option Addr) (c1 c3:Nat) (W:World),Tch [] w W→W.heap[g]?=some (.cells #[.slice a1 i c1,.slice a4 n4 c4,.slice a3 (n - j) c3] 69 (0,0))→(0 < i→a1=some ⟨b,o,none⟩)→(a1=none→i=0∧c1=0)→(0 < n - j→a3=some ⟨b,o+j,none⟩)→(a3=none→n - j=0∧c3=0) →
  Calls Tryz.prog 204 #[.slice (some ⟨g,0,none⟩) 3 3] W (CatPostS W (xs.take i++ys++xs.drop j))):=fun g a1 a3 c1 c3 W t hb h1 h1z h3 h3z=>by
  have k1:=(hr.keep0 t).less 0 i (by omega) a1 (by simpa using h1)
  rw [List.drop_zero] at k1
  have k3:=(hr.keep0 t).less j (n - j) (by omega) a3 h3
  rw [List.take_of_length_le (by rw [List.length_drop]; omega)] at k3
  exact catS_any g a1 a4 a3 i n4 (n - j) c1 c4 c3 b b4 b (o+0) o4 (o+j) _ ys _ W hb k1 (hs.keep0 t) k3 h1z hz4 h3z (by omega) m4 (by omega)
 have HF:Hid (∀ W e w2,Tch [] w W→CatPostS W (xs.take i++ys++xs.drop j) e w2→CatPostS w (xs.take i++ys++xs.drop j) e w2):=fun W e w2 t ⟨v,h1,h2,h3⟩=>⟨v,h1,own_base h2 t.size,t.trans h3⟩
 have hI0:(0:Int)≤(i:Int):=by omega
 have hJ0:(0:Int)≤(j:Int):=by omega
 have hJn:(j:Int)≤(n:Int):=by omega
 have hIc:(i:Int)≤(c:Int):=by omega
 cases a with
 | none =>
  obtain ⟨rfl,rfl⟩:=hz rfl
  obtain rfl:j=0:=by omega
  obtain rfl:i=0:=by omega
  have HC2:=Lib.hid (HC.out w.heap.size none none 0 0 (w.drew.alloc (.cells #[.slice none 0 0,.slice a4 n4 c4,.slice none 0 0] 69)) ((Tch.refl [] w).drew.alloc _) (blk_new w.drew _) (fun h=>absurd h (by omega)) (fun _=>⟨rfl,rfl⟩) (fun h=>absurd h (by omega)) (fun _=>⟨rfl,rfl⟩))
  have HF2:=Lib.hid (HF.out (w.drew.alloc (.cells #[.slice none 0 0,.slice a4 n4 c4,.slice none 0 0] 69)))
  have T1:Tch [] w (w.drew.alloc (.cells #[.slice none 0 0,.slice a4 n4 c4,.slice none 0 0] 69)):=(Tch.refl [] w).drew.alloc _
  clear HC HF hr hs hz hz4 hl hnc hij hj hI0 hJ0 hJn hIc ha
  go_enter Tryz.func168,Tryz.ntmps168
  go_wp2_with fail
  go_still_tail 7,(by kernel_rfl)
  change wpList _ _ _ _ _ w.drew
  go_wp2_with (go_at_call 204; refine HC2.out.mono ?_; intro e w2 hp; have hq:=HF2.out e w2 T1 hp; obtain ⟨v,rfl,hv,t⟩:=hp)
  go_ret
  exact hq
 | some a =>
  obtain rfl:=ha a rfl
  have H1:=fun W=>slice_to (P:=Tryz.prog) 69 9 Tryz.underlying69 (fun _=>by rfl) b o n c i (by omega) W
  have H2:=fun W=>slice_from (P:=Tryz.prog) 69 9 Tryz.underlying69 (fun _=>by rfl) b o n c j (by omega) (by omega) W
  have ho2:0 < n - j→(if c=j then o else o+j)=o+j:=fun h=>if_neg (by omega)
  generalize (if c=j then o else o+j)=o2 at H2 ho2
  have HC2:=Lib.hid (HC.out w.heap.size (some ⟨b,o,none⟩) (some ⟨b,o2,none⟩) c (c - j) (w.drew.alloc (.cells #[.slice (some ⟨b,o,none⟩) i c,.slice a4 n4 c4,.slice (some ⟨b,o2,none⟩) (n - j) (c - j)] 69)) ((Tch.refl [] w).drew.alloc _) (blk_new w.drew _) (fun _=>rfl) (fun h=>by cases h) (fun h=>by rw [ho2 h]) (fun h=>by cases h))
  have HF2:=Lib.hid (HF.out (w.drew.alloc (.cells #[.slice (some ⟨b,o,none⟩) i c,.slice a4 n4 c4,.slice (some ⟨b,o2,none⟩) (n - j) (c - j)] 69)))
  have T1:Tch [] w (w.drew.alloc (.cells #[.slice (some ⟨b,o,none⟩) i c,.slice a4 n4 c4,.slice (some ⟨b,o2,none⟩) (n - j) (c - j)] 69)):=(Tch.refl [] w).drew.alloc _
  clear HC HF hr hs hz hz4 hl hnc hij hj hI0 hJ0 hJn hIc ho2 ha
  generalize n - j=nj at *
  generalize c - j=cj at *
  go_enter Tryz.func168,Tryz.ntmps168
  go_wp2_with fail
  go_still_tail 7,(by kernel_rfl)
  change wpList _ _ _ _ _ w.drew
  go_wp2_with (go_at_call 204; refine HC2.out.mono ?_; intro e w2 hp; have hq:=HF2.out e w2 T1 hp; obtain ⟨v,rfl,hv,t⟩:=hp)
  go_ret
  exact hq
set_option maxRecDepth 100000 in
theorem replI_any (i j:Nat) (a a4:Option Addr) (n c b o n4 c4 b4 o4:Nat) (xs ys:List Int) (w:World) (hr:IsR fInt 1 w a n b o xs) (hs:IsR fInt 1 w a4 n4 b4 o4 ys) (hnc:n≤c) (ha:∀ y,a=some y→y=⟨b,o,none⟩) (hz:a=none→n=0∧c=0) (hz4:a4=none→n4=0∧c4=0)
 (hij:i≤j) (hj:j≤n) (m1:n≤100000000) (m4:n4≤100000000):Calls Tryz.prog 172 #[.slice a n c,.int .i64 i,.int .i64 j,.slice a4 n4 c4] w (CatPostI w (xs.take i++ys++xs.drop j)):=by
 have hl:=hr.hlen
 have HC:Hid (∀ (g:Nat) (a1 a3:Option Addr) (c1 c3:Nat) (W:World),Tch [] w W→W.heap[g]?=some (.cells #[.slice a1 i c1,.slice a4 n4 c4,.slice a3 (n - j) c3] 50 (0,0))→(0 < i→a1=some ⟨b,o,none⟩)→(a1=none→i=0∧c1=0)→(0 < n - j→a3=some ⟨b,o+j,none⟩)→(a3=none→n - j=0∧c3=0) →
  Calls Tryz.prog 207 #[.slice (some ⟨g,0,none⟩) 3 3] W (CatPostI W (xs.take i++ys++xs.drop j))):=fun g a1 a3 c1 c3 W t hb h1 h1z h3 h3z=>by
  have k1:=(hr.keep0 t).less 0 i (by omega) a1 (by simpa using h1)
  rw [List.drop_zero] at k1
  have k3:=(hr.keep0 t).less j (n - j) (by omega) a3 h3
  rw [List.take_of_length_le (by rw [List.length_drop]; omega)] at k3
  exact catI_any g a1 a4 a3 i n4 (n - j) c1 c4 c3 b b4 b (o+0) o4 (o+j) _ ys _ W hb k1 (hs.keep0 t) k3 h1z hz4 h3z (by omega) m4 (by omega)
 have HF:Hid (∀ W e w2,Tch [] w W→CatPostI W (xs.take i++ys++xs.drop j) e w2→CatPostI w (xs.take i++ys++xs.drop j) e w2):=fun W e w2 t ⟨v,h1,h2,h3⟩=>⟨v,h1,own_base h2 t.size,t.trans h3⟩
 have hI0:(0:Int)≤(i:Int):=by omega
 have hJ0:(0:Int)≤(j:Int):=by omega
 have hJn:(j:Int)≤(n:Int):=by omega
 have hIc:(i:Int)≤(c:Int):=by omega
 cases a with
 | none =>
  obtain ⟨rfl,rfl⟩:=hz rfl
  obtain rfl:j=0:=by omega
  obtain rfl:i=0:=by omega
  have HC2:=Lib.hid (HC.out w.heap.size none none 0 0 (w.drew.alloc (.cells #[.slice none 0 0,.slice a4 n4 c4,.slice none 0 0] 50)) ((Tch.refl [] w).drew.alloc _) (blk_new w.drew _) (fun h=>absurd h (by omega)) (fun _=>⟨rfl,rfl⟩) (fun h=>absurd h (by omega)) (fun _=>⟨rfl,rfl⟩))
  have HF2:=Lib.hid (HF.out (w.drew.alloc (.cells #[.slice none 0 0,.slice a4 n4 c4,.slice none 0 0] 50)))
  have T1:Tch [] w (w.drew.alloc (.cells #[.slice none 0 0,.slice a4 n4 c4,.slice none 0 0] 50)):=(Tch.refl [] w).drew.alloc _
  clear HC HF hr hs hz hz4 hl hnc hij hj hI0 hJ0 hJn hIc ha
  go_enter Tryz.func172,Tryz.ntmps172
  go_wp2_with fail
  go_still_tail 7,(by kernel_rfl)
  change wpList _ _ _ _ _ w.drew
  go_wp2_with (go_at_call 207; refine HC2.out.mono ?_; intro e w2 hp; have hq:=HF2.out e w2 T1 hp; obtain ⟨v,rfl,hv,t⟩:=hp)
  go_ret
  exact hq
 | some a =>
  obtain rfl:=ha a rfl
  have H1:=fun W=>slice_to (P:=Tryz.prog) 50 3 Tryz.underlying50 (fun _=>by rfl) b o n c i (by omega) W
  have H2:=fun W=>slice_from (P:=Tryz.prog) 50 3 Tryz.underlying50 (fun _=>by rfl) b o n c j (by omega) (by omega) W
  have ho2:0 < n - j→(if c=j then o else o+j)=o+j:=fun h=>if_neg (by omega)
  generalize (if c=j then o else o+j)=o2 at H2 ho2
  have HC2:=Lib.hid (HC.out w.heap.size (some ⟨b,o,none⟩) (some ⟨b,o2,none⟩) c (c - j) (w.drew.alloc (.cells #[.slice (some ⟨b,o,none⟩) i c,.slice a4 n4 c4,.slice (some ⟨b,o2,none⟩) (n - j) (c - j)] 50)) ((Tch.refl [] w).drew.alloc _) (blk_new w.drew _) (fun _=>rfl) (fun h=>by cases h) (fun h=>by rw [ho2 h]) (fun h=>by cases h))
  have HF2:=Lib.hid (HF.out (w.drew.alloc (.cells #[.slice (some ⟨b,o,none⟩) i c,.slice a4 n4 c4,.slice (some ⟨b,o2,none⟩) (n - j) (c - j)] 50)))
  have T1:Tch [] w (w.drew.alloc (.cells #[.slice (some ⟨b,o,none⟩) i c,.slice a4 n4 c4,.slice (some ⟨b,o2,none⟩) (n - j) (c - j)] 50)):=(Tch.refl [] w).drew.alloc _
  clear HC HF hr hs hz hz4 hl hnc hij hj hI0 hJ0 hJn hIc ho2 ha
  generalize n - j=nj at *
  generalize c - j=cj at *
  go_enter Tryz.func172,Tryz.ntmps172
  go_wp2_with fail
  go_still_tail 7,(by kernel_rfl)
  change wpList _ _ _ _ _ w.drew
  go_wp2_with (go_at_call 207; refine HC2.out.mono ?_; intro e w2 hp; have hq:=HF2.out e w2 T1 hp; obtain ⟨v,rfl,hv,t⟩:=hp)
  go_ret
  exact hq
end Go.Proofs.YtlkgnljdpakkcaaGreatDoor
/-
 Plain notions of layer 2's numbers,of no program: the one form of a number ('ub') and what is read of bytes ('rdu').
-/
namespace Go.Proofs.YtlkgnljdpakkcaaGreatDoor
def ub (v:Nat):List UInt8:=if v < 128 then [UInt8.ofNat v] else UInt8.ofNat (v % 128+128) :: ub (v / 128)
termination_by v
decreasing_by omega
def rdu (l:List UInt8) (i v:Nat):Int × Nat × Nat :=
 if i=10 then (21,0,0) else
 match l with
 | []=>(20,0,0)
 | b :: l =>
  if 128≤b.toNat then rdu l (i+1) (v+b.toNat % 128 * 128 ^ i)
  else if b.toNat=0∧i≠0 then (21,0,0)
  else if i=9∧1 < b.toNat then (21,0,0)
  else (0,v+b.toNat * 128 ^ i,i+1)
theorem ub_ne (v:Nat):ub v≠[]:=by unfold ub; split <;> simp
theorem ub_small {v:Nat} (h:v < 128):ub v=[UInt8.ofNat v]:=by unfold ub; rw [if_pos h]
theorem ub_big {v:Nat} (h:¬ v < 128):ub v=UInt8.ofNat (v % 128+128) :: ub (v / 128):=by rw [ub,if_neg h]
theorem ub_len (k:Nat):∀ v,v < 128 ^ (k+1)→(ub v).length≤k+1:=by
 induction k with
 | zero=>intro v h; rw [ub_small (by simpa using h)]; simp
 | succ k ih =>
  intro v h
  by_cases hv:v < 128
  · rw [ub_small hv]; simp
  · rw [ub_big hv,List.length_cons]
    have:=ih (v / 128) (by
     rw [Nat.div_lt_iff_lt_mul (by omega)]
     rw [Nat.pow_succ] at h
     exact h)
    omega
theorem u8_of (n:Nat) (h:n < 256):(UInt8.ofNat n).toNat=n:=by simp; omega
theorem rdu_10 (l:List UInt8) (v:Nat):rdu l 10 v=(21,0,0):=by unfold rdu; simp
theorem rdu_nil {i:Nat} (v:Nat) (h:i≠10):rdu [] i v=(20,0,0):=by unfold rdu; rw [if_neg h]
theorem rdu_more {b:UInt8} {i:Nat} (l:List UInt8) (v:Nat) (h:i≠10) (hb:128≤b.toNat):rdu (b :: l) i v=rdu l (i+1) (v+b.toNat % 128 * 128 ^ i):=by
 conv=>lhs; unfold rdu
 rw [if_neg h]; simp only; rw [if_pos hb]
theorem rdu_zero {b:UInt8} {i:Nat} (l:List UInt8) (v:Nat) (h:i≠10) (hb:b.toNat=0) (hi:i≠0):rdu (b :: l) i v=(21,0,0):=by
 conv=>lhs; unfold rdu
 rw [if_neg h]; simp only; rw [if_neg (by omega),if_pos ⟨hb,hi⟩]
theorem rdu_ten {b:UInt8} (l:List UInt8) (v:Nat) (hb:b.toNat < 128) (h1:1 < b.toNat):rdu (b :: l) 9 v=(21,0,0):=by
 conv=>lhs; unfold rdu
 rw [if_neg (by omega)]; simp only; rw [if_neg (by omega),if_neg (by omega),if_pos ⟨trivial,h1⟩]
theorem rdu_last {b:UInt8} {i:Nat} (l:List UInt8) (v:Nat) (h:i≠10) (hb:b.toNat < 128) (h0:¬ (b.toNat=0∧i≠0)) (h9:¬ (i=9∧1 < b.toNat)):rdu (b :: l) i v=(0,v+b.toNat * 128 ^ i,i+1):=by
 conv=>lhs; unfold rdu
 rw [if_neg h]; simp only; rw [if_neg (by omega),if_neg h0,if_neg h9]
theorem rdu_ub (k:Nat):∀ (v i a:Nat) (r:List UInt8),v < 128 ^ (k+1)→i+k=9→v < 2 * 128 ^ k→(v=0→i=0)→rdu (ub v++r) i a=(0,a+v * 128 ^ i,i+(ub v).length):=by
 induction k with
 | zero =>
  intro v i a r h1 h2 h3 h4
  have hv:v < 2:=by simpa using h3
  rw [ub_small (by omega)]
  have e:=u8_of v (by omega)
  rw [List.singleton_append,rdu_last r a (by omega) (by omega) (by omega) (by omega),e]
  simp
 | succ k ih =>
  intro v i a r h1 h2 h3 h4
  by_cases hv:v < 128
  · rw [ub_small hv]
    have e:=u8_of v (by omega)
    rw [List.singleton_append,rdu_last r a (by omega) (by omega) (by omega) (by omega),e]
    simp
  · rw [ub_big hv]
    have e:=u8_of (v % 128+128) (by omega)
    rw [List.cons_append,rdu_more _ a (by omega) (by omega),e]
    have h5:v / 128 < 128 ^ (k+1):=by
     rw [Nat.div_lt_iff_lt_mul (by omega)]; rw [Nat.pow_succ] at h1; exact h1
    have h6:v / 128 < 2 * 128 ^ k:=by
     rw [Nat.div_lt_iff_lt_mul (by omega)]; rw [Nat.pow_succ] at h3; omega
    rw [ih (v / 128) (i+1) _ r h5 (by omega) h6 (by omega)]
    rw [show (v % 128+128) % 128=v % 128 from by omega]
    have h7:v % 128 * 128 ^ i+v / 128 * 128 ^ (i+1)=v * 128 ^ i:=by
     rw [Nat.pow_succ,Nat.mul_comm (128 ^ i) 128,← Nat.mul_assoc,← Nat.add_mul]
     congr 1
     omega
    simp only [List.length_cons,Prod.mk.injEq,true_and]
    constructor
    · omega
    · omega
theorem rdu_ub64 (v:Nat) (hv:v < 18446744073709551616) (r:List UInt8):rdu (ub v++r) 0 0=(0,v,(ub v).length):=by
 rw [rdu_ub 9 v 0 0 r (by simp; omega) (by omega) (by simp; omega) (by simp)]
 simp
theorem rdu_bound:∀ (l:List UInt8) (i v:Nat) (c:Int) (u n:Nat),rdu l i v=(c,u,n)→v < 128 ^ i→i≤9→c=0→u < 18446744073709551616∧i < n∧n≤i+l.length∧n≤10
 | [],i,v,c,u,n,h,hv,hi,hc=>by
  rw [rdu_nil v (by omega)] at h
  simp only [Prod.mk.injEq] at h
  omega
 | b :: l,i,v,c,u,n,h,hv,hi,hc=>by
  have hb:=b.toNat_lt
  by_cases h1:128≤b.toNat
  · rw [rdu_more l v (by omega) h1] at h
    by_cases h9:i=9
    · subst h9
      rw [rdu_10] at h
      simp only [Prod.mk.injEq] at h
      omega
    · have hv2:v+b.toNat % 128 * 128 ^ i < 128 ^ (i+1):=by
       rw [Nat.pow_succ]
       have:b.toNat % 128 * 128 ^ i≤127 * 128 ^ i:=Nat.mul_le_mul_right _ (by omega)
       omega
      have:=rdu_bound l (i+1) _ c u n h hv2 (by omega) hc
      simp only [List.length_cons]
      omega
  · by_cases h0:b.toNat=0∧i≠0
    · rw [rdu_zero l v (by omega) h0.1 h0.2] at h
      simp only [Prod.mk.injEq] at h
      omega
    · by_cases h9:i=9∧1 < b.toNat
      · obtain ⟨rfl,h9⟩:=h9
        rw [rdu_ten l v (by omega) h9] at h
        simp only [Prod.mk.injEq] at h
        omega
      · rw [rdu_last l v (by omega) (by omega) h0 h9] at h
        simp only [Prod.mk.injEq] at h
        obtain ⟨rfl,rfl,rfl⟩:=h
        refine ⟨?_,by omega,by simp,by omega⟩
        by_cases hi9:i=9
        · subst hi9
          have:b.toNat≤1:=by omega
          have:b.toNat * 128 ^ 9≤1 * 128 ^ 9:=Nat.mul_le_mul_right _ this
          have e:(128:Nat) ^ 9=9223372036854775808:=by decide
          omega
        · have h3:b.toNat * 128 ^ i≤127 * 128 ^ i:=Nat.mul_le_mul_right _ (by omega)
          have h4:(128:Nat) ^ i≤128 ^ 8:=Nat.pow_le_pow_right (by omega) (by omega)
          have e:(128:Nat) ^ 8=72057594037927936:=by decide
          omega
def nil0 (l:List UInt8):Bool:=l.all (· == 0)
end Go.Proofs.YtlkgnljdpakkcaaGreatDoor
/-
 Nodes of a tree as the document has them: entries,their bytes,what bytes read as,how nodes are cut and put together. Plain functions; no condition.
-/
namespace Go.Proofs.YtlkgnljdpakkcaaGreatDoor
def tx (s:ByteArray):List UInt8:=ub s.size++s.data.toList
def rtx (L:List UInt8):Int × ByteArray × Nat :=
 if (rdu L 0 0).1≠0 then ((rdu L 0 0).1,⟨#[]⟩,0)
 else if L.length - (rdu L 0 0).2.2 < (rdu L 0 0).2.1 then (20,⟨#[]⟩,0)
 else (0,⟨((L.drop (rdu L 0 0).2.2).take (rdu L 0 0).2.1).toArray⟩,(rdu L 0 0).2.2+(rdu L 0 0).2.1)
structure En where
 key:ByteArray
 val:ByteArray
 kid:Int
def enb (leaf:Bool) (e:En):List UInt8:=tx e.key++(if leaf then tx e.val else ub e.kid.toNat)
def ndb (leaf:Bool) (es:List En):List UInt8:=(if leaf then 1 else 2) :: (ub es.length++es.flatMap (enb leaf))
def slt (a b:ByteArray):Bool:=Go.Op.bytesLess a.toList b.toList
def sle (a b:ByteArray):Bool:=slt a b || a.toList == b.toList
def fitE (leaf:Bool) (e:En):Bool:=decide (1≤e.key.size) && decide (e.key.size≤48) && (if leaf then decide (e.val.size≤200) else decide (1≤e.kid) && decide (e.kid < 16384))
def fitFrom (leaf:Bool):Option ByteArray→List En→Bool
 | _,[]=>true
 | prev,e :: es=>fitE leaf e && (match prev with | none=>true | some p=>!sle e.key p) && fitFrom leaf (some e.key) es
def fitN (leaf:Bool) (es:List En):Bool:=fitFrom leaf none es && decide ((ndb leaf es).length≤1024) && (leaf || decide (0 < es.length))
def rde (leaf:Bool) (L:List UInt8):Option (En × Nat) :=
 if (rtx L).1≠0 then none
 else if leaf then (if (rtx (L.drop (rtx L).2.2)).1≠0 then none else some (⟨(rtx L).2.1,(rtx (L.drop (rtx L).2.2)).2.1,0⟩,(rtx L).2.2+(rtx (L.drop (rtx L).2.2)).2.2))
 else (if (rdu (L.drop (rtx L).2.2) 0 0).1≠0∨16384≤(rdu (L.drop (rtx L).2.2) 0 0).2.1 then none else some (⟨(rtx L).2.1,⟨#[]⟩,((rdu (L.drop (rtx L).2.2) 0 0).2.1:Int)⟩,(rtx L).2.2+(rdu (L.drop (rtx L).2.2) 0 0).2.2))
def rdes (leaf:Bool) (L:List UInt8):Nat→Nat→List En→Option (List En × Nat)
 | 0,p,es=>some (es,p)
 | c+1,p,es=>match rde leaf (L.drop p) with
  | none=>none
  | some (e,n)=>rdes leaf L c (p+n) (es++[e])
def ddec (L:List UInt8):Option (Bool × List En) :=
 match L with
 | []=>none
 | b :: M =>
  if b≠1∧b≠2 then none else if (rdu M 0 0).1≠0 then none else
  match rdes (b == 1) L (rdu M 0 0).2.1 (1+(rdu M 0 0).2.2) [] with
  | none=>none
  | some (es,p)=>if nil0 (L.drop p) && fitN (b == 1) es then some (b == 1,es) else none
def cutE (leaf:Bool) (whole last:Nat):Nat→Nat→List En→Nat
 | i,_,[]=>i
 | i,sum,e :: es=>if whole≤2 * (sum+(enb leaf e).length)∨i=last then i+1 else cutE leaf whole last (i+1) (sum+(enb leaf e).length) es
def cutN (leaf:Bool) (es:List En):Nat:=cutE leaf (es.flatMap (enb leaf)).length (es.length - 2) 0 0 es
def splitN (leaf:Bool) (es:List En):List (List En):=if (ndb leaf es).length≤1024∨es.length < 2 then [es] else [es.take (cutN leaf es),es.drop (cutN leaf es)]
def plcE (key:ByteArray):Nat→Nat→List En→Nat
 | at_,_,[]=>at_
 | at_,i,e :: es=>plcE key (if sle e.key key then i else at_) (i+1) es
def plcN (es:List En) (key:ByteArray):Nat:=plcE key 0 0 es
def mkE (leaf:Bool) (keys vals:List ByteArray) (kids:List Int) (k:Nat) (key:ByteArray):En :=
 ⟨key,if leaf then vals.getD k ⟨#[]⟩ else ⟨#[]⟩,if leaf then 0 else kids.getD k 0⟩
def mkN (leaf:Bool) (keys vals:List ByteArray) (kids:List Int):List En:=(keys.zipIdx).map fun p=>mkE leaf keys vals kids p.2 p.1
theorem rtx_len (L:List UInt8) (t:ByteArray) (n:Nat) (h:rtx L=(0,t,n)):n≤L.length∧0 < n:=by
 unfold rtx at h
 rcases hr:rdu L 0 0 with ⟨c,v,m⟩
 rw [hr] at h
 simp only at h
 split at h
 · simp only [Prod.mk.injEq] at h; omega
 · rename_i hc
   split at h
   · simp at h
   · simp only [Prod.mk.injEq] at h
     have:=rdu_bound L 0 0 c v m hr (by simp) (by omega) (by omega)
     omega
theorem mkN_len (leaf:Bool) (keys vals:List ByteArray) (kids:List Int):(mkN leaf keys vals kids).length=keys.length:=by simp [mkN]
theorem mkN_get (leaf:Bool) (keys vals:List ByteArray) (kids:List Int) (k:Nat) (key:ByteArray) (h:keys[k]?=some key):(mkN leaf keys vals kids)[k]?=some (mkE leaf keys vals kids k key):=by
 unfold mkN
 rw [List.getElem?_map,List.getElem?_zipIdx,h]
 simp
end Go.Proofs.YtlkgnljdpakkcaaGreatDoor
/-
 Texts and rows of bytes.
-/
namespace Go.Proofs.YtlkgnljdpakkcaaGreatDoor
open Go.RowKit
theorem foldl_push (l:List UInt8):∀ r:ByteArray,(l.map fun b=>(b.toNat:Int)).foldl (fun r n=>r.push (UInt8.ofNat n.toNat)) r=⟨(r.data.toList++l).toArray⟩:=by
 induction l with
 | nil=>intro r; simp
 | cons b l ih =>
  intro r
  simp only [List.map_cons,List.foldl_cons]
  rw [ih]
  congr 1
  simp [ByteArray.push]
theorem ba_eta (y:ByteArray):(⟨(([]:List UInt8)++y.data.toList).toArray⟩:ByteArray)=y:=by cases y; simp
set_option maxRecDepth 100000 in
theorem wpList_copy_str {P:Program} {w:World} {ops:Array Oper} {rest:List Oper} {o:Oper} {a:Act} {Q:Exit→Act→World→Prop} (hgd:o.guard=none) (d s:Operand) (dT sT:TypeId)
 (ho:o.op=.call { callee:=.builtin .copy,args:=#[d,s],argTypes:=#[dT,sT] }) (elem:TypeId) (hu:P.underlying dT=some (.slice elem)) (hsz:(P.info? elem).map (·.size)=some 1)
 (g dLen dCap:Nat) (x:ByteArray) (hd:a.eval d=.slice (some ⟨g,0,none⟩) dLen dCap) (hs:a.eval s=.string x)
 (cur:Array Value) (t:TypeId) (hg:w.heap[g]?=some (.cells cur t (0,0))) (hle:x.size≤dLen) (hfit:x.size≤cur.size)
 (h:∀ w2,Hid (w2.heap[g]?=some (.cells (Lib.byteCells x.data.toList++cur.toList.drop x.size).toArray t (0,0)))→Tch [g] w w2→wpList P ops Q rest (a.put o.dst (goInt x.size)) w2):wpList P ops Q (o :: rest) a w:=by
 refine wpList_plain hgd fun K hK=>?_
 have hrun:=Lib.run_copy_row_string (P:=P) w dT sT o.type elem g 0 dLen dCap x cur t hu hsz hg hle (by omega)
 unfold Oper.wp
 simp [execOp,ho,resolve,invoke,builtin,hd,hs,hrun,Result.andThen]
 refine hK _ _ (h _ ?_ ?_)
 · show _=_
   simpa using setRow_heap w g cur (Lib.byteCells x.data.toList++cur.toList.drop x.size).toArray t (0,0) hg
 · exact ⟨rfl,rfl,rfl,by simp [World.setRow],fun k _ hn=>setRow_other w g k _ (fun e=>hn (by simp [e]))⟩
theorem ba_ext {a b:ByteArray} (h:a.data.toList=b.data.toList):a=b:=by
 cases a; cases b; simp at h; subst h; rfl
theorem jjoin (a b:List UInt8):(⟨a.toArray⟩:ByteArray)++⟨b.toArray⟩=⟨(a++b).toArray⟩:=by
 apply ba_ext
 rw [Joins.data_append]
end Go.Proofs.YtlkgnljdpakkcaaGreatDoor
/-
 'Uint' of package pack: the one form of a number. No condition; only new memory is written.
-/
namespace Go.Proofs.YtlkgnljdpakkcaaGreatDoor
open Go.RowKit
theorem Tryz.info_u8x:(Tryz.prog.info? 5).map (fun i=>(i.zero,i.size,i.bytes))=some (some (.int .u8 0),1,1):=by kernel_rfl
theorem cells_one (w:World) (v:Value) (t:TypeId) (j:Nat) (u:Value) (h:[v][j]?=some u):(w.alloc (.cells #[v] t)).cell? ((⟨w.heap.size,0,none⟩:Addr).add j)=some u:=by
 match j,h with
 | 0,h=>simp at h; subst h; rw [add_mk,blk_cell (blk_new w _)]; rfl
theorem or128_all:∀ k:Fin 256,bits .or .u8 ((k.val:Nat):Int) 128=((k.val % 128+128:Nat):Int):=by decide +kernel
theorem or128 (u:Nat):bits .or .u8 ((u:Int) % 256) 128=((u % 128+128:Nat):Int):=by
 have h:=or128_all ⟨u % 256,by omega⟩
 simp only at h
 rw [show ((u:Int) % 256)=((u % 256:Nat):Int) from by omega,h]
 congr 1
 omega
theorem conv_own {w:World} {base n:Nat} {v:Value} {l:List UInt8} (h:w.ownsRow base 5 1 v n (l.map fun b=>Value.int .u8 b.toNat)) (hl:l≠[]) :
 ∃ g cap,v=.slice (some ⟨g,0,none⟩) n cap∧(convert 216 9 (.slice (some ⟨g,0,none⟩) n cap)).run Tryz.prog w=.ok (.string ⟨l.toArray⟩) w:=by
 have hn:l.length=n:=by have:=h.1; simpa using this
 rcases h.2 with ⟨_,h0⟩ | ⟨g,cap,cur,rfl,_,hb,_,_,_,htk⟩
 · exfalso; apply hl; exact List.length_eq_zero_iff.1 (by omega)
 · refine ⟨g,cap,rfl,?_⟩
   rw [run_convert_bytes_string _ _ _ 5 _ _ _ Tryz.underlying216 Tryz.underlying5 Tryz.underlying9]
   have hld:=run_loadCells_list (P:=Tryz.prog) (w:=w) ⟨g,0,none⟩ ((l.map fun b=>(b.toNat:Int)).map (Value.int .u8)) (by
    intro j v hj
    exact h.cells rfl j v (by simpa using hj))
   rw [List.length_map,List.length_map,hn] at hld
   rw [run_bytesToString _ _ n cap _ hld,foldl_push]
   simp
def UiRel (w:World) (V:Nat) (v0 v3:Value) (wr:World):Prop :=
 ∃ (u:Nat) (l:List UInt8),v0=.int .u64 u∧u < 18446744073709551616∧wr.ownsRow w.heap.size 5 1 v3 l.length (l.map fun b=>Value.int .u8 b.toNat)∧ub V=l++ub u∧Tch [] w wr
set_option maxRecDepth 100000 in
set_option maxHeartbeats 1000000 in
theorem uint_any (V:Nat) (w:World) (hV:V < 18446744073709551616) :
 Calls Tryz.prog 134 #[.int .u64 V] w fun e w'=>e=.returned (.string ⟨(ub V).toArray⟩)∧Tch [] w w':=by
 obtain ⟨i0,hi,hz0,hz1,hz2⟩:=info_parts Tryz.info_u8x
 go_enter Tryz.func134,Tryz.ntmps134
 go_wp2_with (at_make; refine wpList_make_own _ rfl _ _ 216 rfl w.heap.size 5 i0 (.int .u8 0) 1 Tryz.underlying216 hi hz0 hz1 _ _ _ 10 rfl rfl rfl (by omega) (by decide) (Nat.le_refl _) ?_; intro w1 hown1 hg1)
 go_loopw [0,3] (fun v0 v3 wr=>UiRel w V v0 v3 wr) (fun v0 _ _=>(intOf v0).toNat)
 case atStart=>exact ⟨V,[],rfl,hV,hown1,by simp,(Tch.refl [] w).grown hg1 (by simp)⟩
 case round =>
  obtain ⟨u,l,rfl,hu,hown,hl,T⟩:=hrel
  have hlen:l.length≤10:=by
   have h1:=ub_len 9 V (by simp; omega)
   rw [hl,List.length_append] at h1
   omega
  by_cases h:128≤u
  · go_wp2_with (at_builtin; refine wpList_append_own _ rfl _ _ 216 rfl w.heap.size 5 i0 (.int .u8 0) 1 1 Tryz.underlying216 hi hz0 hz1 hz2 rfl (by decide) _ _ _ rfl (hown.alloc _) ⟨wr.heap.size,0,none⟩ 1 1 [.int .u8 (bits .or .u8 ((u:Int) % 256) 128)] rfl rfl ?c1 ?c2 ?c3 ?c4 ?c5 ?_)
    case c1=>exact cells_one _ _ _
    case c2=>intro x hx; simp only [List.mem_singleton] at hx; subst hx; rfl
    case c3=>unfold maxLen; omega
    case c4=>omega
    case c5=>have:=T.size; simp; omega
    intro v' w2 hown2 hgrow _
    have T2:=(T.alloc (.cells #[.int .u8 (bits .or .u8 ((u:Int) % 256) 128)] 5)).own (hown.alloc _) (Nat.le_refl _) hgrow
    rw [or128] at hown2
    have HO:Hid (w2.ownsRow w.heap.size 5 1 v' (l++[UInt8.ofNat (u % 128+128)]).length ((l++[UInt8.ofNat (u % 128+128)]).map fun b=>Value.int .u8 b.toNat)):=by
     rw [List.length_append,List.map_append]
     simp only [List.map_cons,List.map_nil,u8_of (u % 128+128) (by omega)]
     exact hown2
    have HL:=Lib.hid hl
    clear hl hown hown2 hgrow hlen
    go_wp2
    go_roundw
    case rel=>exact ⟨u / 128,l++[UInt8.ofNat (u % 128+128)],by go_num,by omega,HO.out,by rw [HL.out,ub_big (by omega)]; simp,T2⟩
    case measure=>simp [intOf]; omega
  · go_wp2_with (at_builtin; refine wpList_append_own _ rfl _ _ 216 rfl w.heap.size 5 i0 (.int .u8 0) 1 1 Tryz.underlying216 hi hz0 hz1 hz2 rfl (by decide) _ _ _ rfl (hown.alloc _) ⟨wr.heap.size,0,none⟩ 1 1 [.int .u8 (u:Int)] rfl rfl ?c1 ?c2 ?c3 ?c4 ?c5 ?_)
    case c1=>exact cells_one _ _ _
    case c2=>intro x hx; simp only [List.mem_singleton] at hx; subst hx; rfl
    case c3=>unfold maxLen; omega
    case c4=>omega
    case c5=>have:=T.size; simp; omega
    intro v' w2 hown2 hgrow _
    have T2:=(T.alloc (.cells #[.int .u8 (u:Int)] 5)).own (hown.alloc _) (Nat.le_refl _) hgrow
    have HO:Hid (w2.ownsRow w.heap.size 5 1 v' (ub V).length ((ub V).map fun b=>Value.int .u8 b.toNat)):=by
     rw [hl,ub_small (by omega),List.length_append,List.map_append]
     simp only [List.map_cons,List.map_nil,u8_of u (by omega)]
     exact hown2
    obtain ⟨g,cap,rfl,hcv⟩:=conv_own HO.out (ub_ne V)
    rw [show l.length+1=(ub V).length from by rw [hl,ub_small (by omega),List.length_append]; rfl] at *
    clear hl hown hown2 hgrow hlen
    go_wp2
    go_ret
    exact ⟨rfl,T2⟩
end Go.Proofs.YtlkgnljdpakkcaaGreatDoor
