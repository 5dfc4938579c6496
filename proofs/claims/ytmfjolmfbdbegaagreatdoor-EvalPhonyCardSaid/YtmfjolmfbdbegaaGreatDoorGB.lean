/-
  Contracts of Go's library at this seat, off the kit's shelf: Cut, IndexAny, TrimLeft, ValidRune, Builder.Len, Clone and IndexFunc of variables. No condition.
  What the library's strings.Cut at a dollar sign, strings.IndexAny and strings.TrimLeft at blanks answer, for every text. No condition but the machine's bounds.
  Variables: what setting one does, in plain words; how they lie in memory. No condition.
  What the library's slices.Grow, slices.Concat and slices.Clone answer at rows of variables; what Set answers. For at most a million variables, by their names. No condition of its own.
  What Set answers. For at most a million variables, by their names. No condition of its own.
-/
import Derived.Shelf.Strings.BuilderF
import Derived.Shelf.Small.Utf8
import Derived.Shelf.Strings.Cut
import Derived.Shelf.Strings.IndexAnyAll
import Derived.Shelf.Strings.SlTrimAscii
import Derived.Shelf.SlicesE.Clone
import Derived.Shelf.SlicesQ.IndexFunc
import Derived.WalkMore
import Derived.Laws.RangeAny
import Derived.Laws.Runes
import Derived.Lib.OthersKept
import Derived.Lib.DecodeN
import Derived.Lib.TrimU
import Derived.Lib.IndexBytes
import Derived.Deep.LoopGhost
import Derived.Lib.SlBy
import Derived.Lib.AppendZeros
import Derived.OwnWalk
import Derived.Maps.AppendAt
import Derived.Deep.RegionHeld3
import Derived.Laws.Cover1
import Derived.Sort.Walk0
import Derived.Test.YtmfjolmfbdbegaaGreatDoorProg
import Derived.Test.YtmfjolmfbdbegaaGreatDoorNM1
import Derived.Test.YtmfjolmfbdbegaaGreatDoorHB
import Derived.Test.YtmfjolmfbdbegaaGreatDoorGA
import Derived.Test.YtmfjolmfbdbegaaGreatDoorNBd
namespace Go.Proofs.YtmfjolmfbdbegaaGreatDoor
open Go.Shelf Go.RowKit
def lays145_ren:Go.Shelf.Ren:=⟨fun | 145 => 46 | 220 => 66 | 219 => 100 | 217 => 135 | 225 => 136 | 224 => 137 | 267 => 138 | 266 => 160 | 314 => 161 | n=>n,fun | 9 => 9 | 4 => 4 | 59 => 98 | 3 => 3 | 5 => 5 | 46 => 114 | 146 => 203 | 51 => 140 | n=>n,fun | 1 => 0 | n=>n⟩
theorem lays145:Go.Proofs.Lays.n145 Tryz.prog lays145_ren:={
 mixed:=by kernel_rfl
 f145:=Tryz.func46.trans (congrArg some (by kernel_rfl))
 f217:=Tryz.func135.trans (congrArg some (by kernel_rfl))
 f219:=Tryz.func100.trans (congrArg some (by kernel_rfl))
 f220:=Tryz.func66.trans (congrArg some (by kernel_rfl))
 f224:=Tryz.func137.trans (congrArg some (by kernel_rfl))
 f225:=Tryz.func136.trans (congrArg some (by kernel_rfl))
 f266:=Tryz.func160.trans (congrArg some (by kernel_rfl))
 f267:=Tryz.func138.trans (congrArg some (by kernel_rfl))
 f314:=Tryz.func161.trans (congrArg some (by kernel_rfl))
 t3:=Tryz.underlying3
 a3:=Tryz.isAgg3
 z3:=Tryz.sizeOf3
 v3:=Tryz.zeroValue3
 t4:=Tryz.underlying4
 a4:=Tryz.isAgg4
 z4:=Tryz.sizeOf4
 v4:=Tryz.zeroValue4
 t5:=Tryz.underlying5
 a5:=Tryz.isAgg5
 z5:=Tryz.sizeOf5
 v5:=Tryz.zeroValue5
 t9:=Tryz.underlying9
 a9:=Tryz.isAgg9
 z9:=Tryz.sizeOf9
 v9:=Tryz.zeroValue9
 t46:=Tryz.underlying114
 a46:=Tryz.isAgg114
 z46:=Tryz.sizeOf114
 v46:=Tryz.zeroValue114
 t51:=Tryz.underlying140
 a51:=Tryz.isAgg140
 z51:=Tryz.sizeOf140
 v51:=Tryz.zeroValue140
 t59:=Tryz.underlying98
 a59:=Tryz.isAgg98
 z59:=Tryz.sizeOf98
 v59:=Tryz.zeroValue98
 t146:=Tryz.underlying203
 a146:=Tryz.isAgg203
 z146:=Tryz.sizeOf203
 v146:=Tryz.zeroValue203
 g1:=by kernel_rfl }
def lays153_ren:Go.Shelf.Ren:=⟨fun | 153 => 188 | 152 => 163 | 226 => 202 | 227 => 103 | 228 => 139 | 137 => 165 | 119 => 173 | 224 => 137 | 225 => 136 | 217 => 135 | 266 => 160 | n=>n,fun | 9 => 9 | 3 => 3 | 4 => 4 | 5 => 5 | 21 => 21 | 117 => 148 | 116 => 147 | 0 => 0 | 46 => 114 | 124 => 151 | n=>n,fun | n=>n⟩
theorem lays153:Go.Proofs.Lays.n153 Tryz.prog lays153_ren:={
 mixed:=by kernel_rfl
 f119:=Tryz.func173.trans (congrArg some (by kernel_rfl))
 f137:=Tryz.func165.trans (congrArg some (by kernel_rfl))
 f152:=Tryz.func163.trans (congrArg some (by kernel_rfl))
 f153:=Tryz.func188.trans (congrArg some (by kernel_rfl))
 f217:=Tryz.func135.trans (congrArg some (by kernel_rfl))
 f224:=Tryz.func137.trans (congrArg some (by kernel_rfl))
 f225:=Tryz.func136.trans (congrArg some (by kernel_rfl))
 f226:=Tryz.func202.trans (congrArg some (by kernel_rfl))
 f227:=Tryz.func103.trans (congrArg some (by kernel_rfl))
 f228:=Tryz.func139.trans (congrArg some (by kernel_rfl))
 f266:=Tryz.func160.trans (congrArg some (by kernel_rfl))
 t0:=Tryz.underlying0
 a0:=Tryz.isAgg0
 z0:=Tryz.sizeOf0
 v0:=Tryz.zeroValue0
 t3:=Tryz.underlying3
 a3:=Tryz.isAgg3
 z3:=Tryz.sizeOf3
 v3:=Tryz.zeroValue3
 t4:=Tryz.underlying4
 a4:=Tryz.isAgg4
 z4:=Tryz.sizeOf4
 v4:=Tryz.zeroValue4
 t5:=Tryz.underlying5
 a5:=Tryz.isAgg5
 z5:=Tryz.sizeOf5
 v5:=Tryz.zeroValue5
 t9:=Tryz.underlying9
 a9:=Tryz.isAgg9
 z9:=Tryz.sizeOf9
 v9:=Tryz.zeroValue9
 t21:=Tryz.underlying21
 a21:=Tryz.isAgg21
 z21:=Tryz.sizeOf21
 v21:=Tryz.zeroValue21
 t46:=Tryz.underlying114
 a46:=Tryz.isAgg114
 z46:=Tryz.sizeOf114
 v46:=Tryz.zeroValue114
 t116:=Tryz.underlying147
 a116:=Tryz.isAgg147
 z116:=Tryz.sizeOf147
 t117:=Tryz.underlying148
 a117:=Tryz.isAgg148
 z117:=Tryz.sizeOf148
 v117:=Tryz.zeroValue148
 t124:=Tryz.underlying151
 a124:=Tryz.isAgg151
 z124:=Tryz.sizeOf151
 v124:=Tryz.zeroValue151 }
def lays161_ren:Go.Shelf.Ren:=⟨fun | 161 => 189 | 231 => 101 | 227 => 103 | 233 => 104 | 235 => 106 | 228 => 139 | 197 => 140 | 151 => 141 | 260 => 162 | 152 => 163 | 137 => 165 | 119 => 173 | 224 => 137 | 225 => 136 | 217 => 135 | 266 => 160 | n=>n,fun | 9 => 9 | 4 => 4 | 3 => 3 | 5 => 5 | 117 => 148 | 116 => 147 | 0 => 0 | 124 => 151 | 105 => 185 | 21 => 21 | 119 => 216 | 46 => 114 | 139 => 219 | 138 => 218 | n=>n,fun | 3 => 1 | 4 => 2 | n=>n⟩
theorem lays161:Go.Proofs.Lays.n161 Tryz.prog lays161_ren:={
 mixed:=by kernel_rfl
 f119:=Tryz.func173.trans (congrArg some (by kernel_rfl))
 f137:=Tryz.func165.trans (congrArg some (by kernel_rfl))
 f151:=Tryz.func141.trans (congrArg some (by kernel_rfl))
 f152:=Tryz.func163.trans (congrArg some (by kernel_rfl))
 f161:=Tryz.func189.trans (congrArg some (by kernel_rfl))
 f197:=Tryz.func140.trans (congrArg some (by kernel_rfl))
 f217:=Tryz.func135.trans (congrArg some (by kernel_rfl))
 f224:=Tryz.func137.trans (congrArg some (by kernel_rfl))
 f225:=Tryz.func136.trans (congrArg some (by kernel_rfl))
 f227:=Tryz.func103.trans (congrArg some (by kernel_rfl))
 f228:=Tryz.func139.trans (congrArg some (by kernel_rfl))
 f231:=Tryz.func101.trans (congrArg some (by kernel_rfl))
 f233:=Tryz.func104.trans (congrArg some (by kernel_rfl))
 f235:=Tryz.func106.trans (congrArg some (by kernel_rfl))
 f260:=Tryz.func162.trans (congrArg some (by kernel_rfl))
 f266:=Tryz.func160.trans (congrArg some (by kernel_rfl))
 t0:=Tryz.underlying0
 a0:=Tryz.isAgg0
 z0:=Tryz.sizeOf0
 v0:=Tryz.zeroValue0
 t3:=Tryz.underlying3
 a3:=Tryz.isAgg3
 z3:=Tryz.sizeOf3
 v3:=Tryz.zeroValue3
 t4:=Tryz.underlying4
 a4:=Tryz.isAgg4
 z4:=Tryz.sizeOf4
 v4:=Tryz.zeroValue4
 t5:=Tryz.underlying5
 a5:=Tryz.isAgg5
 z5:=Tryz.sizeOf5
 v5:=Tryz.zeroValue5
 t9:=Tryz.underlying9
 a9:=Tryz.isAgg9
 z9:=Tryz.sizeOf9
 v9:=Tryz.zeroValue9
 t21:=Tryz.underlying21
 a21:=Tryz.isAgg21
 z21:=Tryz.sizeOf21
 v21:=Tryz.zeroValue21
 t46:=Tryz.underlying114
 a46:=Tryz.isAgg114
 z46:=Tryz.sizeOf114
 v46:=Tryz.zeroValue114
 t105:=Tryz.underlying185
 a105:=Tryz.isAgg185
 z105:=Tryz.sizeOf185
 v105:=Tryz.zeroValue185
 t116:=Tryz.underlying147
 a116:=Tryz.isAgg147
 z116:=Tryz.sizeOf147
 t117:=Tryz.underlying148
 a117:=Tryz.isAgg148
 z117:=Tryz.sizeOf148
 v117:=Tryz.zeroValue148
 t119:=Tryz.underlying216
 a119:=Tryz.isAgg216
 z119:=Tryz.sizeOf216
 t124:=Tryz.underlying151
 a124:=Tryz.isAgg151
 z124:=Tryz.sizeOf151
 v124:=Tryz.zeroValue151
 t138:=Tryz.underlying218
 a138:=Tryz.isAgg218
 z138:=Tryz.sizeOf218
 v138:=Tryz.zeroValue218
 t139:=Tryz.underlying219
 a139:=Tryz.isAgg219
 z139:=Tryz.sizeOf219
 v139:=Tryz.zeroValue219
 g3:=by kernel_rfl
 g4:=by kernel_rfl }
def lays119_ren:Go.Shelf.Ren:=⟨fun | 119 => 173 | n=>n,fun | 21 => 21 | 4 => 4 | n=>n,fun | n=>n⟩
theorem lays119:Go.Proofs.Lays.n119 Tryz.prog lays119_ren:={
 mixed:=by kernel_rfl
 f119:=Tryz.func173.trans (congrArg some (by kernel_rfl))
 t4:=Tryz.underlying4
 a4:=Tryz.isAgg4
 z4:=Tryz.sizeOf4
 v4:=Tryz.zeroValue4
 t21:=Tryz.underlying21
 a21:=Tryz.isAgg21
 z21:=Tryz.sizeOf21
 v21:=Tryz.zeroValue21 }
def lays170_ren:Go.Shelf.Ren:=⟨fun | 170 => 174 | n=>n,fun | 70 => 174 | 3 => 3 | 0 => 0 | 72 => 176 | 37 => 154 | 5 => 5 | n=>n,fun | n=>n⟩
theorem lays170:Go.Proofs.Lays.n170 Tryz.prog lays170_ren:={
 mixed:=by kernel_rfl
 f170:=Tryz.func174.trans (congrArg some (by kernel_rfl))
 t0:=Tryz.underlying0
 a0:=Tryz.isAgg0
 z0:=Tryz.sizeOf0
 v0:=Tryz.zeroValue0
 t3:=Tryz.underlying3
 a3:=Tryz.isAgg3
 z3:=Tryz.sizeOf3
 v3:=Tryz.zeroValue3
 t37:=Tryz.underlying154
 a37:=Tryz.isAgg154
 z37:=Tryz.sizeOf154
 v37:=Tryz.zeroValue154
 t70:=Tryz.underlying174
 a70:=Tryz.isAgg174
 z70:=Tryz.sizeOf174
 v70:=Tryz.zeroValue174
 t72:=Tryz.underlying176
 a72:=Tryz.isAgg176
 z72:=Tryz.sizeOf176
 v72:=Tryz.zeroValue176 }
def laysH06_ren:Go.Shelf.Ren:=⟨fun | 6 => 149 | n=>n,fun | 22 => 24 | 23 => 43 | 25 => 196 | 3 => 3 | 0 => 0 | 4 => 4 | n=>n,fun | n=>n⟩
theorem laysH06:Go.Proofs.SlLaysH0.n6 Tryz.prog laysH06_ren:={
 mixed:=by kernel_rfl
 f6:=⟨Tryz.f149.name,by decide,Tryz.func149.trans (congrArg some (by kernel_rfl))⟩
 t0:=Tryz.underlying0
 a0:=Tryz.isAgg0
 z0:=Tryz.sizeOf0
 v0:=Tryz.zeroValue0
 t3:=Tryz.underlying3
 a3:=Tryz.isAgg3
 z3:=Tryz.sizeOf3
 v3:=Tryz.zeroValue3
 t4:=Tryz.underlying4
 a4:=Tryz.isAgg4
 z4:=Tryz.sizeOf4
 v4:=Tryz.zeroValue4
 t22:=Tryz.underlying24
 a22:=Tryz.isAgg24
 z22:=Tryz.sizeOf24
 v22:=Tryz.zeroValue24
 t25:=Tryz.underlying196
 a25:=Tryz.isAgg196
 z25:=Tryz.sizeOf196
 v25:=Tryz.zeroValue196 }
def laysE041_ren:Go.Shelf.Ren:=⟨fun | 41 => 148 | n=>n,fun | 22 => 24 | 23 => 43 | 4 => 4 | n=>n,fun | n=>n⟩
theorem laysE041:Go.Proofs.SlLaysE0.n41 Tryz.prog laysE041_ren:={
 mixed:=by kernel_rfl
 f41:=⟨Tryz.f148.name,by decide,Tryz.func148.trans (congrArg some (by kernel_rfl))⟩
 t4:=Tryz.underlying4
 a4:=Tryz.isAgg4
 z4:=Tryz.sizeOf4
 v4:=Tryz.zeroValue4
 t22:=Tryz.underlying24
 a22:=Tryz.isAgg24
 z22:=Tryz.sizeOf24
 v22:=Tryz.zeroValue24 }
end Go.Proofs.YtmfjolmfbdbegaaGreatDoor

namespace Go.Proofs.YtmfjolmfbdbegaaGreatDoor
open Go.Shelf Go.RowKit
theorem still_eq {P:Program} {f:FuncId} {args:Array Value} {w:World} {m:Nat} {v:Value} (h:Calls P f args (w.drewN m) fun e w'=>e=.returned v∧w'=w.drewN m) :
  Calls P f args (w.drewN m) fun e w'=>e=.returned v∧∃ j,w'=w.drewN j:=h.mono fun _ _ h=>⟨h.1,m,h.2⟩
theorem drewN_same (B:Nat) (w:World) (m:Nat):Below B w (w.drewN m):=⟨rfl,rfl,rfl,Nat.le_refl _,fun _ _=>rfl⟩
theorem byte_dol:∀ l:BT,Lib.indexByte l 36=if tailD l=[] then -1 else ((headD l).length:Int)
 | []=>rfl
 | c :: r=>by
  unfold Lib.indexByte tailD headD
  by_cases h:c=36
  ·subst h;simp
  ·rw [if_neg (by simpa using h),List.dropWhile_cons_of_pos (by simpa using h),List.takeWhile_cons_of_pos (by simpa using h)]
   have ih:=byte_dol r
   unfold tailD headD at ih
   rw [ih]
   split
   ·rfl
   ·rw [if_neg (by simp only [beq_iff_eq];omega),List.length_cons];omega
theorem cut_dol (l:BT):Lib.cut l [36]=(headD l,(tailD l).drop 1,decide (tailD l≠[])):=by
 unfold Lib.cut
 rw [Lib.index_one,byte_dol]
 have ht:=head_tail l
 by_cases h:tailD l=[]
 ·rw [if_pos h,if_neg (by omega),h]
  rw [h,List.append_nil] at ht
  rw [ht];rfl
 ·rw [if_neg h,if_pos (by omega)]
  have e1:((headD l).length:Int).toNat=(headD l).length:=rfl
  rw [e1]
  have e2:l.take (headD l).length=headD l:=by
   have:=List.take_left (l₁:=headD l) (l₂:=tailD l)
   rwa [ht] at this
  have e3:l.drop ((headD l).length+([36]:BT).length)=(tailD l).drop 1:=by
   have:=List.drop_left (l₁:=headD l) (l₂:=tailD l)
   rw [ht] at this
   rw [← List.drop_drop,this];rfl
  rw [e2,e3,decide_eq_true h]
theorem cutD_any (s:ByteArray) (hs:s.size≤10000000) (w:World) (hst:Std w):Calls Tryz.prog 46 #[.string s,.string ⟨#[36]⟩] w fun e w' =>
  e=.returned (.tuple #[.string (txt (headD s.data.toList)),.string (txt ((tailD s.data.toList).drop 1)),.bool (decide (tailD s.data.toList≠[]))])∧∃ n,w'=w.drewN n:=by
 obtain ⟨m,hm⟩:=hst.mx
 have:=Any.strings_Cut lays145 s ⟨#[36]⟩ m w (by omega) hm
 rw [show (ByteArray.mk #[36]).data.toList=[36] from rfl,cut_dol] at this
 exact this
theorem trimLeft_any (s:ByteArray) (w:World):Calls Tryz.prog 189 #[.string s,.string ⟨#[32,9]⟩] w fun e w'=>e=.returned (.string (txt (cutL s.data.toList)))∧Below w.heap.size w w':=by
 have:=Any.strings_TrimLeft_laid lays161 (by kernel_rfl) s ⟨#[32,9]⟩ w (by decide) (ascii_of_all (by decide))
 have e:Lib.trimLeftS s.data.toList [32,9]=cutL s.data.toList:=by
  unfold Lib.trimLeftS cutL
  rw [show (fun c=>([32,9]:List UInt8).contains c)=blankB from funext contains_blank]
 rw [show (ByteArray.mk #[32,9]).data.toList=[32,9] from rfl,e] at this
 exact this
def blankAt (l:BT):Int:=Lib.indexAny l [32,9]
theorem blank_at:∀ l:BT,blankAt l=if hasBl l then ((l.takeWhile fun x=>!blankB x).length:Int) else -1
 | []=>rfl
 | c :: r=>by
  have ih:=blank_at r
  unfold blankAt at ih ⊢
  unfold Lib.indexAny hasBl
  rw [contains_blank,List.any_cons]
  cases h:blankB c with
  | true=>simp [h]
  | false =>
   rw [ih]
   simp only [Bool.false_eq_true,if_false,Bool.false_or,List.takeWhile_cons,h,Bool.not_false,if_true]
   unfold hasBl
   split
   ·rw [if_neg (by simp only [beq_iff_eq];omega),List.length_cons];omega
   ·rfl
theorem decode_tail (s:ByteArray) (pos j:Nat) (h:pos < s.size) (ha:128≤(s[pos]'h).toNat) (hj:j < (Utf8.decode s pos).2) (hl:pos+j < s.size):128≤(s[pos+j]'hl).toNat:=by
 by_cases hj0:j=0
 ·subst hj0;exact ha
 have hg:(s.get! (pos+j)).toNat=(s[pos+j]'hl).toNat:=by
  simp [ByteArray.get!,getElem!_pos,hl];rfl
 rw [← hg]
 rw [Lib.decode_at] at hj
 unfold Lib.decodeN at hj
 have h1:j=1∨j=2∨j=3∨3 < j:=by omega
 rcases h1 with rfl | rfl | rfl | h1
 all_goals
  repeat' split at hj
  all_goals simp only at hj
  all_goals omega
set_option maxRecDepth 100000 in
set_option maxHeartbeats 4000000 in
theorem rune_high (r:Int) (h0:128≤r) (h1:r≤2147483647) (w:World):Calls Tryz.prog 163 #[.string ⟨#[32,9]⟩,.int .i32 r] w fun e w'=>e=.returned (.int .i64 (-1))∧Below w.heap.size w w':=by
 have HV:Hid (∀ W,Calls Tryz.prog 173 #[.int .i32 r] W fun e w'=>e=.returned (.bool (Lib.validRune r))∧w'=W):=fun W=>Any.utf8_ValidRune lays119 r W
 have d0:decide ((0:Int)≤r)=true:=decide_eq_true (by omega)
 have d1:decide (r < (128:Int))=false:=decide_eq_false (by omega)
 by_cases he:r=65533
 ·subst he
  clear HV
  go_enter Tryz.func163,Tryz.ntmps163
  go_wp2_with fail
  go_loopg [5,6] 2 (fun g _ _ wx=>∃ i:Nat,i+g=2∧wx=w.iter ⟨#[32,9]⟩ i)
  case atStart=>exact ⟨0,rfl,rfl⟩
  case round =>
   obtain ⟨i,hig,rfl⟩:=hrel
   cases gk with
   | zero =>
    obtain rfl:i=2:=by omega
    have hnx:=fun ty=>run_next_end (P:=Tryz.prog) w ⟨#[32,9]⟩ 2 ty (by decide)
    go_wp2
    go_ret
    exact ⟨rfl,(Below.refl _ w).alloc (Nat.le_refl _) _⟩
   | succ g =>
    rcases (show i=0∨i=1 by omega) with rfl | rfl
    ·have hnx:=fun ty=>run_next_ascii (P:=Tryz.prog) w ⟨#[32,9]⟩ 0 ty (by decide) (by decide)
     go_wp2
     go_roundg g
     case measure=>omega
     case rel=>exact ⟨1,by omega,rfl⟩
    ·have hnx:=fun ty=>run_next_ascii (P:=Tryz.prog) w ⟨#[32,9]⟩ 1 ty (by decide) (by decide)
     go_wp2
     go_roundg g
     case measure=>omega
     case rel=>exact ⟨2,by omega,rfl⟩
 ·have e1:(r == 65533)=false:=by rw [beq_eq_false_iff_ne];exact he
  cases hv:Lib.validRune r with
  | false =>
   rw [hv] at HV
   go_enter Tryz.func163,Tryz.ntmps163
   go_wp2_with fail
   refine (HV.out _).mono ?_
   rintro e w' ⟨rfl,rfl⟩
   go_wp2_with fail
   go_ret
   exact ⟨rfl,Below.refl _ _⟩
  | true =>
   rw [hv] at HV
   go_enter Tryz.func163,Tryz.ntmps163
   go_wp2_with fail
   refine (HV.out _).mono ?_
   rintro e w' ⟨rfl,rfl⟩
   go_wp2_with fail
   have hvd:Utf8.valid r=true:=by
    unfold Lib.validRune at hv
    unfold Utf8.valid
    simp only [decide_eq_true_eq] at hv
    simp only [Bool.or_eq_true,Bool.and_eq_true,decide_eq_true_eq]
    omega
   obtain ⟨q2,q4,ql⟩:=encode_facts r hvd h0
   generalize hrs:Utf8.encode r=rs at q2 q4 ql
   have hcv:=fun (W:World)=>run_convert_int_string (P:=Tryz.prog) W 21 9 .i32 r (by kernel_rfl) Tryz.underlying9
   rw [hrs] at hcv
   clear hrs hvd
   obtain ⟨⟨l⟩⟩:=rs
   have hl:(⟨⟨l⟩⟩:ByteArray).size=l.length:=rfl
   rw [hl] at q2 q4
   have hcase:(∃ a b,l=[a,b])∨(∃ a b c,l=[a,b,c])∨∃ a b c d,l=[a,b,c,d]:=by
    clear hcv ql hl
    match l,q2,q4 with
    | [a,b],_,_=>exact .inl ⟨a,b,rfl⟩
    | [a,b,c],_,_=>exact .inr (.inl ⟨a,b,c,rfl⟩)
    | [a,b,c,d],_,_=>exact .inr (.inr ⟨a,b,c,d,rfl⟩)
    | _ :: _ :: _ :: _ :: _ :: _,_,h=>simp only [List.length_cons] at h;omega
   clear q2 q4 hl
   rcases hcase with ⟨a,b,rfl⟩ | ⟨a,b,c,rfl⟩ | ⟨a,b,c,d,rfl⟩
   ·have hb:128≤b.toNat:=ql (Nat.lt_succ_self 1)
    clear ql
    have c1:(((((⟨#[32,9]⟩:ByteArray)[1]'(by decide)).toNat:Nat):Int) != ((((⟨⟨[a,b]⟩⟩:ByteArray)[1]'(Nat.lt_succ_self 1)).toNat:Nat):Int))=true:=by
     show ((9:Int) != (b.toNat:Int))=true
     rw [bne_iff_ne];omega
    have HI:Hid (∀ W,Calls Tryz.prog 165 #[.string ⟨#[]⟩,.int .u8 (b.toNat:Int)] W fun e w'=>e=.returned (.int .i64 (-1))∧w'=W):=fun W=>(indexByte_any ⟨#[]⟩ (b.toNat:Int) W).mono fun e w' h=>h
    go_wp2_with fail
    go_step3
    go_wp2_with fail
    go_loopw [9,10] (fun iv fv wr=>iv=.int .i64 1∧fv=.int .i64 0∧wr=w') (fun _ _ _=>0)
    case atStart=>exact ⟨rfl,rfl,rfl⟩
    case round =>
     obtain ⟨rfl,rfl,rfl⟩:=hrel
     go_wp2_with fail
     go_step3
     go_wp2_with fail
     go_quiet (fail)
     have HB9:Hid (Below wr.heap.size wr (wr.drewN nq)):=drewN_same _ _ _
     generalize wr.drewN nq=wz at HB9 ⊢
     have cw:IntKind.i64.wrap 2=2:=by decide
     go_wp2_with fail
     go_quiet ((exact still_eq (HI.out _)))
     go_wp2_with fail
     simp +zetaDelta only [Exit.noGoto_ret,Exit.inBlock,Exit.then]
     refine bodyPost_ret (results_tmp rfl _ _ _) rfl ?_
     exact ⟨rfl,HB9.out.trans ((drewN_same _ _ _).mono HB9.out.size)⟩
   ·clear ql
    go_wp2_with fail
    go_step3
    go_wp2_with fail
    go_loopw [9,10] (fun iv fv wr=>iv=.int .i64 2∧fv=.int .i64 0∧wr=w') (fun _ _ _=>0)
    case atStart=>exact ⟨rfl,rfl,rfl⟩
    case round =>
     obtain ⟨rfl,rfl,rfl⟩:=hrel
     go_wp2
     simp +zetaDelta only [Exit.noGoto_ret,Exit.inBlock]
     refine bodyPost_ret (results_tmp rfl _ _ _) rfl ?_
     exact ⟨rfl,Below.refl _ _⟩
   ·clear ql
    go_wp2_with fail
    go_step3
    go_wp2_with fail
    go_loopw [9,10] (fun iv fv wr=>iv=.int .i64 3∧fv=.int .i64 0∧wr=w') (fun _ _ _=>0)
    case atStart=>exact ⟨rfl,rfl,rfl⟩
    case round =>
     obtain ⟨rfl,rfl,rfl⟩:=hrel
     go_wp2
     simp +zetaDelta only [Exit.noGoto_ret,Exit.inBlock]
     refine bodyPost_ret (results_tmp rfl _ _ _) rfl ?_
     exact ⟨rfl,Below.refl _ _⟩
set_option maxRecDepth 100000 in
set_option maxHeartbeats 4000000 in
theorem indexAny_short (s:ByteArray) (h8:s.size≤8) (w:World):Calls Tryz.prog 188 #[.string s,.string ⟨#[32,9]⟩] w fun e w'=>e=.returned (.int .i64 (blankAt s.data.toList))∧Below w.heap.size w w':=by
 have h8z:decide ((8:Int) < (s.size:Int))=false:=decide_eq_false (by omega)
 have HU:Hid (∀ W,Calls Tryz.prog 202 #[.int .i64 (s.size:Int)] W fun e w'=>e=.returned (.bool false)∧w'=W):=fun W=>by
  have:=Any.strings_shouldUseASCIISet { lays153 with } (s.size:Int) W
  rw [h8z] at this
  exact this
 have HR:Hid (∀ (r:Int) W,0≤r→r < 128→Calls Tryz.prog 163 #[.string ⟨#[32,9]⟩,.int .i32 r] W fun e w'=>e=.returned (.int .i64 (Lib.indexByte [32,9] r.toNat.toUInt8))∧w'=W):=fun r W h0 h1 =>
  Any.strings_IndexRune_ascii { lays153 with } ⟨#[32,9]⟩ r W h0 h1
 clear h8z
 go_enter Tryz.func188,Tryz.ntmps188
 go_wp2_with fail
 refine (HU.out _).mono ?_
 rintro e w1 ⟨rfl,rfl⟩
 go_wp2_with fail
 go_loopg [9,10] s.size (fun g _ _ wx=>∃ i:Nat,(s.size≤i+g)∧i≤s.size+4∧Hid (wx.heap[w1.heap.size]? = some (.stringIter s i))∧Hid (Below w1.heap.size w1 wx)∧Hid (Lib.NoAny s.data.toList [32,9] i))
 case atStart =>
  refine ⟨0,by omega,by omega,?_,(Below.refl _ _).alloc (Nat.le_refl _) _,Lib.NoAny.zero _ _⟩
  exact World.iter_heap _ _ _
 case round =>
  obtain ⟨i,hig,hi4,HI,HB,HN⟩:=hrel
  by_cases hi:i < s.size
  ·have hlt:w1.heap.size < wr.heap.size:=(Array.getElem?_eq_some_iff.1 HI.out).1
   by_cases ha:(s[i]'hi).toNat < 128
   ·have hnx:=fun ty=>Lib.run_next_ascii_at (P:=Tryz.prog) wr w1.heap.size s i ty HI.out hi ha
    have hz:Hid ((wr.iterAt w1.heap.size s (i+1)).heap[w1.heap.size]? = some (.stringIter s (i+1))):=Lib.iterAt_heap _ _ _ _ _ HI.out
    have hb:Hid (Below w1.heap.size w1 (wr.iterAt w1.heap.size s (i+1))):=Lib.below_iterAt HB.out (Nat.le_refl _) _ _
    have hback:(((s[i]'hi).toNat:Nat):Int).toNat.toUInt8=s[i]'hi:=by simp
    have hx:Hid (s.data.toList[i]? = some (s[i]'hi)):=Lib.data_getElem? s i hi
    have hcon:=Lib.contains_iff_indexByte [32,9] (s[i]'hi)
    generalize wr.iterAt w1.heap.size s (i+1)=wz at hnx hz hb
    generalize s[i]'hi=c at ha hnx hback hx hcon
    have HR1:Hid (∀ W,Calls Tryz.prog 163 #[.string ⟨#[32,9]⟩,.int .i32 (c.toNat:Nat)] W fun e w'=>e=.returned (.int .i64 (Lib.indexByte [32,9] c))∧w'=W):=fun W=>by
     have:=HR.out (c.toNat:Nat) W (by omega) (by omega)
     rwa [hback] at this
    clear hback HR HU h8
    have HIG:=Lib.hid hig
    have HI4:=Lib.hid hi4
    have hiz:=Lib.hid hi
    clear hig hi4 hi
    cases hin:([32,9]:List UInt8).contains c
    ·rw [hin] at hcon
     have hlt:¬ ((0:Int)≤Lib.indexByte [32,9] c):=of_decide_eq_false hcon.symm
     have HC:=Lib.hid hin
     clear hcon hin
     generalize Lib.indexByte [32,9] c=ib at HR1 hlt
     go_wp2_with (go_at_call 163;refine (HR1.out _).mono ?_;rintro e w' ⟨rfl,hw⟩;rw [hw])
     have h1:=HIG.out
     have h2:=hiz.out
     cases gk with
     | zero=>omega
     | succ gk =>
      go_roundg gk
      case measure=>omega
      case rel=>exact ⟨i+1,by omega,by omega,hz,hb,HN.out.succ hx.out HC.out⟩
    ·rw [hin] at hcon
     have hge:(0:Int)≤Lib.indexByte [32,9] c:=of_decide_eq_true hcon.symm
     have HC:=Lib.hid hin
     clear hcon hin
     generalize Lib.indexByte [32,9] c=ib at HR1 hge
     go_wp2_with (go_at_call 163;refine (HR1.out _).mono ?_;rintro e w' ⟨rfl,hw⟩;rw [hw])
     go_ret
     exact ⟨by unfold blankAt;rw [Lib.indexAny_hit HN.out hx.out HC.out];rfl,hb.out⟩
   ·have ha':128≤(s[i]'hi).toNat:=by omega
    have hnx:=fun ty=>Lib.run_next_any_at (P:=Tryz.prog) wr w1.heap.size s i ty HI.out hi
    have hh:=decode_high s i hi ha'
    have hle:=decode_le s i
    have hwd:(Utf8.decode s i).2≤4:=by
     rw [Lib.decode_at];unfold Lib.decodeN
     repeat' split
     all_goals simp
    have hN2:Hid (Lib.NoAny s.data.toList [32,9] (i+(Utf8.decode s i).2)):=fun j b hj hb=>by
     by_cases hji:j < i
     ·exact HN.out j b hji hb
     ·have hjl:j < s.size:=by
       have:=(List.getElem?_eq_some_iff.1 hb).1
       rwa [size_list] at this
      have:=decode_tail s i (j - i) hi ha' (by omega) (by omega)
      have e:s.data.toList[j]? = some (s[j]'hjl):=Lib.data_getElem? s j hjl
      rw [e] at hb
      cases hb
      rw [show (s[i+(j - i)]'(by omega))=s[j]'hjl from by congr 1;omega] at this
      rw [contains_blank]
      unfold blankB
      simp
      omega
    have hz:Hid ((wr.iterAt w1.heap.size s (i+(Utf8.decode s i).2)).heap[w1.heap.size]? = some (.stringIter s (i+(Utf8.decode s i).2))):=Lib.iterAt_heap _ _ _ _ _ HI.out
    have hb:Hid (Below w1.heap.size w1 (wr.iterAt w1.heap.size s (i+(Utf8.decode s i).2))):=Lib.below_iterAt HB.out (Nat.le_refl _) _ _
    have hzl:w1.heap.size < (wr.iterAt w1.heap.size s (i+(Utf8.decode s i).2)).heap.size:=by rw [Lib.iterAt_size];exact hlt
    have HR1:Hid (∀ W,Calls Tryz.prog 163 #[.string ⟨#[32,9]⟩,.int .i32 ((Utf8.decode s i).1:Nat)] W fun e w'=>e=.returned (.int .i64 (-1))∧Below W.heap.size W w'):=fun W=>rune_high _ (by omega) (by omega) W
    generalize wr.iterAt w1.heap.size s (i+(Utf8.decode s i).2)=wz at hnx hz hb hzl
    generalize (Utf8.decode s i).1=rn at hh hle hnx HR1
    generalize (Utf8.decode s i).2=wd at hh hwd hN2 hz
    clear HR HU h8 ha ha'
    go_wp2_with (go_at_call 163;refine (HR1.out _).mono ?_;rintro e w' ⟨rfl,hw⟩)
    cases gk with
    | zero=>omega
    | succ gk =>
     go_roundg gk
     case measure=>omega
     case rel=>exact ⟨i+wd,by omega,by omega,(show Hid _ from (hw.block _ hzl).trans hz.out),hb.out.trans (hw.mono hb.out.size),hN2⟩
  ·have hnx:=fun ty=>Lib.run_next_end_at (P:=Tryz.prog) wr w1.heap.size s i ty HI.out hi
   go_wp2
   go_ret
   refine ⟨?_,HB.out⟩
   unfold blankAt
   rw [Lib.indexAny_none (fun j b hj hb=>HN.out j b (by rw [size_list] at hj;omega) hb)]
   rfl
theorem indexAny_any (s:ByteArray) (hs:s.size≤10000000) (w:World):Calls Tryz.prog 188 #[.string s,.string ⟨#[32,9]⟩] w fun e w'=>e=.returned (.int .i64 (blankAt s.data.toList))∧Below w.heap.size w w':=by
 by_cases h8:s.size≤8
 ·exact indexAny_short s h8 w
 ·have h116:(Tryz.prog.info? (lays153_ren.t 116)).map (fun i=>(i.zero,i.size))=some (some (.agg (Array.replicate 256 (.bool false))),256):=by kernel_rfl
  refine (Any.strings_IndexAny_long lays153 (zero_of_info h116).1 (zero_of_info h116).2 s ⟨#[32,9]⟩ w (by decide) (by omega) (by omega) (by decide) (ascii_of_all (by decide))).mono fun e w' ⟨h1,h2⟩=>⟨h1,?_⟩
  rw [h2]
  exact ((Below.refl _ _).alloc (Nat.le_refl _) _).alloc (by simp) _
end Go.Proofs.YtmfjolmfbdbegaaGreatDoor

namespace Go.Proofs.YtmfjolmfbdbegaaGreatDoor
open Go.RowKit Go.Shelf
theorem idx_from (p:VarT→Bool) (d:VarT):∀ (l:EnvT) (i:Nat),Lib.idxByFrom (fun _ y=>p y) d l i=match l.findIdx? p with | some j=>((i+j:Nat):Int) | none=>-1
 | [],_=>rfl
 | y :: r,i=>by
  unfold Lib.idxByFrom
  rw [List.findIdx?_cons]
  cases h:p y with
  | true=>simp
  | false =>
   simp only [Bool.false_eq_true,if_false]
   rw [idx_from p d r (i+1)]
   cases r.findIdx? p with
   | none=>rfl
   | some j =>
    show ((i+1+j:Nat):Int)=((i+(j+1):Nat):Int)
    rw [Nat.add_assoc,Nat.add_comm 1 j]
def placeI (p:VarT→Bool) (l:EnvT):Int:=match l.findIdx? p with | some j=>(j:Int) | none=>-1
theorem idx_is (p:VarT→Bool) (l:EnvT) (d:VarT):Lib.idxBy (fun _ y=>p y) l d=placeI p l:=by
 unfold Lib.idxBy placeI
 rw [idx_from]
 cases l.findIdx? p with
 | none=>rfl
 | some j=>simp
def eqP (n:BT) (y:VarT):Bool:=decide (y.1=n)
def gtP (n:BT) (y:VarT):Bool:=decide (n < y.1)
theorem get_none {l:EnvT} {n:BT} (h:l.findIdx? (eqP n)=none):getT l n=none:=by
 unfold getT
 rw [List.find?_eq_none]
 rw [List.findIdx?_eq_none_iff] at h
 intro x hx
 have:=h x hx
 unfold eqP at this
 simpa using this
theorem get_some:∀ {l:EnvT} {n:BT} {i:Nat},l.findIdx? (eqP n)=some i→∃ h:i < l.length,getT l n=some l[i]∧l[i].1=n
 | [],n,i,h=>by simp at h
 | y :: r,n,i,h=>by
  rw [List.findIdx?_cons] at h
  unfold getT
  cases hy:eqP n y with
  | true =>
   rw [hy] at h
   simp at h
   subst h
   unfold eqP at hy
   refine ⟨by simp,?_,by simpa using hy⟩
   rw [List.find?_cons_of_pos (by simpa using hy)]
   rfl
  | false =>
   rw [hy] at h
   simp only [Bool.false_eq_true,if_false,Option.map_eq_some_iff] at h
   obtain ⟨j,hj,rfl⟩:=h
   obtain ⟨h1,h2,h3⟩:=get_some hj
   unfold eqP at hy
   refine ⟨by simpa using h1,?_,by simpa using h3⟩
   rw [List.find?_cons_of_neg (by simpa using hy)]
   exact h2
theorem set_has:∀ {l:EnvT} {x:VarT} {i:Nat},SrtT l→l.findIdx? (eqP x.1)=some i→setT l x=l.set i x
 | [],x,i,_,h=>by simp at h
 | y :: r,x,i,hs,h=>by
  rw [List.findIdx?_cons] at h
  unfold setT
  cases hy:eqP x.1 y with
  | true =>
   rw [hy] at h
   simp at h
   subst h
   unfold eqP at hy
   rw [if_pos (by simpa using hy)];rfl
  | false =>
   rw [hy] at h
   simp only [Bool.false_eq_true,if_false,Option.map_eq_some_iff] at h
   obtain ⟨j,hj,rfl⟩:=h
   obtain ⟨h1,h2,h3⟩:=get_some hj
   have hlt:y.1 < x.1:=by
    have:=(List.pairwise_cons.1 hs).1 r[j] (List.getElem_mem h1)
    rwa [h3] at this
   unfold eqP at hy
   rw [if_neg (by simpa using hy),if_neg (fun h=>List.lt_irrefl _ (List.lt_trans h hlt)),set_has (List.pairwise_cons.1 hs).2 hj]
   rfl
theorem set_new:∀ {l:EnvT} {x:VarT},l.findIdx? (eqP x.1)=none→setT l x=l.take ((l.findIdx? (gtP x.1)).getD l.length)++x :: l.drop ((l.findIdx? (gtP x.1)).getD l.length)
 | [],x,_=>rfl
 | y :: r,x,h=>by
  rw [List.findIdx?_cons] at h ⊢
  unfold setT
  cases hy:eqP x.1 y with
  | true=>rw [hy] at h;simp at h
  | false =>
   rw [hy] at h
   simp only [Bool.false_eq_true,if_false,Option.map_eq_none_iff] at h
   have ih:=set_new h
   unfold eqP at hy
   rw [if_neg (by simpa using hy)]
   cases hg:gtP x.1 y with
   | true =>
    unfold gtP at hg
    rw [if_pos (by simpa using hg)]
    rfl
   | false =>
    unfold gtP at hg
    rw [if_neg (by simpa using hg),ih]
    simp only [Bool.false_eq_true,if_false]
    cases r.findIdx? (gtP x.1) with
    | none=>simp
    | some j=>simp
theorem set_mem:∀ {l:EnvT} {x y:VarT},y∈setT l x→y=x∨y∈l
 | [],x,y,h=>by unfold setT at h;simp at h;exact .inl h
 | z :: r,x,y,h=>by
  unfold setT at h
  split at h
  ·rcases List.mem_cons.1 h with e | e
   ·exact .inl e
   ·exact .inr (List.mem_cons_of_mem _ e)
  ·split at h
   ·rcases List.mem_cons.1 h with e | e
    ·exact .inl e
    ·exact .inr e
   ·rcases List.mem_cons.1 h with e | e
    ·exact .inr (by rw [e];simp)
    ·rcases set_mem e with e | e
     ·exact .inl e
     ·exact .inr (List.mem_cons_of_mem _ e)
theorem set_srt:∀ {l:EnvT} {x:VarT},SrtT l→SrtT (setT l x)
 | [],x,_=>by unfold setT SrtT;simp
 | z :: r,x,hs=>by
  have h1:=(List.pairwise_cons.1 hs).1
  have h2:=(List.pairwise_cons.1 hs).2
  unfold setT
  split
  ·rename_i he
   exact List.pairwise_cons.2 ⟨fun y hy=>by rw [← he];exact h1 y hy,h2⟩
  ·rename_i he
   split
   ·rename_i hlt
    refine List.pairwise_cons.2 ⟨fun y hy=>?_,hs⟩
    rcases List.mem_cons.1 hy with e | e
    ·rw [e];exact hlt
    ·exact List.lt_trans hlt (h1 y e)
   ·rename_i hlt
    refine List.pairwise_cons.2 ⟨fun y hy=>?_,set_srt h2⟩
    rcases set_mem hy with e | e
    ·rw [e];exact bt_le_lt (List.not_lt.1 hlt) he
    ·exact h1 y e
theorem set_len (l:EnvT) (x:VarT):(setT l x).length≤l.length+1∧l.length≤(setT l x).length:=by
 induction l with
 | nil=>unfold setT;simp
 | cons z r ih =>
  unfold setT
  split
  ·simp
  ·split
   ·simp
   ·simp only [List.length_cons];omega
def encV (x:VarT):List Value:=[.string (txt x.1),.string (txt x.2.1),.bool x.2.2]
def aggV (x:VarT):Value:=.agg #[.string (txt x.1),.string (txt x.2.1),.bool x.2.2]
def EnvS (W:World) (Q:Nat→Prop) (v:Value) (l:EnvT):Prop :=
 (v=.slice none 0 0∧l=[])∨∃ b c,v=.slice (some ⟨b,0,none⟩) l.length c∧Q b∧b < W.heap.size∧l.length≤c∧∀ j x,l[j]? = some x→∀ i u,(encV x)[i]? = some u→W.cell? ⟨b,j*3+i,none⟩=some u
theorem EnvS.nil (W:World) (Q:Nat→Prop):EnvS W Q (.slice none 0 0) []:=.inl ⟨rfl,rfl⟩
theorem EnvS.turned {W W':World} {Q X:Nat→Prop} {v:Value} {l:EnvT} (h:EnvS W Q v l) (hT:Turned X W W') (hx:∀ b,Q b→¬ X b):EnvS W' Q v l:=by
 rcases h with h | ⟨b,c,h1,h2,h3,h4,h5⟩
 ·exact .inl h
 ·refine .inr ⟨b,c,h1,h2,Nat.lt_of_lt_of_le h3 hT.size,h4,fun j x hj i u hi=>?_⟩
  rw [← h5 j x hj i u hi]
  unfold World.cell?
  rw [hT.block b h3 (hx b h2)]
theorem EnvS.below {W W':World} {Q:Nat→Prop} {v:Value} {l:EnvT} (h:EnvS W Q v l) (hb:Below W.heap.size W W'):EnvS W' Q v l:=by
 rcases h with h | ⟨b,c,h1,h2,h3,h4,h5⟩
 ·exact .inl h
 ·exact .inr ⟨b,c,h1,h2,Nat.lt_of_lt_of_le h3 hb.size,h4,fun j x hj i u hi=>(hb.cell (p:=⟨b,j*3+i,none⟩) h3).trans (h5 j x hj i u hi)⟩
theorem EnvS.wider {W:World} {Q Q':Nat→Prop} {v:Value} {l:EnvT} (h:EnvS W Q v l) (hq:∀ b,b < W.heap.size→Q b→Q' b):EnvS W Q' v l:=by
 rcases h with h | ⟨b,c,h1,h2,h3,h4,h5⟩
 ·exact .inl h
 ·exact .inr ⟨b,c,h1,hq b h3 h2,h3,h4,h5⟩
theorem EnvS.cellsAt {W:World} {b:Nat} {l:EnvT} (h:∀ j x,l[j]? = some x→∀ i u,(encV x)[i]? = some u→W.cell? ⟨b,j*3+i,none⟩=some u):∀ j,j < l.length→∀ i v,(encV l[j]!)[i]? = some v→W.cell? ⟨b,0+j*3+i,none⟩=some v:=fun j hj i v hi=>by
 rw [Nat.zero_add]
 exact h j l[j]! (by rw [getElem!_pos l j hj];simp) i v hi
theorem pred_find (n:ByteArray) (B:Nat) (w:World) (hB:B < w.heap.size) (hc:w.cell? ⟨B,0,none⟩=some (.string n)) :
  PredBelow Tryz.prog 166 #[.pointer (some ⟨B,0,none⟩)] (fun x=>.agg (encV x).toArray) (eqP n.data.toList) w:=fun W x hb=>by
 have hc':W.cell? ⟨B,0,none⟩=some (.string n):=(hb.cell (p:=⟨B,0,none⟩) hB).trans hc
 have hBW:B < W.heap.size:=Nat.lt_of_lt_of_le hB hb.size
 have hne:B≠W.heap.size:=by omega
 have e1:((txt x.1).toList == n.toList)=eqP n.data.toList x:=by
  rw [Lib.toList_data,Lib.toList_data,txt_data]
  unfold eqP
  by_cases h:x.1=n.data.toList
  ·rw [h];simp
  ·rw [decide_eq_false h];simpa using h
 generalize eqP n.data.toList x=r at e1 ⊢
 have HB:=Lib.hid hb
 clear hb hc hB
 show Calls Tryz.prog 166 #[.agg #[.string (txt x.1),.string (txt x.2.1),.bool x.2.2],.pointer (some ⟨B,0,none⟩)] W _
 go_enter Tryz.func166,Tryz.ntmps166
 go_wp2
 go_ret
 exact ⟨rfl,HB.out.alloc HB.out.size _⟩
set_option maxRecDepth 100000 in
set_option maxHeartbeats 1000000 in
theorem index_none (fv:Value) (w:World):Calls Tryz.prog 149 #[.slice none 0 0,fv] w fun e w'=>e=.returned (.int .i64 (-1))∧w'=w:=by
 go_enter Tryz.func149,Tryz.ntmps149
 go_wp2
 go_loopg [5,8] 0 (fun _ _ s8 wr=>s8=.int .i64 0∧wr=w)
 case atStart=>exact ⟨rfl,rfl⟩
 case round =>
  obtain ⟨rfl,rfl⟩:=hrel
  go_wp2
  go_ret
  exact ⟨rfl,rfl⟩
set_option maxRecDepth 100000 in
set_option maxHeartbeats 1000000 in
theorem find_any (Q:Nat→Prop) (v:Value) (l:EnvT) (n:ByteArray) (w:World) (h:EnvS w Q v l) (hl:l.length≤1000000) :
  Calls Tryz.prog 146 #[.agg #[v],.string n] w fun e w'=>e=.returned (.int .i64 (placeI (eqP n.data.toList) l))∧Below w.heap.size w w':=by
 have eg:∀ args w,(callFunc 166 args).run Tryz.prog w=.ok (.enter 166 args) w:=enters_of Tryz.func166 (by kernel_rfl) rfl
 have hcon:Hid (Calls Tryz.prog 149 #[v,.func (.func 166) #[] #[.pointer (some ⟨w.heap.size+1,0,none⟩)]] ((w.alloc (.cells #[v] 26)).alloc (.cells #[.string n] 9)) fun e w'=>e=.returned (.int .i64 (placeI (eqP n.data.toList) l))∧Below ((w.alloc (.cells #[v] 26)).alloc (.cells #[.string n] 9)).heap.size ((w.alloc (.cells #[v] 26)).alloc (.cells #[.string n] 9)) w'):=by
  have hb2:Below w.heap.size w ((w.alloc (.cells #[v] 26)).alloc (.cells #[.string n] 9)):=((Below.refl _ w).alloc (Nat.le_refl _) _).alloc (by simp) _
  have h2:=h.below hb2
  have hbox:((w.alloc (.cells #[v] 26)).alloc (.cells #[.string n] 9)).cell? ⟨w.heap.size+1,0,none⟩=some (.string n):=by
   have h0:=World.alloc_heap_new (w.alloc (.cells #[v] 26)) (.cells #[.string n] 9)
   rw [World.size_alloc] at h0
   exact Lib.cell_of_heap h0 0
  rcases h2 with ⟨rfl,rfl⟩ | ⟨b,c,rfl,hq,hlt,hlc,hcells⟩
  ·refine (index_none _ _).mono ?_
   rintro e w' ⟨rfl,rfl⟩
   exact ⟨rfl,Below.refl _ _⟩
  ·have:=AnyQ.slices_IndexFunc laysH06 3 Tryz.isAgg43 Tryz.sizeOf43 encV (fun _=>rfl) (eqP n.data.toList) 166 #[.pointer (some ⟨w.heap.size+1,0,none⟩)] eg b 0 l.length c l _
    (pred_find n (w.heap.size+1) _ (by simp) hbox) (Nat.le_refl _) (by omega) hlt (EnvS.cellsAt hcells)
   rw [List.take_length,idx_is] at this
   exact this
 clear h
 generalize placeI (eqP n.data.toList) l=r at hcon ⊢
 go_enter Tryz.func146,Tryz.ntmps146
 go_wp2_with fail
 refine hcon.out.mono ?_
 rintro e w' ⟨rfl,hb⟩
 go_wp2_with fail
 go_ret
 exact ⟨rfl,(((Below.refl _ w).alloc (Nat.le_refl _) _).alloc (by simp) _).trans (hb.mono (by simp;omega))⟩
theorem set_three {W:World} {b:Nat} {a0 a1 a2:Value} {T:TypeId} (h:W.heap[b]? = some (.cells #[a0,a1,a2] T (0,0))) (x y z:Value) :
  (((W.setCell ⟨b,0,none⟩ x).setCell ⟨b,1,none⟩ y).setCell ⟨b,2,none⟩ z).heap[b]? = some (.cells #[x,y,z] T (0,0)):=by simp [World.setCell,Array.getElem?_modify,h]
theorem three_cells {W:World} {b:Nat} {a0 a1 a2:Value} {T:TypeId} (h:W.heap[b]? = some (.cells #[a0,a1,a2] T (0,0))):W.cell? ⟨b,0,none⟩=some a0∧W.cell? ⟨b,1,none⟩=some a1∧W.cell? ⟨b,2,none⟩=some a2∧W.frozen? ⟨b,0,none⟩=false∧W.frozen? ⟨b,1,none⟩=false∧W.frozen? ⟨b,2,none⟩=false :=
 ⟨by rw [Lib.cell_of_heap h];rfl,by rw [Lib.cell_of_heap h];rfl,by rw [Lib.cell_of_heap h];rfl,Lib.frozen_of_heap h 0,Lib.frozen_of_heap h 1,Lib.frozen_of_heap h 2⟩
theorem one_cell {W:World} {b:Nat} {a0:Value} {T:TypeId} (h:W.heap[b]? = some (.cells #[a0] T (0,0))):W.cell? ⟨b,0,none⟩=some a0∧W.frozen? ⟨b,0,none⟩=false :=
 ⟨by rw [Lib.cell_of_heap h];rfl,Lib.frozen_of_heap h 0⟩
theorem below_three {B:Nat} {w W:World} (h:Below B w W) {b:Nat} (hb:B≤b) (x y z:Value):Below B w (((W.setCell ⟨b,0,none⟩ x).setCell ⟨b,1,none⟩ y).setCell ⟨b,2,none⟩ z) :=
 ((h.setCell (p:=⟨b,0,none⟩) hb _).setCell (p:=⟨b,1,none⟩) hb _).setCell (p:=⟨b,2,none⟩) hb _
theorem heap_first (w:World) (o1 o2:Obj):((w.alloc o1).alloc o2).heap[w.heap.size]? = some o1:=(Below.heap_alloc _ _ _ (by simp)).trans (World.alloc_heap_new w o1)
theorem heap_second (w:World) (o1 o2:Obj):((w.alloc o1).alloc o2).heap[w.heap.size+1]? = some o2:=by
 have h:=World.alloc_heap_new (w.alloc o1) o2
 rwa [World.size_alloc] at h
theorem below_two (w:World) (o1 o2:Obj):Below w.heap.size w ((w.alloc o1).alloc o2):=((Below.refl _ w).alloc (Nat.le_refl _) _).alloc (by simp) _
def GetPost (l:EnvT) (n:BT) (w:World) (e:Ending) (w':World):Prop:=e=.returned (.tuple #[aggV ((getT l n).getD ([],[],false)),.bool (getT l n).isSome])∧Below w.heap.size w w'
set_option maxRecDepth 100000 in
set_option maxHeartbeats 2000000 in
theorem get_any (Q:Nat→Prop) (v:Value) (l:EnvT) (n:ByteArray) (w:World) (h:EnvS w Q v l) (hl:l.length≤1000000) :
  Calls Tryz.prog 115 #[.agg #[v],.string n] w (GetPost l n.data.toList w):=by
 have hB0:=below_two w (.cells #[v] 26) (.cells #[.string ⟨#[]⟩,.string ⟨#[]⟩,.bool false] 43)
 have hx1:=heap_first w (.cells #[v] 26) (.cells #[.string ⟨#[]⟩,.string ⟨#[]⟩,.bool false] 43)
 have hx2:=heap_second w (.cells #[v] 26) (.cells #[.string ⟨#[]⟩,.string ⟨#[]⟩,.bool false] 43)
 have HF:Hid (∀ r:Int,placeI (eqP n.data.toList) l=r→Calls Tryz.prog 146 #[.agg #[v],.string n] ((w.alloc (.cells #[v] 26)).alloc (.cells #[.string ⟨#[]⟩,.string ⟨#[]⟩,.bool false] 43)) fun e w'=>e=.returned (.int .i64 r)∧Below w.heap.size w w'∧w.heap.size+1 < w'.heap.size∧EnvS w' Q v l∧w'.heap[w.heap.size]? = some (.cells #[v] 26 (0,0))∧w'.heap[w.heap.size+1]? = some (.cells #[.string ⟨#[]⟩,.string ⟨#[]⟩,.bool false] 43 (0,0))):=fun r hr=>by
  rw [← hr]
  refine (find_any Q v l n _ (h.below hB0) hl).mono ?_
  rintro e w' ⟨he,hb⟩
  have hs:=hb.size
  simp only [World.size_alloc] at hs
  exact ⟨he,hB0.trans (hb.mono (by simp;omega)),by omega,(h.below hB0).below hb,(hb.block _ (by simp;omega)).trans hx1,(hb.block _ (by simp)).trans hx2⟩
 clear hB0 hx1 hx2 h
 cases hp:l.findIdx? (eqP n.data.toList) with
 | none =>
  have HF1:=Lib.hid (HF.out (-1) (by unfold placeI;rw [hp]))
  have HV:Hid (getT l n.data.toList=none):=get_none hp
  clear hp HF
  unfold GetPost
  rw [HV.out]
  go_enter Tryz.func115,Tryz.ntmps115
  go_wp2_with fail
  refine HF1.out.mono ?_
  rintro e w1 ⟨rfl,hb,hlt,_,hy1,hy2⟩
  obtain ⟨c0,c1,c2,z0,z1,z2⟩:=three_cells hy2
  have HY:=Lib.hid hy2
  have HB:=Lib.hid hb
  clear hy1 hy2 hb
  go_wp2_with fail
  have hh:=set_three HY.out (.string ⟨#[]⟩) (.string ⟨#[]⟩) (.bool false)
  have hb2:=below_three HB.out (b:=w.heap.size+1) (by omega) (.string ⟨#[]⟩) (.string ⟨#[]⟩) (.bool false)
  generalize (((w1.setCell ⟨w.heap.size+1,0,none⟩ (.string ⟨#[]⟩)).setCell ⟨w.heap.size+1,1,none⟩ (.string ⟨#[]⟩)).setCell ⟨w.heap.size+1,2,none⟩ (.bool false))=W2 at hh hb2 ⊢
  obtain ⟨q0,q1,q2,_⟩:=three_cells hh
  exact bodyPost_ret (v:=.tuple #[.agg #[.string ⟨#[]⟩,.string ⟨#[]⟩,.bool false],.bool false]) (by simp [results,Tryz.results115,go_sem,q0,q1,q2]) rfl ⟨rfl,hb2⟩
 | some i =>
  have HF1:=Lib.hid (HF.out (i:Int) (by unfold placeI;rw [hp]))
  obtain ⟨hi,hg,_⟩:=get_some hp
  have HV:=Lib.hid hg
  obtain ⟨y,hy⟩:∃ y,y=l[i]:=⟨_,rfl⟩
  rw [← hy] at HV
  have HLI:Hid (l[i]? = some y):=by show _=_;rw [hy];simp
  clear hp HF hg hy
  unfold GetPost
  rw [HV.out]
  go_enter Tryz.func115,Tryz.ntmps115
  go_wp2_with fail
  refine HF1.out.mono ?_
  rintro e w1 ⟨rfl,hb,hlt,hE,hy1,hy2⟩
  rcases hE with ⟨_,rfl⟩ | ⟨b,c,rfl,_,hbl,hlc,hcells⟩
  ·simp at hi
  have hcc:=hcells i y HLI.out
  have k0:w1.cell? ⟨b,i*3,none⟩=some (.string (txt y.1)):=hcc 0 _ rfl
  have k1:w1.cell? ⟨b,i*3+1,none⟩=some (.string (txt y.2.1)):=hcc 1 _ rfl
  have k2:w1.cell? ⟨b,i*3+2,none⟩=some (.bool y.2.2):=hcc 2 _ rfl
  obtain ⟨c0,c1,c2,z0,z1,z2⟩:=three_cells hy2
  obtain ⟨d0,_⟩:=one_cell hy1
  have hnn:¬ (i:Int) < 0:=by omega
  have hil:(i:Int) < (l.length:Int):=by omega
  have HY:=Lib.hid hy2
  have HB:=Lib.hid hb
  clear hy1 hy2 hb hcells hcc
  go_wp2_with fail
  have hh:=set_three HY.out (.string (txt y.1)) (.string (txt y.2.1)) (.bool y.2.2)
  have hb2:=below_three HB.out (b:=w.heap.size+1) (by omega) (.string (txt y.1)) (.string (txt y.2.1)) (.bool y.2.2)
  generalize (((w1.setCell ⟨w.heap.size+1,0,none⟩ (.string (txt y.1))).setCell ⟨w.heap.size+1,1,none⟩ (.string (txt y.2.1))).setCell ⟨w.heap.size+1,2,none⟩ (.bool y.2.2))=W2 at hh hb2 ⊢
  obtain ⟨q0,q1,q2,_⟩:=three_cells hh
  exact bodyPost_ret (v:=.tuple #[.agg #[.string (txt y.1),.string (txt y.2.1),.bool y.2.2],.bool true]) (by simp [results,Tryz.results115,go_sem,q0,q1,q2]) rfl ⟨rfl,hb2⟩
end Go.Proofs.YtmfjolmfbdbegaaGreatDoor

namespace Go.Proofs.YtmfjolmfbdbegaaGreatDoor
open Go.RowKit Go.Shelf
attribute [local go_sem] Oper.semAt_some
theorem infoVar:(Tryz.prog.info? 43).map (fun i=>(i.zero,i.size,i.bytes))=some (some (.agg #[.string ⟨#[]⟩,.string ⟨#[]⟩,.bool false]),3,40):=by kernel_rfl
set_option maxRecDepth 100000 in
set_option maxHeartbeats 2000000 in
theorem grow_any (m:Nat) (h0:0 < m) (hm:m≤3000000) (w:World):Calls Tryz.prog 170 #[.slice none 0 0,.int .i64 (m:Int)] w fun e w' =>
  ∃ v',e=.returned v'∧w'.ownsRow w.heap.size 43 3 v' 0 []∧Below w.heap.size w w':=by
 obtain ⟨i0,hi,hz0,hz1,hz2⟩:=info_parts infoVar
 have hrun:=fun (ty:TypeId)=>Lib.run_append_nil_zeros (P:=Tryz.prog) w 24 3 ty 43 i0 _ .i64 .i64 Tryz.underlying24 Tryz.underlying3 hi hz0 m h0 (by omega) (by omega) (by rw [hz2];omega)
 clear hi hz0 hz1 hz2
 have hneg:¬ (m:Int) < 0:=by omega
 have hpos:(0:Int) < (m:Int):=by omega
 go_enter Tryz.func170,Tryz.ntmps170
 go_wp2_with (at_builtin;refine Lib.wpList_append_run _ rfl _ _ _ _ rfl _ _ rfl rfl _ _ (hrun _) ?_)
 go_ret
 have hge:=grownCap_ge w m 0 43
 refine ⟨_,rfl,?_,((Below.refl _ w).alloc (Nat.le_refl _) _).drew⟩
 refine World.ownsRow.drew (World.ownsRow_made w _ _ (Nat.le_refl _) (grownCap_le_maxLen _ _ _ _ (by unfold maxLen;omega)) ?_)
 simp only [Array.size_append,size_zeroCells]
 show m*3+_*3=_
 omega
def SrcV (w:World) (vx:Value) (ys:EnvT):Prop :=
 (vx=.slice none 0 0∧ys=[])∨∃ b f c,vx=.slice (some ⟨b,f,none⟩) ys.length c∧b < w.heap.size∧∀ j u,(ys.flatMap encV)[j]? = some u→w.cell? ⟨b,f+j,none⟩=some u
theorem SrcV.below {w w':World} {vx:Value} {ys:EnvT} (h:SrcV w vx ys) (hb:Below w.heap.size w w'):SrcV w' vx ys:=by
 rcases h with h | ⟨b,f,c,h1,h2,h3⟩
 ·exact .inl h
 ·exact .inr ⟨b,f,c,h1,Nat.lt_of_lt_of_le h2 hb.size,fun j u hj=>(hb.cell (p:=⟨b,f+j,none⟩) h2).trans (h3 j u hj)⟩
theorem flat_len (ys:EnvT):(ys.flatMap encV).length=ys.length*3:=by
 induction ys with
 | nil=>rfl
 | cons y r ih=>rw [List.flatMap_cons,List.length_append,ih,List.length_cons];show 3+_=_;omega
theorem flat_one (ys:EnvT):∀ u∈ys.flatMap encV,u.oneCell'=true:=fun u hu=>by
 obtain ⟨y,_,hy⟩:=List.mem_flatMap.1 hu
 unfold encV at hy
 simp only [List.mem_cons,List.mem_nil_iff,or_false] at hy
 rcases hy with rfl | rfl | rfl <;> rfl
theorem flat_at:∀ (l:EnvT) (j:Nat) (u:Value),(l.flatMap encV)[j]? = some u→∃ x,l[j / 3]? = some x∧(encV x)[j % 3]? = some u
 | [],j,u,h=>by simp at h
 | y :: r,j,u,h=>by
  rw [List.flatMap_cons] at h
  by_cases hj:j < 3
  ·rw [List.getElem?_append_left (by exact hj)] at h
   refine ⟨y,?_,?_⟩
   ·rw [Nat.div_eq_of_lt hj];rfl
   ·rwa [Nat.mod_eq_of_lt hj]
  ·rw [List.getElem?_append_right (by show 3≤j;omega)] at h
   obtain ⟨x,h1,h2⟩:=flat_at r (j - 3) u h
   refine ⟨x,?_,?_⟩
   ·rw [show j / 3=(j - 3) / 3+1 by omega];exact h1
   ·rw [show j % 3=(j - 3) % 3 by omega];exact h2
theorem cells_flat {W:World} {b:Nat} {l:EnvT} (h:∀ j x,l[j]? = some x→∀ i u,(encV x)[i]? = some u→W.cell? ⟨b,j*3+i,none⟩=some u):∀ j u,(l.flatMap encV)[j]? = some u→W.cell? ⟨b,j,none⟩=some u:=fun j u hj=>by
 obtain ⟨x,h1,h2⟩:=flat_at l j u hj
 have:=h _ x h1 _ u h2
 rwa [show j / 3*3+j % 3=j by omega] at this
theorem flat_cells {W:World} {b:Nat} {l:EnvT} (h:∀ j u,(l.flatMap encV)[j]? = some u→W.cell? ⟨b,j,none⟩=some u):∀ j x,l[j]? = some x→∀ i u,(encV x)[i]? = some u→W.cell? ⟨b,j*3+i,none⟩=some u:=fun j x hj i u hi=>by
 refine h _ u ?_
 have hi3:i < 3:=(List.getElem?_eq_some_iff.1 hi).1
 have e:l=l.take j++x :: l.drop (j+1):=by
  obtain ⟨hl,hx⟩:=List.getElem?_eq_some_iff.1 hj
  rw [← hx,← List.drop_eq_getElem_cons hl,List.take_append_drop]
 have hjl:(l.take j).length=j:=by
  have:=(List.getElem?_eq_some_iff.1 hj).1
  rw [List.length_take];omega
 rw [e,List.flatMap_append,List.getElem?_append_right (by rw [flat_len,hjl];omega),flat_len,hjl,List.flatMap_cons,List.getElem?_append_left (by show j*3+i - j*3 < 3;omega)]
 rwa [show j*3+i - j*3=i by omega]
theorem owned_env {W:World} {base:Nat} {v:Value} {l:EnvT} (h:W.ownsRow base 43 3 v l.length (l.flatMap encV)) (hl:l≠[]):EnvS W (fun b=>base≤b) v l:=by
 rcases h.2 with ⟨_,h0⟩ | ⟨g,cap,cur,rfl,h1,h2,h3,h4,h5,h6⟩
 ·exact absurd (List.length_eq_zero_iff.1 h0) hl
 ·refine .inr ⟨g,cap,rfl,h1,(Array.getElem?_eq_some_iff.1 h2).1,h3,flat_cells fun j u hj=>?_⟩
  rw [Lib.cell_of_heap h2]
  rw [← h6,List.getElem?_take] at hj
  split at hj
  ·simpa using hj
  ·cases hj
theorem run_append_vars {w:World} (base:Nat) (v vx:Value) (xs ys:EnvT) (hown:w.ownsRow base 43 3 v xs.length (xs.flatMap encV)) (hr:SrcV w vx ys) (hl:xs.length+ys.length≤3000000) (hbase:base≤w.heap.size) (ty:TypeId) :
  ∃ v' w',(Builtin.append_ #[24,24] ty #[v,vx]).run Tryz.prog w=.ok v' w'∧w'.ownsRow base 43 3 v' (xs++ys).length ((xs++ys).flatMap encV)∧Below base w w':=by
 obtain ⟨i0,hi,hz0,hz1,hz2⟩:=info_parts infoVar
 rcases hr with ⟨rfl,rfl⟩ | ⟨b,f,c,rfl,hb,hx⟩
 ·have hrun:=run_append_owned_none (P:=Tryz.prog) (w:=w) base 24 ty 43 i0 3 Tryz.underlying24 hi v xs.length _ hown
  exact ⟨v,w,hrun,by simpa using hown,Below.refl _ _⟩
 ·obtain ⟨v',w',hrun,h2,h3,_⟩:=run_append_own (P:=Tryz.prog) w base 24 ty 43 i0 _ 3 40 Tryz.underlying24 hi hz0 hz1 hz2 rfl (by decide) v xs.length _ hown ⟨b,f,none⟩ ys.length c (ys.flatMap encV) (flat_len ys)
   (by
    intro j u hj
    rw [Addr.add_lit];exact hx j u hj)
   (flat_one ys) (by unfold maxLen;omega) (by omega) hbase
  refine ⟨v',w',hrun,by rw [List.length_append,List.flatMap_append];exact h2,?_⟩
  exact (Below.refl base w).grown h3 hbase (fun k hk=>(hown.lt k hk).1)
theorem srcV_len {w:World} {vx:Value} {ys:EnvT} (h:SrcV w vx ys):∃ o c,vx=.slice o ys.length c:=by
 rcases h with ⟨rfl,rfl⟩ | ⟨b,f,c,rfl,_,_⟩
 ·exact ⟨_,_,rfl⟩
 ·exact ⟨_,_,rfl⟩
set_option maxRecDepth 100000 in
set_option maxHeartbeats 4000000 in
theorem concat_any (B:Nat) (s0 s1 s2:Value) (y0 y1 y2:EnvT) (w:World) (hB:B < w.heap.size) (h0:w.cell? ⟨B,0,none⟩=some s0) (h1:w.cell? ⟨B,1,none⟩=some s1) (h2:w.cell? ⟨B,2,none⟩=some s2)
  (r0:SrcV w s0 y0) (r1:SrcV w s1 y1) (r2:SrcV w s2 y2) (hl:y0.length+y1.length+y2.length≤1000000) (hp:0 < y0.length+y1.length+y2.length) :
  Calls Tryz.prog 151 #[.slice (some ⟨B,0,none⟩) 3 3] w fun e w' =>
   ∃ v',e=.returned v'∧w'.ownsRow w.heap.size 43 3 v' (y0++y1++y2).length ((y0++y1++y2).flatMap encV)∧Below w.heap.size w w':=by
 obtain ⟨o0,c0,rfl⟩:=srcV_len r0
 obtain ⟨o1,c1,rfl⟩:=srcV_len r1
 obtain ⟨o2,c2,rfl⟩:=srcV_len r2
 have R0:=Lib.hid r0
 have R1:=Lib.hid r1
 have R2:=Lib.hid r2
 clear r0 r1 r2
 obtain ⟨n0,hn0⟩:∃ n,n=y0.length:=⟨_,rfl⟩
 obtain ⟨n1,hn1⟩:∃ n,n=y1.length:=⟨_,rfl⟩
 obtain ⟨n2,hn2⟩:∃ n,n=y2.length:=⟨_,rfl⟩
 rw [← hn0,← hn1,← hn2] at hl hp
 rw [← hn0] at h0
 rw [← hn1] at h1
 rw [← hn2] at h2
 have HN0:=Lib.hid hn0
 have HN1:=Lib.hid hn1
 have HN2:=Lib.hid hn2
 clear hn0 hn1 hn2
 have HG:Hid (Calls Tryz.prog 170 #[.slice none 0 0,.int .i64 ((n0:Int)+n1+n2)] w fun e w'=>∃ v',e=.returned v'∧w'.ownsRow w.heap.size 43 3 v' 0 []∧Below w.heap.size w w'):=grow_any (n0+n1+n2) hp (by omega) w
 go_enter Tryz.func151,Tryz.ntmps151
 go_wp2_with fail
 go_loopw [3,11] (fun sv iv wr=>wr=w∧((sv=.int .i64 0∧iv=.int .i64 0)∨(sv=.int .i64 n0∧iv=.int .i64 1)∨(sv=.int .i64 ((n0:Int)+n1)∧iv=.int .i64 2)∨(sv=.int .i64 ((n0:Int)+n1+n2)∧iv=.int .i64 3))) (fun _ iv _=>3 - (intOf iv).toNat)
 case atStart=>exact ⟨rfl,.inl ⟨rfl,rfl⟩⟩
 case round =>
  obtain ⟨hw,hrel2⟩:=hrel
  obtain rfl:=hw.symm
  obtain ⟨rfl,rfl⟩ | ⟨rfl,rfl⟩ | ⟨rfl,rfl⟩ | ⟨rfl,rfl⟩:=hrel2
  ·have e1:¬ (n0:Int) < 0:=by omega
   go_wp2
   go_roundw
   case rel=>exact ⟨trivial,.inr (.inl ⟨by first | rfl | simp,by first | rfl | simp⟩)⟩
   case measure=>simp [intOf]
  ·have e1:¬ (n0:Int)+n1 < 0:=by omega
   go_wp2
   go_roundw
   case rel=>exact ⟨trivial,.inr (.inr (.inl ⟨by first | rfl | simp,by first | rfl | simp⟩))⟩
   case measure=>simp [intOf]
  ·have e1:¬ (n0:Int)+n1+n2 < 0:=by omega
   go_wp2
   go_roundw
   case rel=>exact ⟨trivial,.inr (.inr (.inr ⟨by first | rfl | simp,by first | rfl | simp⟩))⟩
   case measure=>simp [intOf]
  ·go_wp2_with fail
   refine HG.out.mono ?_
   rintro e w1 ⟨v1,rfl,hown,hb⟩
   have HO1:Hid (w1.ownsRow w.heap.size 43 3 v1 ([]:EnvT).length (([]:EnvT).flatMap encV)):=hown
   have HB1:=Lib.hid hb
   have HBl:=Lib.hid hB
   clear hown hb HG hB
   go_wp2_with fail
   go_loopw [6,27] (fun vv iv wz=>∃ acc:EnvT,Hid (wz.ownsRow w.heap.size 43 3 vv acc.length (acc.flatMap encV))∧Hid (Below w.heap.size w wz)∧((iv=.int .i64 0∧acc=[])∨(iv=.int .i64 1∧acc=y0)∨(iv=.int .i64 2∧acc=y0++y1)∨(iv=.int .i64 3∧acc=y0++y1++y2))) (fun _ iv _=>3 - (intOf iv).toNat)
   case atStart=>exact ⟨[],HO1,HB1,.inl ⟨rfl,rfl⟩⟩
   case round =>
    clear HO1 HB1
    obtain ⟨acc,HO,HBz,⟨rfl,rfl⟩ | ⟨rfl,rfl⟩ | ⟨rfl,rfl⟩ | ⟨rfl,rfl⟩⟩:=hrel
    ·obtain ⟨v2,w2,hrun,hown2,hb2⟩:=run_append_vars w.heap.size u6 (.slice o0 n0 c0) ([]:EnvT) y0 HO.out (show SrcV wr (.slice o0 n0 c0) y0 from by rw [HN0.out];exact R0.out.below HBz.out) (by have:=HN0.out;have:=HN1.out;have:=HN2.out;simp;omega) HBz.out.size 24
     have hc:=(HBz.out.cell (p:=⟨B,0,none⟩) HBl.out).trans h0
     have HO2:Hid (w2.ownsRow w.heap.size 43 3 v2 (y0).length ((y0).flatMap encV)):=by have:=hown2;rw [List.nil_append] at this;exact this
     have HB2:Hid (Below w.heap.size w w2):=HBz.out.trans hb2
     clear hown2 hb2
     go_wp2_with (at_builtin;refine wpList_append_eq rfl _ _ 24 rfl _ _ _ w2 rfl rfl hrun ?_)
     go_roundw
     case rel=>exact ⟨y0,HO2,HB2,.inr (.inl ⟨rfl,rfl⟩)⟩
     case measure=>simp [intOf]
    ·obtain ⟨v2,w2,hrun,hown2,hb2⟩:=run_append_vars w.heap.size u6 (.slice o1 n1 c1) acc y1 HO.out (show SrcV wr (.slice o1 n1 c1) y1 from by rw [HN1.out];exact R1.out.below HBz.out) (by have:=HN0.out;have:=HN1.out;have:=HN2.out;simp;omega) HBz.out.size 24
     have hc:=(HBz.out.cell (p:=⟨B,1,none⟩) HBl.out).trans h1
     have HO2:Hid (w2.ownsRow w.heap.size 43 3 v2 (acc++y1).length ((acc++y1).flatMap encV)):=by exact hown2
     have HB2:Hid (Below w.heap.size w w2):=HBz.out.trans hb2
     clear hown2 hb2
     go_wp2_with (at_builtin;refine wpList_append_eq rfl _ _ 24 rfl _ _ _ w2 rfl rfl hrun ?_)
     go_roundw
     case rel=>exact ⟨acc++y1,HO2,HB2,.inr (.inr (.inl ⟨rfl,rfl⟩))⟩
     case measure=>simp [intOf]
    ·obtain ⟨v2,w2,hrun,hown2,hb2⟩:=run_append_vars w.heap.size u6 (.slice o2 n2 c2) (y0++y1) y2 HO.out (show SrcV wr (.slice o2 n2 c2) y2 from by rw [HN2.out];exact R2.out.below HBz.out) (by have:=HN0.out;have:=HN1.out;have:=HN2.out;simp;omega) HBz.out.size 24
     have hc:=(HBz.out.cell (p:=⟨B,2,none⟩) HBl.out).trans h2
     have HO2:Hid (w2.ownsRow w.heap.size 43 3 v2 (y0++y1++y2).length ((y0++y1++y2).flatMap encV)):=by exact hown2
     have HB2:Hid (Below w.heap.size w w2):=HBz.out.trans hb2
     clear hown2 hb2
     go_wp2_with (at_builtin;refine wpList_append_eq rfl _ _ 24 rfl _ _ _ w2 rfl rfl hrun ?_)
     go_roundw
     case rel=>exact ⟨y0++y1++y2,HO2,HB2,.inr (.inr (.inr ⟨rfl,rfl⟩))⟩
     case measure=>simp [intOf]
    ·go_wp2
     go_ret
     exact ⟨_,rfl,HO.out,HBz.out⟩
end Go.Proofs.YtmfjolmfbdbegaaGreatDoor

namespace Go.Proofs.YtmfjolmfbdbegaaGreatDoor
open Go.RowKit Go.Shelf
attribute [local go_sem] Oper.semAt_some
set_option maxRecDepth 100000 in
theorem clone_any (b c:Nat) (l:EnvT) (w:World) (hl:l.length≤1000000) (hc:∀ j x,l[j]? = some x→∀ i u,(encV x)[i]? = some u→w.cell? ⟨b,j*3+i,none⟩=some u) :
  Calls Tryz.prog 148 #[.slice (some ⟨b,0,none⟩) l.length c] w fun e w' =>
   ∃ v',e=.returned v'∧w'.ownsRow w.heap.size 43 3 v' l.length (l.flatMap encV)∧Below w.heap.size w w':=by
 obtain ⟨i0,hi,hz0,hz1,hz2⟩:=info_parts infoVar
 refine (AnyE.slices_Clone laysE041 i0 _ 3 40 hi hz0 hz1 hz2 rfl (by decide) Tryz.sizeOf43 b 0 l.length c (l.flatMap encV) w (flat_len l) (by unfold maxLen;omega) (by omega) (fun j u hj=>?_) (flat_one l)).mono ?_
 ·have:=cells_flat hc j u hj
  rwa [Nat.zero_add]
 ·rintro e w' ⟨v',rfl,h1,_,h2⟩
  exact ⟨v',rfl,h1,h2⟩
theorem heap_three {W:World} {g i:Nat} {cur:Array Value} {T:TypeId} (h:W.heap[g]? = some (.cells cur T (0,0))) (a b c:Value) :
  (((W.setCell ⟨g,i,none⟩ a).setCell ⟨g,i+1,none⟩ b).setCell ⟨g,i+2,none⟩ c).heap[g]? = some (.cells (((cur.setIfInBounds i a).setIfInBounds (i+1) b).setIfInBounds (i+2) c) T (0,0)):=by simp [World.setCell,Array.getElem?_modify,h]
theorem env_put {W:World} {g i:Nat} {cur:Array Value} {T:TypeId} {l:EnvT} {x:VarT} (h:W.heap[g]? = some (.cells cur T (0,0))) (hs:l.length*3≤cur.size) (hi:i < l.length)
  (hc:∀ j y,l[j]? = some y→∀ k u,(encV y)[k]? = some u→W.cell? ⟨g,j*3+k,none⟩=some u) :
  ∀ j y,(l.set i x)[j]? = some y→∀ k u,(encV y)[k]? = some u→(((W.setCell ⟨g,i*3,none⟩ (.string (txt x.1))).setCell ⟨g,i*3+1,none⟩ (.string (txt x.2.1))).setCell ⟨g,i*3+2,none⟩ (.bool x.2.2)).cell? ⟨g,j*3+k,none⟩=some u:=fun j y hj k u hk=>by
 have hk3:k < 3:=(List.getElem?_eq_some_iff.1 hk).1
 have hjl:j < l.length:=by have:=(List.getElem?_eq_some_iff.1 hj).1;rwa [List.length_set] at this
 rw [Lib.cell_of_heap (heap_three h _ _ _)]
 simp only [Array.getElem?_setIfInBounds,Array.size_setIfInBounds]
 by_cases hji:j=i
 ·subst hji
  rw [List.getElem?_set_self hjl] at hj
  cases hj
  rcases (show k=0∨k=1∨k=2 by omega) with rfl | rfl | rfl
  ·rw [if_neg (by omega),if_neg (by omega),if_pos (by omega),if_pos (by omega)];exact hk
  ·rw [if_neg (by omega),if_pos (by omega),if_pos (by omega)];exact hk
  ·rw [if_pos (by omega),if_pos (by omega)];exact hk
 ·rw [List.getElem?_set_ne (fun e=>hji e.symm)] at hj
  have:=hc j y hj k u hk
  rw [Lib.cell_of_heap h] at this
  rw [if_neg (by omega),if_neg (by omega),if_neg (by omega)]
  exact this
theorem pred_set (n:ByteArray) (B:Nat) (w:World) (hB:B < w.heap.size) (hc:w.cell? ⟨B,0,none⟩=some (.string n)) :
  PredBelow Tryz.prog 150 #[.pointer (some ⟨B,0,none⟩)] (fun x=>.agg (encV x).toArray) (gtP n.data.toList) w:=fun W x hb=>by
 have hc':W.cell? ⟨B,0,none⟩=some (.string n):=(hb.cell (p:=⟨B,0,none⟩) hB).trans hc
 have hBW:B < W.heap.size:=Nat.lt_of_lt_of_le hB hb.size
 have hne:B≠W.heap.size:=by omega
 have e1:(!(Op.bytesLess (txt x.1).toList n.toList || (txt x.1).toList == n.toList))=gtP n.data.toList x:=by
  rw [Lib.toList_data,Lib.toList_data,txt_data,bytesLess_eq]
  unfold gtP
  by_cases h:n.data.toList < x.1
  ·rw [decide_eq_true h,decide_eq_false (fun h2=>List.lt_irrefl _ (List.lt_trans h h2))]
   have:(x.1 == n.data.toList)=false:=by rw [beq_eq_false_iff_ne];rintro e;rw [e] at h;exact List.lt_irrefl _ h
   rw [this];rfl
  ·rw [decide_eq_false h]
   by_cases he:x.1=n.data.toList
   ·rw [he];simp
   ·rw [decide_eq_true (bt_le_lt (List.not_lt.1 h) he)];rfl
 generalize gtP n.data.toList x=r at e1 ⊢
 have HB:=Lib.hid hb
 clear hb hc hB
 show Calls Tryz.prog 150 #[.agg #[.string (txt x.1),.string (txt x.2.1),.bool x.2.2],.pointer (some ⟨B,0,none⟩)] W _
 go_enter Tryz.func150,Tryz.ntmps150
 go_wp2
 go_ret
 exact ⟨rfl,HB.out.alloc HB.out.size _⟩
structure SetAt (w:World) (v:Value) (x:VarT) (W:World):Prop where
 back:Below w.heap.size w W
 lt:w.heap.size+2 < W.heap.size
 c0:W.cell? ⟨w.heap.size,0,none⟩=some v
 c1:W.cell? ⟨w.heap.size+1,0,none⟩=some (.string (txt x.1))
 c2:W.cell? ⟨w.heap.size+1,1,none⟩=some (.string (txt x.2.1))
 c3:W.cell? ⟨w.heap.size+1,2,none⟩=some (.bool x.2.2)
 r:W.heap[w.heap.size+1+1]? = some (.cells #[.slice none 0 0] 26 (0,0))
theorem SetAt.below {w W W':World} {v:Value} {x:VarT} (h:SetAt w v x W) (hb:Below W.heap.size W W'):SetAt w v x W':=by
 have hl:=h.lt
 have hs:=hb.size
 exact ⟨h.back.trans (hb.mono h.back.size),by omega,(hb.cell (p:=⟨w.heap.size,0,none⟩) (show w.heap.size < W.heap.size by omega)).trans h.c0,
  (hb.cell (p:=⟨w.heap.size+1,0,none⟩) (show w.heap.size+1 < W.heap.size by omega)).trans h.c1,(hb.cell (p:=⟨w.heap.size+1,1,none⟩) (show w.heap.size+1 < W.heap.size by omega)).trans h.c2,
  (hb.cell (p:=⟨w.heap.size+1,2,none⟩) (show w.heap.size+1 < W.heap.size by omega)).trans h.c3,(hb.block _ (by omega)).trans h.r⟩
def setStart (w:World) (v:Value) (x:VarT):World:=((w.alloc (.cells #[v] 26)).alloc (.cells #[.string (txt x.1),.string (txt x.2.1),.bool x.2.2] 43)).alloc (.cells #[.slice none 0 0] 26)
theorem SetAt.start (w:World) (v:Value) (x:VarT):SetAt w v x (setStart w v x):=by
 have h0:((w.alloc (.cells #[v] 26)).alloc (.cells #[.string (txt x.1),.string (txt x.2.1),.bool x.2.2] 43)).heap[w.heap.size]? = _:=heap_first _ _ _
 have h1:((w.alloc (.cells #[v] 26)).alloc (.cells #[.string (txt x.1),.string (txt x.2.1),.bool x.2.2] 43)).heap[w.heap.size+1]? = _:=heap_second _ _ _
 have hb:=below_two w (.cells #[v] 26) (.cells #[.string (txt x.1),.string (txt x.2.1),.bool x.2.2] 43)
 unfold setStart
 generalize hw2:((w.alloc (.cells #[v] 26)).alloc (.cells #[.string (txt x.1),.string (txt x.2.1),.bool x.2.2] 43))=w2 at *
 have hsz:w2.heap.size=w.heap.size+2:=by rw [← hw2];simp
 have k0:(w2.alloc (.cells #[.slice none 0 0] 26)).heap[w.heap.size]? = _:=(Below.heap_alloc _ _ _ (by omega)).trans h0
 have k1:(w2.alloc (.cells #[.slice none 0 0] 26)).heap[w.heap.size+1]? = _:=(Below.heap_alloc _ _ _ (by omega)).trans h1
 have k2:=World.alloc_heap_new w2 (.cells #[.slice none 0 0] 26)
 rw [hsz] at k2
 exact ⟨hb.alloc (by omega) _,by rw [World.size_alloc];omega,Lib.cell_of_heap k0 0,Lib.cell_of_heap k1 0,Lib.cell_of_heap k1 1,Lib.cell_of_heap k1 2,k2⟩
def SetPost (l:EnvT) (x:VarT) (w:World) (e:Ending) (w':World):Prop:=∃ v',e=.returned (.agg #[v'])∧EnvS w' (fun b=>w.heap.size≤b) v' (setT l x)∧Below w.heap.size w w'
theorem set_ne (l:EnvT) (x:VarT):setT l x≠[]:=by
 cases l with
 | nil=>unfold setT;simp
 | cons y r=>unfold setT;split <;> (try split) <;> simp
set_option maxRecDepth 100000 in
set_option maxHeartbeats 4000000 in
theorem set_there (Q:Nat→Prop) (v:Value) (l:EnvT) (x:VarT) (i:Nat) (w:World) (h:EnvS w Q v l) (hl:l.length≤999999) (hs:SrtT l) (hp:l.findIdx? (eqP x.1)=some i) :
  Calls Tryz.prog 118 #[.agg #[v],aggV x] w (SetPost l x w):=by
 have HV:Hid (setT l x=l.set i x):=set_has hs hp
 obtain ⟨hi,_,_⟩:=get_some hp
 have HS0:=SetAt.start w v x
 have HF:Hid (Calls Tryz.prog 146 #[.agg #[v],.string (txt x.1)] (setStart w v x) fun e w'=>e=.returned (.int .i64 (i:Int))∧SetAt w v x w'∧EnvS w' Q v l):=by
  refine (find_any Q v l (txt x.1) _ (h.below HS0.back) (by omega)).mono ?_
  rintro e w' ⟨rfl,hb⟩
  rw [txt_data]
  refine ⟨?_,HS0.below hb,(h.below HS0.back).below hb⟩
  unfold placeI
  rw [hp]
 rcases h with ⟨_,rfl⟩ | ⟨b,c,rfl,_⟩
 ·simp at hi
 unfold setStart at HF
 have HI:=Lib.hid hi
 clear HS0 hp hs
 obtain ⟨n,hn⟩:∃ n,n=l.length:=⟨_,rfl⟩
 have HN:=Lib.hid hn
 show Calls Tryz.prog 118 #[_,.agg #[.string (txt x.1),.string (txt x.2.1),.bool x.2.2]] w _
 go_enter Tryz.func118,Tryz.ntmps118
 go_wp2_with fail
 refine HF.out.mono ?_
 rintro e w1 ⟨rfl,hA,hE⟩
 rcases hE with ⟨h0,_⟩ | ⟨b',c',hv,_,hbl,_,hcells⟩
 ·cases h0
 cases hv
 have HC:Hid (Calls Tryz.prog 148 #[.slice (some ⟨b,0,none⟩) l.length c] w1 fun e w' =>
   ∃ v',e=.returned v'∧w'.ownsRow w1.heap.size 43 3 v' l.length (l.flatMap encV)∧Below w1.heap.size w1 w'):=clone_any b c l w1 (by omega) hcells
 have k0:=hA.c0
 have d0:(0:Int)≤(i:Int):=by omega
 have HA:=Lib.hid hA
 clear hcells hA HF
 go_wp2_with fail
 refine HC.out.mono ?_
 rintro e w2 ⟨v2,rfl,hown,hb2⟩
 rcases hown.2 with ⟨_,h0⟩ | ⟨g,cap,cur,rfl,hg1,hg2,hg3,hg4,hg5,hg6⟩
 ·omega
 have HA2:=Lib.hid (HA.out.below hb2)
 obtain ⟨a0,ha0⟩:∃ a,cur[i*3]? = some a:=⟨_,Array.getElem?_eq_getElem (by omega)⟩
 obtain ⟨a1,ha1⟩:∃ a,cur[i*3+1]? = some a:=⟨_,Array.getElem?_eq_getElem (by omega)⟩
 obtain ⟨a2,ha2⟩:∃ a,cur[i*3+2]? = some a:=⟨_,Array.getElem?_eq_getElem (by omega)⟩
 have p0:w2.cell? ⟨g,i*3,none⟩=some a0:=(Lib.cell_of_heap hg2 _).trans ha0
 have p1:w2.cell? ⟨g,i*3+1,none⟩=some a1:=(Lib.cell_of_heap hg2 _).trans ha1
 have p2:w2.cell? ⟨g,i*3+2,none⟩=some a2:=(Lib.cell_of_heap hg2 _).trans ha2
 have f0:=Lib.frozen_of_heap hg2 (i*3)
 have f1:=Lib.frozen_of_heap hg2 (i*3+1)
 have f2:=Lib.frozen_of_heap hg2 (i*3+2)
 have q1:=HA2.out.c1
 have q2:=HA2.out.c2
 have q3:=HA2.out.c3
 obtain ⟨r0,r1⟩:=one_cell HA2.out.r
 have hgr:g≠w.heap.size+1+1:=by have:=HA.out.lt;omega
 have hil:(i:Int) < (l.length:Int):=by omega
 have HE:Hid (EnvS w2 (fun b=>w1.heap.size≤b) (.slice (some ⟨g,0,none⟩) l.length cap) l):=owned_env hown (fun h=>by rw [h] at hi;simp at hi)
 have HG2:=Lib.hid hg2
 have HSZ:=Lib.hid (show l.length*3≤cur.size by omega)
 have HB2:=Lib.hid hb2
 have HG1:=Lib.hid hg1
 have HG3:=Lib.hid hg3
 clear hown hg1 hg2 hg3 hg4 hg5 hg6 ha0 ha1 ha2 hb2 hbl
 go_wp2_with fail
 have hE3:EnvS (((w2.setCell ⟨g,i*3,none⟩ (.string (txt x.1))).setCell ⟨g,i*3+1,none⟩ (.string (txt x.2.1))).setCell ⟨g,i*3+2,none⟩ (.bool x.2.2)) (fun b=>w1.heap.size≤b) (.slice (some ⟨g,0,none⟩) l.length cap) (l.set i x):=by
  rcases HE.out with ⟨h0,_⟩ | ⟨g',cap',hv,hq,hlt,hlc,hcells⟩
  ·cases h0
  ·cases hv
   refine .inr ⟨g,cap,by rw [List.length_set],hq,by simpa using hlt,by rw [List.length_set];exact hlc,env_put HG2.out HSZ.out HI.out hcells⟩
 have hb3:Below w1.heap.size w1 (((w2.setCell ⟨g,i*3,none⟩ (.string (txt x.1))).setCell ⟨g,i*3+1,none⟩ (.string (txt x.2.1))).setCell ⟨g,i*3+2,none⟩ (.bool x.2.2)) :=
  ((HB2.out.setCell (p:=⟨g,i*3,none⟩) HG1.out _).setCell (p:=⟨g,i*3+1,none⟩) HG1.out _).setCell (p:=⟨g,i*3+2,none⟩) HG1.out _
 generalize (((w2.setCell ⟨g,i*3,none⟩ (.string (txt x.1))).setCell ⟨g,i*3+1,none⟩ (.string (txt x.2.1))).setCell ⟨g,i*3+2,none⟩ (.bool x.2.2))=w3 at hE3 hb3 ⊢
 have hA3:=HA.out.below hb3
 have hlt:=HA.out.lt
 have hh:(w3.setCell ⟨w.heap.size+1+1,0,none⟩ (.slice (some ⟨g,0,none⟩) l.length cap)).heap[w.heap.size+1+1]? = some (.cells #[.slice (some ⟨g,0,none⟩) l.length cap] 26 (0,0)):=by
  simp [World.setCell,Array.getElem?_modify,hA3.r]
 have hE4:=hE3.turned (X:=fun b=>b=w.heap.size+1+1) (Turned.setCell w3 ⟨w.heap.size+1+1,0,none⟩ (.slice (some ⟨g,0,none⟩) l.length cap) rfl) (fun b (hb:w1.heap.size≤b) (h2:b=w.heap.size+1+1)=>by omega)
 have hB4:Below w.heap.size w (w3.setCell ⟨w.heap.size+1+1,0,none⟩ (.slice (some ⟨g,0,none⟩) l.length cap)):=hA3.back.setCell (p:=⟨w.heap.size+1+1,0,none⟩) (by show w.heap.size≤w.heap.size+1+1;omega) _
 generalize (w3.setCell ⟨w.heap.size+1+1,0,none⟩ (.slice (some ⟨g,0,none⟩) l.length cap))=w4 at hh hE4 hB4 ⊢
 obtain ⟨z0,_⟩:=one_cell hh
 exact bodyPost_ret (v:=.agg #[.slice (some ⟨g,0,none⟩) l.length cap]) (by simp [results,Tryz.results118,go_sem,z0]) rfl ⟨_,rfl,by rw [HV.out];exact hE4.wider (fun b _ hb=>by omega),hB4⟩
theorem far_cell {W:World} {b c i j:Nat} {v u:Value} (h:W.cell? ⟨b,i,none⟩=some u) (hne:b≠c):(W.setCell ⟨c,j,none⟩ v).cell? ⟨b,i,none⟩=some u:=by
 rw [← h]
 unfold World.cell?
 rw [Below.heap_setCell _ _ _ _ hne]
def RowAt (W:World) (b:Nat) (x:VarT):Prop:=W.heap[b]? = some (.cells #[.string (txt x.1),.string (txt x.2.1),.bool x.2.2] 43 (0,0))
theorem RowAt.src {W:World} {b:Nat} {x:VarT} (h:RowAt W b x):SrcV W (.slice (some ⟨b,0,none⟩) 1 1) [x] :=
 .inr ⟨b,0,1,rfl,(Array.getElem?_eq_some_iff.1 h).1,fun j u hj=>by
  rw [Lib.cell_of_heap h,Nat.zero_add]
  have e:([x]:EnvT).flatMap encV=encV x:=by simp
  rw [e] at hj
  unfold encV at hj
  simpa using hj⟩
theorem EnvS.srcL {W:World} {Q:Nat→Prop} {o:Option Addr} {n c:Nat} {l:EnvT} (h:EnvS W Q (.slice o n c) l) (k:Nat) (hk:k≤l.length):SrcV W (.slice o k c) (l.take k):=by
 rcases h with ⟨h1,rfl⟩ | ⟨b,c',h1,_,h3,_,h5⟩
 ·cases h1
  obtain rfl:k=0:=by simpa using hk
  exact .inl ⟨rfl,rfl⟩
 ·cases h1
  refine .inr ⟨b,0,c,by rw [List.length_take,Nat.min_eq_left hk],h3,fun j u hj=>?_⟩
  rw [Nat.zero_add]
  refine cells_flat h5 j u ?_
  rw [← List.take_append_drop k l,List.flatMap_append,List.getElem?_append_left (List.getElem?_eq_some_iff.1 hj).1]
  exact hj
theorem EnvS.srcR {W:World} {Q:Nat→Prop} {b n c:Nat} {l:EnvT} (h:EnvS W Q (.slice (some ⟨b,0,none⟩) n c) l) (k:Nat) (hk:k≤l.length) (hc:l.length≤c):SrcV W (.slice (if c=k then some ⟨b,0,none⟩ else some ⟨b,k*3,none⟩) (l.length - k) (c - k)) (l.drop k):=by
 rcases h with ⟨h1,rfl⟩ | ⟨b,c',h1,_,h3,_,h5⟩
 ·cases h1
 ·cases h1
  by_cases hck:c=k
  ·rw [if_pos hck]
   refine .inr ⟨b,0,c - k,by rw [List.length_drop],h3,fun j u hj=>?_⟩
   rw [List.drop_eq_nil_of_le (by omega)] at hj
   simp at hj
  ·rw [if_neg hck]
   refine .inr ⟨b,k*3,c - k,by rw [List.length_drop],h3,fun j u hj=>?_⟩
   refine cells_flat h5 (k*3+j) u ?_
   have e:(l.take k).length=k:=by rw [List.length_take,Nat.min_eq_left hk]
   rw [← List.take_append_drop k l,List.flatMap_append,List.getElem?_append_right (by rw [flat_len,e];omega),flat_len,e,Nat.add_sub_cancel_left]
   exact hj
theorem set_concat (v s0 s2:Value) (l l0 l2:EnvT) (x:VarT) (w w2:World) (hA:SetAt w v x w2) (h0:SrcV w2 s0 l0) (h2:SrcV w2 s2 l2) (hl:l0.length+l2.length≤999999) (hs:setT l x=l0++x :: l2) :
  Calls Tryz.prog 151 #[.slice (some ⟨w2.heap.size+1,0,none⟩) 3 3] (((w2.alloc (.cells #[.string (txt x.1),.string (txt x.2.1),.bool x.2.2] 43)).alloc (.cells #[s0,.slice (some ⟨w2.heap.size,0,none⟩) 1 1,s2] 24)).drew) fun e w' =>
   ∃ o n c,e=.returned (.slice o n c)∧EnvS w' (fun b=>w2.heap.size≤b) (.slice o n c) (setT l x)∧SetAt w v x w':=by
 have hb:=below_two w2 (.cells #[.string (txt x.1),.string (txt x.2.1),.bool x.2.2] 43) (.cells #[s0,.slice (some ⟨w2.heap.size,0,none⟩) 1 1,s2] 24)
 have hr:=heap_first w2 (.cells #[.string (txt x.1),.string (txt x.2.1),.bool x.2.2] 43) (.cells #[s0,.slice (some ⟨w2.heap.size,0,none⟩) 1 1,s2] 24)
 have hn:=heap_second w2 (.cells #[.string (txt x.1),.string (txt x.2.1),.bool x.2.2] 43) (.cells #[s0,.slice (some ⟨w2.heap.size,0,none⟩) 1 1,s2] 24)
 have hz:((w2.alloc (.cells #[.string (txt x.1),.string (txt x.2.1),.bool x.2.2] 43)).alloc (.cells #[s0,.slice (some ⟨w2.heap.size,0,none⟩) 1 1,s2] 24)).heap.size=w2.heap.size+1+1:=by simp
 generalize ((w2.alloc (.cells #[.string (txt x.1),.string (txt x.2.1),.bool x.2.2] 43)).alloc (.cells #[s0,.slice (some ⟨w2.heap.size,0,none⟩) 1 1,s2] 24))=W at hb hr hn hz ⊢
 have hb':Below w2.heap.size w2 W.drew:=hb.drew
 have hx:RowAt W.drew w2.heap.size x:=hr
 refine (concat_any (w2.heap.size+1) s0 _ s2 l0 [x] l2 W.drew (by show _ < W.heap.size;omega) (Lib.cell_of_heap hn 0) (Lib.cell_of_heap hn 1) (Lib.cell_of_heap hn 2) (h0.below hb') hx.src (h2.below hb') (by simp;omega) (by simp;omega)).mono ?_
 rintro e w' ⟨v',rfl,hown,hb2⟩
 have e1:l0++[x]++l2=setT l x:=by rw [hs];simp
 rw [e1] at hown
 obtain ⟨o,n,c,rfl⟩:∃ o n c,v'=.slice o n c:=by
  rcases hown.2 with ⟨rfl,_⟩ | ⟨g,cap,cur,rfl,_⟩
  ·exact ⟨_,_,_,rfl⟩
  ·exact ⟨_,_,_,rfl⟩
 refine ⟨o,n,c,rfl,?_,hA.below (hb'.trans (hb2.mono (by show _≤W.heap.size;omega)))⟩
 exact (owned_env hown (set_ne l x)).wider (fun b _ (hb:W.heap.size≤b)=>by omega)
theorem gt_place (l:EnvT) (n:BT):(l.findIdx? (gtP n)).getD l.length≤l.length:=by
 cases h:l.findIdx? (gtP n) with
 | none=>simp
 | some j =>
  have:=(List.findIdx?_eq_some_iff_getElem.1 h).1
  simp only [Option.getD_some]
  omega
set_option maxRecDepth 100000 in
set_option maxHeartbeats 4000000 in
theorem set_absent (Q:Nat→Prop) (v:Value) (l:EnvT) (x:VarT) (w:World) (h:EnvS w Q v l) (hl:l.length≤999999) (hp:l.findIdx? (eqP x.1)=none) :
  Calls Tryz.prog 118 #[.agg #[v],aggV x] w (SetPost l x w):=by
 have eg:∀ args w,(callFunc 150 args).run Tryz.prog w=.ok (.enter 150 args) w:=enters_of Tryz.func150 (by kernel_rfl) rfl
 have HV:Hid (setT l x=l.take ((l.findIdx? (gtP x.1)).getD l.length)++x :: l.drop ((l.findIdx? (gtP x.1)).getD l.length)):=set_new hp
 have HS0:=SetAt.start w v x
 have HF:Hid (Calls Tryz.prog 146 #[.agg #[v],.string (txt x.1)] (setStart w v x) fun e w'=>e=.returned (.int .i64 (-1))∧SetAt w v x w'∧EnvS w' Q v l):=by
  refine (find_any Q v l (txt x.1) _ (h.below HS0.back) (by omega)).mono ?_
  rintro e w' ⟨rfl,hb⟩
  rw [txt_data]
  refine ⟨?_,HS0.below hb,(h.below HS0.back).below hb⟩
  unfold placeI
  rw [hp]
 have HI:Hid (∀ W,SetAt w v x W→EnvS W Q v l→Calls Tryz.prog 149 #[v,.func (.func 150) #[] #[.pointer (some ⟨w.heap.size+1,0,none⟩)]] W fun e w'=>e=.returned (.int .i64 (placeI (gtP x.1) l))∧SetAt w v x w'∧EnvS w' Q v l):=fun W hA hE=>by
  rcases id hE with ⟨rfl,rfl⟩ | ⟨b,c,rfl,hq,hlt,hlc,hcells⟩
  ·refine (index_none _ _).mono ?_
   rintro e w' ⟨rfl,rfl⟩
   exact ⟨rfl,hA,hE⟩
  ·have:=AnyQ.slices_IndexFunc laysH06 3 Tryz.isAgg43 Tryz.sizeOf43 encV (fun _=>rfl) (gtP (txt x.1).data.toList) 150 #[.pointer (some ⟨w.heap.size+1,0,none⟩)] eg b 0 l.length c l W
    (pred_set (txt x.1) (w.heap.size+1) W (by have:=hA.lt;omega) hA.c1) (Nat.le_refl _) (by omega) hlt (EnvS.cellsAt hcells)
   rw [List.take_length,idx_is,txt_data] at this
   exact this.mono fun e w' h=>⟨h.1,hA.below h.2,hE.below h.2⟩
 have HK:=gt_place l x.1
 unfold setStart at HF
 clear HS0 hp h
 show Calls Tryz.prog 118 #[_,.agg #[.string (txt x.1),.string (txt x.2.1),.bool x.2.2]] w _
 go_enter Tryz.func118,Tryz.ntmps118
 go_wp2_with fail
 refine HF.out.mono ?_
 rintro e w1 ⟨rfl,hA,hE⟩
 have HI1:=Lib.hid (HI.out w1 hA hE)
 have k0:=hA.c0
 clear hA hE HI HF
 go_wp2_with fail
 refine HI1.out.mono ?_
 rintro e w2 ⟨rfl,hA,hE⟩
 cases hg:l.findIdx? (gtP x.1) with
 | none =>
  rw [hg] at HV HK
  simp only [Option.getD_none] at HV HK
  have hpl:placeI (gtP x.1) l=-1:=by unfold placeI;rw [hg]
  rw [hpl]
  clear hpl HI1
  rcases id hE with ⟨rfl,rfl⟩ | ⟨b,c,rfl,_,_,hlc,_⟩
  ·have HC:=Lib.hid (set_concat (.slice none 0 0) (.slice none 0 0) (.slice none 0 0) [] [] [] x w w2 hA (.inl ⟨rfl,rfl⟩) (.inl ⟨rfl,rfl⟩) (by simp) rfl)
   have k0:=hA.c0
   have k1:=hA.c1
   have k2:=hA.c2
   have k3:=hA.c3
   have HA:=Lib.hid hA
   clear hA hE hg
   go_wp2_with fail
   go_region_held3 (fun w'=>w'.cell? ⟨w.heap.size,0,none⟩=some (.slice none 0 0)∧w'.cell? ⟨w.heap.size+1,0,none⟩=some (.string (txt x.1))∧w'.cell? ⟨w.heap.size+1,1,none⟩=some (.string (txt x.2.1))∧w'.cell? ⟨w.heap.size+1,2,none⟩=some (.bool x.2.2))
    (first | (go_keep;done) | (refine ⟨?_,?_,?_,?_⟩ <;> (refine far_cell (by assumption) ?_;omega)))
    (first | (go_at_call 151;refine HC.out.mono ?_;rintro e w3 ⟨o3,n3,c3,rfl,hE3,hA3⟩;have HE3:=Lib.hid hE3;have HA3:=Lib.hid hA3;clear hE3;have y0:=hA3.c0;have y1:=hA3.c1;have y2:=hA3.c2;have y3:=hA3.c3;obtain ⟨y4,y5⟩:=one_cell hA3.r;clear hA3))
   go_wp2_with fail
   have hh:(w3.setCell ⟨w.heap.size+1+1,0,none⟩ (.slice o3 n3 c3)).heap[w.heap.size+1+1]? = some (.cells #[.slice o3 n3 c3] 26 (0,0)):=by simp [World.setCell,Array.getElem?_modify,HA3.out.r]
   have hlt:=HA.out.lt
   have hE4:=HE3.out.turned (X:=fun b=>b=w.heap.size+1+1) (Turned.setCell w3 ⟨w.heap.size+1+1,0,none⟩ (.slice o3 n3 c3) rfl) (fun b (hb:w2.heap.size≤b) (h2:b=w.heap.size+1+1)=>by omega)
   have hB4:Below w.heap.size w (w3.setCell ⟨w.heap.size+1+1,0,none⟩ (.slice o3 n3 c3)):=HA3.out.back.setCell (p:=⟨w.heap.size+1+1,0,none⟩) (by show w.heap.size≤w.heap.size+1+1;omega) _
   generalize (w3.setCell ⟨w.heap.size+1+1,0,none⟩ (.slice o3 n3 c3))=w4 at hh hE4 hB4 ⊢
   obtain ⟨z0,_⟩:=one_cell hh
   exact bodyPost_ret (v:=.agg #[.slice o3 n3 c3]) (by simp [results,Tryz.results118,go_sem,z0]) rfl ⟨_,rfl,hE4.wider (fun b _ (hb:w2.heap.size≤b)=>by omega),hB4⟩
  have hnc:(l.length:Int)≤(c:Int):=by omega
  have hnn:(0:Int)≤(l.length:Int):=by omega
  have hR:=hE.srcR l.length (Nat.le_refl _) hlc
  rw [Nat.sub_self] at hR
  by_cases hck:c=l.length
  ·rw [if_pos hck] at hR
   have e1:(c=l.length)=True:=eq_true hck
   have HC:=Lib.hid (set_concat (.slice (some ⟨b,0,none⟩) l.length c) (.slice (some ⟨b,0,none⟩) l.length c) (.slice (some ⟨b,0,none⟩) 0 (c - l.length)) l _ _ x w w2 hA (hE.srcL l.length (Nat.le_refl _)) hR (by simp;omega) HV.out)
   clear hck hR
   have k0:=hA.c0
   have k1:=hA.c1
   have k2:=hA.c2
   have k3:=hA.c3
   have HA:=Lib.hid hA
   clear hA hE hg
   go_wp2_with fail
   go_region_held3 (fun w'=>w'.cell? ⟨w.heap.size,0,none⟩=some (.slice (some ⟨b,0,none⟩) l.length c)∧w'.cell? ⟨w.heap.size+1,0,none⟩=some (.string (txt x.1))∧w'.cell? ⟨w.heap.size+1,1,none⟩=some (.string (txt x.2.1))∧w'.cell? ⟨w.heap.size+1,2,none⟩=some (.bool x.2.2))
    (first | (go_keep;done) | (refine ⟨?_,?_,?_,?_⟩ <;> (refine far_cell (by assumption) ?_;omega)))
    (first | (go_at_call 151;refine HC.out.mono ?_;rintro e w3 ⟨o3,n3,c3,rfl,hE3,hA3⟩;have HE3:=Lib.hid hE3;have HA3:=Lib.hid hA3;clear hE3;have y0:=hA3.c0;have y1:=hA3.c1;have y2:=hA3.c2;have y3:=hA3.c3;obtain ⟨y4,y5⟩:=one_cell hA3.r;clear hA3))
   go_wp2_with fail
   have hh:(w3.setCell ⟨w.heap.size+1+1,0,none⟩ (.slice o3 n3 c3)).heap[w.heap.size+1+1]? = some (.cells #[.slice o3 n3 c3] 26 (0,0)):=by simp [World.setCell,Array.getElem?_modify,HA3.out.r]
   have hlt:=HA.out.lt
   have hE4:=HE3.out.turned (X:=fun b=>b=w.heap.size+1+1) (Turned.setCell w3 ⟨w.heap.size+1+1,0,none⟩ (.slice o3 n3 c3) rfl) (fun b (hb:w2.heap.size≤b) (h2:b=w.heap.size+1+1)=>by omega)
   have hB4:Below w.heap.size w (w3.setCell ⟨w.heap.size+1+1,0,none⟩ (.slice o3 n3 c3)):=HA3.out.back.setCell (p:=⟨w.heap.size+1+1,0,none⟩) (by show w.heap.size≤w.heap.size+1+1;omega) _
   generalize (w3.setCell ⟨w.heap.size+1+1,0,none⟩ (.slice o3 n3 c3))=w4 at hh hE4 hB4 ⊢
   obtain ⟨z0,_⟩:=one_cell hh
   exact bodyPost_ret (v:=.agg #[.slice o3 n3 c3]) (by simp [results,Tryz.results118,go_sem,z0]) rfl ⟨_,rfl,hE4.wider (fun b _ (hb:w2.heap.size≤b)=>by omega),hB4⟩
  ·rw [if_neg hck] at hR
   have HC:=Lib.hid (set_concat (.slice (some ⟨b,0,none⟩) l.length c) (.slice (some ⟨b,0,none⟩) l.length c) (.slice (some ⟨b,l.length*3,none⟩) 0 (c - l.length)) l _ _ x w w2 hA (hE.srcL l.length (Nat.le_refl _)) hR (by simp;omega) HV.out)
   clear hR
   have k0:=hA.c0
   have k1:=hA.c1
   have k2:=hA.c2
   have k3:=hA.c3
   have HA:=Lib.hid hA
   clear hA hE hg
   go_wp2_with fail
   go_region_held3 (fun w'=>w'.cell? ⟨w.heap.size,0,none⟩=some (.slice (some ⟨b,0,none⟩) l.length c)∧w'.cell? ⟨w.heap.size+1,0,none⟩=some (.string (txt x.1))∧w'.cell? ⟨w.heap.size+1,1,none⟩=some (.string (txt x.2.1))∧w'.cell? ⟨w.heap.size+1,2,none⟩=some (.bool x.2.2))
    (first | (go_keep;done) | (refine ⟨?_,?_,?_,?_⟩ <;> (refine far_cell (by assumption) ?_;omega)))
    (first | (go_at_call 151;refine HC.out.mono ?_;rintro e w3 ⟨o3,n3,c3,rfl,hE3,hA3⟩;have HE3:=Lib.hid hE3;have HA3:=Lib.hid hA3;clear hE3;have y0:=hA3.c0;have y1:=hA3.c1;have y2:=hA3.c2;have y3:=hA3.c3;obtain ⟨y4,y5⟩:=one_cell hA3.r;clear hA3))
   go_wp2_with fail
   have hh:(w3.setCell ⟨w.heap.size+1+1,0,none⟩ (.slice o3 n3 c3)).heap[w.heap.size+1+1]? = some (.cells #[.slice o3 n3 c3] 26 (0,0)):=by simp [World.setCell,Array.getElem?_modify,HA3.out.r]
   have hlt:=HA.out.lt
   have hE4:=HE3.out.turned (X:=fun b=>b=w.heap.size+1+1) (Turned.setCell w3 ⟨w.heap.size+1+1,0,none⟩ (.slice o3 n3 c3) rfl) (fun b (hb:w2.heap.size≤b) (h2:b=w.heap.size+1+1)=>by omega)
   have hB4:Below w.heap.size w (w3.setCell ⟨w.heap.size+1+1,0,none⟩ (.slice o3 n3 c3)):=HA3.out.back.setCell (p:=⟨w.heap.size+1+1,0,none⟩) (by show w.heap.size≤w.heap.size+1+1;omega) _
   generalize (w3.setCell ⟨w.heap.size+1+1,0,none⟩ (.slice o3 n3 c3))=w4 at hh hE4 hB4 ⊢
   obtain ⟨z0,_⟩:=one_cell hh
   exact bodyPost_ret (v:=.agg #[.slice o3 n3 c3]) (by simp [results,Tryz.results118,go_sem,z0]) rfl ⟨_,rfl,hE4.wider (fun b _ (hb:w2.heap.size≤b)=>by omega),hB4⟩
 | some k =>
  rw [hg] at HV HK
  simp only [Option.getD_some] at HV HK
  have hpl:placeI (gtP x.1) l=(k:Int):=by unfold placeI;rw [hg]
  rw [hpl]
  clear hpl HI1
  rcases id hE with ⟨_,rfl⟩ | ⟨b,c,rfl,_,_,hlc,_⟩
  ·simp at hg
  have hkk:(0:Int)≤(k:Int):=by omega
  have hkn:(k:Int)≤(l.length:Int):=by omega
  have hkc:(k:Int)≤(c:Int):=by omega
  have hnc:(l.length:Int)≤(c:Int):=by omega
  have hR:=hE.srcR k HK hlc
  by_cases hck:c=k
  ·rw [if_pos hck] at hR
   have e1:(c=k)=True:=eq_true hck
   have HC:=Lib.hid (set_concat (.slice (some ⟨b,0,none⟩) l.length c) (.slice (some ⟨b,0,none⟩) k c) (.slice (some ⟨b,0,none⟩) (l.length - k) (c - k)) l _ _ x w w2 hA (hE.srcL k HK) hR (by simp;omega) HV.out)
   clear hck hR
   have k0:=hA.c0
   have k1:=hA.c1
   have k2:=hA.c2
   have k3:=hA.c3
   have HA:=Lib.hid hA
   clear hA hE hg
   go_wp2_with fail
   go_region_held3 (fun w'=>w'.cell? ⟨w.heap.size,0,none⟩=some (.slice (some ⟨b,0,none⟩) l.length c)∧w'.cell? ⟨w.heap.size+1,0,none⟩=some (.string (txt x.1))∧w'.cell? ⟨w.heap.size+1,1,none⟩=some (.string (txt x.2.1))∧w'.cell? ⟨w.heap.size+1,2,none⟩=some (.bool x.2.2))
    (first | (go_keep;done) | (refine ⟨?_,?_,?_,?_⟩ <;> (refine far_cell (by assumption) ?_;omega)))
    (first | (go_at_call 151;refine HC.out.mono ?_;rintro e w3 ⟨o3,n3,c3,rfl,hE3,hA3⟩;have HE3:=Lib.hid hE3;have HA3:=Lib.hid hA3;clear hE3;have y0:=hA3.c0;have y1:=hA3.c1;have y2:=hA3.c2;have y3:=hA3.c3;obtain ⟨y4,y5⟩:=one_cell hA3.r;clear hA3))
   go_wp2_with fail
   have hh:(w3.setCell ⟨w.heap.size+1+1,0,none⟩ (.slice o3 n3 c3)).heap[w.heap.size+1+1]? = some (.cells #[.slice o3 n3 c3] 26 (0,0)):=by simp [World.setCell,Array.getElem?_modify,HA3.out.r]
   have hlt:=HA.out.lt
   have hE4:=HE3.out.turned (X:=fun b=>b=w.heap.size+1+1) (Turned.setCell w3 ⟨w.heap.size+1+1,0,none⟩ (.slice o3 n3 c3) rfl) (fun b (hb:w2.heap.size≤b) (h2:b=w.heap.size+1+1)=>by omega)
   have hB4:Below w.heap.size w (w3.setCell ⟨w.heap.size+1+1,0,none⟩ (.slice o3 n3 c3)):=HA3.out.back.setCell (p:=⟨w.heap.size+1+1,0,none⟩) (by show w.heap.size≤w.heap.size+1+1;omega) _
   generalize (w3.setCell ⟨w.heap.size+1+1,0,none⟩ (.slice o3 n3 c3))=w4 at hh hE4 hB4 ⊢
   obtain ⟨z0,_⟩:=one_cell hh
   exact bodyPost_ret (v:=.agg #[.slice o3 n3 c3]) (by simp [results,Tryz.results118,go_sem,z0]) rfl ⟨_,rfl,hE4.wider (fun b _ (hb:w2.heap.size≤b)=>by omega),hB4⟩
  ·rw [if_neg hck] at hR
   have HC:=Lib.hid (set_concat (.slice (some ⟨b,0,none⟩) l.length c) (.slice (some ⟨b,0,none⟩) k c) (.slice (some ⟨b,k*3,none⟩) (l.length - k) (c - k)) l _ _ x w w2 hA (hE.srcL k HK) hR (by simp;omega) HV.out)
   clear hR
   have k0:=hA.c0
   have k1:=hA.c1
   have k2:=hA.c2
   have k3:=hA.c3
   have HA:=Lib.hid hA
   clear hA hE hg
   go_wp2_with fail
   go_region_held3 (fun w'=>w'.cell? ⟨w.heap.size,0,none⟩=some (.slice (some ⟨b,0,none⟩) l.length c)∧w'.cell? ⟨w.heap.size+1,0,none⟩=some (.string (txt x.1))∧w'.cell? ⟨w.heap.size+1,1,none⟩=some (.string (txt x.2.1))∧w'.cell? ⟨w.heap.size+1,2,none⟩=some (.bool x.2.2))
    (first | (go_keep;done) | (refine ⟨?_,?_,?_,?_⟩ <;> (refine far_cell (by assumption) ?_;omega)))
    (first | (go_at_call 151;refine HC.out.mono ?_;rintro e w3 ⟨o3,n3,c3,rfl,hE3,hA3⟩;have HE3:=Lib.hid hE3;have HA3:=Lib.hid hA3;clear hE3;have y0:=hA3.c0;have y1:=hA3.c1;have y2:=hA3.c2;have y3:=hA3.c3;obtain ⟨y4,y5⟩:=one_cell hA3.r;clear hA3))
   go_wp2_with fail
   have hh:(w3.setCell ⟨w.heap.size+1+1,0,none⟩ (.slice o3 n3 c3)).heap[w.heap.size+1+1]? = some (.cells #[.slice o3 n3 c3] 26 (0,0)):=by simp [World.setCell,Array.getElem?_modify,HA3.out.r]
   have hlt:=HA.out.lt
   have hE4:=HE3.out.turned (X:=fun b=>b=w.heap.size+1+1) (Turned.setCell w3 ⟨w.heap.size+1+1,0,none⟩ (.slice o3 n3 c3) rfl) (fun b (hb:w2.heap.size≤b) (h2:b=w.heap.size+1+1)=>by omega)
   have hB4:Below w.heap.size w (w3.setCell ⟨w.heap.size+1+1,0,none⟩ (.slice o3 n3 c3)):=HA3.out.back.setCell (p:=⟨w.heap.size+1+1,0,none⟩) (by show w.heap.size≤w.heap.size+1+1;omega) _
   generalize (w3.setCell ⟨w.heap.size+1+1,0,none⟩ (.slice o3 n3 c3))=w4 at hh hE4 hB4 ⊢
   obtain ⟨z0,_⟩:=one_cell hh
   exact bodyPost_ret (v:=.agg #[.slice o3 n3 c3]) (by simp [results,Tryz.results118,go_sem,z0]) rfl ⟨_,rfl,hE4.wider (fun b _ (hb:w2.heap.size≤b)=>by omega),hB4⟩
theorem set_any (Q:Nat→Prop) (v:Value) (l:EnvT) (x:VarT) (w:World) (h:EnvS w Q v l) (hl:l.length≤999999) (hs:SrtT l) :
  Calls Tryz.prog 118 #[.agg #[v],aggV x] w (SetPost l x w):=by
 cases hp:l.findIdx? (eqP x.1) with
 | none=>exact set_absent Q v l x w h hl hp
 | some i=>exact set_there Q v l x i w h hl hs hp
end Go.Proofs.YtmfjolmfbdbegaaGreatDoor
