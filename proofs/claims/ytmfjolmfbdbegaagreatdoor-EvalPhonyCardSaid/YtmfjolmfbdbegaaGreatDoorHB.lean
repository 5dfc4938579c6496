/-
  Two small laws. No condition.
  What text.between tells: the pieces of a text between the bytes at which it is cut. For every text, whatever it is cut at.
  text.gather answers what a function tells, in a new list: for whatever function that tells texts, as many as a slice may have.
  A list that reads as some texts. No condition.
  What text.Trim answers, for every text. No condition.
  The library's contract for strings.Join at this program's numbers, and what text.Join answers of it: the texts with one blank between.
-/
import Derived.WalkKit
import Derived.Lib.Bytealg
import Derived.Lib.Hide
import Derived.Outline
import Derived.RangeFuncNested
import Derived.RangeFuncBound
import Derived.RangeFuncCalls
import Derived.RangeFuncLeaves
import Derived.Shelf.Abstract
import Derived.Shelf.RegionOpen
import Derived.OwnWalkIn
import Derived.TacticsInMore
import Derived.LoopNIn
import Derived.LoopIn
import Derived.WalkSpells
import Derived.Deep.QuietTactic
import Derived.BigQuiet
import Derived.Maps.AppendAt
import Derived.Maps.OwnIn
import Derived.Shelf.Strings.SlTrimAscii
import Derived.Lib.IndexBytes
import Derived.Shelf.Strings.OnBuilder
import Derived.Test.YtmfjolmfbdbegaaGreatDoorProg
import Derived.Test.YtmfjolmfbdbegaaGreatDoorEP
import Derived.Test.YtmfjolmfbdbegaaGreatDoorIter
namespace Go.Proofs.YtmfjolmfbdbegaaGreatDoor
open Go.RowKit
theorem ret_bool {a b:Bool} (h:a=b):Ending.returned (.bool a)=.returned (.bool b):=by rw [h]
theorem nat_beq (a b:Nat):(((a:Nat):Int) == (b:Int))=decide (a=b):=by
 rw [Bool.eq_iff_iff];simp;omega
end Go.Proofs.YtmfjolmfbdbegaaGreatDoor

namespace Go.Proofs.YtmfjolmfbdbegaaGreatDoor
open Go.RowKit Go.Shelf
attribute [local go_sem] Oper.semAt_some
theorem still_call {P:Program} {f:FuncId} {args:Array Value} {w:World} {m:Nat} {v:Value} (h:Calls P f args (w.drewN m) fun e w'=>e=.returned v∧w.drewN m=w') :
  Calls P f args (w.drewN m) fun e w'=>e=.returned v∧∃ j,w'=w.drewN j:=h.mono fun _ _ h=>⟨h.1,m,h.2.symm⟩
set_option maxRecDepth 100000 in
set_option maxHeartbeats 1000000 in
theorem between1_tells (n:Nat) (s:ByteArray) (hs:s.size≤maxLen) (p:UInt8→Bool) (k:Nat) (hk:∀ args w,(callFunc k args).run Tryz.prog w=.ok (.enter k args) w)
  (hcut:∀ (c:UInt8) (w:World),Calls Tryz.prog k #[.int .u8 (c.toNat:Int)] w fun e w'=>e=.returned (.bool (p c))∧w=w') (b1 b2:Nat) (w:World)
  (hb1:Boxed w b1 9 (.string s)) (hb2:Boxed w b2 67 (.func (.func k) #[] #[])) :
  Tells n Tryz.prog 42 #[.pointer (some ⟨b1,0,none⟩),.pointer (some ⟨b2,0,none⟩)] (fun x:ByteArray=>#[Value.string x]) (fun j=>j=b1∨j=b2) ((pieces p s.data.toList).map txt) w:=by
 intro l J Jx W hW hJ hJx hY h0
 have hB1:=hW.boxed hb1 (.inl rfl)
 have hB2:=hW.boxed hb2 (.inr rfl)
 unfold maxLen at hs
 refine callsIn_of_wp Tryz.func42 rfl trivial ?_ rfl
 simp only [Tryz.ntmps42,List.size_toArray,List.length_cons,List.length_nil,Nat.reduceAdd,Nat.reduceSub,Array.replicate_succ,Array.replicate_zero,List.push_toArray,List.append_toArray,List.nil_append,List.cons_append]
 have hc1:=hB1.cell
 have hc2:=hB2.cell
 gi_wp2
 gi_loopw [4,8] (fun st i wr=>∃ (a m:Nat) (pre:List ByteArray),st=.int .i64 a∧i=.int .i64 m∧a≤m∧m≤s.size∧(∀ c∈(s.data.toList.drop a).take (m - a),p c=false) ∧
   (pieces p s.data.toList).map txt=pre++(pieces p (s.data.toList.drop a)).map txt∧Boxed wr b1 9 (.string s)∧Boxed wr b2 67 (.func (.func k) #[] #[])∧J (fun j=>j=b1∨j=b2) pre wr)
  (fun _ i _=>s.size - (intOf i).toNat)
 case atStart=>exact ⟨0,0,[],rfl,rfl,Nat.le_refl _,Nat.zero_le _,by simp,by simp,hB1,hB2,h0⟩
 case round =>
  obtain ⟨a,m,pre,rfl,rfl,ham,hms,hno,hp,hr1,hr2,hJs⟩:=hrel
  have hc3:=hr1.cell
  have hc4:=hr2.cell
  by_cases hlt:m < s.size
  ·cases hpc:p s[m] with
   | true =>
    have HC:Hid (∀ w,Calls Tryz.prog k #[.int .u8 (s[m].toNat:Int)] w fun e w'=>e=.returned (.bool true)∧w=w'):=fun w=>by have:=hcut s[m] w;rwa [hpc] at this
    have HK:=Lib.hid hpc;clear hpc
    gi_wp2
    refine wpIn_wide.2 ?_
    go_quiet ((exact still_call (HC.out _)))
    have hcut1:=cut_at p s.data.toList a m ham (by simpa using hlt) hno HK.out
    have hJd:=hJ _ _ _ _ _ hJs (Turned.drewN _ wr nq) (fun j h=>.inl h)
    have hpx:(pieces p s.data.toList).map txt=(pre++[s.extract a m])++(pieces p (s.data.toList.drop (m+1))).map txt:=by
     rw [hp,hcut1,extract_txt];simp
    have hR0:=hY _ pre (s.extract a m) _ hJd ⟨_,hpx.symm⟩
    have hk3:=(Kept.drewN (fun j=>j=b1∨j=b2) wr nq)
    have hd1:=hk3.boxed hr1 (.inl rfl)
    have hd2:=hk3.boxed hr2 (.inr rfl)
    have hc5:=hd1.cell
    obtain ⟨fn,tmps,assign,body,hy,hR⟩:=hR0
    have HP:=Lib.hid hpx
    have HR:=Lib.hid hR
    clear hpx hcut1 hp hno hR hk3
    gi_wp2
    refine ⟨(fun h=>(by cases h)),(RoundIn.depth HR.out).mono ?_⟩
    rintro e W3 ⟨hk3,(⟨rfl,hJ3⟩ | ⟨rfl,hJx3⟩)⟩
    ·gi_wp2
     go_roundw
     case rel=>exact ⟨m+1,m+1,pre++[s.extract a m],by go_num,by go_num,Nat.le_refl _,hlt,by simp,HP.out,hk3.boxed hd1 (.inl rfl),hk3.boxed hd2 (.inr rfl),hJ3⟩
     case measure=>simp [intOf];omega
    ·gi_wp2
     refine bodyPost_ret (results_none rfl _ _ _) rfl ?_
     exact ⟨⟨_,rfl⟩,_,.inr ⟨pre++[s.extract a m],⟨_,HP.out.symm⟩,hJx3⟩⟩
   | false =>
    have HC:Hid (∀ w,Calls Tryz.prog k #[.int .u8 (s[m].toNat:Int)] w fun e w'=>e=.returned (.bool false)∧w=w'):=fun w=>by have:=hcut s[m] w;rwa [hpc] at this
    have HK:=Lib.hid hpc;clear hpc
    gi_wp2
    refine wpIn_wide.2 ?_
    go_quiet ((exact still_call (HC.out _)))
    have hno1:=none_next p s.data.toList a m ham (by simpa using hlt) hno HK.out
    have hJd:=hJ _ _ _ _ _ hJs (Turned.drewN _ wr nq) (fun j h=>.inl h)
    have hk3:=(Kept.drewN (fun j=>j=b1∨j=b2) wr nq)
    have hd1:=hk3.boxed hr1 (.inl rfl)
    have hd2:=hk3.boxed hr2 (.inr rfl)
    have HP:=Lib.hid hp
    have HN:=Lib.hid hno1
    clear hp hno hno1 hk3
    gi_wp2
    go_roundw
    case rel=>exact ⟨a,m+1,pre,rfl,by go_num,by omega,hlt,HN.out,HP.out,hd1,hd2,hJd⟩
    case measure=>simp [intOf];omega
  ·obtain rfl:m=s.size:=by omega
   have hno1:∀ c∈s.data.toList.drop a,p c=false:=fun c hc=>hno c (by rw [take_rest];exact hc)
   have hpx:(pieces p s.data.toList).map txt=pre++[s.extract a s.size]:=by
    rw [hp,pieces_none p _ hno1,extract_txt,take_rest];rfl
   have hR0:=hY _ pre (s.extract a s.size) _ hJs (by rw [hpx];exact List.prefix_refl _)
   obtain ⟨fn,tmps,assign,body,hy,hR⟩:=hR0
   have HP:=Lib.hid hpx
   have HR:=Lib.hid hR
   clear hpx hp hno hno1 hR
   gi_wp2
   refine ⟨(fun h=>(by cases h)),(RoundIn.depth HR.out).mono ?_⟩
   rintro e W3 ⟨hk3,(⟨rfl,hJ3⟩ | ⟨rfl,hJx3⟩)⟩
   ·gi_wp2
    go_end0
    exact ⟨⟨_,rfl⟩,_,.inl (by rw [HP.out];exact hJ3)⟩
   ·gi_wp2
    go_end0
    exact ⟨⟨_,rfl⟩,_,.inr ⟨pre++[s.extract a s.size],by rw [HP.out];exact List.prefix_refl _,hJx3⟩⟩
end Go.Proofs.YtmfjolmfbdbegaaGreatDoor

namespace Go.Proofs.YtmfjolmfbdbegaaGreatDoor
open Go.RowKit Go.Shelf
attribute [local go_sem] Oper.semAt_some
set_option maxHeartbeats 400000 in
theorem between_any (s:ByteArray) (f:Nat) (w:World):Calls Tryz.prog 24 #[.string s,.func (.func f) #[] #[]] w fun e w' =>
  e=.returned (.func (.func 42) #[] #[.pointer (some ⟨w.heap.size,0,none⟩),.pointer (some ⟨w.heap.size+1,0,none⟩)])∧(w.alloc (.cells #[.string s] 9)).alloc (.cells #[.func (.func f) #[] #[]] 67)=w':=by
 go_enter Tryz.func24,Tryz.ntmps24
 go_wp2
 go_ret
 exact ⟨rfl,rfl⟩
theorem infoString:(Tryz.prog.info? 9).map (fun i=>(i.zero,i.size,i.bytes))=some (some (.string ⟨#[]⟩),1,16):=by kernel_rfl
def Holds (B:Nat) (n₀ n₁:Nat) (w:World) (X:Nat→Prop) (pre:List ByteArray) (W:World):Prop :=
 (∃ v,Boxed W B 28 v∧W.ownsRow n₁ 9 1 v pre.length (pre.map Value.string)∧∀ r,v.ownBlock=some r→¬ X r)∧¬ X B∧Below n₀ w W∧(∀ k,X k→n₀≤k∧k < W.heap.size)
theorem holds_abides (B n₀ n₁:Nat) (w:World) (hn:n₀≤w.heap.size):Abides' (Holds B n₀ n₁ w):=by
 rintro X X' pre A C ⟨⟨v,hv,hr,hx⟩,hB,hb,hX⟩ hT hsub
 have hs:=hb.size
 refine ⟨⟨v,hT.boxed hv hB,hT.ownsRow hr hx,fun r e h=>?_⟩,fun h=>?_,hb.trans (hT.below (by omega) fun k h=>(hX k h).1),fun k h=>?_⟩
 ·rcases hsub r h with h | h
  ·exact hx r e h
  ·have:=(hr.lt r e).2;omega
 ·rcases hsub B h with h | h
  ·exact hB h
  ·have:=hv.lt;omega
 ·have:=hT.size
  rcases hsub k h with h | h
  ·have:=hX k h;omega
  ·omega
set_option maxRecDepth 100000 in
set_option maxHeartbeats 1000000 in
theorem gather_any (gf:Nat) (lb:Array Value) (hg:∀ args w,(callFunc gf args).run Tryz.prog w=.ok (.enter gf args) w) (X0:Nat→Prop) (xs:List ByteArray) (w:World) (n₀:Nat) (hn:n₀≤w.heap.size)
  (hseq:∀ n,Tells n Tryz.prog gf lb (fun x:ByteArray=>#[Value.string x]) X0 xs w) (hX0:∀ k,X0 k→n₀≤k∧k < w.heap.size) (hlen:xs.length≤8796093022208) :
  Calls Tryz.prog 43 #[.func (.func gf) #[] lb] w fun e W'=>∃ v,e=.returned v∧W'.ownsRow w.heap.size 9 1 v xs.length (xs.map Value.string)∧Below n₀ w W':=by
 obtain ⟨i0,hi,hz0,hz1,hz2⟩:=info_parts infoString
 refine (callsIn_wide (n:=9)).1 ?_
 refine callsIn_of_wp_marks Tryz.func43 rfl trivial ?_ rfl
 simp only [Tryz.ntmps43,List.size_toArray,List.length_cons,List.length_nil,Nat.reduceAdd,Nat.reduceSub,Array.replicate_succ,Array.replicate_zero,List.push_toArray,List.append_toArray,List.nil_append,List.cons_append]
 gi_wp2
 have bO:=Boxed.new w 28 (.slice none 0 0)
 have hB0:Below n₀ w (w.alloc (.cells #[.slice none 0 0] 28)):=(Below.refl _ w).alloc hn _
 refine wpIn_range (gf:=gf) rfl hg (hseq _) (Kept.alloc _ _ _) (fun k h=>by have:=hX0 k h;simp;omega) (fun _=>rfl)
  (Holds w.heap.size n₀ w.heap.size w) (fun _ _ _ _=>False) (holds_abides _ _ _ _ hn) (fun _ _ _ _ _ _ h _ _=>h)
  ⟨⟨_,bO,World.ownsRow_nil _ _ _ _,by simp [Value.ownBlock]⟩,fun h=>by have:=hX0 _ h;omega,hB0,fun k h=>by have:=hX0 k h;simp;omega⟩
  (fun x=>{ tmps:=#[.func (.func gf) #[] lb,undef,.slice none 0 0,.pointer (some ⟨w.heap.size,0,none⟩),.string x,.func (.func gf) #[] lb,.string x,undef,undef,undef,undef,undef],defers:=[] }) ?assign ?body ?done ?stop
 case assign =>
  intro l x U K hK
  gi_wp2
  exact hK
 case body =>
  rintro l X pre x W ⟨⟨v,hv,hrow,hvx⟩,hXB,hB,hX⟩ hpre
  have hc:=hv.cell
  have hpl:pre.length+1≤8796093022208:=by have:=hpre.length_le;simp at this;omega
  have hml:pre.length+1≤maxLen:=by unfold maxLen;omega
  have hlt:=hv.lt
  gi_wp2_with (gi_at_builtin;refine wpListIn_append_own_at _ rfl _ _ 28 rfl w.heap.size 9 i0 (.string ⟨#[]⟩) 1 16 Tryz.underlying28 hi hz0 hz1 hz2 rfl (by decide) _ _ _ rfl (hrow.alloc _) ⟨W.heap.size,0,none⟩ 1 1 [.string x] rfl rfl (cell_one_new _ _ _) (by simp [Value.oneCell']) hml (by omega) (by have:=hB.size;simp;omega) ?_;intro v' w1 hown' hgrow _ hat;obtain ⟨g',cap',rfl⟩:=ownsRow_succ hown';obtain ⟨hv1,hv2,hr2,_,hb2⟩:=hv.appended (by decide) hrow hB.size (Nat.le_refl _) hown' hgrow;have hc1:=hv1.cell;have hf1:=hv1.frozen)
  have hg1:=hgrow.size
  rw [World.size_alloc] at hg1
  have hat':∀ r,(Value.slice (some ⟨g',0,none⟩) (pre.length+1) cap').ownBlock=some r→¬ X r:=by
   intro r e hx
   rcases hat with h | h
   ·exact hvx r (h ▸ e) hx
   ·rw [h] at e;cases e;have:=hX _ hx;rw [World.size_alloc] at this;omega
  refine ⟨((Kept.alloc X W _).trans (Kept.grown hgrow hvx)).trans (Kept.setCell _ _ _ hXB),⟨_,hv2,?_,hat'⟩,hXB,hB.trans (hb2.mono hn),fun k h=>?_⟩
  ·simpa using hr2
  ·have:=hX k h;simp;omega
 case done =>
  rintro D X U hD hXD ⟨⟨v,hv,hrow,hvx⟩,hXB,hB,hX⟩ hK
  have hc:=hv.cell
  gi_wp2
  refine ⟨by simp,.inl ⟨_,_,rfl,run_takeDeferred hK,?_⟩⟩
  exact ⟨_,results_tmp rfl _ _ _,v,rfl,ownsRow_putObj hrow _ hK rfl,hB.trans ((Turned.putObj _ _ _ hXD).below (by have:=hB.size;omega) fun k h=>(hX k h).1)⟩
 case stop =>
  rintro D X c pre U hD hXD hpre h hK
  exact h.elim
end Go.Proofs.YtmfjolmfbdbegaaGreatDoor

namespace Go.Proofs.YtmfjolmfbdbegaaGreatDoor
open Go.RowKit Go.Shelf
def Reads (W:World) (B:Nat) (v:Value) (xs:List ByteArray):Prop :=
 (v=.slice none 0 0∧xs=[])∨∃ b o c,v=.slice (some ⟨b,o,none⟩) xs.length c∧b < B∧xs.length≤c∧∀ j x,xs[j]? = some x→W.cell? ⟨b,o+j,none⟩=some (.string x)
theorem Reads.of_owns {W:World} {base:Nat} {v:Value} {xs:List ByteArray} (h:W.ownsRow base 9 1 v xs.length (xs.map Value.string)):Reads W W.heap.size v xs:=by
 rcases h.2 with ⟨hv,hn⟩ | ⟨g,cap,cur,hv,hb,hg,hk,hm,hs,ht⟩
 ·exact .inl ⟨hv,List.eq_nil_of_length_eq_zero hn⟩
 ·refine .inr ⟨g,0,cap,hv,(Array.getElem?_eq_some_iff.1 hg).1,hk,fun j x hj=>?_⟩
  have hj':j < xs.length:=(List.getElem?_eq_some_iff.1 hj).1
  have e1:(xs.map Value.string)[j]? = some (.string x):=by rw [List.getElem?_map,hj];rfl
  rw [← ht,List.getElem?_take_of_lt (by omega)] at e1
  have e2:cur[j]? = some (.string x):=by rw [← Array.getElem?_toList];exact e1
  simp [World.cell?,hg,e2]
theorem pieces_len (p:UInt8→Bool) (l:List UInt8):(pieces p l).length≤l.length+1:=by
 induction l with
 | nil=>simp [pieces]
 | cons c r ih =>
  simp only [pieces]
  split
  ·simpa using ih
  ·split
   ·rename_i h;rw [h] at ih;simp at ih ⊢;omega
   ·simp
theorem size_list (s:ByteArray):s.data.toList.length=s.size:=by rw [Array.length_toList];rfl
theorem reads_last {W:World} {B:Nat} {v:Value} {ini:List ByteArray} {last:ByteArray} (h:Reads W B v (ini++[last])) :
  ∃ b o c,v=.slice (some ⟨b,o,none⟩) (ini.length+1) c∧ini.length+1≤c∧W.cell? ⟨b,o+ini.length,none⟩=some (.string last)∧Reads W B (.slice (some ⟨b,o,none⟩) ini.length c) ini:=by
 rcases h with ⟨_,h⟩ | ⟨b,o,c,hv,hlt,hc,hx⟩
 ·simp at h
 ·refine ⟨b,o,c,by simpa using hv,by simpa using hc,hx ini.length last (by simp),.inr ⟨b,o,c,rfl,hlt,by simp at hc;omega,fun j x hj=>hx j x ?_⟩⟩
  rw [List.getElem?_append_left (List.getElem?_eq_some_iff.1 hj).1];exact hj
end Go.Proofs.YtmfjolmfbdbegaaGreatDoor

namespace Go.Proofs.YtmfjolmfbdbegaaGreatDoor
open Go.Shelf Go.RowKit
def lays160_ren:Go.Shelf.Ren:=⟨fun | 160 => 67 | 232 => 102 | 231 => 101 | 227 => 103 | 234 => 105 | 233 => 104 | 236 => 107 | 235 => 106 | 228 => 139 | 271 => 142 | 151 => 141 | 197 => 140 | 120 => 164 | 152 => 163 | 260 => 162 | 137 => 165 | 119 => 173 | 224 => 137 | 225 => 136 | 217 => 135 | 266 => 160 | n=>n,fun | 9 => 9 | 4 => 4 | 3 => 3 | 5 => 5 | 117 => 148 | 116 => 147 | 0 => 0 | 124 => 151 | 21 => 21 | 105 => 185 | 46 => 114 | 119 => 216 | 139 => 219 | 138 => 218 | n=>n,fun | 3 => 1 | 4 => 2 | n=>n⟩
theorem lays160:Go.Proofs.Lays.n160 Tryz.prog lays160_ren:={
 mixed:=by kernel_rfl
 f119:=Tryz.func173.trans (congrArg some (by kernel_rfl))
 f120:=Tryz.func164.trans (congrArg some (by kernel_rfl))
 f137:=Tryz.func165.trans (congrArg some (by kernel_rfl))
 f151:=Tryz.func141.trans (congrArg some (by kernel_rfl))
 f152:=Tryz.func163.trans (congrArg some (by kernel_rfl))
 f160:=Tryz.func67.trans (congrArg some (by kernel_rfl))
 f197:=Tryz.func140.trans (congrArg some (by kernel_rfl))
 f217:=Tryz.func135.trans (congrArg some (by kernel_rfl))
 f224:=Tryz.func137.trans (congrArg some (by kernel_rfl))
 f225:=Tryz.func136.trans (congrArg some (by kernel_rfl))
 f227:=Tryz.func103.trans (congrArg some (by kernel_rfl))
 f228:=Tryz.func139.trans (congrArg some (by kernel_rfl))
 f231:=Tryz.func101.trans (congrArg some (by kernel_rfl))
 f232:=Tryz.func102.trans (congrArg some (by kernel_rfl))
 f233:=Tryz.func104.trans (congrArg some (by kernel_rfl))
 f234:=Tryz.func105.trans (congrArg some (by kernel_rfl))
 f235:=Tryz.func106.trans (congrArg some (by kernel_rfl))
 f236:=Tryz.func107.trans (congrArg some (by kernel_rfl))
 f260:=Tryz.func162.trans (congrArg some (by kernel_rfl))
 f266:=Tryz.func160.trans (congrArg some (by kernel_rfl))
 f271:=Tryz.func142.trans (congrArg some (by kernel_rfl))
 t0:=Tryz.underlying0
 a0:=Tryz.isAgg0
 z0:=Tryz.sizeOf0
 v0:=Tryz.zeroValue0
 t3:=Tryz.underlying3
 a3:=Tryz.isAgg3
 z3:=Tryz.sizeOf3
 v3:=Tryz.zeroValue3
 t4:=Tryz.underlying4
 a4:=Tryz.isAgg4
 z4:=Tryz.sizeOf4
 v4:=Tryz.zeroValue4
 t5:=Tryz.underlying5
 a5:=Tryz.isAgg5
 z5:=Tryz.sizeOf5
 v5:=Tryz.zeroValue5
 t9:=Tryz.underlying9
 a9:=Tryz.isAgg9
 z9:=Tryz.sizeOf9
 v9:=Tryz.zeroValue9
 t21:=Tryz.underlying21
 a21:=Tryz.isAgg21
 z21:=Tryz.sizeOf21
 v21:=Tryz.zeroValue21
 t46:=Tryz.underlying114
 a46:=Tryz.isAgg114
 z46:=Tryz.sizeOf114
 v46:=Tryz.zeroValue114
 t105:=Tryz.underlying185
 a105:=Tryz.isAgg185
 z105:=Tryz.sizeOf185
 v105:=Tryz.zeroValue185
 t116:=Tryz.underlying147
 a116:=Tryz.isAgg147
 z116:=Tryz.sizeOf147
 t117:=Tryz.underlying148
 a117:=Tryz.isAgg148
 z117:=Tryz.sizeOf148
 v117:=Tryz.zeroValue148
 t119:=Tryz.underlying216
 a119:=Tryz.isAgg216
 z119:=Tryz.sizeOf216
 t124:=Tryz.underlying151
 a124:=Tryz.isAgg151
 z124:=Tryz.sizeOf151
 v124:=Tryz.zeroValue151
 t138:=Tryz.underlying218
 a138:=Tryz.isAgg218
 z138:=Tryz.sizeOf218
 v138:=Tryz.zeroValue218
 t139:=Tryz.underlying219
 a139:=Tryz.isAgg219
 z139:=Tryz.sizeOf219
 v139:=Tryz.zeroValue219
 g3:=by kernel_rfl
 g4:=by kernel_rfl }
theorem contains_blank (c:UInt8):([32,9]:List UInt8).contains c=blankB c:=by
 by_cases h1:c=32
 ·subst h1;rfl
 ·by_cases h2:c=9
  ·subst h2;rfl
  ·have e1:c.toNat≠32:=fun h=>h1 (UInt8.toNat_inj.1 (by rw [h];rfl))
   have e2:c.toNat≠9:=fun h=>h2 (UInt8.toNat_inj.1 (by rw [h];rfl))
   simp [blankB,h1,h2,e1,e2]
theorem trimS_is (l:List UInt8):Lib.trimS l [32,9]=trimOf l:=by
 have e:(fun c=>([32,9]:List UInt8).contains c)=blankB:=funext contains_blank
 unfold trimOf
 rw [← cut_swap]
 unfold Lib.trimS Lib.trimLeftS Lib.trimRightS cutL cutR
 rw [e]
theorem libTrim_any (s:ByteArray) (hs:s.size≤9223372036854775807) (w:World):Calls Tryz.prog 67 #[.string s,.string ⟨#[32,9]⟩] w fun e w'=>e=.returned (.string (txt (trimOf s.data.toList)))∧Below w.heap.size w w':=by
 have:=Any.strings_Trim_laid lays160 (by kernel_rfl) s ⟨#[32,9]⟩ w hs (by decide) (ascii_of_all (by decide))
 rw [show (ByteArray.mk #[32,9]).data.toList=[32,9] from rfl,trimS_is] at this
 exact this
set_option maxHeartbeats 400000 in
theorem trim_any (s:ByteArray) (hs:s.size≤maxLen) (w:World):Calls Tryz.prog 47 #[.string s] w fun e w'=>e=.returned (.string (txt (trimOf s.data.toList)))∧Below w.heap.size w w':=by
 unfold maxLen at hs
 go_enter Tryz.func47,Tryz.ntmps47
 go_wp2_with fail
 refine (libTrim_any s (by omega) w).mono ?_
 rintro e w1 ⟨rfl,hb⟩
 go_wp2_with fail
 go_ret
 exact ⟨rfl,hb⟩
end Go.Proofs.YtmfjolmfbdbegaaGreatDoor

namespace Go.Proofs.YtmfjolmfbdbegaaGreatDoor
open Go.Shelf Go.RowKit
def lays156_ren:Go.Shelf.Ren:=⟨fun | 156 => 99 | 165 => 132 | 166 => 133 | 169 => 134 | 240 => 158 | 241 => 159 | 276 => 171 | 277 => 172 | n=>n,fun | 31 => 28 | 9 => 9 | 3 => 3 | 4 => 4 | 0 => 0 | 20 => 20 | 72 => 176 | 76 => 180 | 70 => 174 | 37 => 154 | 75 => 179 | 127 => 202 | 164 => 213 | 5 => 5 | 80 => 182 | n=>n,fun | n=>n⟩
theorem lays156:Go.Proofs.Lays.n156 Tryz.prog lays156_ren:={
 mixed:=by kernel_rfl
 f156:=Tryz.func99.trans (congrArg some (by kernel_rfl))
 f165:=Tryz.func132.trans (congrArg some (by kernel_rfl))
 f166:=Tryz.func133.trans (congrArg some (by kernel_rfl))
 f169:=Tryz.func134.trans (congrArg some (by kernel_rfl))
 f240:=Tryz.func158.trans (congrArg some (by kernel_rfl))
 f241:=Tryz.func159.trans (congrArg some (by kernel_rfl))
 f276:=Tryz.func171.trans (congrArg some (by kernel_rfl))
 f277:=Tryz.func172.trans (congrArg some (by kernel_rfl))
 t0:=Tryz.underlying0
 a0:=Tryz.isAgg0
 z0:=Tryz.sizeOf0
 v0:=Tryz.zeroValue0
 t3:=Tryz.underlying3
 a3:=Tryz.isAgg3
 z3:=Tryz.sizeOf3
 v3:=Tryz.zeroValue3
 t4:=Tryz.underlying4
 a4:=Tryz.isAgg4
 z4:=Tryz.sizeOf4
 v4:=Tryz.zeroValue4
 t9:=Tryz.underlying9
 a9:=Tryz.isAgg9
 z9:=Tryz.sizeOf9
 v9:=Tryz.zeroValue9
 t20:=Tryz.underlying20
 a20:=Tryz.isAgg20
 z20:=Tryz.sizeOf20
 v20:=Tryz.zeroValue20
 t31:=Tryz.underlying28
 a31:=Tryz.isAgg28
 z31:=Tryz.sizeOf28
 v31:=Tryz.zeroValue28
 t37:=Tryz.underlying154
 a37:=Tryz.isAgg154
 z37:=Tryz.sizeOf154
 v37:=Tryz.zeroValue154
 t70:=Tryz.underlying174
 a70:=Tryz.isAgg174
 z70:=Tryz.sizeOf174
 v70:=Tryz.zeroValue174
 t72:=Tryz.underlying176
 a72:=Tryz.isAgg176
 z72:=Tryz.sizeOf176
 v72:=Tryz.zeroValue176
 t75:=Tryz.underlying179
 a75:=Tryz.isAgg179
 z75:=Tryz.sizeOf179
 v75:=Tryz.zeroValue179
 t76:=Tryz.underlying180
 a76:=Tryz.isAgg180
 z76:=Tryz.sizeOf180
 v76:=Tryz.zeroValue180
 t127:=Tryz.underlying202
 a127:=Tryz.isAgg202
 z127:=Tryz.sizeOf202
 v127:=Tryz.zeroValue202
 t164:=Tryz.underlying213
 a164:=Tryz.isAgg213
 z164:=Tryz.sizeOf213
 v164:=Tryz.zeroValue213 }
theorem extra156:Builder.Extra Tryz.prog lays156_ren:={
 sizeBuilder:=by kernel_rfl
 liesBuilder:=by kernel_rfl
 t5:=Tryz.underlying5
 a5:=Tryz.isAgg5
 z5:=Tryz.sizeOf5
 v5:=Tryz.zeroValue5
 infoByte:=by kernel_rfl
 cellsByte:=by kernel_rfl
 sizeByte:=by kernel_rfl
 neB5:=by decide }
def joinOf (xs:List ByteArray):List UInt8:=Lib.join (xs.map (·.data.toList)) [32]
def ReadsO (W:World) (B:Nat) (v:Value) (xs:List ByteArray):Prop :=
 ∃ o c,v=.slice o xs.length c∧∀ k x,xs[k]? = some x→∃ b f,o=some ⟨b,f,none⟩∧b < B∧xs.length≤c∧W.cell? ⟨b,f+k,none⟩=some (.string x)
theorem Reads.o {W:World} {B:Nat} {v:Value} {xs:List ByteArray} (h:Reads W B v xs):ReadsO W B v xs:=by
 rcases h with ⟨rfl,rfl⟩ | ⟨b,o,c,rfl,hb,hc,hx⟩
 ·exact ⟨none,0,rfl,by simp⟩
 ·exact ⟨some ⟨b,o,none⟩,c,rfl,fun k x hk=>⟨b,o,rfl,hb,hc,hx k x hk⟩⟩
theorem ReadsO.below {W W':World} {B B':Nat} {v:Value} {xs:List ByteArray} (h:ReadsO W B v xs) (hb:Below B W W') (hB:B≤B'):ReadsO W' B' v xs:=by
 obtain ⟨o,c,hv,hx⟩:=h
 refine ⟨o,c,hv,fun k x hk=>?_⟩
 obtain ⟨b,f,ho,hlt,hc,hcell⟩:=hx k x hk
 exact ⟨b,f,ho,by omega,hc,(hb.cell (p:=⟨b,f+k,none⟩) hlt).trans hcell⟩
theorem ReadsO.reads {W:World} {B:Nat} {v:Value} {xs:List ByteArray} (h:ReadsO W B v xs):(∃ o c,v=.slice o 0 c∧xs=[])∨Reads W B v xs:=by
 obtain ⟨o,c,hv,hx⟩:=h
 cases xs with
 | nil=>exact .inl ⟨o,c,hv,rfl⟩
 | cons x r =>
  obtain ⟨b,f,rfl,hlt,hc,_⟩:=hx 0 x rfl
  refine .inr (.inr ⟨b,f,c,hv,hlt,hc,fun j y hj=>?_⟩)
  obtain ⟨b',f',e,_,_,hcell⟩:=hx j y hj
  cases e
  exact hcell
theorem join_some (bk o c:Nat) (xs:List ByteArray) (w:World) (hcells:∀ (j:Nat) x,xs[j]? = some x→w.cell? ⟨bk,o+j,none⟩=some (.string x)) (hbk:bk < w.heap.size) (hN:xs.length≤140737488355328) (hcap:xs.length≤c) (hlen:(joinOf xs).length≤140737488355328) :
  Calls Tryz.prog 99 #[.slice (some ⟨bk,o,none⟩) xs.length c,.string ⟨#[32]⟩] w fun e w'=>e=.returned (.string (txt (joinOf xs)))∧Below w.heap.size w w' :=
 Any.strings_Join lays156 extra156 bk o c xs ⟨#[32]⟩ w hcells hbk hN hcap hlen
theorem join_none (a:Option Addr) (c:Nat) (w:World) :
  Calls Tryz.prog 99 #[.slice a 0 c,.string ⟨#[32]⟩] w fun e w'=>e=.returned (.string ⟨#[]⟩)∧w'=w:=Any.strings_Join_none lays156 extra156 a c ⟨#[32]⟩ w
set_option maxHeartbeats 400000 in
theorem textJoin_any (v:Value) (xs:List ByteArray) (w:World) (hr:ReadsO w w.heap.size v xs) (hN:xs.length≤140737488355328) (hlen:(joinOf xs).length≤140737488355328) :
  Calls Tryz.prog 65 #[v] w fun e w'=>e=.returned (.string (txt (joinOf xs)))∧Below w.heap.size w w':=by
 have hJ:Calls Tryz.prog 99 #[v,.string ⟨#[32]⟩] w fun e w'=>e=.returned (.string (txt (joinOf xs)))∧Below w.heap.size w w':=by
  rcases hr.reads with ⟨o,c,rfl,rfl⟩ | h
  ·exact (join_none o c w).mono fun e w' h=>⟨h.1,h.2 ▸ Below.refl _ _⟩
  ·rcases h with ⟨rfl,rfl⟩ | ⟨b,o,c,rfl,hb,hc,hx⟩
   ·exact (join_none none 0 w).mono fun e w' h=>⟨h.1,h.2 ▸ Below.refl _ _⟩
   ·exact join_some b o c xs w hx hb hN hc hlen
 have HJ:=Lib.hid hJ
 obtain ⟨o,c,rfl,_⟩:=hr
 clear hJ
 go_enter Tryz.func65,Tryz.ntmps65
 go_wp2_with fail
 refine HJ.out.mono ?_
 rintro e w1 ⟨rfl,hb⟩
 go_wp2_with fail
 go_ret
 exact ⟨rfl,hb⟩
end Go.Proofs.YtmfjolmfbdbegaaGreatDoor
