/-
  What the document's own Trim, Lines and Words answer, for every text that is not over long. No condition.
  What text.Words answers, for every text. No condition.
  What the document's own answers (marks, Right, Open, Fill, Match, Subst, Any) are, for every text up to a size: the same as the program's.
  What the document's own Match, Subst and Any answer: the same as the program's.
  What text.Number and the document's own Number answer, for every text: the value of 1 to 9 digits that do not begin with 0, or of 0 alone, and true; else 0 and false.
-/
import Derived.Maps.AppendAt
import Derived.Shelf.Strings.Search1
import Derived.IntWalk
import Derived.Test.YtmfjolmfbdbegaaGreatDoorHB
import Derived.Test.YtmfjolmfbdbegaaGreatDoorHG
namespace Go.Proofs.YtmfjolmfbdbegaaGreatDoor
open Go.RowKit Go.Shelf
def strLen:Value→Nat
 | .string s=>s.size
 | _=>0
def isWord (x:ByteArray):Bool:=!x.toList.isEmpty
def wordsOf (l:List UInt8):List ByteArray:=((pieces blankB l).map txt).filter isWord
theorem txt_app (a b:List UInt8):txt a++txt b=txt (a++b):=by
 rw [← txt_toList (txt a++txt b)];simp [ByteArray.data_append,txt]
end Go.Proofs.YtmfjolmfbdbegaaGreatDoor

namespace Go.Proofs.YtmfjolmfbdbegaaGreatDoor
open Go.RowKit Go.Shelf
attribute [local go_sem] Oper.semAt_some
def lays137_ren:Go.Shelf.Ren:=⟨fun | 137 => 165 | 217 => 135 | 266 => 160 | n=>n,fun | 9 => 9 | 5 => 5 | 3 => 3 | n=>n,fun | n=>n⟩
theorem lays137:Go.Proofs.Lays.n137 Tryz.prog lays137_ren:={
 mixed:=by kernel_rfl
 f137:=Tryz.func165.trans (congrArg some (by kernel_rfl))
 f217:=Tryz.func135.trans (congrArg some (by kernel_rfl))
 f266:=Tryz.func160.trans (congrArg some (by kernel_rfl))
 t3:=Tryz.underlying3
 a3:=Tryz.isAgg3
 z3:=Tryz.sizeOf3
 v3:=Tryz.zeroValue3
 t5:=Tryz.underlying5
 a5:=Tryz.isAgg5
 z5:=Tryz.sizeOf5
 v5:=Tryz.zeroValue5
 t9:=Tryz.underlying9
 a9:=Tryz.isAgg9
 z9:=Tryz.sizeOf9
 v9:=Tryz.zeroValue9 }
theorem indexByte_any (s:ByteArray) (c:Int) (w:World) :
  Calls Tryz.prog 165 #[.string s,.int .u8 c] w fun e w'=>e=.returned (.int .i64 (Lib.indexByte s.data.toList c.toNat.toUInt8))∧w'=w:=Any.strings_IndexByte lays137 s c w
theorem blank_index (c:UInt8):decide (0≤Lib.indexByte [32,9] c)=blankB c:=by
 by_cases h1:(32:UInt8)=c
 ·subst h1;rfl
 ·by_cases h2:(9:UInt8)=c
  ·subst h2;rfl
  ·have e1:c.toNat≠32:=fun h=>h1 (UInt8.toNat_inj.1 (by rw [h];rfl))
   have e2:c.toNat≠9:=fun h=>h2 (UInt8.toNat_inj.1 (by rw [h];rfl))
   simp [Lib.indexByte,blankB,h1,h2,e1,e2]
set_option maxHeartbeats 400000 in
theorem isBlank_any (c:UInt8) (w:World):Calls Tryz.prog 144 #[.int .u8 (c.toNat:Int)] w fun e w'=>e=.returned (.bool (blankB c))∧w=w':=by
 go_enter Tryz.func144,Tryz.ntmps144
 go_wp2_with (go_at_call 165;refine (indexByte_any _ _ _).mono ?_;rintro e w' ⟨rfl,rfl⟩)
 go_ret
 exact ⟨ret_bool (blank_index c),rfl⟩
set_option maxHeartbeats 400000 in
theorem words0_any (s:ByteArray) (w:World):Calls Tryz.prog 108 #[.string s] w fun e w' =>
  e=.returned (.func (.func 143) #[] #[.pointer (some ⟨w.heap.size,0,none⟩)])∧w.alloc (.cells #[.string s] 9)=w':=by
 go_enter Tryz.func108,Tryz.ntmps108
 go_wp2
 go_ret
 exact ⟨rfl,rfl⟩
set_option maxRecDepth 100000 in
set_option maxHeartbeats 1000000 in
theorem words1_tells (n:Nat) (s:ByteArray) (hs:s.size≤maxLen) (b1:Nat) (w:World) (hb1:Boxed w b1 9 (.string s)) :
  Tells n Tryz.prog 143 #[.pointer (some ⟨b1,0,none⟩)] (fun x:ByteArray=>#[Value.string x]) (fun j=>j=b1) (wordsOf s.data.toList) w:=by
 intro l J Jx W hW hJ hJx hY h0
 have hB1:=hW.boxed hb1 rfl
 refine callsIn_of_wp_marks Tryz.func143 rfl trivial ?_ rfl
 simp only [Tryz.ntmps143,List.size_toArray,List.length_cons,List.length_nil,Nat.reduceAdd,Nat.reduceSub,Array.replicate_succ,Array.replicate_zero,List.push_toArray,List.append_toArray,List.nil_append,List.cons_append]
 have hlt1:=hB1.lt
 have hc1:=(hB1.alloc (.cells #[.func (.yield l) #[] #[]] 23)).cell
 gi_wp2
 refine ⟨trivial,(fun h=>(by cases h)),(callsIn_wide.2 (between_any _ _ _)).mono ?_⟩
 rintro e w' ⟨rfl,rfl⟩
 gi_wp2
 have bY:Boxed (((W.alloc (.cells #[.func (.yield l) #[] #[]] 23)).alloc (.cells #[.string s] 9)).alloc (.cells #[.func (.func 144) #[] #[]] 67)) W.heap.size 23 (.func (.yield l) #[] #[]):=((Boxed.new W _ _).alloc _).alloc _
 have bS:Boxed (((W.alloc (.cells #[.func (.yield l) #[] #[]] 23)).alloc (.cells #[.string s] 9)).alloc (.cells #[.func (.func 144) #[] #[]] 67)) (W.heap.size+1) 9 (.string s):=by
  have:=(Boxed.new (W.alloc (.cells #[.func (.yield l) #[] #[]] 23)) 9 (.string s)).alloc (.cells #[.func (.func 144) #[] #[]] 67)
  rwa [World.size_alloc] at this
 have bC:Boxed (((W.alloc (.cells #[.func (.yield l) #[] #[]] 23)).alloc (.cells #[.string s] 9)).alloc (.cells #[.func (.func 144) #[] #[]] 67)) (W.heap.size+1+1) 67 (.func (.func 144) #[] #[]):=by
  have:=Boxed.new ((W.alloc (.cells #[.func (.yield l) #[] #[]] 23)).alloc (.cells #[.string s] 9)) 67 (.func (.func 144) #[] #[])
  rwa [World.size_alloc,World.size_alloc] at this
 have ht:Turned (fun j=>j=b1) W (((W.alloc (.cells #[.func (.yield l) #[] #[]] 23)).alloc (.cells #[.string s] 9)).alloc (.cells #[.func (.func 144) #[] #[]] 67)):=((Turned.alloc _ W _).trans (Turned.alloc _ _ _)).trans (Turned.alloc _ _ _)
 have hV:(((W.alloc (.cells #[.func (.yield l) #[] #[]] 23)).alloc (.cells #[.string s] 9)).alloc (.cells #[.func (.func 144) #[] #[]] 67)).heap.size=W.heap.size+3:=by simp
 generalize (((W.alloc (.cells #[.func (.yield l) #[] #[]] 23)).alloc (.cells #[.string s] 9)).alloc (.cells #[.func (.func 144) #[] #[]] 67))=V at bY bS bC ht hV ⊢
 have hI0:Abides' (fun X (pre:List ByteArray) U=>J (fun k=>X k∨k=b1∨k=W.heap.size) (pre.filter isWord) U∧Boxed U W.heap.size 23 (.func (.yield l) #[] #[])∧¬ X W.heap.size):=by
  rintro X X' pre A B ⟨hj,hb,hx⟩ hT hsub
  refine ⟨hJ _ _ _ _ _ hj (hT.wider fun k h=>.inl h) ?_,hT.boxed hb hx,fun h=>?_⟩
  ·rintro k (h | h)
   ·rcases hsub k h with h | h
    ·exact .inl (.inl h)
    ·exact .inr h
   ·exact .inl (.inr h)
  ·rcases hsub _ h with h | h
   ·exact hx h
   ·have:=hb.lt;omega
 have hIx0:∀ c,Abides' (fun X (_:List ByteArray) U=>c=Code.ret∧∃ q,q <+: wordsOf s.data.toList∧Jx (fun k=>X k∨k=b1∨k=W.heap.size) q U):=by
  rintro c X X' pre A B ⟨hc,q,hq,hj⟩ hT hsub
  refine ⟨hc,q,hq,hJx _ _ _ _ _ hj (hT.wider fun k h=>.inl h) ?_⟩
  rintro k (h | h)
  ·rcases hsub k h with h | h
   ·exact .inl (.inl h)
   ·exact .inr h
  ·exact .inl (.inr h)
 refine wpIn_range (gf := 42) rfl (enters_of Tryz.func42 (by kernel_rfl) rfl) (between1_tells (n - 1) s hs blankB 144 (enters_of Tryz.func144 (by kernel_rfl) rfl) isBlank_any (W.heap.size+1) (W.heap.size+1+1) V bS bC) (Kept.refl _ _) ?_ (fun _=>rfl)
  _ _ hI0 hIx0 ⟨hJ _ _ _ _ _ h0 ht ?_,bY,?_⟩
  (fun x=>{ tmps:=#[.func (.yield l) #[] #[],.pointer (some ⟨b1,0,none⟩),.pointer (some ⟨W.heap.size,0,none⟩),.string x,.string s,.func (.func 42) #[] #[.pointer (some ⟨W.heap.size+1,0,none⟩),.pointer (some ⟨W.heap.size+1+1,0,none⟩)],.string x,undef,undef,undef,undef,undef,undef,undef,undef],defers:=[] }) ?assign ?body ?done ?stop
 case assign =>
  intro l x U K hK
  gi_wp2
  exact hK
 case body =>
  rintro l' X pre x U ⟨hj,hb,hx⟩ hpre
  have hcl:=hb.cell
  cases hw:isWord x with
  | false =>
   have he:x.toList=[]:=by simpa [isWord] using hw
   have HW:=Lib.hid hw;clear hw
   gi_wp2
   refine ⟨fun _ h=>(by cases h),?_⟩
   gi_wp2
   exact ⟨Kept.refl _ _,by rw [List.filter_append,List.filter_cons_of_neg (by rw [HW.out];simp)];simpa using hj,hb,hx⟩
  | true =>
   have he:x.toList.isEmpty=false:=by simpa [isWord] using hw
   have hp2:pre.filter isWord++[x] <+: wordsOf s.data.toList:=by
    have:=List.IsPrefix.filter isWord hpre
    rwa [List.filter_append,List.filter_cons_of_pos hw] at this
   have hR0:=hY _ _ x _ hj hp2
   obtain ⟨fn,tmps,assign,body,hy,hR⟩:=hR0
   have HR:=Lib.hid hR
   have HP:=Lib.hid hp2
   have HW:=Lib.hid hw;clear hw hR hp2
   gi_wp2
   refine ⟨(fun h=>(by cases h)),(RoundIn.within l' HR.out).mono ?_⟩
   rintro e W3 ⟨hk3,(⟨rfl,hJ3⟩ | ⟨rfl,hJx3⟩)⟩
   ·gi_wp2
    exact ⟨hk3.sub fun k h=>.inl h,by rw [List.filter_append,List.filter_cons_of_pos HW.out];exact hJ3,hk3.boxed hb (.inr (.inr rfl)),hx⟩
   ·gi_wp2
    exact ⟨hk3.sub fun k h=>.inl h,rfl,_,HP.out,hJx3⟩
 case done =>
  rintro D X U hD hXD ⟨hj,hb,hx⟩ hK
  gi_wp2
  refine ⟨by simp,.inl ⟨_,_,rfl,run_takeDeferred hK,?_⟩⟩
  exact ⟨_,results_none rfl _ _ _,⟨_,rfl⟩,_,.inl (hJ _ _ _ _ _ hj (Turned.putObj _ _ _ (.inl hXD)) (fun k h=>.inl h))⟩
 case stop =>
  rintro D X c pre U hD hXD hpre ⟨rfl,q,hq,hj⟩ hK
  gi_wp2
  refine ⟨by simp,.inl ⟨_,_,rfl,run_takeDeferred hK,?_⟩⟩
  exact ⟨_,results_none rfl _ _ _,⟨_,rfl⟩,_,.inr ⟨q,hq,hJx _ _ _ _ _ hj (Turned.putObj _ _ _ (.inl hXD)) (fun k h=>.inl h)⟩⟩
 ·rintro k (rfl | rfl) <;> omega
 ·rintro k ((h | h) | h | h)
  ·exact .inr ⟨by omega,by omega⟩
  ·exact .inr ⟨by omega,by omega⟩
  ·exact .inl h
  ·exact .inr ⟨by omega,by omega⟩
 ·rintro (h | h) <;> omega
theorem wordsOf_len (l:List UInt8):(wordsOf l).length≤l.length+1:=by
 have h1:=pieces_len blankB l
 have h2:=List.length_filter_le isWord ((pieces blankB l).map txt)
 simp only [List.length_map] at h2
 unfold wordsOf
 omega
set_option maxHeartbeats 1000000 in
theorem words_any (s:ByteArray) (hs:s.size≤8796093022207) (w:World) :
  Calls Tryz.prog 68 #[.string s] w fun e W'=>∃ v,e=.returned v∧Reads W' W'.heap.size v (wordsOf s.data.toList)∧Below w.heap.size w W':=by
 have hm:s.size≤maxLen:=by unfold maxLen;omega
 have hl:=wordsOf_len s.data.toList
 rw [size_list] at hl
 have bS:=Boxed.new w 9 (.string s)
 have hG:=gather_any 143 #[.pointer (some ⟨w.heap.size,0,none⟩)] (enters_of Tryz.func143 (by kernel_rfl) rfl) (fun j=>j=w.heap.size) (wordsOf s.data.toList) (w.alloc (.cells #[.string s] 9)) w.heap.size (by simp)
  (fun n=>words1_tells n s hm w.heap.size _ bS) (by rintro k rfl;simp) (by omega)
 have HG:=Lib.hid hG
 clear hG hl
 go_enter Tryz.func68,Tryz.ntmps68
 go_wp2_with fail
 refine (words0_any s w).mono ?_
 rintro e w' ⟨rfl,rfl⟩
 go_wp2_with fail
 refine HG.out.mono ?_
 rintro e w' ⟨v,rfl,hr,hb⟩
 go_wp2_with fail
 go_ret
 exact ⟨v,rfl,Reads.of_owns hr,((Below.refl _ w).alloc (Nat.le_refl _) _).trans hb⟩
end Go.Proofs.YtmfjolmfbdbegaaGreatDoor

namespace Go.Proofs.YtmfjolmfbdbegaaGreatDoor
open Go.RowKit Go.Shelf
end Go.Proofs.YtmfjolmfbdbegaaGreatDoor

namespace Go.Proofs.YtmfjolmfbdbegaaGreatDoor
open Go.RowKit Go.Shelf
end Go.Proofs.YtmfjolmfbdbegaaGreatDoor

namespace Go.Proofs.YtmfjolmfbdbegaaGreatDoor
open Go.RowKit Go.Shelf
def digB (c:UInt8):Bool:=decide (48≤c.toNat∧c.toNat≤57)
set_option maxHeartbeats 400000 in
theorem isDigit_any (c:UInt8) (w:World):Calls Tryz.prog 63 #[.int .u8 (c.toNat:Int)] w fun e w'=>e=.returned (.bool (digB c))∧w=w':=by
 by_cases h1:48≤c.toNat <;> by_cases h2:c.toNat≤57
 all_goals first
  | (exfalso;omega)
  | (go_enter Tryz.func63, Tryz.ntmps63
     go_wp2
     go_ret
     exact ⟨ret_bool (by rw [Bool.eq_iff_iff]; simp [digB]; omega), rfl⟩)
theorem isDigit_t (c:UInt8) (w:World) (h:digB c=true):Calls Tryz.prog 63 #[.int .u8 (c.toNat:Int)] w fun e w'=>e=.returned (.bool true)∧w=w':=by
 have:=isDigit_any c w;rwa [h] at this
theorem isDigit_f (c:UInt8) (w:World) (h:digB c=false):Calls Tryz.prog 63 #[.int .u8 (c.toNat:Int)] w fun e w'=>e=.returned (.bool false)∧w=w':=by
 have:=isDigit_any c w;rwa [h] at this
def allB (p:UInt8→Bool) (l:List UInt8):Bool:=l.all p
theorem all_take {p:UInt8→Bool} {l:List UInt8} {k:Nat} (h:allB p (l.take k)=true) (hk:k < l.length) (hc:p l[k]=true):allB p (l.take (k+1))=true:=by
 unfold allB at h ⊢
 rw [List.take_succ_eq_append_getElem hk,List.all_append,h];simp [hc]
theorem all_not {p:UInt8→Bool} {l:List UInt8} {k:Nat} (hk:k < l.length) (hc:p l[k]=false):allB p l=false:=by
 unfold allB
 rw [List.all_eq_false];exact ⟨l[k],List.getElem_mem hk,by simp [hc]⟩
def numVal (l:List UInt8):Int:=l.foldl (fun n c=>n*10+((c.toNat:Int) - 48)) 0
def numB (l:List UInt8):Bool:=!l.isEmpty && decide (l.length≤9) && !(decide (1 < l.length) && l.head? == some 48) && allB digB l
def numV (l:List UInt8):Int:=if numB l then numVal l else 0
theorem numVal_snoc (l:List UInt8) (c:UInt8):numVal (l++[c])=numVal l*10+((c.toNat:Int) - 48):=by simp [numVal]
theorem digB_bd {c:UInt8} (h:digB c=true):48≤c.toNat∧c.toNat≤57:=by simpa [digB] using h
theorem numVal_bd (l:List UInt8) (h:allB digB l=true):0≤numVal l∧numVal l < 10 ^ l.length:=by
 have main:∀ m,m≤l.length→0≤numVal (l.take m)∧numVal (l.take m) < 10 ^ m:=by
  intro m
  induction m with
  | zero=>intro _;simp [numVal]
  | succ m ih =>
   intro hm
   have hlt:m < l.length:=hm
   obtain ⟨h1,h2⟩:=ih (by omega)
   rw [List.take_succ_eq_append_getElem hlt,numVal_snoc]
   have hd:=digB_bd (List.all_eq_true.1 h l[m] (List.getElem_mem hlt))
   have e:(10:Int) ^ (m+1)=10 ^ m*10:=by rw [Int.pow_succ]
   rw [e]
   omega
 have:=main l.length (Nat.le_refl _)
 rwa [List.take_length] at this
theorem pow_le8 {k:Nat} (h:k≤8):(10:Int) ^ k≤100000000:=by
 have:k=0∨k=1∨k=2∨k=3∨k=4∨k=5∨k=6∨k=7∨k=8:=by omega
 rcases this with rfl | rfl | rfl | rfl | rfl | rfl | rfl | rfl | rfl <;> decide
theorem numVal_small (l:List UInt8) (k:Nat) (hk:k≤8) (h:allB digB (l.take k)=true):0≤numVal (l.take k)∧numVal (l.take k)≤100000000:=by
 have h1:=numVal_bd _ h
 have h2:(l.take k).length≤8:=Nat.le_trans (List.length_take_le _ _) hk
 have h3:=pow_le8 h2
 omega
theorem head_get (s:ByteArray) (h:0 < s.size):s.data.toList.head? = some s[0]:=by
 have h':0 < s.data.toList.length:=by rw [Array.length_toList];exact h
 rw [List.head?_eq_getElem?,List.getElem?_eq_getElem h',Array.getElem_toList];rfl
theorem numB_of (l:List UInt8) (n:Nat) (c:UInt8) (hl:l.length=n) (hh:l.head? = some c) (hn:n≤9) (hz:¬ (c.toNat=48∧1 < n)):numB l=allB digB l:=by
 have e1:l.isEmpty=false:=by cases l <;> simp at hh ⊢
 have e2:(decide (1 < l.length) && l.head? == some 48)=false:=by
  rw [hl,hh]
  by_cases h1:1 < n
  ·have:c≠48:=fun h=>hz ⟨by rw [h];rfl,h1⟩
   simp [this]
  ·simp [h1]
 unfold numB
 rw [e1,e2,hl]
 simp [hn]
def NumPost (s:ByteArray) (w:World) (e:Ending) (w':World):Prop:=e=.returned (.tuple #[.int .i64 (numV s.data.toList),.bool (numB s.data.toList)])∧w=w'
theorem num_no {s:ByteArray} {w:World} (h:numB s.data.toList=false):NumPost s w (.returned (.tuple #[.int .i64 0,.bool false])) w:=⟨by simp [numV,h],rfl⟩
theorem num_yes {s:ByteArray} {w:World} (h:numB s.data.toList=true):NumPost s w (.returned (.tuple #[.int .i64 (numVal s.data.toList),.bool true])) w:=⟨by simp [numV,h],rfl⟩
set_option maxRecDepth 100000 in
set_option maxHeartbeats 2000000 in
theorem number_any (s:ByteArray) (hs:s.size≤maxLen) (w:World):Calls Tryz.prog 208 #[.string s] w (NumPost s w):=by
 unfold maxLen at hs
 have hsl:=size_list s
 by_cases h0:s.toList=[]
 ·have HN:=Lib.hid (num_no (s:=s) (w:=w) (by rw [Lib.toList_data] at h0;simp [numB,h0]))
  clear hsl
  go_enter Tryz.func208,Tryz.ntmps208
  go_wp2
  go_ret2
  exact HN.out
 have h0e:s.toList.isEmpty=false:=by simpa using h0
 have hpos:0 < s.size:=by
  rw [← hsl];rw [Lib.toList_data] at h0;exact List.length_pos_iff.2 h0
 by_cases h9:9 < s.size
 ·have HN:=Lib.hid (num_no (s:=s) (w:=w) (by unfold numB;rw [hsl];simp;omega))
  have h9':decide (9 < (s.size:Int))=true:=by simp;omega
  clear hsl h0
  go_enter Tryz.func208,Tryz.ntmps208
  go_wp2
  go_ret2
  exact HN.out
 have h9':decide (9 < (s.size:Int))=false:=by simp;omega
 have hhd:=head_get s hpos
 by_cases hz:s[0].toNat=48∧1 < s.size
 ·obtain ⟨hz1,hz2⟩:=hz
  have HN:=Lib.hid (num_no (s:=s) (w:=w) (by
   have:s[0]=48:=UInt8.toNat_inj.1 (by rw [hz1];rfl)
   unfold numB;rw [hsl,hhd,this];simp [hz2]))
  have e1:((s[0].toNat:Int) == 48)=true:=by simp;omega
  have e2:decide (1 < (s.size:Int))=true:=by simp;omega
  clear hsl h0 hhd hz1
  go_enter Tryz.func208,Tryz.ntmps208
  go_wp2
  go_ret2
  exact HN.out
 have HB:Hid (numB s.data.toList=allB digB s.data.toList):=numB_of s.data.toList s.size s[0] hsl hhd (by omega) hz
 have hlead:((s[0].toNat:Int) == 48)=false∨((s[0].toNat:Int) == 48)=true∧decide (1 < (s.size:Int))=false:=by
  by_cases h:s[0].toNat=48
  ·right;refine ⟨by simp;omega,?_⟩
   have:¬ 1 < s.size:=fun h1=>hz ⟨h,h1⟩
   simp;omega
  ·left;simp;omega
 have H0:=Lib.hid h0
 clear hhd hz h0 hsl
 rcases hlead with hl1 | ⟨hl1,hl2⟩
 all_goals
  go_enter Tryz.func208,Tryz.ntmps208
  go_wp2
  go_loop [4,25] (fun n i=>∃ k:Nat,k≤s.size∧i=.int .i64 k∧n=.int .i64 (numVal (s.data.toList.take k))∧allB digB (s.data.toList.take k)=true) (fun _ i=>s.size - (intOf i).toNat)
  case atStart=>exact ⟨0,Nat.zero_le _,rfl,rfl,rfl⟩
  case round =>
   obtain ⟨k,hk,rfl,rfl,hall⟩:=hrel
   have HA:=Lib.hid hall;clear hall
   by_cases hlt:k < s.size
   ·have hlt':k < s.data.toList.length:=by rw [Array.length_toList];exact hlt
    have hgk:s.data.toList[k]=s[k]:=by rw [Array.getElem_toList];rfl
    obtain ⟨hv1,hv2⟩:=numVal_small s.data.toList k (by omega) HA.out
    cases hp:digB s[k] with
    | true =>
     have HN:Hid (allB digB (s.data.toList.take (k+1))=true):=all_take HA.out hlt' (by rw [hgk];exact hp)
     have HV:Hid (numVal (s.data.toList.take (k+1))=numVal (s.data.toList.take k)*10+((s[k].toNat:Int) - 48)):=by
      show numVal _=_
      rw [List.take_succ_eq_append_getElem hlt',numVal_snoc,hgk]
     obtain ⟨hd1,hd2⟩:=digB_bd hp
     have HP:=Lib.hid hp;clear hp hgk
     go_wp2_with (go_at_call 63;refine (isDigit_t _ _ HP.out).mono ?_;rintro e w' ⟨rfl,rfl⟩)
     go_round
     case rel=>exact ⟨k+1,by omega,by go_num,by rw [HV.out],HN.out⟩
     case measure=>simp [intOf];omega
    | false =>
     have HN:=Lib.hid (num_no (s:=s) (w:=w) (HB.out.trans (all_not hlt' (by rw [hgk];exact hp))))
     have HP:=Lib.hid hp;clear hp hgk
     go_wp2_with (go_at_call 63;refine (isDigit_f _ _ HP.out).mono ?_;rintro e w' ⟨rfl,rfl⟩)
     go_ret2
     exact HN.out
   ·have hall:s.data.toList.take k=s.data.toList:=List.take_of_length_le (by rw [Array.length_toList];show s.size≤k;omega)
    have hY:=num_yes (s:=s) (w:=w) (HB.out.trans (by rw [← hall];exact HA.out))
    rw [← hall] at hY
    have HY:Hid (NumPost s w (.returned (.tuple #[.int .i64 (numVal (s.data.toList.take k)),.bool true])) w):=by
     show NumPost _ _ _ _
     rw [hall];rw [hall] at hY;exact hY
    clear hY hall
    go_wp2
    go_ret2
    exact HY.out
end Go.Proofs.YtmfjolmfbdbegaaGreatDoor
