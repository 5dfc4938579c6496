/-
  Plain words, and what the walks of layer 4 share.
  What the small functions of package text answer, for every byte.
  What between tells: the pieces of a text between the bytes that part.
  What text.Path answers, for every text.
-/
import Derived.RangeFuncNested
import Derived.RangeFuncBound
import Derived.RangeFuncCalls
import Derived.RangeFuncLeaves
import Derived.Shelf.Abstract
import Derived.Shelf.RegionOpen
import Derived.WalkKit
import Derived.OwnWalkIn
import Derived.TacticsInMore
import Derived.LoopNIn
import Derived.LoopIn
import Derived.WalkSpells
import Derived.Outline
import Derived.Lib.Hide
import Derived.Deep.QuietTactic
import Derived.BigQuiet
import Derived.Below
import Derived.Lib.Strings
import Derived.Lib.Bytealg
import Derived.Maps.AppendAt
import Derived.Deep.Draws
import Derived.Test.YtmfjolmfbdbegaaGreatDoorCut
import Derived.Test.YtmfjolmfbdbegaaGreatDoorHB
import Derived.Test.YtmfjolmfbdbegaaGreatDoorHG
import Derived.Test.YtmfjolmfbdbegaaGreatDoorHRf
import Derived.Test.YtmfjolmfbdbegaaGreatDoorProg
import Derived.Test.YtmfjolmfbdbegaaGreatDoorEP
import Derived.Test.YtmfjolmfbdbegaaGreatDoorIter
namespace Go.Proofs.YtmfjolmfbdbegaaGreatDoor
open Go.RowKit Go.Shelf
end Go.Proofs.YtmfjolmfbdbegaaGreatDoor

namespace Go.Proofs.YtmfjolmfbdbegaaGreatDoor
open Go.RowKit Go.Shelf
def letB (c:UInt8):Bool:=decide (65≤c.toNat∧c.toNat≤90∨97≤c.toNat∧c.toNat≤122)
def plainB (c:UInt8):Bool:=letB c || digB c || decide (c.toNat=95∨c.toNat=45∨c.toNat=46∨c.toNat=47∨c.toNat=43)
def slashB (c:UInt8):Bool:=decide (c.toNat=47)
set_option maxHeartbeats 400000 in
theorem isLetter_any (c:UInt8) (w:World):Calls Tryz.prog 62 #[.int .u8 (c.toNat:Int)] w fun e w'=>e=.returned (.bool (letB c))∧w=w':=by
 by_cases h1:65≤c.toNat <;> by_cases h2:c.toNat≤90 <;> by_cases h3:97≤c.toNat <;> by_cases h4:c.toNat≤122
 all_goals first
  | (exfalso;omega)
  | (go_enter Tryz.func62, Tryz.ntmps62
     go_wp2
     go_ret
     exact ⟨ret_bool (by rw [Bool.eq_iff_iff]; simp [letB]; omega), rfl⟩)
theorem isLetter_t (c:UInt8) (w:World) (h:letB c=true):Calls Tryz.prog 62 #[.int .u8 (c.toNat:Int)] w fun e w'=>e=.returned (.bool true)∧w=w':=by
 have:=isLetter_any c w;rwa [h] at this
theorem isLetter_f (c:UInt8) (w:World) (h:letB c=false):Calls Tryz.prog 62 #[.int .u8 (c.toNat:Int)] w fun e w'=>e=.returned (.bool false)∧w=w':=by
 have:=isLetter_any c w;rwa [h] at this
set_option maxHeartbeats 1000000 in
theorem isPlain_any (c:UInt8) (w:World):Calls Tryz.prog 41 #[.int .u8 (c.toNat:Int)] w fun e w'=>e=.returned (.bool (plainB c))∧w=w':=by
 cases hl:letB c with
 | true =>
  have HL:=Lib.hid hl;clear hl
  go_enter Tryz.func41,Tryz.ntmps41
  go_wp2_with (go_at_call 62;refine (isLetter_t _ _ HL.out).mono ?_;rintro e w' ⟨rfl,rfl⟩)
  go_ret
  exact ⟨ret_bool (by simp [plainB,HL.out]),rfl⟩
 | false =>
  cases hd:digB c with
  | true =>
   have HL:=Lib.hid hl;clear hl
   have HD:=Lib.hid hd;clear hd
   go_enter Tryz.func41,Tryz.ntmps41
   go_wp2_with (first | (go_at_call 62;refine (isLetter_f _ _ HL.out).mono ?_;rintro e w' ⟨rfl,rfl⟩) | (go_at_call 63;refine (isDigit_t _ _ HD.out).mono ?_;rintro e w' ⟨rfl,rfl⟩))
   go_ret
   exact ⟨ret_bool (by simp [plainB,HL.out,HD.out]),rfl⟩
  | false =>
   have HL:=Lib.hid hl;clear hl
   have HD:=Lib.hid hd;clear hd
   by_cases h1:c.toNat=95
   ·have e1:((c.toNat:Int) == 95)=true:=by simp;omega
    have H1:=Lib.hid h1;clear h1
    go_enter Tryz.func41,Tryz.ntmps41
    go_wp2_with (first | (go_at_call 62;refine (isLetter_f _ _ HL.out).mono ?_;rintro e w' ⟨rfl,rfl⟩) | (go_at_call 63;refine (isDigit_f _ _ HD.out).mono ?_;rintro e w' ⟨rfl,rfl⟩))
    go_ret
    exact ⟨ret_bool (by simp [plainB,H1.out]),rfl⟩
   by_cases h2:c.toNat=45
   ·have e1:((c.toNat:Int) == 95)=false:=by simp;omega
    have e2:((c.toNat:Int) == 45)=true:=by simp;omega
    have H2:=Lib.hid h2;clear h1 h2
    go_enter Tryz.func41,Tryz.ntmps41
    go_wp2_with (first | (go_at_call 62;refine (isLetter_f _ _ HL.out).mono ?_;rintro e w' ⟨rfl,rfl⟩) | (go_at_call 63;refine (isDigit_f _ _ HD.out).mono ?_;rintro e w' ⟨rfl,rfl⟩))
    go_ret
    exact ⟨ret_bool (by simp [plainB,H2.out]),rfl⟩
   by_cases h3:c.toNat=46
   ·have e1:((c.toNat:Int) == 95)=false:=by simp;omega
    have e2:((c.toNat:Int) == 45)=false:=by simp;omega
    have e3:((c.toNat:Int) == 46)=true:=by simp;omega
    have H3:=Lib.hid h3;clear h1 h2 h3
    go_enter Tryz.func41,Tryz.ntmps41
    go_wp2_with (first | (go_at_call 62;refine (isLetter_f _ _ HL.out).mono ?_;rintro e w' ⟨rfl,rfl⟩) | (go_at_call 63;refine (isDigit_f _ _ HD.out).mono ?_;rintro e w' ⟨rfl,rfl⟩))
    go_ret
    exact ⟨ret_bool (by simp [plainB,H3.out]),rfl⟩
   by_cases h4:c.toNat=47
   ·have e1:((c.toNat:Int) == 95)=false:=by simp;omega
    have e2:((c.toNat:Int) == 45)=false:=by simp;omega
    have e3:((c.toNat:Int) == 46)=false:=by simp;omega
    have e4:((c.toNat:Int) == 47)=true:=by simp;omega
    have H4:=Lib.hid h4;clear h1 h2 h3 h4
    go_enter Tryz.func41,Tryz.ntmps41
    go_wp2_with (first | (go_at_call 62;refine (isLetter_f _ _ HL.out).mono ?_;rintro e w' ⟨rfl,rfl⟩) | (go_at_call 63;refine (isDigit_f _ _ HD.out).mono ?_;rintro e w' ⟨rfl,rfl⟩))
    go_ret
    exact ⟨ret_bool (by simp [plainB,H4.out]),rfl⟩
   ·have e1:((c.toNat:Int) == 95)=false:=by simp;omega
    have e2:((c.toNat:Int) == 45)=false:=by simp;omega
    have e3:((c.toNat:Int) == 46)=false:=by simp;omega
    have e4:((c.toNat:Int) == 47)=false:=by simp;omega
    have H1:=Lib.hid h1
    have H2:=Lib.hid h2
    have H3:=Lib.hid h3
    have H4:=Lib.hid h4
    clear h1 h2 h3 h4
    go_enter Tryz.func41,Tryz.ntmps41
    go_wp2_with (first | (go_at_call 62;refine (isLetter_f _ _ HL.out).mono ?_;rintro e w' ⟨rfl,rfl⟩) | (go_at_call 63;refine (isDigit_f _ _ HD.out).mono ?_;rintro e w' ⟨rfl,rfl⟩))
    go_ret
    exact ⟨ret_bool (by simp [plainB,HL.out,HD.out,H1.out,H2.out,H3.out,H4.out];exact nat_beq c.toNat 43),rfl⟩
theorem isPlain_t (c:UInt8) (w:World) (h:plainB c=true):Calls Tryz.prog 41 #[.int .u8 (c.toNat:Int)] w fun e w'=>e=.returned (.bool true)∧w=w':=by
 have:=isPlain_any c w;rwa [h] at this
theorem isPlain_f (c:UInt8) (w:World) (h:plainB c=false):Calls Tryz.prog 41 #[.int .u8 (c.toNat:Int)] w fun e w'=>e=.returned (.bool false)∧w=w':=by
 have:=isPlain_any c w;rwa [h] at this
end Go.Proofs.YtmfjolmfbdbegaaGreatDoor

namespace Go.Proofs.YtmfjolmfbdbegaaGreatDoor
open Go.RowKit Go.Shelf
attribute [local go_sem] Oper.semAt_some
set_option maxHeartbeats 400000 in
theorem isSlash_any (c:UInt8) (w:World):Calls Tryz.prog 25 #[.int .u8 (c.toNat:Int)] w fun e w'=>e=.returned (.bool (slashB c))∧w=w':=by
 go_enter Tryz.func25,Tryz.ntmps25
 go_wp2
 go_ret
 exact ⟨ret_bool (nat_beq _ _),rfl⟩
end Go.Proofs.YtmfjolmfbdbegaaGreatDoor

namespace Go.Proofs.YtmfjolmfbdbegaaGreatDoor
open Go.RowKit Go.Shelf
attribute [local go_sem] Oper.semAt_some
set_option maxHeartbeats 1000000 in
theorem allPlain_any (s:ByteArray) (hs:s.size≤maxLen) (w:World):Calls Tryz.prog 23 #[.string s] w fun e w'=>e=.returned (.bool (allB plainB s.data.toList))∧w=w':=by
 unfold maxLen at hs
 go_enter Tryz.func23,Tryz.ntmps23
 go_wp2
 go_loop [6] (fun i=>∃ k:Nat,k≤s.size∧i=.int .i64 k∧allB plainB (s.data.toList.take k)=true) (fun i=>s.size - (intOf i).toNat)
 case atStart=>exact ⟨0,Nat.zero_le _,rfl,by simp [allB]⟩
 case round =>
  obtain ⟨k,hk,rfl,hall⟩:=hrel
  have HA:=Lib.hid hall;clear hall
  by_cases hlt:k < s.size
  ·have hlt':k < s.data.toList.length:=by rw [Array.length_toList];exact hlt
   have hgk:s.data.toList[k]=s[k]:=by rw [Array.getElem_toList];rfl
   cases hp:plainB s[k] with
   | true =>
    have HN:Hid (allB plainB (s.data.toList.take (k+1))=true):=all_take HA.out hlt' (by rw [hgk];exact hp)
    have HP:=Lib.hid hp;clear hp hgk
    go_wp2_with (go_at_call 41;refine (isPlain_t _ _ HP.out).mono ?_;rintro e w' ⟨rfl,rfl⟩)
    go_round
    case rel=>exact ⟨k+1,by omega,by go_num,HN.out⟩
    case measure=>simp [intOf];omega
   | false =>
    have HN:Hid (allB plainB s.data.toList=false):=all_not hlt' (by rw [hgk];exact hp)
    have HP:=Lib.hid hp;clear hp hgk
    go_wp2_with (go_at_call 41;refine (isPlain_f _ _ HP.out).mono ?_;rintro e w' ⟨rfl,rfl⟩)
    go_ret
    exact ⟨ret_bool HN.out.symm,rfl⟩
  ·have HN:Hid (allB plainB s.data.toList=true):=by
    have:=HA.out
    rwa [List.take_of_length_le (by rw [Array.length_toList];show s.size≤k;omega)] at this
   go_wp2
   go_ret
   exact ⟨ret_bool HN.out.symm,rfl⟩
def partB (x:ByteArray):Bool:=!(x.toList == [] || x.toList == [46] || x.toList == [46,46])
def pathB (l:List UInt8):Bool:=decide (l.length≤100) && allB plainB l && ((pieces slashB l).map txt).all partB && decide ((pieces slashB l).length≤8)
theorem allPlain_t (s:ByteArray) (hs:s.size≤maxLen) (h:allB plainB s.data.toList=true) (w:World):Calls Tryz.prog 23 #[.string s] w fun e w'=>e=.returned (.bool true)∧w=w':=by
 have:=allPlain_any s hs w;rwa [h] at this
theorem allPlain_f (s:ByteArray) (hs:s.size≤maxLen) (h:allB plainB s.data.toList=false) (w:World):Calls Tryz.prog 23 #[.string s] w fun e w'=>e=.returned (.bool false)∧w=w':=by
 have:=allPlain_any s hs w;rwa [h] at this
set_option maxRecDepth 100000 in
set_option maxHeartbeats 1000000 in
theorem path_long (s:ByteArray) (hs:s.size≤maxLen) (h:100 < s.size) (w:World):Calls Tryz.prog 14 #[.string s] w fun e w'=>e=.returned (.bool false)∧Below w.heap.size w w':=by
 unfold maxLen at hs
 go_enter Tryz.func14,Tryz.ntmps14
 go_wp2
 exact bodyPost_ret (v:=.bool false) (by simp [results,Tryz.results14,go_sem]) rfl ⟨rfl,(Below.refl _ w).alloc (Nat.le_refl _) _⟩
set_option maxRecDepth 100000 in
set_option maxHeartbeats 1000000 in
theorem path_unplain (s:ByteArray) (h:s.size≤100) (hp:allB plainB s.data.toList=false) (w:World):Calls Tryz.prog 14 #[.string s] w fun e w'=>e=.returned (.bool false)∧Below w.heap.size w w':=by
 have hs:s.size≤maxLen:=by unfold maxLen;omega
 have HP:=Lib.hid hp;clear hp
 go_enter Tryz.func14,Tryz.ntmps14
 go_wp2_with (go_at_call 23;refine (allPlain_f s hs HP.out _).mono ?_;rintro e w' ⟨rfl,rfl⟩)
 exact bodyPost_ret (v:=.bool false) (by simp [results,Tryz.results14,go_sem]) rfl ⟨rfl,(Below.refl _ w).alloc (Nat.le_refl _) _⟩
def PathI (n₀ R:Nat) (w:World) (X:Nat→Prop) (pre:List ByteArray) (W:World):Prop :=
 (Boxed W R 4 (.bool false)∧Boxed W (R+1) 3 (.int .i64 pre.length)∧¬ X R∧¬ X (R+1))∧pre.all partB=true∧Below n₀ w W∧∀ k,X k→n₀≤k
def PathX (n₀ R:Nat) (w:World) (c:Code) (X:Nat→Prop) (pre:List ByteArray) (W:World):Prop :=
 c=.ret∧(Boxed W R 4 (.bool false)∧¬ X R)∧pre.all partB=false∧Below n₀ w W∧∀ k,X k→n₀≤k
theorem not_sub {X X':Nat→Prop} {A B:World} (hsub:∀ k,X' k→X k∨(A.heap.size≤k∧k < B.heap.size)) {j:Nat} (h:¬ X j) (hlt:j < A.heap.size):¬ X' j:=fun hx=>by
 rcases hsub j hx with h' | h'
 ·exact h h'
 ·omega
theorem pathI_abides (n₀ R:Nat) (w:World) (hn:n₀≤w.heap.size):Abides' (PathI n₀ R w):=by
 rintro X X' pre A B ⟨⟨h1,h2,h3,h4⟩,h5,h6,h7⟩ hT hsub
 refine ⟨⟨hT.boxed h1 h3,hT.boxed h2 h4,not_sub hsub h3 h1.lt,not_sub hsub h4 h2.lt⟩,h5,h6.trans (hT.below (by have:=h6.size;omega) h7),fun k h=>?_⟩
 rcases hsub k h with h | h
 ·exact h7 k h
 ·have:=h6.size;omega
theorem pathX_abides (n₀ R:Nat) (w:World) (hn:n₀≤w.heap.size) (c:Code):Abides' (PathX n₀ R w c):=by
 rintro X X' pre A B ⟨h0,⟨h1,h3⟩,h5,h6,h7⟩ hT hsub
 refine ⟨h0,⟨hT.boxed h1 h3,not_sub hsub h3 h1.lt⟩,h5,h6.trans (hT.below (by have:=h6.size;omega) h7),fun k h=>?_⟩
 rcases hsub k h with h | h
 ·exact h7 k h
 ·have:=h6.size;omega
set_option maxRecDepth 100000 in
set_option maxHeartbeats 2000000 in
theorem path_parts (s:ByteArray) (h:s.size≤100) (hp:allB plainB s.data.toList=true) (w:World):Calls Tryz.prog 14 #[.string s] w fun e w' =>
  e=.returned (.bool (((pieces slashB s.data.toList).map txt).all partB && decide ((pieces slashB s.data.toList).length≤8)))∧Below w.heap.size w w':=by
 have hs:s.size≤maxLen:=by unfold maxLen;omega
 have HP:=Lib.hid hp;clear hp
 refine (callsIn_wide (n:=9)).1 ?_
 refine callsIn_of_wp_marks Tryz.func14 rfl trivial ?_ rfl
 simp only [Tryz.ntmps14,List.size_toArray,List.length_cons,List.length_nil,Nat.reduceAdd,Nat.reduceSub,Array.replicate_succ,Array.replicate_zero,List.push_toArray,List.append_toArray,List.nil_append,List.cons_append]
 have hz:decide (100 < (s.size:Int))=false:=by simp;omega
 gi_wp2
 refine ⟨trivial,(callsIn_wide.2 (allPlain_t s hs HP.out _)).mono ?_⟩
 rintro e w' ⟨rfl,rfl⟩
 gi_wp2
 refine ⟨trivial,(callsIn_wide.2 (between_any s _ _)).mono ?_⟩
 rintro e w' ⟨rfl,rfl⟩
 gi_wp2
 have bR:Boxed ((((w.alloc (.cells #[.bool false] 4)).alloc (.cells #[.int .i64 0] 3)).alloc (.cells #[.string s] 9)).alloc (.cells #[.func (.func 25) #[] #[]] 67)) w.heap.size 4 (.bool false):=(((Boxed.new w _ _).alloc _).alloc _).alloc _
 have bP:Boxed ((((w.alloc (.cells #[.bool false] 4)).alloc (.cells #[.int .i64 0] 3)).alloc (.cells #[.string s] 9)).alloc (.cells #[.func (.func 25) #[] #[]] 67)) (w.heap.size+1) 3 (.int .i64 0):=by
  have:=((Boxed.new (w.alloc (.cells #[.bool false] 4)) 3 (.int .i64 0)).alloc (.cells #[.string s] 9)).alloc (.cells #[.func (.func 25) #[] #[]] 67)
  rwa [World.size_alloc] at this
 have bS:Boxed ((((w.alloc (.cells #[.bool false] 4)).alloc (.cells #[.int .i64 0] 3)).alloc (.cells #[.string s] 9)).alloc (.cells #[.func (.func 25) #[] #[]] 67)) (w.heap.size+1+1) 9 (.string s):=by
  have:=(Boxed.new ((w.alloc (.cells #[.bool false] 4)).alloc (.cells #[.int .i64 0] 3)) 9 (.string s)).alloc (.cells #[.func (.func 25) #[] #[]] 67)
  rwa [World.size_alloc,World.size_alloc] at this
 have bC:Boxed ((((w.alloc (.cells #[.bool false] 4)).alloc (.cells #[.int .i64 0] 3)).alloc (.cells #[.string s] 9)).alloc (.cells #[.func (.func 25) #[] #[]] 67)) (w.heap.size+1+1+1) 67 (.func (.func 25) #[] #[]):=by
  have:=Boxed.new (((w.alloc (.cells #[.bool false] 4)).alloc (.cells #[.int .i64 0] 3)).alloc (.cells #[.string s] 9)) 67 (.func (.func 25) #[] #[])
  rwa [World.size_alloc,World.size_alloc,World.size_alloc] at this
 have hb:Below w.heap.size w ((((w.alloc (.cells #[.bool false] 4)).alloc (.cells #[.int .i64 0] 3)).alloc (.cells #[.string s] 9)).alloc (.cells #[.func (.func 25) #[] #[]] 67)):=((((Below.refl _ w).alloc (Nat.le_refl _) _).alloc (by simp) _).alloc (by simp;omega) _).alloc (by simp;omega) _
 have hV:((((w.alloc (.cells #[.bool false] 4)).alloc (.cells #[.int .i64 0] 3)).alloc (.cells #[.string s] 9)).alloc (.cells #[.func (.func 25) #[] #[]] 67)).heap.size=w.heap.size+4:=by simp
 generalize ((((w.alloc (.cells #[.bool false] 4)).alloc (.cells #[.int .i64 0] 3)).alloc (.cells #[.string s] 9)).alloc (.cells #[.func (.func 25) #[] #[]] 67))=V at bR bP bS bC hb hV ⊢
 have hlen:=pieces_len slashB s.data.toList
 rw [size_list] at hlen
 refine wpIn_range (gf := 42) rfl (enters_of Tryz.func42 (by kernel_rfl) rfl) (between1_tells 8 s hs slashB 25 (enters_of Tryz.func25 (by kernel_rfl) rfl) isSlash_any (w.heap.size+1+1) (w.heap.size+1+1+1) V bS bC) (Kept.refl _ _) ?_ (fun _=>rfl)
  (PathI w.heap.size w.heap.size w) (PathX w.heap.size w.heap.size w) (pathI_abides _ _ _ (Nat.le_refl _)) (pathX_abides _ _ _ (Nat.le_refl _)) ⟨⟨bR,bP,?_,?_⟩,rfl,hb,?_⟩
  (fun x=>{ tmps:=#[.string s,undef,.pointer (some ⟨w.heap.size,0,none⟩),.pointer (some ⟨w.heap.size+1,0,none⟩),.string x,.string s,.int .i64 s.size,.bool false,.bool false,.string s,.bool true,.bool false,.bool false,.string s,.func (.func 42) #[] #[.pointer (some ⟨w.heap.size+1+1,0,none⟩),.pointer (some ⟨w.heap.size+1+1+1,0,none⟩)],.string x,undef,undef,undef,undef,undef,undef,undef,undef,undef,undef,undef,undef,undef,undef],defers:=[] }) ?assign ?body ?done ?stop
 case assign =>
  intro l x U K hK
  gi_wp2
  exact hK
 case body =>
  rintro l' X pre x U ⟨⟨h1,h2,h3,h4⟩,h5,h6,h7⟩ hpre
  have hc1:=h1.cell
  have hf1:=h1.frozen
  have hc2:=h2.cell
  have hf2:=h2.frozen
  have hpl:pre.length+1≤101:=by have:=hpre.length_le;simp at this;omega
  have H5:=Lib.hid h5;clear h5
  have leave:partB x=false→∀ a,roundOut X (PathI w.heap.size w.heap.size w) (PathX w.heap.size w.heap.size w) (pre++[x]) U .ret a (U.setCell ⟨w.heap.size,0,none⟩ (.bool false)):=fun hx _ =>
   ⟨Kept.setCell _ _ _ h3,rfl,⟨h1.set _,h3⟩,by simp [hx],h6.setCell (p:=⟨w.heap.size,0,none⟩) (Nat.le_refl _) _,h7⟩
  by_cases g1:x.toList=[]
  ·have L:=Lib.hid (leave (by simp [partB,g1]));clear leave
   gi_wp2
   exact L.out _
  have e1:x.toList.isEmpty=false:=by simpa using g1
  by_cases g2:x.toList=[46]
  ·have L:=Lib.hid (leave (by simp [partB,g2]))
   have e2:(x.toList == [46])=true:=by simp [g2]
   clear leave g1 g2
   gi_wp2
   exact L.out _
  have e2:(x.toList == [46])=false:=by simpa using g2
  by_cases g3:x.toList=[46,46]
  ·have L:=Lib.hid (leave (by simp [partB,g3]))
   have e3:(x.toList == [46,46])=true:=by simp [g3]
   clear leave g1 g2 g3
   gi_wp2
   exact L.out _
  have e3:(x.toList == [46,46])=false:=by simpa using g3
  have HX:Hid (partB x=true):=by show partB x=true;simp [partB,g1,g2,g3]
  clear leave g1 g2 g3
  gi_wp2
  refine ⟨Kept.setCell _ _ _ h4,⟨h1.other (by omega) _,?_,h3,h4⟩,by rw [List.all_append,H5.out];simp [HX.out],h6.setCell (p:=⟨w.heap.size+1,0,none⟩) (by simp) _,h7⟩
  have:=h2.set (.int .i64 (pre.length+1))
  simpa using this
 case done =>
  rintro D X U hD hXD ⟨⟨h1,h2,h3,h4⟩,h5,h6,h7⟩ hK
  have hc1:=h1.cell
  have hf1:=h1.frozen
  have hc2:=h2.cell
  have H5:=Lib.hid h5;clear h5
  gi_wp2
  have hb1:=h1.set (.bool (decide (((pieces slashB s.data.toList).length:Int)≤8)))
  have hK1:=(Below.heap_setCell U ⟨w.heap.size,0,none⟩ (.bool (decide (((pieces slashB s.data.toList).length:Int)≤8))) D (by show D≠w.heap.size;omega)).trans hK
  have hB1:=h6.setCell (p:=⟨w.heap.size,0,none⟩) (Nat.le_refl _) (.bool (decide (((pieces slashB s.data.toList).length:Int)≤8)))
  generalize U.setCell ⟨w.heap.size,0,none⟩ (.bool (decide (((pieces slashB s.data.toList).length:Int)≤8)))=U1 at hb1 hK1 hB1 ⊢
  refine ⟨by simp,.inl ⟨_,_,rfl,run_takeDeferred hK1,?_⟩⟩
  have hcc:=((Turned.putObj (X:=fun j=>j=D) U1 D (.deferred none) rfl).boxed hb1 (by show w.heap.size≠D;omega)).cell
  have hBB:=hB1.trans ((Turned.putObj (X:=fun j=>j=D) U1 D (.deferred none) rfl).below (by have:=hB1.size;omega) (by rintro k rfl;omega))
  refine ⟨.bool (decide (((pieces slashB s.data.toList).length:Int)≤8)),by simp [results,Tryz.results14,go_sem,hcc],ret_bool ?_,hBB⟩
  rw [H5.out]
  simp
  omega
 case stop =>
  rintro D X c pre U hD hXD hpre ⟨rfl,⟨h1,h3⟩,h5,h6,h7⟩ hK
  gi_wp2
  refine ⟨by simp,.inl ⟨_,_,rfl,run_takeDeferred hK,?_⟩⟩
  have hcc:=((Turned.putObj (X:=fun j=>j=D) U D (.deferred none) rfl).boxed h1 (by show w.heap.size≠D;omega)).cell
  have hBB:=h6.trans ((Turned.putObj (X:=fun j=>j=D) U D (.deferred none) rfl).below (by have:=h6.size;omega) (by rintro k rfl;omega))
  refine ⟨.bool false,by simp [results,Tryz.results14,go_sem,hcc],ret_bool ?_,hBB⟩
  obtain ⟨r,hr⟩:=hpre
  rw [← hr,List.all_append,h5]
  rfl
 ·rintro k (rfl | rfl) <;> omega
 ·rintro (h | h) <;> omega
 ·rintro (h | h) <;> omega
 ·rintro k (rfl | rfl) <;> omega
theorem path_any (s:ByteArray) (hs:s.size≤maxLen) (w:World):Calls Tryz.prog 14 #[.string s] w fun e w'=>e=.returned (.bool (pathB s.data.toList))∧Below w.heap.size w w':=by
 have hl:=size_list s
 by_cases h:s.size≤100
 ·cases hp:allB plainB s.data.toList with
  | false =>
   have e:pathB s.data.toList=false:=by simp [pathB,hp]
   rw [e];exact path_unplain s h hp w
  | true =>
   have e:pathB s.data.toList=(((pieces slashB s.data.toList).map txt).all partB && decide ((pieces slashB s.data.toList).length≤8)):=by unfold pathB;rw [hp,hl];simp [h]
   rw [e];exact path_parts s h hp w
 ·have e:pathB s.data.toList=false:=by unfold pathB;rw [hl];simp [h]
  rw [e];exact path_long s hs (by omega) w
end Go.Proofs.YtmfjolmfbdbegaaGreatDoor
