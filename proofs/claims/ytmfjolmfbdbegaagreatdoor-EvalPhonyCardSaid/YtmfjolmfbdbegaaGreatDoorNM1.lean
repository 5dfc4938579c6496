/-
  What each tells: what its function makes of each that it is told. No condition.
  The small functions of package call: of one word, of one place. For texts of at most 10 million bytes. No condition.
  What once answers: the words that it is given, sorted, each once; and text.Words with a row of its own. No condition.
-/
import Derived.Lib.LaidTab
import Derived.WalkSmall
import Derived.Sort.OwnSorted
import Derived.Test.YtmfjolmfbdbegaaGreatDoorNI
import Derived.Test.YtmfjolmfbdbegaaGreatDoorNShelf
import Derived.Test.YtmfjolmfbdbegaaGreatDoorHX
import Derived.Test.YtmfjolmfbdbegaaGreatDoorHRf
namespace Go.Proofs.YtmfjolmfbdbegaaGreatDoor
open Go.RowKit Go.Shelf
attribute [local go_sem] Oper.semAt_some
abbrev Pr:Type:=ByteArray × ByteArray
abbrev encP:Pr→Array Value:=fun x=>#[Value.agg #[.string x.1,.string x.2]]
def Boxed2 (w:World) (b:Nat) (x:Pr):Prop:=w.heap[b]? = some (.cells #[.string x.1,.string x.2] 248)
theorem Boxed2.fst {w:World} {b:Nat} {x:Pr} (h:Boxed2 w b x):w.cell? ⟨b,0,none⟩=some (.string x.1):=by unfold Boxed2 at h;simp [World.cell?,h]
theorem Boxed2.snd {w:World} {b:Nat} {x:Pr} (h:Boxed2 w b x):w.cell? ⟨b,1,none⟩=some (.string x.2):=by unfold Boxed2 at h;simp [World.cell?,h]
def OfP (kf:Nat) (lk:Array Value) (f:Pr→ByteArray) (B:Nat) (xs:List Pr) (w:World):Prop :=
 ∀ x∈xs,∀ U,Kept (fun k=>k < B) w U→Calls Tryz.prog kf (encP x++lk) U fun e w'=>e=.returned (.string (f x))∧Below U.heap.size U w'
set_option maxRecDepth 100000 in
set_option maxHeartbeats 4000000 in
theorem eachP_tells (n:Nat) (gf:Nat) (lb:Array Value) (hg:∀ args w,(callFunc gf args).run Tryz.prog w=.ok (.enter gf args) w) (kf:Nat) (lk:Array Value) (hk:∀ args w,(callFunc kf args).run Tryz.prog w=.ok (.enter kf args) w)
  (f:Pr→ByteArray) (xs:List Pr) (b1 b2 B:Nat) (w:World) (hb1:Boxed w b1 250 (.func (.func gf) #[] lb)) (hb2:Boxed w b2 252 (.func (.func kf) #[] lk)) (h1:b1 < B) (h2:b2 < B)
  (hin:∀ m,TellsB m Tryz.prog gf lb encP B xs w) (hof:OfP kf lk f B xs w) :
  TellsB n Tryz.prog 234 #[.pointer (some ⟨b1,0,none⟩),.pointer (some ⟨b2,0,none⟩)] encT B (xs.map f) w:=by
 intro l J Jx W hW hJ hJx hY hR h0
 have hk0:=hY _ _ _ h0
 have hB1:=hk0.boxed hb1 h1
 refine callsIn_of_wp_marks Tryz.func234 rfl trivial ?_ rfl
 simp only [Tryz.ntmps234,List.size_toArray,List.length_cons,List.length_nil,Nat.reduceAdd,Nat.reduceSub,Array.replicate_succ,Array.replicate_zero,List.push_toArray,List.append_toArray,List.nil_append,List.cons_append]
 have hlt1:=hB1.lt
 have hc1:=(hB1.alloc (.cells #[.func (.yield l) #[] #[]] 23)).cell
 gi_wp2
 have bY:=Boxed.new W 23 (.func (.yield l) #[] #[])
 have ht:=Turned.alloc (fun _:Nat=>False) W (.cells #[.func (.yield l) #[] #[]] 23)
 have hV:(W.alloc (.cells #[.func (.yield l) #[] #[]] 23)).heap.size=W.heap.size+1:=by simp
 clear hc1
 generalize W.alloc (.cells #[.func (.yield l) #[] #[]] 23)=V at bY ht hV ⊢
 have hI0:Abides' (fun X (pre:List Pr) U=>J (fun k=>X k∨k=W.heap.size) (pre.map f) U∧Boxed U W.heap.size 23 (.func (.yield l) #[] #[])∧¬ X W.heap.size):=by
  rintro X X' pre A B ⟨hj,hb,hx⟩ hT hsub
  refine ⟨hJ _ _ _ _ _ hj (hT.wider fun k h=>.inl h) ?_,hT.boxed hb hx,fun h=>?_⟩
  ·rintro k (h | h)
   ·rcases hsub k h with h | h
    ·exact .inl (.inl h)
    ·exact .inr h
   ·exact .inl (.inr h)
  ·rcases hsub _ h with h | h
   ·exact hx h
   ·have:=hb.lt;omega
 have hIx0:∀ c,Abides' (fun X (_:List Pr) U=>c=Code.ret∧∃ q,q <+: xs.map f∧Jx (fun k=>X k∨k=W.heap.size) q U):=by
  rintro c X X' pre A B ⟨hc,q,hq,hj⟩ hT hsub
  refine ⟨hc,q,hq,hJx _ _ _ _ _ hj (hT.wider fun k h=>.inl h) ?_⟩
  rintro k (h | h)
  ·rcases hsub k h with h | h
   ·exact .inl (.inl h)
   ·exact .inr h
  ·exact .inl (.inr h)
 refine wpIn_rangeW (gf:=gf) rfl hg (hin (n - 1)) (kept_none (by have:=hW.size;omega)) (fun _ h=>h.elim) (fun _=>rfl)
  _ _ hI0 hIx0 (fun X pre U h=>hY _ _ _ h.1) ⟨hJ _ _ _ _ _ h0 ht ?_,bY,fun h=>h⟩
  (fun x U=>{ tmps:=#[.func (.yield l) #[] #[],.pointer (some ⟨b1,0,none⟩),.pointer (some ⟨b2,0,none⟩),.pointer (some ⟨W.heap.size,0,none⟩),.pointer (some ⟨U.heap.size,0,none⟩),.func (.func gf) #[] lb,.agg #[.string x.1,.string x.2],undef,undef,undef,undef,undef,undef],defers:=[] })
  (fun x U=>U.alloc (.cells #[.string x.1,.string x.2] 248)) (fun x U=>Turned.alloc _ U _) ?assign ?body ?done ?stop
 case assign =>
  intro l x U K hK
  gi_wp2
  exact hK
 case body =>
  rintro l' X pre x U0 U ⟨hj,hb,hx⟩ hpre hfr
  have hbx:Boxed2 U U0.heap.size x:=(hfr U0.heap.size (Nat.le_refl _)).trans (World.alloc_heap_new _ _)
  have hx1:=hbx.fst
  have hx2:=hbx.snd
  have hcl:=hb.cell
  have hkU:=hY _ _ _ hj
  have hc2:=(hkU.boxed hb2 h2).cell
  have hxm:x∈xs:=hpre.subset (by simp)
  have hp2:pre.map f++[f x] <+: xs.map f:=by
   have:=hpre.map f
   rwa [List.map_append] at this
  have HO:Hid (∀ m,Calls Tryz.prog kf (encP x++lk) (U.drewN m) fun e w'=>e=.returned (.string (f x))∧Below U.heap.size U w'):=fun m=>(hof x hxm _ (hkU.trans (Kept.drewN _ _ _))).mono fun e w' h=>⟨h.1,(show Below U.heap.size U (U.drewN m) from ⟨rfl,rfl,rfl,Nat.le_refl _,fun _ _=>rfl⟩).trans h.2⟩
  have HT:Hid (∀ w',Below U.heap.size U w'→Turned (fun k=>X k∨k=W.heap.size) U w'):=fun w' h=>⟨h.os,h.tape,h.output,h.size,fun k hk _=>h.block k hk⟩
  have HK4:Hid (∀ w',Below U.heap.size U w'→∀ X':Nat→Prop,Kept X' U w'):=fun w' h X'=>⟨h.size,fun k _ hlt=>h.block k hlt⟩
  have HJd:Hid (∀ w',Below U.heap.size U w'→J (fun k=>X k∨k=W.heap.size) (pre.map f) w'):=fun w' h=>hJ _ _ _ _ _ hj (HT.out w' h) (fun k h=>.inl h)
  have HYd:Hid (∀ w',Below U.heap.size U w'→YieldAt Fence.wide (n - 1) Tryz.prog l #[.string (f x)] w' fun e W'=>Kept (fun k=>X k∨k=W.heap.size) w' W'∧∃ b,e=.returned (.bool b)∧(b=true→J (fun k=>X k∨k=W.heap.size) (pre.map f++[f x]) W')∧(b=false→Jx (fun k=>X k∨k=W.heap.size) (pre.map f++[f x]) W')):=fun w' hw=>by
   obtain ⟨fn,tmps,assign,body,hy,hR1⟩:=hR _ _ _ _ (HJd.out w' hw) hp2
   refine ⟨fn,tmps,assign,body,hy,hR1.mono ?_⟩
   rintro e W' ⟨hk,(⟨rfl,hj⟩ | ⟨rfl,hj⟩)⟩
   ·exact ⟨hk,true,rfl,fun _=>hj,fun h=>by cases h⟩
   ·exact ⟨hk,false,rfl,(fun h=>by cases h),fun _=>hj⟩
  have HPx:=Lib.hid hp2
  have hmx:Tryz.prog.follows .mixedOrders=true:=by kernel_rfl
  clear hj hp2
  gi_wp2
  gi_region_with_o (first
   | (refine ⟨trivial,(fun h=>(by cases h)),(CallsIn.inRound l' (callsIn_wide.2 (HO.out 1))).mono ?_⟩;rintro e w' ⟨rfl,hbw⟩;have hcl4:=((HK4.out w' hbw (fun _=>True)).boxed hb trivial).cell;have hBW:=Lib.hid hbw;clear hbw;obtain ⟨fn,tmps,assign,body,hy,hR1⟩:=HYd.out w' hBW.out;have HR1:=Lib.hid hR1;clear hR1)
   | (refine ⟨(fun h=>(by cases h)),(RoundIn.within l' HR1.out).mono ?_⟩;rintro e W3 ⟨hk3,b,rfl,hJ3,hJx3⟩)
   | fail)
  all_goals
   have hk4:Kept X U W3:=(HK4.out _ hBW.out X).trans (hk3.sub fun k h=>.inl h)
   have hb4:=hk3.boxed ((HK4.out _ hBW.out (fun _=>True)).boxed hb trivial) (.inr rfl)
   have HJ3:=Lib.hid hJ3
   have HJx3:=Lib.hid hJx3
   clear hJ3 hJx3
   cases b
   ·gi_wp2
    exact ⟨hk4,rfl,_,HPx.out,HJx3.out (by simp)⟩
   ·gi_wp2
    exact ⟨hk4,by rw [List.map_append];exact HJ3.out (by simp),hb4,hx⟩
 case done =>
  rintro D X U hD hXD ⟨hj,hb,hx⟩ hK
  gi_wp2
  refine ⟨by simp,.inl ⟨_,_,rfl,run_takeDeferred hK,?_⟩⟩
  exact ⟨_,results_none rfl _ _ _,⟨_,rfl⟩,_,.inl (hJ _ _ _ _ _ hj (Turned.putObj _ _ _ (.inl hXD)) (fun k h=>.inl h))⟩
 case stop =>
  rintro D X c pre U hD hXD hpre ⟨rfl,q,hq,hj⟩ hK
  gi_wp2
  refine ⟨by simp,.inl ⟨_,_,rfl,run_takeDeferred hK,?_⟩⟩
  exact ⟨_,results_none rfl _ _ _,⟨_,rfl⟩,_,.inr ⟨q,hq,hJx _ _ _ _ _ hj (Turned.putObj _ _ _ (.inl hXD)) (fun k h=>.inl h)⟩⟩
 ·rintro k (h | h)
  ·exact h.elim
  ·exact .inr ⟨by omega,by omega⟩
end Go.Proofs.YtmfjolmfbdbegaaGreatDoor

namespace Go.Proofs.YtmfjolmfbdbegaaGreatDoor
open Go.RowKit Go.Shelf
structure Std (w:World):Prop where
 tab:Lib.TabIs Tryz.prog w "internal/strconv.uint64pow10" .u64 Lib.pow10Tab
 mx:∃ m,w.cell? ⟨0,0,none⟩=some (.int .i64 m)
 tl : 3 < w.heap.size
 ml : 0 < w.heap.size
theorem Std.kept {w W:World} {B:Nat} (h:Std w) (hk:Kept (fun k=>k < B) w W) (hB:w.heap.size≤B):Std W:=by
 have h1:=h.tl
 have h2:=h.ml
 have h3:=hk.size
 refine ⟨?_,?_,by omega,by omega⟩
 ·have:=h.tab
  unfold Lib.TabIs World.var? at this ⊢
  have hg:Tryz.prog.globalNamed "internal/strconv.uint64pow10"=some 3:=by kernel_rfl
  rw [hg] at this ⊢
  simp only [Option.bind_some] at this ⊢
  rw [hk.same 3 (show (3:Nat) < B by omega) h1]
  exact this
 ·obtain ⟨m,hm⟩:=h.mx
  exact ⟨m,(kept_cell hk (a:=⟨0,0,none⟩) (show (0:Nat) < B by omega) h2).trans hm⟩
theorem Std.below {w W:World} (h:Std w) (hb:Below w.heap.size w W):Std W:=h.kept (below_kept hb) (Nat.le_refl _)
theorem lastByte_any (s:ByteArray) (c:UInt8) (hs:s.size≤10000000) (w:World):Calls Tryz.prog 243 #[.string s,.int .u8 (c.toNat:Int)] w fun e w'=>e=.returned (.int .i64 (lastIn c s.data.toList 0 s.size))∧w'=w:=by
 have:=libLastIndexByte s (c.toNat:Int) (by omega) w
 unfold Lib.lastIndexByte at this
 rw [last_lib s c s.size (Nat.le_refl _)] at this
 exact this
set_option maxHeartbeats 400000 in
theorem base_any (s:ByteArray) (hs:s.size≤10000000) (w:World):Calls Tryz.prog 232 #[.string s] w fun e w'=>e=.returned (.int .i64 (slashAt s.data.toList+1))∧w'=w:=by
 have hb:=last_bound 47 s.data.toList 0 s.size
 have HC:=Lib.hid (lastByte_any s 47 hs w)
 have HS:Hid (slashAt s.data.toList=lastIn 47 s.data.toList 0 s.size):=by show _=_;unfold slashAt;rw [size_list]
 generalize lastIn 47 s.data.toList 0 s.size=q at hb HC HS
 go_enter Tryz.func232,Tryz.ntmps232
 go_wp2_with (go_at_call 243;refine HC.out.mono ?_;rintro e w' ⟨rfl,rfl⟩)
 go_ret
 exact ⟨by rw [HS.out];go_num,rfl⟩
theorem last_ge (c:UInt8) (s:BT) (f:Nat):∀ k:Nat,lastIn c s f k < 0∨(f:Int)≤lastIn c s f k
 | 0=>.inl (by unfold lastIn;decide)
 | k+1=>by
  unfold lastIn
  split
  ·next h=>right;omega
  ·exact last_ge c s f k
set_option maxHeartbeats 1000000 in
theorem dot_any (s:ByteArray) (hs:s.size≤10000000) (w:World):Calls Tryz.prog 233 #[.string s] w fun e w'=>e=.returned (.int .i64 (if dotAt s.data.toList < 0 then (s.size:Int) else dotAt s.data.toList))∧∃ n,w'=w.drewN n:=by
 have hb1:=last_bound 47 s.data.toList 0 s.size
 have hS:slashAt s.data.toList=lastIn 47 s.data.toList 0 s.size:=by unfold slashAt;rw [size_list]
 have HB:=Lib.hid (base_any s hs)
 obtain ⟨f,hf⟩:∃ f:Nat,slashAt s.data.toList+1=(f:Int):=⟨(slashAt s.data.toList+1).toNat,by omega⟩
 have hfs:f≤s.size:=by omega
 have hft:(slashAt s.data.toList+1).toNat=f:=by rw [hf];rfl
 have hz:(s.extract f s.size).size=s.size - f:=by rw [ByteArray.size_extract];omega
 have hd:(s.extract f s.size).data.toList=s.data.toList.drop f:=Lib.extract_to_end s f
 have hL:=lastByte_any (s.extract f s.size) 46 (by omega)
 have hld:=last_drop 46 s.data.toList f (s.size - f)
 rw [hz,hd,hld,show f+(s.size - f)=s.size by omega] at hL
 have hD:dotAt s.data.toList=lastIn 46 s.data.toList f s.size:=by unfold dotAt;rw [hft,size_list]
 rw [← hD] at hL
 have hb2:=last_bound 46 s.data.toList f s.size
 have hb3:=last_ge 46 s.data.toList f s.size
 rw [← hD] at hb2 hb3
 rw [hf] at HB
 clear hS hb1 hft hd hld hz hD hf
 generalize dotAt s.data.toList=d at *
 by_cases h0:d < 0
 ·rw [if_pos h0] at hL ⊢
  have HL:=Lib.hid hL
  clear hL
  go_enter Tryz.func233,Tryz.ntmps233
  go_wp2_with (first
   | (go_at_call 232;refine (HB.out _).mono ?_;rintro e w' ⟨rfl,rfl⟩)
   | (go_at_call 243;refine (HL.out _).mono ?_;rintro e w' ⟨rfl,rfl⟩))
  go_ret
  exact ⟨rfl,0,rfl⟩
 ·have hfd:(f:Int)≤d:=by omega
  have hsum:(f:Int)+(d - (f:Int))=d:=by omega
  rw [if_neg h0] at hL ⊢
  have HL:=Lib.hid hL
  clear hL
  go_enter Tryz.func233,Tryz.ntmps233
  go_wp2_with (first
   | (go_at_call 232;refine (HB.out _).mono ?_;rintro e w' ⟨rfl,rfl⟩)
   | (go_at_call 243;refine (HL.out _).mono ?_;rintro e w' ⟨rfl,rfl⟩))
  go_ret
  exact ⟨rfl,0,rfl⟩
set_option maxHeartbeats 1000000 in
theorem dir_any (s:ByteArray) (hs:s.size≤10000000) (w:World):Calls Tryz.prog 215 #[.string s] w fun e w'=>e=.returned (.string (txt (dirOf s.data.toList)))∧∃ n,w'=w.drewN n:=by
 have hb1:=last_bound 47 s.data.toList 0 s.size
 have hS:slashAt s.data.toList=lastIn 47 s.data.toList 0 s.size:=by unfold slashAt;rw [size_list]
 rw [← hS] at hb1
 have HB:=Lib.hid (base_any s hs)
 obtain ⟨f,hf⟩:∃ f:Nat,slashAt s.data.toList+1=(f:Int):=⟨(slashAt s.data.toList+1).toNat,by omega⟩
 have hft:(slashAt s.data.toList+1).toNat=f:=by rw [hf];rfl
 have hfs:f≤s.size:=by omega
 rw [hf] at HB
 by_cases h0:f=0
 ·have HD:Hid (dirOf s.data.toList=[46,47]):=by show _=_;unfold dirOf;rw [if_pos (by omega)]
  subst h0
  clear hS hb1 hf hft
  go_enter Tryz.func215,Tryz.ntmps215
  go_wp2_with (go_at_call 232;refine (HB.out _).mono ?_;rintro e w' ⟨rfl,rfl⟩)
  go_ret
  exact ⟨by rw [HD.out];rfl,0,rfl⟩
 ·have HD:Hid (txt (dirOf s.data.toList)=s.extract 0 f):=by
   show _=_
   unfold dirOf
   rw [if_neg (by omega),hft,extract_txt,List.drop_zero,Nat.sub_zero]
  clear hS hb1 hf hft
  go_enter Tryz.func215,Tryz.ntmps215
  go_wp2_with (go_at_call 232;refine (HB.out _).mono ?_;rintro e w' ⟨rfl,rfl⟩)
  go_ret
  exact ⟨by rw [HD.out];rfl,0,rfl⟩
set_option maxHeartbeats 1000000 in
theorem notdir_any (s:ByteArray) (hs:s.size≤10000000) (w:World):Calls Tryz.prog 216 #[.string s] w fun e w'=>e=.returned (.string (txt (notdirOf s.data.toList)))∧∃ n,w'=w.drewN n:=by
 have hb1:=last_bound 47 s.data.toList 0 s.size
 have hS:slashAt s.data.toList=lastIn 47 s.data.toList 0 s.size:=by unfold slashAt;rw [size_list]
 rw [← hS] at hb1
 have HB:=Lib.hid (base_any s hs)
 obtain ⟨f,hf⟩:∃ f:Nat,slashAt s.data.toList+1=(f:Int):=⟨(slashAt s.data.toList+1).toNat,by omega⟩
 have hft:(slashAt s.data.toList+1).toNat=f:=by rw [hf];rfl
 have hfs:f≤s.size:=by omega
 rw [hf] at HB
 have HD:Hid (txt (notdirOf s.data.toList)=s.extract f s.size):=by
  show _=_
  unfold notdirOf
  rw [hft,extract_txt,take_rest]
 clear hS hb1 hf hft
 go_enter Tryz.func216,Tryz.ntmps216
 go_wp2_with (go_at_call 232;refine (HB.out _).mono ?_;rintro e w' ⟨rfl,rfl⟩)
 go_ret
 exact ⟨by rw [HD.out];rfl,0,rfl⟩
set_option maxHeartbeats 1000000 in
theorem suffix_any (s:ByteArray) (hs:s.size≤10000000) (w:World):Calls Tryz.prog 218 #[.string s] w fun e w'=>e=.returned (.string (txt (suffixOf s.data.toList)))∧∃ n,w'=w.drewN n:=by
 have hb:=last_bound 46 s.data.toList (slashAt s.data.toList+1).toNat s.size
 have hD:dotAt s.data.toList=lastIn 46 s.data.toList (slashAt s.data.toList+1).toNat s.size:=by unfold dotAt;rw [size_list]
 rw [← hD] at hb
 have HB:=Lib.hid (dot_any s hs)
 obtain ⟨f,hf⟩:∃ f:Nat,(if dotAt s.data.toList < 0 then (s.size:Int) else dotAt s.data.toList)=(f:Int):=⟨(if dotAt s.data.toList < 0 then (s.size:Int) else dotAt s.data.toList).toNat,by split <;> omega⟩
 have hfs:f≤s.size:=by split at hf <;> omega
 have HX:Hid (txt (suffixOf s.data.toList)=s.extract f s.size):=by
  show _=_
  unfold suffixOf
  rw [extract_txt,take_rest]
  by_cases h:dotAt s.data.toList < 0
  ·rw [if_pos h] at hf ⊢
   rw [List.drop_eq_nil_of_le (by rw [size_list];omega)]
  ·rw [if_neg h] at hf ⊢
   rw [hf];rfl
 rw [hf] at HB
 clear hD hb hf
 go_enter Tryz.func218,Tryz.ntmps218
 go_wp2_with (go_at_call 233;refine (HB.out _).mono ?_;rintro e w' ⟨rfl,q,rfl⟩)
 go_ret
 exact ⟨by rw [HX.out];rfl,q,rfl⟩
set_option maxHeartbeats 1000000 in
theorem basename_any (s:ByteArray) (hs:s.size≤10000000) (w:World):Calls Tryz.prog 219 #[.string s] w fun e w'=>e=.returned (.string (txt (baseOf s.data.toList)))∧∃ n,w'=w.drewN n:=by
 have hb:=last_bound 46 s.data.toList (slashAt s.data.toList+1).toNat s.size
 have hD:dotAt s.data.toList=lastIn 46 s.data.toList (slashAt s.data.toList+1).toNat s.size:=by unfold dotAt;rw [size_list]
 rw [← hD] at hb
 have HB:=Lib.hid (dot_any s hs)
 obtain ⟨f,hf⟩:∃ f:Nat,(if dotAt s.data.toList < 0 then (s.size:Int) else dotAt s.data.toList)=(f:Int):=⟨(if dotAt s.data.toList < 0 then (s.size:Int) else dotAt s.data.toList).toNat,by split <;> omega⟩
 have hfs:f≤s.size:=by split at hf <;> omega
 have HX:Hid (txt (baseOf s.data.toList)=s.extract 0 f):=by
  show _=_
  unfold baseOf
  rw [extract_txt,List.drop_zero,Nat.sub_zero]
  by_cases h:dotAt s.data.toList < 0
  ·rw [if_pos h] at hf ⊢
   rw [List.take_of_length_le (by rw [size_list];omega)]
  ·rw [if_neg h] at hf ⊢
   rw [hf];rfl
 rw [hf] at HB
 clear hD hb hf
 go_enter Tryz.func219,Tryz.ntmps219
 go_wp2_with (go_at_call 233;refine (HB.out _).mono ?_;rintro e w' ⟨rfl,q,rfl⟩)
 go_ret
 exact ⟨by rw [HX.out];rfl,q,rfl⟩
set_option maxHeartbeats 400000 in
theorem hasByte_any (s:ByteArray) (w:World):Calls Tryz.prog 217 #[.string s] w fun e w'=>e=.returned (.bool (isWord s))∧∃ n,w'=w.drewN n:=by
 go_enter Tryz.func217,Tryz.ntmps217
 go_wp2
 go_ret
 exact ⟨by unfold isWord;cases h:s.toList <;> rfl,0,rfl⟩
set_option maxHeartbeats 1000000 in
theorem whole_any (x:Pr) (h1:x.1.size≤10000000) (h2:x.2.size≤10000000) (w:World):Calls Tryz.prog 224 #[.agg #[.string x.1,.string x.2]] w fun e w'=>e=.returned (.string (x.1++x.2))∧Below w.heap.size w w':=by
 go_enter Tryz.func224,Tryz.ntmps224
 go_wp2
 go_ret
 exact ⟨rfl,(Below.refl _ w).alloc (Nat.le_refl _) _⟩
theorem at_any (v:Value) (xs:List ByteArray) (k:Nat) (B:Nat) (w:World) (hr:ReadsO w B v xs) :
  Calls Tryz.prog 236 #[v,.int .i64 (k:Int)] w fun e w'=>e=.returned (.string (xs.getD k ⟨#[]⟩))∧w'=w:=by
 obtain ⟨o,c,rfl,hx⟩:=hr
 by_cases h:k < xs.length
 ·obtain ⟨b,f,rfl,_,hc,hcell⟩:=hx k xs[k] (List.getElem?_eq_getElem h)
  have HV:Hid (xs.getD k ⟨#[]⟩=xs[k]):=by show _=_;simp [List.getD,h]
  clear hx
  go_enter Tryz.func236,Tryz.ntmps236
  go_wp2
  go_ret
  exact ⟨by rw [HV.out];rfl,rfl⟩
 ·have HV:Hid (xs.getD k ⟨#[]⟩=⟨#[]⟩):=by show _=_;simp [List.getD,h]
  clear hx
  go_enter Tryz.func236,Tryz.ntmps236
  go_wp2
  go_ret
  exact ⟨by rw [HV.out];rfl,rfl⟩
set_option maxHeartbeats 400000 in
theorem short_any (s:ByteArray) (hs:s.size≤1000000000) (w:World):Calls Tryz.prog 198 #[.string s] w fun e w'=>e=.returned (.tuple #[.string (txt (finT (some s.data.toList)).1),.int .i64 (finT (some s.data.toList)).2])∧w'=w:=by
 by_cases h:s.size≤4000
 ·have HF:Hid (finT (some s.data.toList)=(s.data.toList,0)):=by show _=_;unfold finT;simp only;rw [if_pos (by rw [size_list];exact h)]
  go_enter Tryz.func198,Tryz.ntmps198
  go_wp2
  go_ret2
  exact ⟨by rw [HF.out,txt_toList];rfl,rfl⟩
 ·have HF:Hid (finT (some s.data.toList)=([],3)):=by show _=_;unfold finT;simp only;rw [if_neg (by rw [size_list];exact h)]
  go_enter Tryz.func198,Tryz.ntmps198
  go_wp2
  go_ret2
  exact ⟨by rw [HF.out];rfl,rfl⟩
end Go.Proofs.YtmfjolmfbdbegaaGreatDoor

namespace Go.Proofs.YtmfjolmfbdbegaaGreatDoor
open Go.RowKit Go.Shelf Go.Sort
set_option maxHeartbeats 1000000 in
theorem words_own (s:ByteArray) (hs:s.size≤8796093022207) (w:World) :
  Calls Tryz.prog 68 #[.string s] w fun e W'=>∃ v,e=.returned v∧W'.ownsRow w.heap.size 9 1 v (wordsT s.data.toList).length ((wordsT s.data.toList).map encStr)∧Below w.heap.size w W':=by
 have hm:s.size≤maxLen:=by unfold maxLen;omega
 have hl:=wordsOf_len s.data.toList
 rw [size_list] at hl
 have bS:=Boxed.new w 9 (.string s)
 have hG:=gather_any 143 #[.pointer (some ⟨w.heap.size,0,none⟩)] (enters_of Tryz.func143 (by kernel_rfl) rfl) (fun j=>j=w.heap.size) (wordsOf s.data.toList) (w.alloc (.cells #[.string s] 9)) w.heap.size (by simp)
  (fun n=>words1_tells n s hm w.heap.size _ bS) (by rintro k rfl;simp) (by omega)
 have e1:(wordsOf s.data.toList).map Value.string=(wordsT s.data.toList).map encStr:=by rw [wordsT_of,List.map_map];rfl
 have e2:(wordsOf s.data.toList).length=(wordsT s.data.toList).length:=by rw [wordsT_of,List.length_map]
 rw [e1,e2] at hG
 have HG:=Lib.hid hG
 clear hG hl e1 e2
 go_enter Tryz.func68,Tryz.ntmps68
 go_wp2_with fail
 refine (words0_any s w).mono ?_
 rintro e w' ⟨rfl,rfl⟩
 go_wp2_with fail
 refine HG.out.mono ?_
 rintro e w' ⟨v,rfl,hr,hb⟩
 go_wp2_with fail
 go_ret
 refine ⟨v,rfl,⟨hr.1,?_⟩,((Below.refl _ w).alloc (Nat.le_refl _) _).trans hb⟩
 rcases hr.2 with hn | ⟨g,cap,cur,hv,hg,rest⟩
 ·exact .inl hn
 ·exact .inr ⟨g,cap,cur,hv,by simp at hg;omega,rest⟩
theorem owns_reads {W:World} {base:Nat} {v:Value} {l:List BT} (h:W.ownsRow base 9 1 v l.length (l.map encStr)):ReadsO W W.heap.size v (l.map txt) :=
 ReadsO.of_owns (base:=base) (by rw [List.length_map,List.map_map];exact h)
theorem putRow_grown {w:World} {g n:Nat} (d:Array BT):w.grownBy (putRow encStr (Sort.ahead w n) g 0 d) (some g):=by
 refine ⟨rfl,rfl,rfl,by simp,fun k _ hne=>?_⟩
 have:g≠k:=fun e=>hne (by rw [e])
 simp [putRow,mapBlock,Sort.ahead,Array.getElem?_modify,this]
theorem compact_len (ts:List BT):(Lib.compact ts).length≤ts.length:=by
 unfold Lib.compact Lib.compactUpTo
 rw [List.length_map]
 refine Nat.le_trans (List.length_filter_le _ _) ?_
 rw [List.length_range]
 exact Nat.le_refl _
set_option maxHeartbeats 1000000 in
theorem once_any (ss:List BT) (hl:ss.length≤1000000000) (v:Value) (base:Nat) (w:World) (hb:base≤w.heap.size) (h:w.ownsRow base 9 1 v ss.length (ss.map encStr)) :
  Calls Tryz.prog 214 #[v] w fun e w'=>∃ o c,e=.returned (.slice o (sortT ss).length c)∧ReadsO w' w'.heap.size (.slice o (sortT ss).length c) ((sortT ss).map txt)∧Below base w w':=by
 by_cases h0:ss=[]
 ·subst h0
  obtain ⟨o,c,rfl⟩:∃ o c,v=.slice o 0 c:=by
   rcases h.2 with ⟨rfl,_⟩ | ⟨g,cap,cur,rfl,_⟩
   ·exact ⟨none,0,rfl⟩
   ·exact ⟨_,_,rfl⟩
  have HS:=Lib.hid (libSort0 o c)
  have HC:=Lib.hid (libCompact0 o c)
  clear h
  go_enter Tryz.func214,Tryz.ntmps214
  go_wp2_with (first
   | (go_at_call 36;refine (HS.out _).mono ?_;rintro e w' ⟨rfl,rfl⟩)
   | (go_at_call 37;refine (HC.out _).mono ?_;rintro e w' ⟨rfl,rfl⟩))
  go_ret
  exact ⟨o,c,rfl,⟨o,c,rfl,by simp [sortT]⟩,Below.refl _ _⟩
 obtain ⟨g,cap,cur,rfl,hgb,hgg,hn1,hn2,hn3,hn4⟩:∃ g cap cur,v=.slice (some ⟨g,0,none⟩) ss.length cap∧base≤g∧w.heap[g]? = some (.cells cur 9 (0,0))∧ss.length≤cap∧cap≤maxLen∧cur.size=cap*1∧cur.toList.take (ss.length*1)=ss.map encStr:=by
  rcases h.2 with ⟨_,hz⟩ | ⟨g,cap,cur,hv,r⟩
  ·exact absurd (List.eq_nil_of_length_eq_zero hz) h0
  ·exact ⟨g,cap,cur,hv,r⟩
 rw [Nat.mul_one] at hn4
 have hgl:g < w.heap.size:=(Array.getElem?_eq_some_iff.1 hgg).1
 obtain ⟨ts,hts⟩:∃ ts,ts=ss.mergeSort (fun x y=>decide (x≤y)):=⟨_,rfl⟩
 have htl:ts.length=ss.length:=by rw [hts,List.length_mergeSort]
 have hcs:Lib.compact ts=sortT ss:=by rw [hts];exact compact_sort ss
 have hS:=libSort g 0 cap ss w (holds_of_block hgg hn4) hgl (by omega)
 rw [← hts] at hS
 have HS:=Lib.hid hS
 have HC:Hid (∀ (n:Nat) (os:Array Obj),Calls Tryz.prog 37 #[.slice (some ⟨g,0,none⟩) ss.length cap] (grow (putRow encStr (Sort.ahead w n) g 0 ts.toArray) os) fun e w' =>
   e=.returned (.slice (some ⟨g,0,none⟩) (sortT ss).length cap)∧ReadsO w' w'.heap.size (.slice (some ⟨g,0,none⟩) (sortT ss).length cap) ((sortT ss).map txt)∧Below base w w'):=by
  intro n os
  have hb1:=heap_sorted (n:=n) (os:=os) ts.toArray hgg
  have hg1:=grownBy_sorted (w:=w) (g:=g) (n:=n) (os:=os) ts.toArray
  have ht1:=take_putCells cur ts (by omega)
  have hH:=holds_of_block hb1 ht1
  have hC:=libCompact g 0 cap ts _ hH (by omega) (by omega)
  rw [htl,hcs] at hC
  refine hC.mono ?_
  rintro e w' ⟨rfl,q,rfl⟩
  have hcl:=compact_len ts
  rw [hcs] at hcl
  have hsz:(sortT ss++List.replicate (ss.length - (sortT ss).length) []).toArray.size=ts.toArray.size:=by simp;omega
  have hP:=holds_putRow encStr (Sort.ahead (grow (putRow encStr (Sort.ahead w n) g 0 ts.toArray) os) q) g 0 ts.toArray _ hH hsz
  have hgr:=putRow_grown (w:=grow (putRow encStr (Sort.ahead w n) g 0 ts.toArray) os) (g:=g) (n:=q) (sortT ss++List.replicate (ss.length - (sortT ss).length) []).toArray
  have hB1:Below base w (grow (putRow encStr (Sort.ahead w n) g 0 ts.toArray) os):=(Below.refl base w).grown hg1 hb (fun j hj=>by cases hj;exact hgb)
  have hB2:=hB1.grown hgr (by have:=hB1.size;omega) (fun j hj=>by cases hj;exact hgb)
  refine ⟨rfl,⟨some ⟨g,0,none⟩,cap,by rw [List.length_map],fun k x hk=>?_⟩,hB2⟩
  rw [List.getElem?_map] at hk
  obtain ⟨y,hy,rfl⟩:=Option.map_eq_some_iff.1 hk
  have hkl:k < (sortT ss).length:=(List.getElem?_eq_some_iff.1 hy).1
  refine ⟨g,0,rfl,by have:=hB2.size;have:=hg1.size;have:=hgr.size;omega,by rw [List.length_map];omega,?_⟩
  have h3:=(hP k (by simp;omega)).1
  rw [h3]
  have h4:(sortT ss++List.replicate (ss.length - (sortT ss).length) []).toArray[k]! = y:=by
   rw [getElem!_pos _ k (by simp;omega)]
   simp only [List.getElem_toArray]
   rw [List.getElem_append_left hkl]
   rw [List.getElem?_eq_getElem hkl] at hy
   exact Option.some.inj hy
  rw [h4]
  rfl
 clear hS hts htl hcs hgg hn1 hn2 hn3 hn4 h
 go_enter Tryz.func214,Tryz.ntmps214
 go_wp2_with (first
  | (go_at_call 36;refine HS.out.mono ?_;rintro e w' ⟨rfl,n,os,rfl⟩)
  | (go_at_call 37;refine (HC.out _ _).mono ?_;rintro e w' ⟨rfl,hr,hbl⟩))
 go_ret
 exact ⟨_,_,rfl,hr,hbl⟩
end Go.Proofs.YtmfjolmfbdbegaaGreatDoor
