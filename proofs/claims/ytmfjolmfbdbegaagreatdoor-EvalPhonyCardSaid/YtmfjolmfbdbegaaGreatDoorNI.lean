/-
  A range over a function that reads blocks which it does not turn: the loop leaves those blocks as they lay. No condition.
  What slices.Values tells of a list of texts: each of them, in order. No condition but that the list lies where it lay.
  A range over a function whose round lays what it is told in a new block. No condition.
  What only tells: those for which its function answers true. No condition.
  A quiet region that draws its order, within a round of a range over a function: one walk serves every order. No condition.
-/
import Derived.RangeFuncNested
import Derived.RangeFuncCalls
import Derived.Shelf.RegionOpen
import Derived.Sort.QuietIn
import Derived.Sort.QuietTacIn
import Derived.Test.YtmfjolmfbdbegaaGreatDoorIter
import Derived.Test.YtmfjolmfbdbegaaGreatDoorHB
import Derived.Test.YtmfjolmfbdbegaaGreatDoorProg
namespace Go.Proofs.YtmfjolmfbdbegaaGreatDoor
open Go.RowKit
def TellsY {α:Type} (n:Nat) (P:Program) (g:Nat) (lb:Array Value) (encs:α→Array Value) (Y X0:Nat→Prop) (xs:List α) (w:World):Prop :=
 ∀ (l:Nat) (J Jx:(Nat→Prop)→List α→World→Prop) (W:World),Kept X0 w W→Abides' J→Abides' Jx →
  (∀ X pre W1,J X pre W1→Kept Y w W1) →
  (∀ X pre x W1,J X pre W1→pre++[x] <+: xs→YieldAt Fence.wide (n - 1) P l (encs x) W1 fun e W'=>Kept X W1 W' ∧
   ((e=.returned (.bool true)∧J X (pre++[x]) W')∨(e=.returned (.bool false)∧Jx X (pre++[x]) W'))) →
  J X0 [] W →
  CallsIn Fence.wide n P g (#[.func (.yield l) #[] #[]]++lb) W fun e W'=>(∃ v,e=.returned v)∧∃ X,(J X xs W'∨∃ pre,pre <+: xs∧Jx X pre W')
def TellsB {α:Type} (n:Nat) (P:Program) (g:Nat) (lb:Array Value) (encs:α→Array Value) (B:Nat) (xs:List α) (w:World):Prop:=TellsY n P g lb encs (fun k=>k < B) (fun _=>False) xs w
theorem kept_none {w W:World} (h:w.heap.size≤W.heap.size):Kept (fun _=>False) w W:=⟨h,fun _ h=>h.elim⟩
theorem TellsB.later {α:Type} {n:Nat} {P:Program} {g:Nat} {lb:Array Value} {encs:α→Array Value} {B B2:Nat} {xs:List α} {w w2:World} (h:TellsB n P g lb encs B xs w) (hB:B≤B2) (hk:Kept (fun k=>k < B) w w2):TellsB n P g lb encs B2 xs w2 :=
 fun l J Jx W a b c hy d e=>h l J Jx W (kept_none (Nat.le_trans hk.size a.size)) b c (fun X pre W1 hJ=>hk.trans ((hy X pre W1 hJ).sub fun _ hlt=>Nat.lt_of_lt_of_le hlt hB)) d e
theorem below_kept {B:Nat} {w W:World} (h:Below B w W):Kept (fun k=>k < B) w W:=⟨h.size,fun k hk _=>h.block k hk⟩
variable {n:Nat} {P:Program}
theorem wpIn_rangeY {α:Type} {g:Operand} {ps:Array Tmp} {assign body:Code} {Q:Exit→Act→World→Prop} {a:Act} {w:World}
  {gf:Nat} {lb:Array Value} (hg:a.eval g=.func (.func gf) #[] lb) (eg:∀ args w,(callFunc gf args).run P w=.ok (.enter gf args) w)
  {encs:α→Array Value} {X0:Nat→Prop} {xs:List α} {w0:World} {Y:Nat→Prop} (hseq:TellsY (n - 1) P gf lb encs Y X0 xs w0) (hw0:Kept X0 w0 w) (hX0:∀ k,X0 k→k < w.heap.size) (hps:∀ x,(encs x).size=ps.size)
  (I:(Nat→Prop)→List α→World→Prop) (Ix:Code→(Nat→Prop)→List α→World→Prop) (hI:Abides' I) (hIx:∀ c,Abides' (Ix c)) (hIY:∀ X pre W,I X pre W→Kept Y w0 W) (h0:I X0 [] w) (a₁:α→Act)
  (hassign:∀ (l:Nat) (x:α) (W:World) (K:Act→World→Prop),K (a₁ x) W →
   assign.wpIn (Fence.wide.inRound l) (n - 1 - 1) P (Exit.then K (fun _ _ _=>False)) { tmps:=(ps.zip (encs x)).foldl (fun t (p,v)=>t.setIfInBounds p v) a.tmps,defers:=[] } W)
  (hbody:∀ (l:Nat) (X:Nat→Prop) (pre:List α) (x:α) (W:World),I X pre W→pre++[x] <+: xs→body.wpIn (Fence.wide.inRound l) (n - 1 - 1) P (roundOut X I Ix (pre++[x]) W) (a₁ x) W)
  (hdone:∀ (D:Nat) (X:Nat→Prop) (W:World),w.heap.size≤D→X D→I X xs W→W.heap[D]? = some (.deferred (some []))→Q .normal { a with defers:={ target:=.collected D,args:=#[] } :: a.defers } W)
  (hstop:∀ (D:Nat) (X:Nat→Prop) (c:Code) (pre:List α) (W:World),w.heap.size≤D→X D→pre <+: xs→Ix c X pre W→W.heap[D]? = some (.deferred (some []))→c.wpIn Fence.wide n P Q { a with defers:={ target:=.collected D,args:=#[] } :: a.defers } W) :
  (Code.rangeFunc g ps assign body).wpIn Fence.wide n P Q a w:=by
 refine wpIn_rangeFunc ?_
 intro fn hfn
 rw [show Fence.wide.round=none from rfl]
 obtain ⟨r,hr⟩:∃ r:LoopState→Option Code→Loop,r=fun st pe=>{ state:=st,pending:=pe,fn,tmps:=a.tmps,params:=ps,assign,body,defers:=w.heap.size }:=⟨_,rfl⟩
 obtain ⟨D,hD⟩:∃ D,D=w.heap.size:=⟨_,rfl⟩
 obtain ⟨W1,hW1⟩:∃ W1,(w.alloc (.deferred (some []))).alloc (.loop (r .ready none))=W1:=⟨_,rfl⟩
 have hL1:W1.heap[D+1]? = some (.loop (r .ready none)):=by
  rw [← hW1,hD];have:=World.alloc_heap_new (w.alloc (.deferred (some []))) (.loop (r .ready none));rwa [World.size_alloc] at this
 have hK1:W1.heap[D]? = some (.deferred (some [])):=by
  rw [← hW1,hD];exact (Below.heap_alloc _ _ _ (by simp)).trans (World.alloc_heap_new w _)
 have hs1:W1.heap.size=D+2:=by rw [← hW1,hD];simp
 have ht1:Turned X0 w W1:=by rw [← hW1];exact (Turned.alloc X0 w _).trans (Turned.alloc X0 _ _)
 have hk1:Kept X0 w0 W1:=by rw [← hW1];exact hw0.trans ((Kept.alloc X0 w _).trans (Kept.alloc X0 _ _))
 refine ⟨D+1,[{ target:=.collected D,args:=#[] }],W1,{ target:=.fn (.func gf) lb,args:=#[.func (.yield (D+1)) #[] #[]] },W1,gf,
  #[.func (.yield (D+1)) #[] #[]]++lb,W1,?_,?_,fun _ _=>trivial,?_,fun h=>?_,?_⟩
 ·rw [← hW1,hr,hD];exact run_enterLoop_outer _ _ _ _ _
 ·simp only [resolve,hg]
  simp [go_sem]
 ·simp [invoke,go_sem,eg]
 ·cases h
 ·refine (hseq (D+1)
   (fun X pre W=>I (fun k=>X k∨k=D∨k=D+1) pre W∧(¬ X D∧¬ X (D+1))∧W.heap[D+1]? = some (.loop (r .ready none))∧W.heap[D]? = some (.deferred (some [])))
   (fun X pre W=>∃ c,Ix c (fun k=>X k∨k=D∨k=D+1) pre W∧(¬ X D∧¬ X (D+1))∧W.heap[D+1]? = some (.loop (r .done (some c)))∧W.heap[D]? = some (.deferred (some [])))
   W1 hk1 ?_ ?_ (fun X pre W h=>hIY _ _ _ h.1) ?_ ⟨?_,⟨fun h=>?_,fun h=>?_⟩,hL1,hK1⟩).mono ?_
  ·rintro X X' s A B ⟨hi,⟨hx1,hx2⟩,hl,hd⟩ ht hx
   have hdl:=(Array.getElem?_eq_some_iff.1 hd).1
   have hll:=(Array.getElem?_eq_some_iff.1 hl).1
   refine ⟨hI _ _ _ _ _ hi (ht.wider fun k h=>.inl h) ?_,⟨fun h=>?_,fun h=>?_⟩,(ht.block _ hll hx2).trans hl,(ht.block _ hdl hx1).trans hd⟩
   ·rintro k (h | h | h)
    ·rcases hx k h with h | h
     ·exact .inl (.inl h)
     ·exact .inr h
    ·exact .inl (.inr (.inl h))
    ·exact .inl (.inr (.inr h))
   ·rcases hx _ h with h | h
    ·exact hx1 h
    ·omega
   ·rcases hx _ h with h | h
    ·exact hx2 h
    ·omega
  ·rintro X X' s A B ⟨c,hi,⟨hx1,hx2⟩,hl,hd⟩ ht hx
   have hdl:=(Array.getElem?_eq_some_iff.1 hd).1
   have hll:=(Array.getElem?_eq_some_iff.1 hl).1
   refine ⟨c,hIx _ _ _ _ _ _ hi (ht.wider fun k h=>.inl h) ?_,⟨fun h=>?_,fun h=>?_⟩,(ht.block _ hll hx2).trans hl,(ht.block _ hdl hx1).trans hd⟩
   ·rintro k (h | h | h)
    ·rcases hx k h with h | h
     ·exact .inl (.inl h)
     ·exact .inr h
    ·exact .inl (.inr (.inl h))
    ·exact .inl (.inr (.inr h))
   ·rcases hx _ h with h | h
    ·exact hx1 h
    ·omega
   ·rcases hx _ h with h | h
    ·exact hx2 h
    ·omega
  ·rintro X pre x W ⟨hi,⟨hx1,hx2⟩,hl,hd⟩ hpre
   have hlt:D+1 < W.heap.size:=(Array.getElem?_eq_some_iff.1 hl).1
   have hy:=run_yield (P:=P) (args:=encs x) hl (by rw [hr];exact hps x)
   rw [hr] at hy
   refine ⟨fn,_,assign,body,hy,roundIn_of_wpIn hfn (hassign _ x W _ ?_)⟩
   clear hy
   refine ⟨_,run_beginRound hl (by rw [hr]),?_⟩
   have hl2:(W.putObj (D+1) (.loop { r .ready none with state:=.busy })).heap[D+1]? = some (.loop { r .ready none with state:=.busy }):=World.putObj_heap_same hlt
   have hd2:(W.putObj (D+1) (.loop { r .ready none with state:=.busy })).heap[D]? = some (.deferred (some [])):=(World.putObj_heap_other (by omega)).trans hd
   have hk2:Kept X W (W.putObj (D+1) (.loop { r .ready none with state:=.busy })):=Kept.putObj _ _ _ hx2
   have hi2:=hI _ _ _ _ _ hi (Turned.putObj W (D+1) (.loop { r .ready none with state:=.busy }) (.inr (.inr rfl))) (fun k h=>.inl h)
   generalize hWb:W.putObj (D+1) (.loop { r .ready none with state:=.busy })=Wb at hl2 hd2 hk2 hi2 ⊢
   refine wpIn_mono (hbody _ _ pre x _ hi2 hpre) ?_
   have fin:∀ (jump:Option Code) (W3:World),Kept (fun k=>X k∨k=D∨k=D+1) Wb W3 →
     (Instr.endRound (D+1) jump).run P W3=.ok (.bool jump.isNone) (W3.putObj (D+1) (.loop (r (if jump.isNone then .ready else .done) jump))) ∧
     (W3.putObj (D+1) (.loop (r (if jump.isNone then .ready else .done) jump))).heap[D+1]? = some (.loop (r (if jump.isNone then .ready else .done) jump)) ∧
     (W3.putObj (D+1) (.loop (r (if jump.isNone then .ready else .done) jump))).heap[D]? = some (.deferred (some [])) ∧
     Kept X W (W3.putObj (D+1) (.loop (r (if jump.isNone then .ready else .done) jump))):=fun jump W3 hk3=>by
    have hl3:=hk3.heap hl2 (.inr (.inr rfl))
    have hd3:=hk3.heap hd2 (.inr (.inl rfl))
    have:=run_endRound (P:=P) jump hl3
    rw [hr] at this ⊢
    exact ⟨this,World.putObj_heap_same (Array.getElem?_eq_some_iff.1 hl3).1,(World.putObj_heap_other (by omega)).trans hd3,(hk2.trans (hk3.sub fun k h=>.inl h)).trans (Kept.putObj _ _ _ hx2)⟩
   rintro e a3 W3 hp
   have abide:=fun (X:Nat→Prop) (o:Obj)=>Turned.putObj (X:=fun k=>X k∨k=D∨k=D+1) W3 (D+1) o (.inr (.inr rfl))
   cases e with
   | normal =>
    obtain ⟨hk3,hi3⟩:=hp
    obtain ⟨hrun,hl4,hd4,hk4⟩:=fin none W3 hk3
    exact ⟨_,_,hrun,hk4,.inl ⟨rfl,hI _ _ _ _ _ hi3 (abide X _) (fun k h=>.inl h),⟨hx1,hx2⟩,hl4,hd4⟩⟩
   | ret =>
    obtain ⟨hk3,hi3⟩:=hp
    obtain ⟨hrun,hl4,hd4,hk4⟩:=fin (some .ret) W3 hk3
    exact ⟨_,_,hrun,hk4,.inr ⟨rfl,.ret,hIx _ _ _ _ _ _ hi3 (abide X _) (fun k h=>.inl h),⟨hx1,hx2⟩,hl4,hd4⟩⟩
   | exit id =>
    obtain ⟨hk3,hi3⟩:=hp
    obtain ⟨hrun,hl4,hd4,hk4⟩:=fin (some (.exit id)) W3 hk3
    exact ⟨_,_,hrun,hk4,.inr ⟨rfl,.exit id,hIx _ _ _ _ _ _ hi3 (abide X _) (fun k h=>.inl h),⟨hx1,hx2⟩,hl4,hd4⟩⟩
   | goto t =>
    obtain ⟨hk3,hi3⟩:=hp
    obtain ⟨hrun,hl4,hd4,hk4⟩:=fin (some (.goto t)) W3 hk3
    exact ⟨_,_,hrun,hk4,.inr ⟨rfl,.goto t,hIx _ _ _ _ _ _ hi3 (abide X _) (fun k h=>.inl h),⟨hx1,hx2⟩,hl4,hd4⟩⟩
   | panic ch=>exact hp.elim
   | outgrown=>exact hp.elim
  ·exact hI _ _ _ _ _ h0 ht1 (fun k h=>by
    rcases h with h | h | h
    ·exact .inl h
    ·exact .inr ⟨by omega,by omega⟩
    ·exact .inr ⟨by omega,by omega⟩)
  ·have:=hX0 _ h;omega
  ·have:=hX0 _ h;omega
  ·rintro e W2 ⟨⟨v,rfl⟩,X,(⟨hi,_,hl,hd⟩ | ⟨pre,hpre,c,hi,_,hl,hd⟩)⟩
   ·have hrun:=run_endLoop (P:=P) hl (by rw [hr];simp)
    rw [hr] at hrun
    exact ⟨none,_,hrun,hdone D _ _ (by omega) (.inr (.inl rfl)) (hI _ _ _ _ _ hi (Turned.putObj _ _ _ (.inr (.inr rfl))) (fun k h=>.inl h)) ((World.putObj_heap_other (by omega)).trans hd)⟩
   ·have hrun:=run_endLoop (P:=P) hl (by rw [hr];simp)
    rw [hr] at hrun
    exact ⟨some c,_,hrun,hstop D _ c pre _ (by omega) (.inr (.inl rfl)) hpre (hIx _ _ _ _ _ _ hi (Turned.putObj _ _ _ (.inr (.inr rfl))) (fun k h=>.inl h)) ((World.putObj_heap_other (by omega)).trans hd)⟩
end Go.Proofs.YtmfjolmfbdbegaaGreatDoor

namespace Go.Proofs.YtmfjolmfbdbegaaGreatDoor
open Go.RowKit Go.Shelf
attribute [local go_sem] Oper.semAt_some
abbrev encT:ByteArray→Array Value:=fun x=>#[Value.string x]
theorem kept_cell {X:Nat→Prop} {W W':World} (h:Kept X W W') {a:Addr} (hx:X a.block) (hlt:a.block < W.heap.size):W'.cell? a=W.cell? a:=by
 unfold World.cell?
 rw [h.same a.block hx hlt]
theorem reads_kept {w W:World} {B:Nat} {v:Value} {xs:List ByteArray} (h:ReadsO w B v xs) (hk:Kept (fun k=>k < B) w W) (hB:B≤w.heap.size):ReadsO W B v xs:=by
 obtain ⟨o,c,hv,hx⟩:=h
 refine ⟨o,c,hv,fun k x hkx=>?_⟩
 obtain ⟨b,f,ho,hlt,hc,hcell⟩:=hx k x hkx
 exact ⟨b,f,ho,hlt,hc,(kept_cell hk (a:=⟨b,f+k,none⟩) hlt (Nat.lt_of_lt_of_le hlt hB)).trans hcell⟩
set_option maxHeartbeats 400000 in
theorem values_any (o:Option Addr) (n c:Nat) (w:World):Calls Tryz.prog 209 #[.slice o n c] w fun e w' =>
  e=.returned (.func (.func 227) #[] #[.pointer (some ⟨w.heap.size,0,none⟩)])∧w.alloc (.cells #[.slice o n c] 28)=w':=by
 go_enter Tryz.func209,Tryz.ntmps209
 go_wp2
 go_ret
 exact ⟨rfl,rfl⟩
set_option maxRecDepth 100000 in
set_option maxHeartbeats 1000000 in
theorem values1_tells (n:Nat) (o:Option Addr) (N c:Nat) (xs:List ByteArray) (hN:N=xs.length) (b B:Nat) (w:World) (hb:Boxed w b 28 (.slice o N c)) (hbB:b < B) (hBw:B≤w.heap.size)
  (hr:ReadsO w B (.slice o N c) xs) (hl:N≤1000000000000) :
  TellsB n Tryz.prog 227 #[.pointer (some ⟨b,0,none⟩)] encT B xs w:=by
 intro l J Jx W hW hJ hJx hY hR h0
 have hk0:=hY _ _ _ h0
 have hB1:=hk0.boxed hb hbB
 have HX:Hid (∀ U,Kept (fun k=>k < B) w U→∀ k x,xs[k]? = some x→∃ b' f,o=some ⟨b',f,none⟩∧k < c∧U.cell? ⟨b',f+k,none⟩=some (.string x)):=by
  intro U hU k x hk
  obtain ⟨o',c',hv,hx⟩:=reads_kept hr hU hBw
  cases hv
  obtain ⟨b',f,ho,_,hc,hcell⟩:=hx k x hk
  exact ⟨b',f,ho,by have:=(List.getElem?_eq_some_iff.1 hk).1;omega,hcell⟩
 have HY:=Lib.hid hY
 have HN:=Lib.hid hN
 clear hr hY hk0 hN
 refine callsIn_of_wp Tryz.func227 rfl trivial ?_ rfl
 simp only [Tryz.ntmps227,List.size_toArray,List.length_cons,List.length_nil,Nat.reduceAdd,Nat.reduceSub,Array.replicate_succ,Array.replicate_zero,List.push_toArray,List.append_toArray,List.nil_append,List.cons_append]
 have hc1:=hB1.cell
 gi_wp2
 gi_loopw [7] (fun i wr=>∃ k:Nat,i=.int .i64 k∧k≤N∧J (fun _=>False) (xs.take k) wr) (fun i _=>N - (intOf i).toNat)
 case atStart=>exact ⟨0,rfl,Nat.zero_le _,h0⟩
 case round =>
  obtain ⟨k,rfl,hk,hJs⟩:=hrel
  by_cases hlt:k < N
  ·obtain ⟨x,hx⟩:∃ x,xs[k]? = some x:=⟨xs[k]'(by rw [← HN.out];exact hlt),List.getElem?_eq_getElem _⟩
   obtain ⟨b',f,rfl,hkc,hcell⟩:=HX.out _ (HY.out _ _ _ hJs) k x hx
   have ht:xs.take (k+1)=xs.take k++[x]:=by rw [List.take_add_one,hx];rfl
   have hR0:=hR _ _ x _ hJs (by rw [← ht];exact List.take_prefix _ _)
   rw [← ht] at hR0
   obtain ⟨fn,tmps,assign,body,hy,hR1⟩:=hR0
   have HR:=Lib.hid hR1
   clear hx ht hR1
   gi_wp2
   refine ⟨(fun h=>(by cases h)),(RoundIn.depth HR.out).mono ?_⟩
   rintro e W3 ⟨hk3,(⟨rfl,hJ3⟩ | ⟨rfl,hJx3⟩)⟩
   ·gi_wp2
    go_roundw
    case rel=>exact ⟨k+1,by go_num,hlt,hJ3⟩
    case measure=>simp [intOf];omega
   ·gi_wp2
    refine bodyPost_ret (results_none rfl _ _ _) rfl ?_
    exact ⟨⟨_,rfl⟩,_,.inr ⟨_,List.take_prefix _ _,hJx3⟩⟩
  ·have hkN:k=N:=by omega
   have HJ:Hid (J (fun _=>False) xs wr):=by
    show J _ _ _
    rw [hkN,HN.out,List.take_length] at hJs
    exact hJs
   clear hJs
   gi_wp2
   go_end0
   exact ⟨⟨_,rfl⟩,_,.inl HJ.out⟩
end Go.Proofs.YtmfjolmfbdbegaaGreatDoor

namespace Go.Proofs.YtmfjolmfbdbegaaGreatDoor
open Go.RowKit
variable {n:Nat} {P:Program}
theorem wpIn_rangeW {α:Type} {g:Operand} {ps:Array Tmp} {assign body:Code} {Q:Exit→Act→World→Prop} {a:Act} {w:World}
  {gf:Nat} {lb:Array Value} (hg:a.eval g=.func (.func gf) #[] lb) (eg:∀ args w,(callFunc gf args).run P w=.ok (.enter gf args) w)
  {encs:α→Array Value} {X0:Nat→Prop} {xs:List α} {w0:World} {Y:Nat→Prop} (hseq:TellsY (n - 1) P gf lb encs Y X0 xs w0) (hw0:Kept X0 w0 w) (hX0:∀ k,X0 k→k < w.heap.size) (hps:∀ x,(encs x).size=ps.size)
  (I:(Nat→Prop)→List α→World→Prop) (Ix:Code→(Nat→Prop)→List α→World→Prop) (hI:Abides' I) (hIx:∀ c,Abides' (Ix c)) (hIY:∀ X pre W,I X pre W→Kept Y w0 W) (h0:I X0 [] w) (a₁:α→World→Act) (w₁:α→World→World) (hw₁:∀ x W,Turned (fun _=>False) W (w₁ x W))
  (hassign:∀ (l:Nat) (x:α) (W:World) (K:Act→World→Prop),K (a₁ x W) (w₁ x W) →
   assign.wpIn (Fence.wide.inRound l) (n - 1 - 1) P (Exit.then K (fun _ _ _=>False)) { tmps:=(ps.zip (encs x)).foldl (fun t (p,v)=>t.setIfInBounds p v) a.tmps,defers:=[] } W)
  (hbody:∀ (l:Nat) (X:Nat→Prop) (pre:List α) (x:α) (U W:World),I X pre W→pre++[x] <+: xs→(∀ k,U.heap.size≤k→W.heap[k]? = (w₁ x U).heap[k]?)→body.wpIn (Fence.wide.inRound l) (n - 1 - 1) P (roundOut X I Ix (pre++[x]) W) (a₁ x U) W)
  (hdone:∀ (D:Nat) (X:Nat→Prop) (W:World),w.heap.size≤D→X D→I X xs W→W.heap[D]? = some (.deferred (some []))→Q .normal { a with defers:={ target:=.collected D,args:=#[] } :: a.defers } W)
  (hstop:∀ (D:Nat) (X:Nat→Prop) (c:Code) (pre:List α) (W:World),w.heap.size≤D→X D→pre <+: xs→Ix c X pre W→W.heap[D]? = some (.deferred (some []))→c.wpIn Fence.wide n P Q { a with defers:={ target:=.collected D,args:=#[] } :: a.defers } W) :
  (Code.rangeFunc g ps assign body).wpIn Fence.wide n P Q a w:=by
 refine wpIn_rangeFunc ?_
 intro fn hfn
 rw [show Fence.wide.round=none from rfl]
 obtain ⟨r,hr⟩:∃ r:LoopState→Option Code→Loop,r=fun st pe=>{ state:=st,pending:=pe,fn,tmps:=a.tmps,params:=ps,assign,body,defers:=w.heap.size }:=⟨_,rfl⟩
 obtain ⟨D,hD⟩:∃ D,D=w.heap.size:=⟨_,rfl⟩
 obtain ⟨W1,hW1⟩:∃ W1,(w.alloc (.deferred (some []))).alloc (.loop (r .ready none))=W1:=⟨_,rfl⟩
 have hL1:W1.heap[D+1]? = some (.loop (r .ready none)):=by
  rw [← hW1,hD];have:=World.alloc_heap_new (w.alloc (.deferred (some []))) (.loop (r .ready none));rwa [World.size_alloc] at this
 have hK1:W1.heap[D]? = some (.deferred (some [])):=by
  rw [← hW1,hD];exact (Below.heap_alloc _ _ _ (by simp)).trans (World.alloc_heap_new w _)
 have hs1:W1.heap.size=D+2:=by rw [← hW1,hD];simp
 have ht1:Turned X0 w W1:=by rw [← hW1];exact (Turned.alloc X0 w _).trans (Turned.alloc X0 _ _)
 have hk1:Kept X0 w0 W1:=by rw [← hW1];exact hw0.trans ((Kept.alloc X0 w _).trans (Kept.alloc X0 _ _))
 refine ⟨D+1,[{ target:=.collected D,args:=#[] }],W1,{ target:=.fn (.func gf) lb,args:=#[.func (.yield (D+1)) #[] #[]] },W1,gf,
  #[.func (.yield (D+1)) #[] #[]]++lb,W1,?_,?_,fun _ _=>trivial,?_,fun h=>?_,?_⟩
 ·rw [← hW1,hr,hD];exact run_enterLoop_outer _ _ _ _ _
 ·simp only [resolve,hg]
  simp [go_sem]
 ·simp [invoke,go_sem,eg]
 ·cases h
 ·refine (hseq (D+1)
   (fun X pre W=>I (fun k=>X k∨k=D∨k=D+1) pre W∧(¬ X D∧¬ X (D+1))∧W.heap[D+1]? = some (.loop (r .ready none))∧W.heap[D]? = some (.deferred (some [])))
   (fun X pre W=>∃ c,Ix c (fun k=>X k∨k=D∨k=D+1) pre W∧(¬ X D∧¬ X (D+1))∧W.heap[D+1]? = some (.loop (r .done (some c)))∧W.heap[D]? = some (.deferred (some [])))
   W1 hk1 ?_ ?_ (fun X pre W h=>hIY _ _ _ h.1) ?_ ⟨?_,⟨fun h=>?_,fun h=>?_⟩,hL1,hK1⟩).mono ?_
  ·rintro X X' s A B ⟨hi,⟨hx1,hx2⟩,hl,hd⟩ ht hx
   have hdl:=(Array.getElem?_eq_some_iff.1 hd).1
   have hll:=(Array.getElem?_eq_some_iff.1 hl).1
   refine ⟨hI _ _ _ _ _ hi (ht.wider fun k h=>.inl h) ?_,⟨fun h=>?_,fun h=>?_⟩,(ht.block _ hll hx2).trans hl,(ht.block _ hdl hx1).trans hd⟩
   ·rintro k (h | h | h)
    ·rcases hx k h with h | h
     ·exact .inl (.inl h)
     ·exact .inr h
    ·exact .inl (.inr (.inl h))
    ·exact .inl (.inr (.inr h))
   ·rcases hx _ h with h | h
    ·exact hx1 h
    ·omega
   ·rcases hx _ h with h | h
    ·exact hx2 h
    ·omega
  ·rintro X X' s A B ⟨c,hi,⟨hx1,hx2⟩,hl,hd⟩ ht hx
   have hdl:=(Array.getElem?_eq_some_iff.1 hd).1
   have hll:=(Array.getElem?_eq_some_iff.1 hl).1
   refine ⟨c,hIx _ _ _ _ _ _ hi (ht.wider fun k h=>.inl h) ?_,⟨fun h=>?_,fun h=>?_⟩,(ht.block _ hll hx2).trans hl,(ht.block _ hdl hx1).trans hd⟩
   ·rintro k (h | h | h)
    ·rcases hx k h with h | h
     ·exact .inl (.inl h)
     ·exact .inr h
    ·exact .inl (.inr (.inl h))
    ·exact .inl (.inr (.inr h))
   ·rcases hx _ h with h | h
    ·exact hx1 h
    ·omega
   ·rcases hx _ h with h | h
    ·exact hx2 h
    ·omega
  ·rintro X pre x W ⟨hi,⟨hx1,hx2⟩,hl,hd⟩ hpre
   have hlt:D+1 < W.heap.size:=(Array.getElem?_eq_some_iff.1 hl).1
   have hy:=run_yield (P:=P) (args:=encs x) hl (by rw [hr];exact hps x)
   rw [hr] at hy
   refine ⟨fn,_,assign,body,hy,roundIn_of_wpIn hfn (hassign _ x W _ ?_)⟩
   clear hy
   have hT:=hw₁ x W
   have hkW:Kept X W (w₁ x W):=⟨hT.size,fun k _ hk=>hT.block k hk (fun h=>h)⟩
   have hi:=hI _ _ _ _ _ hi (hT.wider fun _ h=>h.elim) (fun k h=>.inl h)
   have hd:=(hT.block _ (Array.getElem?_eq_some_iff.1 hd).1 (fun h=>h)).trans hd
   have hl:=(hT.block _ hlt (fun h=>h)).trans hl
   have hlt0:=hlt
   have hlt:D+1 < (w₁ x W).heap.size:=Nat.lt_of_lt_of_le hlt hT.size
   have hfr:∀ k,W.heap.size≤k→((w₁ x W).putObj (D+1) (.loop { r .ready none with state:=.busy })).heap[k]? = (w₁ x W).heap[k]?:=fun k hk=>World.putObj_heap_other (by omega)
   refine ⟨_,run_beginRound hl (by rw [hr]),?_⟩
   have hl2:((w₁ x W).putObj (D+1) (.loop { r .ready none with state:=.busy })).heap[D+1]? = some (.loop { r .ready none with state:=.busy }):=World.putObj_heap_same hlt
   have hd2:((w₁ x W).putObj (D+1) (.loop { r .ready none with state:=.busy })).heap[D]? = some (.deferred (some [])):=(World.putObj_heap_other (by omega)).trans hd
   have hk2:Kept X W ((w₁ x W).putObj (D+1) (.loop { r .ready none with state:=.busy })):=hkW.trans (Kept.putObj _ _ _ hx2)
   have hi2:=hI _ _ _ _ _ hi (Turned.putObj (w₁ x W) (D+1) (.loop { r .ready none with state:=.busy }) (.inr (.inr rfl))) (fun k h=>.inl h)
   generalize hWb:(w₁ x W).putObj (D+1) (.loop { r .ready none with state:=.busy })=Wb at hl2 hd2 hk2 hi2 hfr ⊢
   refine wpIn_mono (hbody _ _ pre x W _ hi2 hpre hfr) ?_
   have fin:∀ (jump:Option Code) (W3:World),Kept (fun k=>X k∨k=D∨k=D+1) Wb W3 →
     (Instr.endRound (D+1) jump).run P W3=.ok (.bool jump.isNone) (W3.putObj (D+1) (.loop (r (if jump.isNone then .ready else .done) jump))) ∧
     (W3.putObj (D+1) (.loop (r (if jump.isNone then .ready else .done) jump))).heap[D+1]? = some (.loop (r (if jump.isNone then .ready else .done) jump)) ∧
     (W3.putObj (D+1) (.loop (r (if jump.isNone then .ready else .done) jump))).heap[D]? = some (.deferred (some [])) ∧
     Kept X W (W3.putObj (D+1) (.loop (r (if jump.isNone then .ready else .done) jump))):=fun jump W3 hk3=>by
    have hl3:=hk3.heap hl2 (.inr (.inr rfl))
    have hd3:=hk3.heap hd2 (.inr (.inl rfl))
    have:=run_endRound (P:=P) jump hl3
    rw [hr] at this ⊢
    exact ⟨this,World.putObj_heap_same (Array.getElem?_eq_some_iff.1 hl3).1,(World.putObj_heap_other (by omega)).trans hd3,(hk2.trans (hk3.sub fun k h=>.inl h)).trans (Kept.putObj _ _ _ hx2)⟩
   rintro e a3 W3 hp
   have abide:=fun (X:Nat→Prop) (o:Obj)=>Turned.putObj (X:=fun k=>X k∨k=D∨k=D+1) W3 (D+1) o (.inr (.inr rfl))
   cases e with
   | normal =>
    obtain ⟨hk3,hi3⟩:=hp
    obtain ⟨hrun,hl4,hd4,hk4⟩:=fin none W3 hk3
    exact ⟨_,_,hrun,hk4,.inl ⟨rfl,hI _ _ _ _ _ hi3 (abide X _) (fun k h=>.inl h),⟨hx1,hx2⟩,hl4,hd4⟩⟩
   | ret =>
    obtain ⟨hk3,hi3⟩:=hp
    obtain ⟨hrun,hl4,hd4,hk4⟩:=fin (some .ret) W3 hk3
    exact ⟨_,_,hrun,hk4,.inr ⟨rfl,.ret,hIx _ _ _ _ _ _ hi3 (abide X _) (fun k h=>.inl h),⟨hx1,hx2⟩,hl4,hd4⟩⟩
   | exit id =>
    obtain ⟨hk3,hi3⟩:=hp
    obtain ⟨hrun,hl4,hd4,hk4⟩:=fin (some (.exit id)) W3 hk3
    exact ⟨_,_,hrun,hk4,.inr ⟨rfl,.exit id,hIx _ _ _ _ _ _ hi3 (abide X _) (fun k h=>.inl h),⟨hx1,hx2⟩,hl4,hd4⟩⟩
   | goto t =>
    obtain ⟨hk3,hi3⟩:=hp
    obtain ⟨hrun,hl4,hd4,hk4⟩:=fin (some (.goto t)) W3 hk3
    exact ⟨_,_,hrun,hk4,.inr ⟨rfl,.goto t,hIx _ _ _ _ _ _ hi3 (abide X _) (fun k h=>.inl h),⟨hx1,hx2⟩,hl4,hd4⟩⟩
   | panic ch=>exact hp.elim
   | outgrown=>exact hp.elim
  ·exact hI _ _ _ _ _ h0 ht1 (fun k h=>by
    rcases h with h | h | h
    ·exact .inl h
    ·exact .inr ⟨by omega,by omega⟩
    ·exact .inr ⟨by omega,by omega⟩)
  ·have:=hX0 _ h;omega
  ·have:=hX0 _ h;omega
  ·rintro e W2 ⟨⟨v,rfl⟩,X,(⟨hi,_,hl,hd⟩ | ⟨pre,hpre,c,hi,_,hl,hd⟩)⟩
   ·have hrun:=run_endLoop (P:=P) hl (by rw [hr];simp)
    rw [hr] at hrun
    exact ⟨none,_,hrun,hdone D _ _ (by omega) (.inr (.inl rfl)) (hI _ _ _ _ _ hi (Turned.putObj _ _ _ (.inr (.inr rfl))) (fun k h=>.inl h)) ((World.putObj_heap_other (by omega)).trans hd)⟩
   ·have hrun:=run_endLoop (P:=P) hl (by rw [hr];simp)
    rw [hr] at hrun
    exact ⟨some c,_,hrun,hstop D _ c pre _ (by omega) (.inr (.inl rfl)) hpre (hIx _ _ _ _ _ _ hi (Turned.putObj _ _ _ (.inr (.inr rfl))) (fun k h=>.inl h)) ((World.putObj_heap_other (by omega)).trans hd)⟩
end Go.Proofs.YtmfjolmfbdbegaaGreatDoor

namespace Go.Proofs.YtmfjolmfbdbegaaGreatDoor
open Go.RowKit Go.Shelf
attribute [local go_sem] Oper.semAt_some
def OfK (kf:Nat) (lk:Array Value) (p:ByteArray→Bool) (B:Nat) (xs:List ByteArray) (w:World):Prop :=
 ∀ x∈xs,∀ U,Kept (fun k=>k < B) w U→Calls Tryz.prog kf (encT x++lk) U fun e w'=>e=.returned (.bool (p x))∧∃ n,w'=U.drewN n
set_option maxRecDepth 100000 in
set_option maxHeartbeats 4000000 in
theorem only_tells (n:Nat) (gf:Nat) (lb:Array Value) (hg:∀ args w,(callFunc gf args).run Tryz.prog w=.ok (.enter gf args) w) (kf:Nat) (lk:Array Value) (hk:∀ args w,(callFunc kf args).run Tryz.prog w=.ok (.enter kf args) w)
  (p:ByteArray→Bool) (xs:List ByteArray) (b1 b2 B:Nat) (w:World) (hb1:Boxed w b1 65 (.func (.func gf) #[] lb)) (hb2:Boxed w b2 23 (.func (.func kf) #[] lk)) (h1:b1 < B) (h2:b2 < B)
  (hin:∀ m,TellsB m Tryz.prog gf lb encT B xs w) (hof:OfK kf lk p B xs w) :
  TellsB n Tryz.prog 229 #[.pointer (some ⟨b1,0,none⟩),.pointer (some ⟨b2,0,none⟩)] encT B (xs.filter p) w:=by
 intro l J Jx W hW hJ hJx hY hR h0
 have hk0:=hY _ _ _ h0
 have hB1:=hk0.boxed hb1 h1
 refine callsIn_of_wp_marks Tryz.func229 rfl trivial ?_ rfl
 simp only [Tryz.ntmps229,List.size_toArray,List.length_cons,List.length_nil,Nat.reduceAdd,Nat.reduceSub,Array.replicate_succ,Array.replicate_zero,List.push_toArray,List.append_toArray,List.nil_append,List.cons_append]
 have hlt1:=hB1.lt
 have hc1:=(hB1.alloc (.cells #[.func (.yield l) #[] #[]] 23)).cell
 gi_wp2
 have bY:=Boxed.new W 23 (.func (.yield l) #[] #[])
 have ht:=Turned.alloc (fun _:Nat=>False) W (.cells #[.func (.yield l) #[] #[]] 23)
 have hV:(W.alloc (.cells #[.func (.yield l) #[] #[]] 23)).heap.size=W.heap.size+1:=by simp
 clear hc1
 generalize W.alloc (.cells #[.func (.yield l) #[] #[]] 23)=V at bY ht hV ⊢
 have hI0:Abides' (fun X (pre:List ByteArray) U=>J (fun k=>X k∨k=W.heap.size) (pre.filter p) U∧Boxed U W.heap.size 23 (.func (.yield l) #[] #[])∧¬ X W.heap.size):=by
  rintro X X' pre A B ⟨hj,hb,hx⟩ hT hsub
  refine ⟨hJ _ _ _ _ _ hj (hT.wider fun k h=>.inl h) ?_,hT.boxed hb hx,fun h=>?_⟩
  ·rintro k (h | h)
   ·rcases hsub k h with h | h
    ·exact .inl (.inl h)
    ·exact .inr h
   ·exact .inl (.inr h)
  ·rcases hsub _ h with h | h
   ·exact hx h
   ·have:=hb.lt;omega
 have hIx0:∀ c,Abides' (fun X (_:List ByteArray) U=>c=Code.ret∧∃ q,q <+: xs.filter p∧Jx (fun k=>X k∨k=W.heap.size) q U):=by
  rintro c X X' pre A B ⟨hc,q,hq,hj⟩ hT hsub
  refine ⟨hc,q,hq,hJx _ _ _ _ _ hj (hT.wider fun k h=>.inl h) ?_⟩
  rintro k (h | h)
  ·rcases hsub k h with h | h
   ·exact .inl (.inl h)
   ·exact .inr h
  ·exact .inl (.inr h)
 refine wpIn_rangeY (gf:=gf) rfl hg (hin (n - 1)) (kept_none (by have:=hW.size;omega)) (fun _ h=>h.elim) (fun _=>rfl)
  _ _ hI0 hIx0 (fun X pre U h=>hY _ _ _ h.1) ⟨hJ _ _ _ _ _ h0 ht ?_,bY,fun h=>h⟩
  (fun x=>{ tmps:=#[.func (.yield l) #[] #[],.pointer (some ⟨b1,0,none⟩),.pointer (some ⟨b2,0,none⟩),.pointer (some ⟨W.heap.size,0,none⟩),.string x,.func (.func gf) #[] lb,.string x,undef,undef,undef,undef,undef,undef,undef,undef,undef],defers:=[] }) ?assign ?body ?done ?stop
 case assign =>
  intro l x U K hK
  gi_wp2
  exact hK
 case body =>
  rintro l' X pre x U ⟨hj,hb,hx⟩ hpre
  have hkU:=hY _ _ _ hj
  have hc2:=(hkU.boxed hb2 h2).cell
  have hxm:x∈xs:=hpre.subset (by simp)
  have HO:Hid (Calls Tryz.prog kf (encT x++lk) U fun e w'=>e=.returned (.bool (p x))∧∃ n,w'=U.drewN n):=hof x hxm _ hkU
  have HJd:Hid (∀ m,J (fun k=>X k∨k=W.heap.size) (pre.filter p) (U.drewN m)):=fun m=>hJ _ _ _ _ _ hj (Turned.drewN _ U m) (fun k h=>.inl h)
  have HK:Hid (∀ m,Kept (fun k=>X k∨k=W.heap.size) U (U.drewN m)):=fun m=>Kept.drewN _ U m
  cases hp:p x with
  | false =>
   have HP:=Lib.hid hp
   have HO':Hid (Calls Tryz.prog kf (encT x++lk) U fun e w'=>e=.returned (.bool false)∧∃ n,w'=U.drewN n):=by
    have:=HO.out
    rw [hp] at this
    exact this
   clear hp hj hkU HO
   gi_wp2
   refine ⟨trivial,(fun h=>(by cases h)),(CallsIn.inRound l' (callsIn_wide.2 HO'.out)).mono ?_⟩
   rintro e w' ⟨rfl,q,rfl⟩
   gi_wp2
   refine ⟨fun _ h=>(by cases h),?_⟩
   gi_wp2
   exact ⟨(HK.out q).sub fun k h=>.inl h,by rw [List.filter_append,List.filter_cons_of_neg (by rw [HP.out];simp)];simpa using HJd.out q,(HK.out q).boxed hb (.inr rfl),hx⟩
  | true =>
   have HP:=Lib.hid hp
   have HO':Hid (Calls Tryz.prog kf (encT x++lk) U fun e w'=>e=.returned (.bool true)∧∃ n,w'=U.drewN n):=by
    have:=HO.out
    rw [hp] at this
    exact this
   have hp2:pre.filter p++[x] <+: xs.filter p:=by
    have:=List.IsPrefix.filter p hpre
    rwa [List.filter_append,List.filter_cons_of_pos hp] at this
   have HPx:=Lib.hid hp2
   clear hp hj hkU HO
   gi_wp2
   refine ⟨trivial,(fun h=>(by cases h)),(CallsIn.inRound l' (callsIn_wide.2 HO'.out)).mono ?_⟩
   rintro e w' ⟨rfl,q,rfl⟩
   have hb4:=(HK.out q).boxed hb (.inr rfl)
   have hcl:=hb4.cell
   obtain ⟨fn,tmps,assign,body,hy,hR1⟩:=hR _ _ x _ (HJd.out q) hp2
   have HR1:=Lib.hid hR1
   clear hR1 hp2
   gi_wp2
   refine ⟨(fun h=>(by cases h)),(RoundIn.within l' HR1.out).mono ?_⟩
   rintro e W3 ⟨hk3,(⟨rfl,hJ3⟩ | ⟨rfl,hJx3⟩)⟩
   ·gi_wp2
    exact ⟨((HK.out q).trans hk3).sub fun k h=>.inl h,by rw [List.filter_append,List.filter_cons_of_pos HP.out];exact hJ3,hk3.boxed hb4 (.inr rfl),hx⟩
   ·gi_wp2
    exact ⟨((HK.out q).trans hk3).sub fun k h=>.inl h,rfl,_,HPx.out,hJx3⟩
 case done =>
  rintro D X U hD hXD ⟨hj,hb,hx⟩ hK
  gi_wp2
  refine ⟨by simp,.inl ⟨_,_,rfl,run_takeDeferred hK,?_⟩⟩
  exact ⟨_,results_none rfl _ _ _,⟨_,rfl⟩,_,.inl (hJ _ _ _ _ _ hj (Turned.putObj _ _ _ (.inl hXD)) (fun k h=>.inl h))⟩
 case stop =>
  rintro D X c pre U hD hXD hpre ⟨rfl,q,hq,hj⟩ hK
  gi_wp2
  refine ⟨by simp,.inl ⟨_,_,rfl,run_takeDeferred hK,?_⟩⟩
  exact ⟨_,results_none rfl _ _ _,⟨_,rfl⟩,_,.inr ⟨q,hq,hJx _ _ _ _ _ hj (Turned.putObj _ _ _ (.inl hXD)) (fun k h=>.inl h)⟩⟩
 ·rintro k (h | h)
  ·exact h.elim
  ·exact .inr ⟨by omega,by omega⟩
end Go.Proofs.YtmfjolmfbdbegaaGreatDoor

namespace Go.Proofs.YtmfjolmfbdbegaaGreatDoor
section
variable {F:Fence} {n:Nat} {P:Program} {ops:Array Oper} {Q:Exit→Act→World→Prop} {md:Region.Mode}
theorem wpIn_inRound {o:Oper} (l:Nat) (hro:F.round=none) (hd:∀ c,o.op≠.defer c) {a:Act} {w:World} {K:Act→World→Prop} (h:o.wpIn F n P a w K Q):o.wpIn (F.inRound l) n P a w K Q:=by
 unfold Oper.wpIn at *
 refine ⟨h.1,?_⟩
 have h2:=h.2
 rw [hro,Oper.semAt_none] at h2
 rw [show (F.inRound l).round=some l from rfl,Oper.semAt_some l a.eval o hd]
 exact h2
theorem wpAnyIn_inRound (l:Nat) (hro:F.round=none) (hd:∀ (i:Nat) o,ops[i]? = some o→∀ c,o.op≠.defer c):∀ (fuel:Nat) (listed:Array Bool) (a:Act) (w:World),wpAnyIn F n P md ops Q fuel listed a w→wpAnyIn (F.inRound l) n P md ops Q fuel listed a w:=by
 intro fuel
 induction fuel with
 | zero=>intro listed a w h;exact h
 | succ fuel ih =>
  intro listed a w h
  refine ⟨h.1,fun i hi=>?_⟩
  have h2:=h.2 i hi
  unfold wpOpIn at *
  cases ho:ops[i]? with
  | none=>rw [ho] at h2;exact ih _ _ _ h2
  | some o =>
   rw [ho] at h2
   simp only at h2 ⊢
   split
   ·next hw=>rw [if_pos hw] at h2;exact wpIn_inRound l hro (hd i o ho) (Oper.wpIn_mono (fun a w=>ih _ a w) h2)
   ·next hw=>rw [if_neg hw] at h2;exact ⟨h2.1,ih _ _ _ h2.2⟩
def noDefer (ops:List Oper):Bool:=ops.all fun o=>match o.op with | .defer _=>false | _=>true
theorem noDefer_get {l:List Oper} (h:noDefer l=true):∀ (i:Nat) o,l.toArray[i]? = some o→∀ c,o.op≠.defer c:=by
 intro i o ho c hc
 have hm:o∈l:=by rw [List.getElem?_toArray] at ho;exact List.mem_of_getElem? ho
 have:=List.all_eq_true.1 h o hm
 rw [hc] at this
 cases this
theorem region_any_round {id:Nat} (l:Nat) {a:Act} {w:World} {lst:List Oper} (hro:F.round=none) (hm:P.follows .mixedOrders=true) (hd:noDefer lst=true)
  (h:wpAnyIn F n P .any lst.toArray Q lst.toArray.size (Array.replicate lst.toArray.size false) a { w with drawn:=w.drawn+1 }):(Code.region id lst.toArray true).wpIn (F.inRound l) n P Q a w :=
 wpIn_region_any hm (wpAnyIn_inRound l hro (noDefer_get hd) _ _ _ _ h)
theorem region_quiet_round {id:Nat} (l:Nat) {a:Act} {w:World} {lst:List Oper} (hro:F.round=none) (hm:P.follows .mixedOrders=true) (hB:Region.lexB .any lst.toArray=true) (hd:noDefer lst=true)
  (h:wpQuietIn F n P lst.toArray (fun w'=>∃ n,w'=w.drewN n) (fun a'=>∀ w',(∃ n,w'=w.drewN n)→Q .normal a' w') lst a):(Code.region id lst.toArray true).wpIn (F.inRound l) n P Q a w:=by
 simp only [Region.lexB,Bool.and_eq_true] at hB
 refine region_any_round l hro hm hd (wpAnyIn_of_quiet (C:=fun w'=>∃ n,w'=w.drewN n) (Q:=fun a'=>∀ w',(∃ n,w'=w.drewN n)→Q .normal a' w') hro (fun _ w' hw' h=>h w' hw') _ _ _ _ ⟨1,rfl⟩ ?_)
 have:=wpAnyQIn_lex (F:=F) (n:=n) (C:=fun w'=>∃ n,w'=w.drewN n) (md:=.any) hB.1 lst 0 (Array.replicate lst.toArray.size false) a (by simp) (by simpa using hB.2) h
 simpa using this
end
end Go.Proofs.YtmfjolmfbdbegaaGreatDoor
