/-
  A law for a range over a function, and the contract that it asks of the function that tells: which texts it tells, one after the other, whatever the round does, as long as the round leaves the blocks of a set X as they lay; what the function itself turns lies in X. No condition.
-/
import Derived.RangeFuncNested
import Derived.RangeFuncBound
import Derived.RangeFuncLeaves
import Derived.Deep.Draws
namespace Go.Proofs.YtmfjolmfbdbegaaGreatDoor
open Go.RowKit
structure Turned (X:Nat→Prop) (W W':World):Prop where
 os:W'.os=W.os
 tape:W'.tape=W.tape
 output:W'.output=W.output
 size:W.heap.size≤W'.heap.size
 block:∀ k,k < W.heap.size→¬ X k→W'.heap[k]? = W.heap[k]?
structure Kept (X:Nat→Prop) (W W':World):Prop where
 size:W.heap.size≤W'.heap.size
 same:∀ k,X k→k < W.heap.size→W'.heap[k]? = W.heap[k]?
theorem Turned.refl (X:Nat→Prop) (W:World):Turned X W W:=⟨rfl,rfl,rfl,Nat.le_refl _,fun _ _ _=>rfl⟩
theorem Turned.trans {X:Nat→Prop} {A B C:World} (h:Turned X A B) (k:Turned X B C):Turned X A C :=
 ⟨k.os.trans h.os,k.tape.trans h.tape,k.output.trans h.output,Nat.le_trans h.size k.size,fun i hi hx=>(k.block i (Nat.lt_of_lt_of_le hi h.size) hx).trans (h.block i hi hx)⟩
theorem Turned.wider {X Y:Nat→Prop} {A B:World} (h:Turned X A B) (hxy:∀ k,X k→Y k):Turned Y A B :=
 ⟨h.os,h.tape,h.output,h.size,fun i hi hy=>h.block i hi (fun hx=>hy (hxy i hx))⟩
theorem Turned.alloc (X:Nat→Prop) (W:World) (o:Obj):Turned X W (W.alloc o):=⟨rfl,rfl,rfl,by simp,fun k hk _=>Below.heap_alloc W o k hk⟩
theorem Turned.drew (X:Nat→Prop) (W:World):Turned X W W.drew:=⟨rfl,rfl,rfl,Nat.le_refl _,fun _ _ _=>rfl⟩
theorem Turned.drewN (X:Nat→Prop) (W:World) (m:Nat):Turned X W (W.drewN m):=⟨rfl,rfl,rfl,Nat.le_refl _,fun _ _ _=>rfl⟩
theorem Turned.putObj {X:Nat→Prop} (W:World) (l:Nat) (o:Obj) (hl:X l):Turned X W (W.putObj l o) :=
 ⟨rfl,rfl,rfl,by simp,fun k _ hk=>World.putObj_heap_other (fun e=>hk (by rw [e];exact hl))⟩
theorem Turned.setCell {X:Nat→Prop} (W:World) (a:Addr) (v:Value) (hl:X a.block):Turned X W (W.setCell a v) :=
 ⟨rfl,rfl,rfl,by simp,fun k _ hk=>Below.heap_setCell _ _ _ _ (fun e=>hk (by rw [e];exact hl))⟩
theorem Turned.below {X:Nat→Prop} {W W':World} {B:Nat} (h:Turned X W W') (hB:B≤W.heap.size) (hx:∀ k,X k→B≤k):Below B W W' :=
 ⟨h.os,h.tape,h.output,h.size,fun k hk=>h.block k (Nat.lt_of_lt_of_le hk hB) (fun e=>by have:=hx k e;omega)⟩
theorem Kept.refl (X:Nat→Prop) (W:World):Kept X W W:=⟨Nat.le_refl _,fun _ _ _=>rfl⟩
theorem Kept.trans {X:Nat→Prop} {A B C:World} (h:Kept X A B) (k:Kept X B C):Kept X A C :=
 ⟨Nat.le_trans h.size k.size,fun i hx hi=>(k.same i hx (Nat.lt_of_lt_of_le hi h.size)).trans (h.same i hx hi)⟩
theorem Kept.sub {X Y:Nat→Prop} {A B:World} (h:Kept Y A B) (hxy:∀ k,X k→Y k):Kept X A B:=⟨h.size,fun k hx=>h.same k (hxy k hx)⟩
theorem Kept.alloc (X:Nat→Prop) (W:World) (o:Obj):Kept X W (W.alloc o):=⟨by simp,fun k _ hk=>Below.heap_alloc W o k hk⟩
theorem Kept.drewN (X:Nat→Prop) (W:World) (m:Nat):Kept X W (W.drewN m):=⟨Nat.le_refl _,fun _ _ _=>rfl⟩
theorem Kept.putObj {X:Nat→Prop} (W:World) (l:Nat) (o:Obj) (hl:¬ X l):Kept X W (W.putObj l o) :=
 ⟨by simp,fun k hk _=>World.putObj_heap_other (fun e=>hl (by rw [← e];exact hk))⟩
theorem Kept.setCell {X:Nat→Prop} (W:World) (a:Addr) (v:Value) (hl:¬ X a.block):Kept X W (W.setCell a v) :=
 ⟨by simp,fun k hk _=>Below.heap_setCell _ _ _ _ (fun e=>hl (by rw [← e];exact hk))⟩
theorem Kept.grown {X:Nat→Prop} {W W':World} {row:Option Nat} (hg:W.grownBy W' row) (hr:∀ r,row=some r→¬ X r):Kept X W W' :=
 ⟨hg.size,fun k hk hlt=>hg.block k hlt (fun e=>hr k e.symm hk)⟩
theorem Kept.heap {X:Nat→Prop} {W W':World} (h:Kept X W W') {k:Nat} {o:Obj} (hk:W.heap[k]? = some o) (hx:X k):W'.heap[k]? = some o :=
 (h.same k hx (Array.getElem?_eq_some_iff.1 hk).1).trans hk
theorem Kept.boxed {X:Nat→Prop} {W W':World} (h:Kept X W W') {B:Nat} {t:TypeId} {v:Value} (hb:Boxed W B t v) (hx:X B):Boxed W' B t v:=h.heap hb hx
theorem Turned.boxed {X:Nat→Prop} {W W':World} (h:Turned X W W') {B:Nat} {t:TypeId} {v:Value} (hb:Boxed W B t v) (hx:¬ X B):Boxed W' B t v:=(h.block B hb.lt hx).trans hb
theorem Turned.ownsRow {X:Nat→Prop} {W W':World} (h:Turned X W W') {base:Nat} {e:TypeId} {size:Nat} {v:Value} {n:Nat} {xs:List Value} (ho:W.ownsRow base e size v n xs) (hx:∀ r,v.ownBlock=some r→¬ X r):W'.ownsRow base e size v n xs:=by
 refine ⟨ho.1,?_⟩
 rcases ho.2 with hn | ⟨g,cap,cur,rfl,hb,hgg,rest⟩
 ·exact .inl hn
 ·refine .inr ⟨g,cap,cur,rfl,hb,?_,rest⟩
  rw [h.block g (Array.getElem?_eq_some_iff.1 hgg).1 (hx g (by simp [Value.ownBlock]))]
  exact hgg
def Abides' {β:Type} (J:(Nat→Prop)→β→World→Prop):Prop :=
 ∀ X X' s W W',J X s W→Turned X W W'→(∀ k,X' k→X k∨(W.heap.size≤k∧k < W'.heap.size))→J X' s W'
def Tells {α:Type} (n:Nat) (P:Program) (g:Nat) (lb:Array Value) (encs:α→Array Value) (X0:Nat→Prop) (xs:List α) (w:World):Prop :=
 ∀ (l:Nat) (J Jx:(Nat→Prop)→List α→World→Prop) (W:World),Kept X0 w W→Abides' J→Abides' Jx →
  (∀ X pre x W1,J X pre W1→pre++[x] <+: xs→YieldAt Fence.wide (n - 1) P l (encs x) W1 fun e W'=>Kept X W1 W' ∧
   ((e=.returned (.bool true)∧J X (pre++[x]) W')∨(e=.returned (.bool false)∧Jx X (pre++[x]) W'))) →
  J X0 [] W →
  CallsIn Fence.wide n P g (#[.func (.yield l) #[] #[]]++lb) W fun e W'=>(∃ v,e=.returned v)∧∃ X,(J X xs W'∨∃ pre,pre <+: xs∧Jx X pre W')
theorem RoundIn.depth {m m':Nat} {P:Program} {l:Nat} {f:FuncId} {tmps:Array Value} {assign body:Code} {w:World} {R:Ending→World→Prop}
  (h:RoundIn Fence.wide m P l f tmps assign body w R):RoundIn Fence.wide m' P l f tmps assign body w R:=⟨h.1,fun c cs _=>h.2 c cs (room_wide _)⟩
theorem RoundIn.within {m m':Nat} {P:Program} {l:Nat} {f:FuncId} {tmps:Array Value} {assign body:Code} {w:World} {R:Ending→World→Prop} (l':Nat)
  (h:RoundIn Fence.wide m P l f tmps assign body w R):RoundIn (Fence.wide.inRound l') m' P l f tmps assign body w R:=(RoundIn.depth h:RoundIn Fence.wide m' P l f tmps assign body w R)
def roundOut {α:Type} (X:Nat→Prop) (I:(Nat→Prop)→List α→World→Prop) (Ix:Code→(Nat→Prop)→List α→World→Prop) (xs:List α) (W:World):Exit→Act→World→Prop
 | .normal,_,W'=>Kept X W W'∧I X xs W'
 | .ret,_,W'=>Kept X W W'∧Ix .ret X xs W'
 | .exit id,_,W'=>Kept X W W'∧Ix (.exit id) X xs W'
 | .goto t,_,W'=>Kept X W W'∧Ix (.goto t) X xs W'
 | .panic _,_,_=>False
 | .outgrown,_,_=>False
variable {n:Nat} {P:Program}
theorem wpIn_range {α:Type} {g:Operand} {ps:Array Tmp} {assign body:Code} {Q:Exit→Act→World→Prop} {a:Act} {w:World}
  {gf:Nat} {lb:Array Value} (hg:a.eval g=.func (.func gf) #[] lb) (eg:∀ args w,(callFunc gf args).run P w=.ok (.enter gf args) w)
  {encs:α→Array Value} {X0:Nat→Prop} {xs:List α} {w0:World} (hseq:Tells (n - 1) P gf lb encs X0 xs w0) (hw0:Kept X0 w0 w) (hX0:∀ k,X0 k→k < w.heap.size) (hps:∀ x,(encs x).size=ps.size)
  (I:(Nat→Prop)→List α→World→Prop) (Ix:Code→(Nat→Prop)→List α→World→Prop) (hI:Abides' I) (hIx:∀ c,Abides' (Ix c)) (h0:I X0 [] w) (a₁:α→Act)
  (hassign:∀ (l:Nat) (x:α) (W:World) (K:Act→World→Prop),K (a₁ x) W →
   assign.wpIn (Fence.wide.inRound l) (n - 1 - 1) P (Exit.then K (fun _ _ _=>False)) { tmps:=(ps.zip (encs x)).foldl (fun t (p,v)=>t.setIfInBounds p v) a.tmps,defers:=[] } W)
  (hbody:∀ (l:Nat) (X:Nat→Prop) (pre:List α) (x:α) (W:World),I X pre W→pre++[x] <+: xs→body.wpIn (Fence.wide.inRound l) (n - 1 - 1) P (roundOut X I Ix (pre++[x]) W) (a₁ x) W)
  (hdone:∀ (D:Nat) (X:Nat→Prop) (W:World),w.heap.size≤D→X D→I X xs W→W.heap[D]? = some (.deferred (some []))→Q .normal { a with defers:={ target:=.collected D,args:=#[] } :: a.defers } W)
  (hstop:∀ (D:Nat) (X:Nat→Prop) (c:Code) (pre:List α) (W:World),w.heap.size≤D→X D→pre <+: xs→Ix c X pre W→W.heap[D]? = some (.deferred (some []))→c.wpIn Fence.wide n P Q { a with defers:={ target:=.collected D,args:=#[] } :: a.defers } W) :
  (Code.rangeFunc g ps assign body).wpIn Fence.wide n P Q a w:=by
 refine wpIn_rangeFunc ?_
 intro fn hfn
 rw [show Fence.wide.round=none from rfl]
 obtain ⟨r,hr⟩:∃ r:LoopState→Option Code→Loop,r=fun st pe=>{ state:=st,pending:=pe,fn,tmps:=a.tmps,params:=ps,assign,body,defers:=w.heap.size }:=⟨_,rfl⟩
 obtain ⟨D,hD⟩:∃ D,D=w.heap.size:=⟨_,rfl⟩
 obtain ⟨W1,hW1⟩:∃ W1,(w.alloc (.deferred (some []))).alloc (.loop (r .ready none))=W1:=⟨_,rfl⟩
 have hL1:W1.heap[D+1]? = some (.loop (r .ready none)):=by
  rw [← hW1,hD];have:=World.alloc_heap_new (w.alloc (.deferred (some []))) (.loop (r .ready none));rwa [World.size_alloc] at this
 have hK1:W1.heap[D]? = some (.deferred (some [])):=by
  rw [← hW1,hD];exact (Below.heap_alloc _ _ _ (by simp)).trans (World.alloc_heap_new w _)
 have hs1:W1.heap.size=D+2:=by rw [← hW1,hD];simp
 have ht1:Turned X0 w W1:=by rw [← hW1];exact (Turned.alloc X0 w _).trans (Turned.alloc X0 _ _)
 have hk1:Kept X0 w0 W1:=by rw [← hW1];exact hw0.trans ((Kept.alloc X0 w _).trans (Kept.alloc X0 _ _))
 refine ⟨D+1,[{ target:=.collected D,args:=#[] }],W1,{ target:=.fn (.func gf) lb,args:=#[.func (.yield (D+1)) #[] #[]] },W1,gf,
  #[.func (.yield (D+1)) #[] #[]]++lb,W1,?_,?_,fun _ _=>trivial,?_,fun h=>?_,?_⟩
 ·rw [← hW1,hr,hD];exact run_enterLoop_outer _ _ _ _ _
 ·simp only [resolve,hg]
  simp [go_sem]
 ·simp [invoke,go_sem,eg]
 ·cases h
 ·refine (hseq (D+1)
   (fun X pre W=>I (fun k=>X k∨k=D∨k=D+1) pre W∧(¬ X D∧¬ X (D+1))∧W.heap[D+1]? = some (.loop (r .ready none))∧W.heap[D]? = some (.deferred (some [])))
   (fun X pre W=>∃ c,Ix c (fun k=>X k∨k=D∨k=D+1) pre W∧(¬ X D∧¬ X (D+1))∧W.heap[D+1]? = some (.loop (r .done (some c)))∧W.heap[D]? = some (.deferred (some [])))
   W1 hk1 ?_ ?_ ?_ ⟨?_,⟨fun h=>?_,fun h=>?_⟩,hL1,hK1⟩).mono ?_
  ·rintro X X' s A B ⟨hi,⟨hx1,hx2⟩,hl,hd⟩ ht hx
   have hdl:=(Array.getElem?_eq_some_iff.1 hd).1
   have hll:=(Array.getElem?_eq_some_iff.1 hl).1
   refine ⟨hI _ _ _ _ _ hi (ht.wider fun k h=>.inl h) ?_,⟨fun h=>?_,fun h=>?_⟩,(ht.block _ hll hx2).trans hl,(ht.block _ hdl hx1).trans hd⟩
   ·rintro k (h | h | h)
    ·rcases hx k h with h | h
     ·exact .inl (.inl h)
     ·exact .inr h
    ·exact .inl (.inr (.inl h))
    ·exact .inl (.inr (.inr h))
   ·rcases hx _ h with h | h
    ·exact hx1 h
    ·omega
   ·rcases hx _ h with h | h
    ·exact hx2 h
    ·omega
  ·rintro X X' s A B ⟨c,hi,⟨hx1,hx2⟩,hl,hd⟩ ht hx
   have hdl:=(Array.getElem?_eq_some_iff.1 hd).1
   have hll:=(Array.getElem?_eq_some_iff.1 hl).1
   refine ⟨c,hIx _ _ _ _ _ _ hi (ht.wider fun k h=>.inl h) ?_,⟨fun h=>?_,fun h=>?_⟩,(ht.block _ hll hx2).trans hl,(ht.block _ hdl hx1).trans hd⟩
   ·rintro k (h | h | h)
    ·rcases hx k h with h | h
     ·exact .inl (.inl h)
     ·exact .inr h
    ·exact .inl (.inr (.inl h))
    ·exact .inl (.inr (.inr h))
   ·rcases hx _ h with h | h
    ·exact hx1 h
    ·omega
   ·rcases hx _ h with h | h
    ·exact hx2 h
    ·omega
  ·rintro X pre x W ⟨hi,⟨hx1,hx2⟩,hl,hd⟩ hpre
   have hlt:D+1 < W.heap.size:=(Array.getElem?_eq_some_iff.1 hl).1
   have hy:=run_yield (P:=P) (args:=encs x) hl (by rw [hr];exact hps x)
   rw [hr] at hy
   refine ⟨fn,_,assign,body,hy,roundIn_of_wpIn hfn (hassign _ x W _ ?_)⟩
   clear hy
   refine ⟨_,run_beginRound hl (by rw [hr]),?_⟩
   have hl2:(W.putObj (D+1) (.loop { r .ready none with state:=.busy })).heap[D+1]? = some (.loop { r .ready none with state:=.busy }):=World.putObj_heap_same hlt
   have hd2:(W.putObj (D+1) (.loop { r .ready none with state:=.busy })).heap[D]? = some (.deferred (some [])):=(World.putObj_heap_other (by omega)).trans hd
   have hk2:Kept X W (W.putObj (D+1) (.loop { r .ready none with state:=.busy })):=Kept.putObj _ _ _ hx2
   have hi2:=hI _ _ _ _ _ hi (Turned.putObj W (D+1) (.loop { r .ready none with state:=.busy }) (.inr (.inr rfl))) (fun k h=>.inl h)
   generalize hWb:W.putObj (D+1) (.loop { r .ready none with state:=.busy })=Wb at hl2 hd2 hk2 hi2 ⊢
   refine wpIn_mono (hbody _ _ pre x _ hi2 hpre) ?_
   have fin:∀ (jump:Option Code) (W3:World),Kept (fun k=>X k∨k=D∨k=D+1) Wb W3 →
     (Instr.endRound (D+1) jump).run P W3=.ok (.bool jump.isNone) (W3.putObj (D+1) (.loop (r (if jump.isNone then .ready else .done) jump))) ∧
     (W3.putObj (D+1) (.loop (r (if jump.isNone then .ready else .done) jump))).heap[D+1]? = some (.loop (r (if jump.isNone then .ready else .done) jump)) ∧
     (W3.putObj (D+1) (.loop (r (if jump.isNone then .ready else .done) jump))).heap[D]? = some (.deferred (some [])) ∧
     Kept X W (W3.putObj (D+1) (.loop (r (if jump.isNone then .ready else .done) jump))):=fun jump W3 hk3=>by
    have hl3:=hk3.heap hl2 (.inr (.inr rfl))
    have hd3:=hk3.heap hd2 (.inr (.inl rfl))
    have:=run_endRound (P:=P) jump hl3
    rw [hr] at this ⊢
    exact ⟨this,World.putObj_heap_same (Array.getElem?_eq_some_iff.1 hl3).1,(World.putObj_heap_other (by omega)).trans hd3,(hk2.trans (hk3.sub fun k h=>.inl h)).trans (Kept.putObj _ _ _ hx2)⟩
   rintro e a3 W3 hp
   have abide:=fun (X:Nat→Prop) (o:Obj)=>Turned.putObj (X:=fun k=>X k∨k=D∨k=D+1) W3 (D+1) o (.inr (.inr rfl))
   cases e with
   | normal =>
    obtain ⟨hk3,hi3⟩:=hp
    obtain ⟨hrun,hl4,hd4,hk4⟩:=fin none W3 hk3
    exact ⟨_,_,hrun,hk4,.inl ⟨rfl,hI _ _ _ _ _ hi3 (abide X _) (fun k h=>.inl h),⟨hx1,hx2⟩,hl4,hd4⟩⟩
   | ret =>
    obtain ⟨hk3,hi3⟩:=hp
    obtain ⟨hrun,hl4,hd4,hk4⟩:=fin (some .ret) W3 hk3
    exact ⟨_,_,hrun,hk4,.inr ⟨rfl,.ret,hIx _ _ _ _ _ _ hi3 (abide X _) (fun k h=>.inl h),⟨hx1,hx2⟩,hl4,hd4⟩⟩
   | exit id =>
    obtain ⟨hk3,hi3⟩:=hp
    obtain ⟨hrun,hl4,hd4,hk4⟩:=fin (some (.exit id)) W3 hk3
    exact ⟨_,_,hrun,hk4,.inr ⟨rfl,.exit id,hIx _ _ _ _ _ _ hi3 (abide X _) (fun k h=>.inl h),⟨hx1,hx2⟩,hl4,hd4⟩⟩
   | goto t =>
    obtain ⟨hk3,hi3⟩:=hp
    obtain ⟨hrun,hl4,hd4,hk4⟩:=fin (some (.goto t)) W3 hk3
    exact ⟨_,_,hrun,hk4,.inr ⟨rfl,.goto t,hIx _ _ _ _ _ _ hi3 (abide X _) (fun k h=>.inl h),⟨hx1,hx2⟩,hl4,hd4⟩⟩
   | panic ch=>exact hp.elim
   | outgrown=>exact hp.elim
  ·exact hI _ _ _ _ _ h0 ht1 (fun k h=>by
    rcases h with h | h | h
    ·exact .inl h
    ·exact .inr ⟨by omega,by omega⟩
    ·exact .inr ⟨by omega,by omega⟩)
  ·have:=hX0 _ h;omega
  ·have:=hX0 _ h;omega
  ·rintro e W2 ⟨⟨v,rfl⟩,X,(⟨hi,_,hl,hd⟩ | ⟨pre,hpre,c,hi,_,hl,hd⟩)⟩
   ·have hrun:=run_endLoop (P:=P) hl (by rw [hr];simp)
    rw [hr] at hrun
    exact ⟨none,_,hrun,hdone D _ _ (by omega) (.inr (.inl rfl)) (hI _ _ _ _ _ hi (Turned.putObj _ _ _ (.inr (.inr rfl))) (fun k h=>.inl h)) ((World.putObj_heap_other (by omega)).trans hd)⟩
   ·have hrun:=run_endLoop (P:=P) hl (by rw [hr];simp)
    rw [hr] at hrun
    exact ⟨some c,_,hrun,hstop D _ c pre _ (by omega) (.inr (.inl rfl)) hpre (hIx _ _ _ _ _ _ hi (Turned.putObj _ _ _ (.inr (.inr rfl))) (fun k h=>.inl h)) ((World.putObj_heap_other (by omega)).trans hd)⟩
end Go.Proofs.YtmfjolmfbdbegaaGreatDoor
