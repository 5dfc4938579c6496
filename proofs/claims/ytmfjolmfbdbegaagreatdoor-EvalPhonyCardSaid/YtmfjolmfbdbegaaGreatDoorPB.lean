/-
  Things of the call's own, each in blocks of its own: what is done to some leaves the others. No program. No condition.
  Rows of the call's own, among other things of its own: made longer, shorter, set. No condition but that a row stays below 2^40 elements.
  Rows of chapter 9's nodes of the call's own, each node with its recipe, and what is open. No condition.
  Lines and nodes of chapter 9, as they lie in memory; what a call of Parse, of Cut and of Name must tell. No condition.
-/
import Derived.Laws.AppendOwnNone
import Derived.Test.YtmfjolmfbdbegaaGreatDoorEB
import Derived.Test.YtmfjolmfbdbegaaGreatDoorPA
import Derived.Test.YtmfjolmfbdbegaaGreatDoorEA
namespace Go.Proofs.YtmfjolmfbdbegaaGreatDoor
open Go.RowKit
theorem Turned.cells {X:Nat→Prop} {w w':World} (h:Turned X w w') {b:Nat} {cs:Array Value} {t:TypeId} {fz:Nat × Nat} (hb:w.heap[b]? = some (.cells cs t fz)) (hx:¬ X b):w'.heap[b]? = some (.cells cs t fz) :=
 (h.block b (Array.getElem?_eq_some_iff.1 hb).1 hx).trans hb
structure Own where
 holds:World→(Nat→Prop)→Prop
 kept:∀ {w w':World} {X Z:Nat→Prop},holds w X→Turned Z w w'→(∀ n,X n→¬ Z n)→holds w' X
 lt:∀ {w:World} {X:Nat→Prop},holds w X→∀ n,X n→n < w.heap.size
def Os (w:World):List Own→(Nat→Prop)→Prop
 | [],_=>True
 | e :: l,Z=>∃ X Y,e.holds w X∧Os w l Y∧(∀ n,X n→¬ Y n)∧∀ n,X n∨Y n→Z n
theorem Os.wider {w:World}:∀ {l:List Own} {Z Z':Nat→Prop},Os w l Z→(∀ n,Z n→Z' n)→Os w l Z'
 | [],_,_,_,_=>trivial
 | _ :: _,_,_,⟨X,Y,h1,h2,h3,h4⟩,hd=>⟨X,Y,h1,h2,h3,fun n hn=>hd n (h4 n hn)⟩
theorem Os.kept {w w':World} {Q:Nat→Prop} (hT:Turned Q w w'):∀ {l:List Own} {Z:Nat→Prop},Os w l Z→(∀ n,Z n→¬ Q n)→Os w' l Z
 | [],_,_,_=>trivial
 | e :: _,_,⟨X,Y,h1,h2,h3,h4⟩,hd=>⟨X,Y,e.kept h1 hT (fun n hn=>hd n (h4 n (.inl hn))),Os.kept hT h2 (fun n hn=>hd n (h4 n (.inr hn))),h3,h4⟩
theorem Os.tight {w:World}:∀ {l:List Own} {Z:Nat→Prop},Os w l Z→Os w l (fun n=>Z n∧n < w.heap.size)
 | [],_,_=>trivial
 | e :: _,_,⟨X,Y,h1,h2,h3,h4⟩=>⟨X,_,h1,Os.tight h2,fun n hx hy=>h3 n hx hy.1,fun n hn=>by
  rcases hn with hn | hn
  ·exact ⟨h4 n (.inl hn),e.lt h1 n hn⟩
  ·exact ⟨h4 n (.inr hn.1),hn.2⟩⟩
theorem os_append {w:World} {l':List Own}:∀ {l:List Own} {Z:Nat→Prop},Os w (l++l') Z↔∃ X Y,Os w l X∧Os w l' Y∧(∀ n,X n→¬ Y n)∧∀ n,X n∨Y n→Z n
 | [],Z=>⟨fun h=>⟨fun _=>False,Z,trivial,h,fun _ h=>h.elim,fun _ h=>h.elim False.elim id⟩,fun ⟨_,_,_,h,_,hz⟩=>h.wider fun n hn=>hz n (.inr hn)⟩
 | e :: l,Z=>by
  constructor
  ·rintro ⟨X,Y,h1,h2,h3,h4⟩
   obtain ⟨X1,Y1,k1,k2,k3,k4⟩:=os_append.1 h2
   refine ⟨fun n=>X n∨X1 n,Y1,⟨X,X1,h1,k1,fun n hx hx1=>h3 n hx (k4 n (.inl hx1)),fun n hn=>hn⟩,k2,fun n hn hy=>?_,fun n hn=>?_⟩
   ·rcases hn with hn | hn
    ·exact h3 n hn (k4 n (.inr hy))
    ·exact k3 n hn hy
   ·rcases hn with (hn | hn) | hn
    ·exact h4 n (.inl hn)
    ·exact h4 n (.inr (k4 n (.inl hn)))
    ·exact h4 n (.inr (k4 n (.inr hn)))
  ·rintro ⟨X,Y,⟨X1,Y1,h1,h2,h3,h4⟩,k2,k3,k4⟩
   refine ⟨X1,fun n=>Y1 n∨Y n,h1,os_append.2 ⟨Y1,Y,h2,k2,fun n hn hy=>k3 n (h4 n (.inr hn)) hy,fun n hn=>hn⟩,fun n hn hy=>?_,fun n hn=>?_⟩
   ·rcases hy with hy | hy
    ·exact h3 n hn hy
    ·exact k3 n (h4 n (.inl hn)) hy
   ·rcases hn with hn | hn | hn
    ·exact k4 n (.inl (h4 n (.inl hn)))
    ·exact k4 n (.inl (h4 n (.inr hn)))
    ·exact k4 n (.inr hn)
theorem Os.swap {w:World} {e f:Own} {l:List Own} {Z:Nat→Prop} (h:Os w (e :: f :: l) Z):Os w (f :: e :: l) Z:=by
 obtain ⟨X,Y,h1,⟨X2,Y2,k1,k2,k3,k4⟩,h3,h4⟩:=h
 refine ⟨X2,fun n=>X n∨Y2 n,k1,⟨X,Y2,h1,k2,fun n hx hy=>h3 n hx (k4 n (.inr hy)),fun n hn=>hn⟩,fun n hx hy=>?_,fun n hn=>?_⟩
 ·rcases hy with hy | hy
  ·exact h3 n hy (k4 n (.inl hx))
  ·exact k3 n hx hy
 ·rcases hn with hn | hn | hn
  ·exact h4 n (.inr (k4 n (.inl hn)))
  ·exact h4 n (.inl hn)
  ·exact h4 n (.inr (k4 n (.inr hn)))
theorem Os.perm {w:World} {l l':List Own} (hp:l.Perm l'):∀ {Z:Nat→Prop},Os w l Z→Os w l' Z:=by
 induction hp with
 | nil=>exact fun h=>h
 | cons e _ ih=>exact fun ⟨X,Y,h1,h2,h3⟩=>⟨X,Y,h1,ih h2,h3⟩
 | swap e f l=>exact fun h=>h.swap
 | trans _ _ ih1 ih2=>exact fun h=>ih2 (ih1 h)
theorem Os.get {w:World} {e:Own}:∀ {l:List Own} {Z:Nat→Prop},Os w l Z→e∈l→∃ X,e.holds w X∧∀ n,X n→Z n
 | f :: l,Z,⟨X,Y,h1,h2,h3,h4⟩,hm=>by
  rcases List.mem_cons.1 hm with rfl | hm
  ·exact ⟨X,h1,fun n hn=>h4 n (.inl hn)⟩
  ·obtain ⟨X1,k1,k2⟩:=Os.get h2 hm
   exact ⟨X1,k1,fun n hn=>h4 n (.inr (k2 n hn))⟩
def In (w0:World) (l:List Own) (w:World):Prop:=∃ Z,Os w l Z∧(∀ n,Z n→w0.heap.size≤n)∧Below w0.heap.size w0 w
def Turn (w:World) (X:Nat→Prop) (l:List Own) (w':World):Prop:=∃ X',Os w' l X'∧Turned X w w'∧∀ n,X' n→X n∨w.heap.size≤n
section
variable {w0 w w':World} {l l' l1 l2:List Own} {e e':Own}
theorem In.nil (h:Below w0.heap.size w0 w):In w0 [] w:=⟨fun _=>False,trivial,fun _ h=>h.elim,h⟩
theorem In.back (h:In w0 l w):Below w0.heap.size w0 w:=h.choose_spec.2.2
theorem In.perm (h:In w0 l w) (hp:l.Perm l'):In w0 l' w:=by
 obtain ⟨Z,h1,h2⟩:=h
 exact ⟨Z,h1.perm hp,h2⟩
theorem In.swap {f:Own} (h:In w0 (e :: f :: l) w):In w0 (f :: e :: l) w:=h.perm (.swap _ _ _)
theorem In.third {f g:Own} (h:In w0 (e :: f :: g :: l) w):In w0 (g :: e :: f :: l) w:=h.perm (((List.Perm.swap g f l).cons e).trans (.swap _ _ _))
theorem In.get (h:In w0 l w) (hm:e∈l):∃ X,e.holds w X∧∀ n,X n→w0.heap.size≤n:=by
 obtain ⟨Z,h1,h2,_⟩:=h
 obtain ⟨X,k1,k2⟩:=h1.get hm
 exact ⟨X,k1,fun n hn=>h2 n (k2 n hn)⟩
theorem In.tail (h:In w0 (e :: l) w):In w0 l w:=by
 obtain ⟨Z,⟨X,Y,h1,h2,h3,h4⟩,h5,h6⟩:=h
 exact ⟨Y,h2,fun n hn=>h5 n (h4 n (.inr hn)),h6⟩
theorem In.drop (h:In w0 (l1++l) w):In w0 l w:=by
 induction l1 with
 | nil=>exact h
 | cons e r ih=>exact ih h.tail
theorem In.step (h:In w0 (l1++l) w) (hc:∀ X,Os w l1 X→Turn w X l2 w'):In w0 (l2++l) w':=by
 obtain ⟨Z,h1,h2,h3⟩:=h
 obtain ⟨X,Y,k1,k2,k3,k4⟩:=os_append.1 h1
 obtain ⟨X',q1,q2,q3⟩:=hc X k1
 have hs:=q2.size
 refine ⟨fun n=>X' n∨(Y n∧n < w.heap.size),os_append.2 ⟨X',_,q1,k2.tight.kept q2 (fun n hn hx=>k3 n hx hn.1),fun n hx hy=>?_,fun n hn=>hn⟩,fun n hn=>?_,h3.trans (q2.below h3.size fun n hn=>h2 n (k4 n (.inl hn)))⟩
 ·rcases q3 n hx with h | h
  ·exact k3 n h hy.1
  ·have:=hy.2;omega
 ·rcases hn with hn | hn
  ·rcases q3 n hn with h | h
   ·exact h2 n (k4 n (.inl h))
   ·have:=h3.size;omega
  ·exact h2 n (k4 n (.inr hn.1))
theorem In.below (h:In w0 l w) (hb:Below w.heap.size w w'):In w0 l w' :=
 In.step (l1:=[]) (l2:=[]) h fun _ _=>⟨fun _=>False,trivial,(turned_below hb).wider fun _ h=>h.elim,fun _ h=>h.elim⟩
theorem In.add (h:In w0 l w) (hb:Below w.heap.size w w') {X:Nat→Prop} (he:e.holds w' X) (hX:∀ n,X n→w.heap.size≤n):In w0 (e :: l) w' :=
 In.step (l1:=[]) (l2:=[e]) h fun _ _=>⟨X,⟨X,fun _=>False,he,trivial,fun _ _ h=>h,fun _ h=>h.elim id False.elim⟩,(turned_below hb).wider fun _ h=>h.elim,fun n hn=>.inr (hX n hn)⟩
theorem In.one (h:In w0 (e :: l) w) (hc:∀ X,e.holds w X→∃ X',e'.holds w' X'∧Turned X w w'∧∀ n,X' n→X n∨w.heap.size≤n):In w0 (e' :: l) w' :=
 In.step (l1:=[e]) (l2:=[e']) h fun X ⟨X1,_,k1,_,_,k4⟩=>by
  obtain ⟨X',q1,q2,q3⟩:=hc X1 k1
  exact ⟨X',⟨X',fun _=>False,q1,trivial,fun _ _ h=>h,fun _ h=>h.elim id False.elim⟩,q2.wider fun n hn=>k4 n (.inl hn),fun n hn=>(q3 n hn).imp (fun h=>k4 n (.inl h)) id⟩
theorem os_one {X:Nat→Prop} (h:Os w [e] X):∃ X1,e.holds w X1∧∀ n,X1 n→X n:=by
 obtain ⟨X1,_,k1,_,_,k4⟩:=h
 exact ⟨X1,k1,fun n hn=>k4 n (.inl hn)⟩
theorem os_mk {X:Nat→Prop} (h:e.holds w X):Os w [e] X:=⟨X,fun _=>False,h,trivial,fun _ _ h=>h,fun _ h=>h.elim id False.elim⟩
theorem In.call {P:Program} {f:FuncId} {args:Array Value} {Q:Ending→List Own→Prop} (h:In w0 (l1++l) w)
  (hc:∀ X,Os w l1 X→Calls P f args w fun r w'=>∃ l2,Q r l2∧Turn w X l2 w'):Calls P f args w fun r w'=>∃ l2,Q r l2∧In w0 (l2++l) w':=by
 obtain ⟨Z,h1,h2,h3⟩:=h
 obtain ⟨X,Y,k1,k2,k3,k4⟩:=os_append.1 h1
 refine (hc X k1).mono ?_
 rintro r w' ⟨l2,hQ,hT⟩
 refine ⟨l2,hQ,?_⟩
 obtain ⟨X',q1,q2,q3⟩:=hT
 have hs:=q2.size
 refine ⟨fun n=>X' n∨(Y n∧n < w.heap.size),os_append.2 ⟨X',_,q1,k2.tight.kept q2 (fun n hn hx=>k3 n hx hn.1),fun n hx hy=>?_,fun n hn=>hn⟩,fun n hn=>?_,h3.trans (q2.below h3.size fun n hn=>h2 n (k4 n (.inl hn)))⟩
 ·rcases q3 n hx with h | h
  ·exact k3 n h hy.1
  ·have:=hy.2;omega
 ·rcases hn with hn | hn
  ·rcases q3 n hn with h | h
   ·exact h2 n (k4 n (.inl h))
   ·have:=h3.size;omega
  ·exact h2 n (k4 n (.inr hn.1))
theorem In.call1 {P:Program} {f:FuncId} {args:Array Value} {v:Value} (h:In w0 (e :: l) w)
  (hc:∀ X,e.holds w X→Calls P f args w fun r w'=>r=.returned v∧∃ X',e'.holds w' X'∧Turned X w w'∧∀ n,X' n→X n∨w.heap.size≤n):Calls P f args w fun r w'=>r=.returned v∧In w0 (e' :: l) w':=by
 refine (In.call (l1:=[e]) (l:=l) (Q:=fun r l2=>r=.returned v∧l2=[e']) h fun X hX=>?_).mono fun r w' ⟨l2,⟨h1,h2⟩,h3⟩=>⟨h1,by rw [h2] at h3;exact h3⟩
 obtain ⟨X1,k1,k2⟩:=os_one hX
 refine (hc X1 k1).mono ?_
 rintro r w' ⟨hr,X',q1,q2,q3⟩
 exact ⟨[e'],⟨hr,rfl⟩,X',os_mk q1,q2.wider k2,fun n hn=>(q3 n hn).imp (k2 n) id⟩
end
def oCells (b:Nat) (cs:List Value) (t:TypeId):Own where
 holds w X:=w.heap[b]? = some (.cells cs.toArray t (0,0))∧∀ n,X n↔n=b
 kept h hT hd:=⟨hT.cells h.1 (fun hz=>hd b ((h.2 b).2 rfl) hz),h.2⟩
 lt h n hn:=by rw [(h.2 n).1 hn];exact (Array.getElem?_eq_some_iff.1 h.1).1
theorem In.cells {w0 w:World} {l:List Own} {b:Nat} {cs:List Value} {t:TypeId} (h:In w0 l w) (hm:oCells b cs t∈l):w.heap[b]? = some (.cells cs.toArray t (0,0)):=by
 obtain ⟨X,h1,_⟩:=h.get hm
 exact h1.1
theorem In.alloc {w0 w:World} {l:List Own} (h:In w0 l w) (cs:List Value) (t:TypeId):In w0 (oCells w.heap.size cs t :: l) (w.alloc (.cells cs.toArray t)) :=
 In.add (X:=fun n=>n=w.heap.size) h ((Below.refl _ w).alloc (Nat.le_refl _) _) ⟨World.alloc_heap_new w _,fun _=>Iff.rfl⟩ (fun n hn=>by omega)
theorem set_cells {w:World} {b i:Nat} {cs:List Value} {t:TypeId} (h:w.heap[b]? = some (.cells cs.toArray t (0,0))) (v:Value):(w.setCell ⟨b,i,none⟩ v).heap[b]? = some (.cells (cs.set i v).toArray t (0,0)):=by
 simp [World.setCell,Array.getElem?_modify,h]
theorem In.set {w0 w:World} {l:List Own} {b:Nat} {cs:List Value} {t:TypeId} (h:In w0 (oCells b cs t :: l) w) (i:Nat) (v:Value):In w0 (oCells b (cs.set i v) t :: l) (w.setCell ⟨b,i,none⟩ v) :=
 h.one fun X hX=>⟨X,⟨set_cells hX.1 v,hX.2⟩,Turned.setCell (X:=X) w ⟨b,i,none⟩ v ((hX.2 b).2 rfl),fun _=>.inl⟩
end Go.Proofs.YtmfjolmfbdbegaaGreatDoor

namespace Go.Proofs.YtmfjolmfbdbegaaGreatDoor
open Go.RowKit Go.Shelf
structure RowW (t E:TypeId) (k:Nat):Prop where
 under:Tryz.prog.underlying t=some (.slice E)
 pos:0 < k
 info:∃ i z bytes,Tryz.prog.info? E=some i∧i.zero=some z∧i.size=k∧i.bytes=bytes∧z.cells.size=k∧bytes≤256
theorem rowW_of {t E:TypeId} {k:Nat} (z:Value) (bytes:Nat) (hu:Tryz.prog.underlying t=some (.slice E)) (hi:(Tryz.prog.info? E).map (fun i=>(i.zero,i.size,i.bytes))=some (some z,k,bytes)) (hk:0 < k) (hz:z.cells.size=k) (hb:bytes≤256):RowW t E k:=by
 obtain ⟨i,h1,h2,h3,h4⟩:=info_parts hi
 exact ⟨hu,hk,i,z,bytes,h1,h2,h3,h4,hz,hb⟩
theorem RowT.wide {t E:TypeId} {k:Nat} (h:RowT t E k):RowW t E k:=by
 obtain ⟨i,z,bytes,h1,h2,h3,h4,h5,h6⟩:=h.info
 exact ⟨h.under,h.pos,i,z,bytes,h1,h2,h3,h4,h5,by omega⟩
theorem RowR.pushW {α:Type} {t E:TypeId} {k:Nat} {enc:α→List Value} {w:World} {P:Nat→Prop} {v:Value} {l:List α} (hT:RowW t E k) (h:RowR E k enc w P v l) (x:α) (hk:(enc x).length=k) (h1:∀ u∈enc x,u.oneCell'=true) (nb c:Nat) (fz:Nat × Nat)
  (hnb:w.heap[nb]? = some (.cells (enc x).toArray E fz)) (hl:l.length < 1073741824) (ty:TypeId) :
  ∃ v' w',(Builtin.append_ #[t,t] ty #[v,.slice (some ⟨nb,0,none⟩) 1 c]).run Tryz.prog w=.ok v' w'∧RowR E k enc w' (fun n=>P n∨n=w.heap.size) v' (l++[x])∧Turned P w w'∧∃ o c',v'=.slice o (l.length+1) c':=by
 obtain ⟨i,z,bytes,hi,hz,hs,hby,hzs,hb64⟩:=hT.info
 obtain ⟨v',w',hr,h2,h3,h4,h5⟩:=run_append_own_at (P:=Tryz.prog) (w:=w) 0 t ty E i z k bytes hT.under hi hz hs hby hzs hT.pos v l.length _ h.1 ⟨nb,0,none⟩ 1 c (enc x) (by rw [hk,Nat.one_mul]) (fun j u hu=>by
   rw [Addr.add_lit,Nat.zero_add]
   rw [Lib.cell_of_heap hnb]
   simpa using hu) h1 (by unfold maxLen;omega) (by
    calc (l.length+1)*bytes≤1073741824*256:=Nat.mul_le_mul (by omega) hb64
     _≤140737488355328:=by omega) (Nat.zero_le _)
 refine ⟨v',w',hr,⟨by rw [List.length_append,List.flatMap_append];simpa using h2,fun g hg=>?_⟩,turned_grown h3 h.2,?_⟩
 ·rcases h5 with h5 | h5
  ·exact .inl (h.2 g (h5 ▸ hg))
  ·exact .inr (Option.some.inj (hg.symm.trans h5))
 ·rcases h2.2 with ⟨rfl,h0⟩ | ⟨g,cap,cur,rfl,_⟩
  ·omega
  ·exact ⟨_,_,rfl⟩
def oFlat (E:TypeId) (k:Nat) (v:Value) (n:Nat) (xs:List Value):Own where
 holds w X:=w.ownsRow 0 E k v n xs∧(∀ g,v.ownBlock=some g→X g)∧∀ m,X m→m < w.heap.size
 kept h hT hd:=⟨hT.ownsRow h.1 (fun g hg=>hd g (h.2.1 g hg)),h.2.1,fun m hm=>Nat.lt_of_lt_of_le (h.2.2 m hm) hT.size⟩
 lt h:=h.2.2
def oRow {α:Type} (E:TypeId) (k:Nat) (enc:α→List Value) (v:Value) (l:List α):Own:=oFlat E k v l.length (l.flatMap enc)
section
variable {α:Type} {w0 w:World} {L:List Own} {E t:TypeId} {k:Nat} {enc:α→List Value} {v:Value} {l:List α}
theorem In.rowR (h:In w0 L w) (hm:oRow E k enc v l∈L):RowR E k enc w (fun n=>w0.heap.size≤n) v l:=by
 obtain ⟨X,⟨h1,h2,_⟩,h3⟩:=h.get hm
 exact ⟨h1,fun g hg=>h3 g (h2 g hg)⟩
theorem In.rowNil (h:In w0 L w) (E:TypeId) (k:Nat) (enc:α→List Value):In w0 (oRow E k enc (.slice none 0 0) [] :: L) w :=
 In.add (X:=fun _=>False) h (Below.refl _ _) ⟨(RowR.nil E k enc w (fun _=>False)).1,fun g hg=>by simp [Value.ownBlock] at hg,fun _ h=>h.elim⟩ (fun _ h=>h.elim)
theorem In.rowShape (h:In w0 L w) (hm:oRow E k enc v l∈L) (hk:∀ x,(enc x).length=k) :
  ∃ o c,v=.slice o l.length c∧l.length≤c∧∀ i x,l[i]? = some x→∃ g,o=some ⟨g,0,none⟩∧g < w.heap.size∧(∀ j,w.frozen? ⟨g,j,none⟩=false)∧∀ j,j < k→w.cell? ⟨g,i*k+j,none⟩=(enc x)[j]?:=by
 have hr:=h.rowR hm
 obtain ⟨o,c,hv,h1,_,_,h4⟩:=hr.shape hk
 refine ⟨o,c,hv,h1,fun i x hx=>?_⟩
 obtain ⟨g,hg,hc⟩:=h4 i x hx
 refine ⟨g,hg,hr.lt g (by rw [hv,hg];rfl),?_,hc⟩
 rcases hr.1.2 with ⟨hv2,h0⟩ | ⟨g',cap,cur,hv2,_,hgg,_⟩
 ·have:i < l.length:=(List.getElem?_eq_some_iff.1 hx).1
  omega
 ·rw [hv,hg] at hv2
  simp only [Value.slice.injEq,Option.some.injEq,Addr.mk.injEq] at hv2
  obtain ⟨⟨rfl,_⟩,_⟩:=hv2
  exact Lib.frozen_of_heap hgg
theorem In.rowPush (hT:RowW t E k) (h:In w0 (oRow E k enc v l :: L) w) (x:α) (hk:(enc x).length=k) (h1:∀ u∈enc x,u.oneCell'=true) (hl:l.length < 1073741824) (ty:TypeId) :
  ∃ o c w',(Builtin.append_ #[t,t] ty #[v,.slice (some ⟨w.heap.size,0,none⟩) 1 1]).run Tryz.prog (w.alloc (.cells (enc x).toArray E))=.ok (.slice o (l.length+1) c) w'∧In w0 (oRow E k enc (.slice o (l.length+1) c) (l++[x]) :: L) w':=by
 have hb:Below w.heap.size w (w.alloc (.cells (enc x).toArray E)):=(Below.refl _ w).alloc (Nat.le_refl _) _
 have h9:=h.below hb
 obtain ⟨X0,hX0,_⟩:=h9.get (e:=oRow E k enc v l) (by simp)
 obtain ⟨v',w',hrun,hR,hTu,o,c,rfl⟩:=RowR.pushW hT (P:=X0) ⟨hX0.1,hX0.2.1⟩ x hk h1 w.heap.size 1 (0,0) (World.alloc_heap_new w _) hl ty
 refine ⟨o,c,w',hrun,h9.one fun X hX=>?_⟩
 obtain ⟨v2,w2,hrun2,hR2,hTu2,_⟩:=RowR.pushW hT (P:=X) ⟨hX.1,hX.2.1⟩ x hk h1 w.heap.size 1 (0,0) (World.alloc_heap_new w _) hl ty
 rw [hrun] at hrun2
 cases hrun2
 have ht:=hR2.tight
 refine ⟨fun n=>(X n∨n=(w.alloc (.cells (enc x).toArray E)).heap.size)∧n < w'.heap.size,⟨?_,ht.2,fun m hm=>hm.2⟩,hTu2,fun n hn=>hn.1.imp id (fun e=>by rw [e];exact Nat.le_refl _)⟩
 have:=ht.1
 rw [List.length_append] at this
 show w'.ownsRow 0 E k _ (l++[x]).length _
 rw [List.length_append]
 exact this
theorem In.flatSet {g n c p:Nat} {xs:List Value} {u:Value} (h:In w0 (oFlat E k (.slice (some ⟨g,0,none⟩) n c) n xs :: L) w) (_hp:p < xs.length):In w0 (oFlat E k (.slice (some ⟨g,0,none⟩) n c) n (xs.set p u) :: L) (w.setCell ⟨g,p,none⟩ u) :=
 h.one fun X hX=>by
  refine ⟨X,⟨⟨by rw [List.length_set];exact hX.1.1,?_⟩,hX.2.1,fun m hm=>?_⟩,Turned.setCell (X:=X) w ⟨g,p,none⟩ u (hX.2.1 g rfl),fun _=>.inl⟩
  ·rcases hX.1.2 with ⟨hv,_⟩ | ⟨g',cap,cur,hv,h1,h2,h3,h4,h5,h6⟩
   ·cases hv
   ·simp only [Value.slice.injEq,Option.some.injEq,Addr.mk.injEq,true_and] at hv
    obtain ⟨⟨rfl,_⟩,rfl⟩:=hv
    refine .inr ⟨g,c,cur.set! p u,rfl,h1,by simp [World.setCell,Array.getElem?_modify,h2],h3,h4,by simp [h5],?_⟩
    rw [← h6]
    simp [Array.set!_eq_setIfInBounds,List.take_set]
  ·have:=hX.2.2 m hm
   simpa using this
end
theorem In.rowAppend {α:Type} {w0 w:World} {L:List Own} {E t:TypeId} {k:Nat} {enc:α→List Value} {v u:Value} {l ys:List α} (hT:RowW t E k) (h:In w0 (oRow E k enc v l :: L) w) (hm:oRow E k enc u ys∈L) (hk:∀ x,(enc x).length=k) (h1:∀ x,∀ c∈enc x,c.oneCell'=true)
  (hl:l.length+ys.length < 1073741824) (ty:TypeId):∃ o n c w',(Builtin.append_ #[t,t] ty #[v,u]).run Tryz.prog w=.ok (.slice o n c) w'∧In w0 (oRow E k enc (.slice o n c) (l++ys) :: L) w':=by
 obtain ⟨i,z,bytes,hi,hz,hs,hby,hzs,hb64⟩:=hT.info
 have hu:=h.rowR (E:=E) (k:=k) (enc:=enc) (v:=u) (l:=ys) (List.mem_cons_of_mem _ hm)
 have hlen:∀ q:List α,(q.flatMap enc).length=q.length*k:=fun q=>by
  induction q with
  | nil=>simp
  | cons x r ih=>rw [List.flatMap_cons,List.length_append,ih,hk,List.length_cons,Nat.add_mul];omega
 rcases hu.1.2 with ⟨rfl,h0⟩ | ⟨g,cap,cur,rfl,_,hgg,hc1,hc2,hc3,hc4⟩
 ·have hys:ys=[]:=List.eq_nil_of_length_eq_zero h0
  subst hys
  obtain ⟨o,c,hv,_⟩:=h.rowShape (E:=E) (k:=k) (enc:=enc) (v:=v) (l:=l) List.mem_cons_self hk
  have hr:=(h.rowR (E:=E) (k:=k) (enc:=enc) (v:=v) (l:=l) List.mem_cons_self).1
  refine ⟨o,l.length,c,w,?_,?_⟩
  ·rw [← hv]
   exact run_append_owned_none (P:=Tryz.prog) (w:=w) 0 t ty E i k hT.under hi v l.length _ hr
  ·rw [← hv,List.append_nil];exact h
 ·have key:∀ X,(oRow E k enc v l).holds w X→∃ v' w',(Builtin.append_ #[t,t] ty #[v,.slice (some ⟨g,0,none⟩) ys.length cap]).run Tryz.prog w=.ok v' w'∧(∃ X',(oRow E k enc v' (l++ys)).holds w' X'∧Turned X w w'∧∀ n,X' n→X n∨w.heap.size≤n)∧∃ o n c,v'=.slice o n c:=by
   intro X hX
   obtain ⟨v',w',hr,h2,h3,h4,h5⟩:=run_append_own_at (P:=Tryz.prog) (w:=w) 0 t ty E i z k bytes hT.under hi hz hs hby hzs hT.pos v l.length _ hX.1 ⟨g,0,none⟩ ys.length cap (ys.flatMap enc) (hlen ys) (fun j x hx=>by
     have hj:j < ys.length*k:=by
      have:=(List.getElem?_eq_some_iff.1 hx).1
      rw [hlen] at this;exact this
     rw [Addr.add_lit,Nat.zero_add,Lib.cell_of_heap hgg]
     rw [← hc4,List.getElem?_take_of_lt hj] at hx
     simpa using hx) (fun x hx=>by
     obtain ⟨y,_,hy⟩:=List.mem_flatMap.1 hx
     exact h1 y x hy) (by unfold maxLen;omega) (by
     calc (l.length+ys.length)*bytes≤1073741824*256:=Nat.mul_le_mul (by omega) hb64
      _≤140737488355328:=by omega) (Nat.zero_le _)
   have hg3:Turned X w w':=turned_grown h3 hX.2.1
   have hown:∀ b,v'.ownBlock=some b→(X b∨b=w.heap.size)∧b < w'.heap.size:=fun b hb=>by
    refine ⟨?_,?_⟩
    ·rcases h5 with h5 | h5
     ·exact .inl (hX.2.1 b (h5 ▸ hb))
     ·exact .inr (Option.some.inj (hb.symm.trans h5))
    ·rcases h2.2 with ⟨rfl,_⟩ | ⟨g',cap',cur',rfl,_,hgg',_⟩
     ·simp [Value.ownBlock] at hb
     ·simp [Value.ownBlock] at hb
      subst hb
      exact (Array.getElem?_eq_some_iff.1 hgg').1
   refine ⟨v',w',hr,⟨fun n=>(X n∨n=w.heap.size)∧n < w'.heap.size,⟨?_,hown,fun m hm=>hm.2⟩,hg3,fun n hn=>hn.1.imp id (fun e=>by rw [e];exact Nat.le_refl _)⟩,?_⟩
   ·show w'.ownsRow 0 E k v' (l++ys).length ((l++ys).flatMap enc)
    rw [List.length_append,List.flatMap_append]
    exact h2
   ·rcases h2.2 with ⟨rfl,_⟩ | ⟨g',cap',cur',rfl,_⟩
    ·exact ⟨_,_,_,rfl⟩
    ·exact ⟨_,_,_,rfl⟩
  obtain ⟨X0,hX0,_⟩:=h.get (e:=oRow E k enc v l) List.mem_cons_self
  obtain ⟨v',w',hr,_,o,n,c,rfl⟩:=key X0 hX0
  refine ⟨o,n,c,w',hr,h.one fun X hX=>?_⟩
  obtain ⟨v2,w2,hr2,hx2,_⟩:=key X hX
  rw [hr] at hr2
  cases hr2
  exact hx2
theorem set_at {A B:List Value} {m j k:Nat} (hA:A.length=m*k) (u:Value):(A++B).set (m*k+j) u=A++B.set j u:=by
 rw [List.set_append_right _ _ (by omega)]
 congr 2
 omega
end Go.Proofs.YtmfjolmfbdbegaaGreatDoor

namespace Go.Proofs.YtmfjolmfbdbegaaGreatDoor
open Go.RowKit Go.Shelf
abbrev NV:=Nd × Value
abbrev encN (x:NV):List Value:=[.int .i64 x.1.kind,.int .i64 x.1.no,.string (txt x.1.op),.string (txt x.1.name),.string (txt x.1.text),.string (txt x.1.targets),.string (txt x.1.pattern),.string (txt x.1.inputs),.string (txt x.1.order),x.2]
def recO (x:NV):Own:=oRow 9 1 encS x.2 x.1.recipe
section
variable {E:TypeId} {w0 w w':World} {ov sv:Value} {nds:List NV} {op:List Bool} {Ls:List Own}
theorem flat_ten:∀ l:List NV,(l.flatMap encN).length=l.length*10
 | []=>rfl
 | _ :: r=>by rw [List.flatMap_cons,List.length_append,flat_ten r];simp;omega
end
end Go.Proofs.YtmfjolmfbdbegaaGreatDoor

namespace Go.Proofs.YtmfjolmfbdbegaaGreatDoor
open Go.RowKit Go.Shelf
def ReadsL (W:World) (B:Nat) (v:Value) (l:List LineI):Prop :=
 ∃ o c,v=.slice o l.length c∧∀ (j:Nat) x,l[j]? = some x→∃ b f,o=some ⟨b,f,none⟩∧b < B∧l.length≤c∧W.cell? ⟨b,f+j*3,none⟩=some (.int .i64 x.1)∧W.cell? ⟨b,f+j*3+1,none⟩=some (.bool x.2.1)∧W.cell? ⟨b,f+j*3+2,none⟩=some (.string (txt x.2.2))
theorem ReadsI.lines {W:World} {B:Nat} {v:Value} {l:List Item} (h:ReadsI W B v l):ReadsL W B v (l.map toLine):=by
 obtain ⟨o,c,hv,hx⟩:=h
 refine ⟨o,c,by rw [List.length_map];exact hv,fun j x hj=>?_⟩
 rw [List.getElem?_map] at hj
 obtain ⟨y,hy,rfl⟩:=Option.map_eq_some_iff.1 hj
 obtain ⟨b,f,h1,h2,h3,h4,h5,h6⟩:=hx j y hy
 exact ⟨b,f,h1,h2,by rw [List.length_map];exact h3,h4,h5,h6⟩
def ReadsN (W:World) (B:Nat) (v:Value) (l:List Nd):Prop :=
 ∃ o c,v=.slice o l.length c∧∀ (j:Nat) x,l[j]? = some x→∃ b f rv,o=some ⟨b,f,none⟩∧b < B∧l.length≤c∧(∀ i,i < 10→W.cell? ⟨b,f+(j*10+i),none⟩=(encN (x,rv))[i]?)∧ReadsO W B rv (x.recipe.map txt)
theorem ReadsN.empty (W:World) (B:Nat):ReadsN W B (.slice none 0 0) []:=⟨_,_,rfl,fun j x h=>by simp at h⟩
def ParsePost (k:Parsed) (w:World) (e:Ending) (w':World):Prop :=
 ∃ o c,e=.returned (.tuple #[.slice o k.1.length c,.int .i64 k.2.1,.int .i64 k.2.2])∧ReadsN w' w'.heap.size (.slice o k.1.length c) k.1∧Below w.heap.size w w'∧∃ nds:List NV,nds.map (·.1)=k.1∧In w (oRow 79 10 encN (.slice o k.1.length c) nds :: nds.map recO) w'
theorem ParsePost.bad {w w':World} {k:Parsed} {e no:Int} (h:k=badL e no) (hb:Below w.heap.size w w'):ParsePost k w (.returned (.tuple #[.slice none 0 0,.int .i64 e,.int .i64 no])) w':=by
 rw [h]
 exact ⟨none,0,rfl,ReadsN.empty _ _,hb,[],rfl,(In.nil hb).rowNil _ _ _⟩
def ParseC:Prop:=∀ (v:Value) (l:List LineI) (w:World),ReadsL w w.heap.size v l→l.length≤1000→(∀ x∈l,x.2.2.length≤100000)→Calls Tryz.prog 17 #[v] w (ParsePost (parseP l) w)
end Go.Proofs.YtmfjolmfbdbegaaGreatDoor
