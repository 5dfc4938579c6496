/-
  What is open of a makefile's conditionals, as the program keeps it: a struct with room of its own, and a slice of it, or of a block that came when the room was full; what fits answers. No condition but that fewer than 2^30 are open.
  What the program's fits and isBehindRule answer. No condition but that fewer than 2^30 are open.
  The program's nodes as Parse keeps them: a row, each node with its recipe, and what is open beside. No condition.
-/
import Derived.Test.YtmfjolmfbdbegaaGreatDoorPA
import Derived.Test.YtmfjolmfbdbegaaGreatDoorPB
namespace Go.Proofs.YtmfjolmfbdbegaaGreatDoor
open Go.RowKit Go.Shelf
attribute [local go_sem] Oper.semAt_some
def stO (op:List Bool):List Value:=op.reverse.map Value.bool
theorem stO_cons (b:Bool) (op:List Bool):stO (b :: op)=stO op++[.bool b]:=by simp [stO]
theorem stO_len (op:List Bool):(stO op).length=op.length:=by simp [stO]
abbrev tailN (v:Value) (dp:Option Int):List Value:=[v,.bool dp.isSome,.int .i64 (dp.getD 0)]
def oNest (ib:Nat) (op:List Bool) (dp:Option Int):Own where
 holds w X:=(∃ room g cap,w.heap[ib]? = some (.cells (room++tailN (.slice (some ⟨g,0,none⟩) op.length cap) dp).toArray 76 (0,0))∧room.length=20∧op.length≤cap∧cap≤maxLen ∧
  ((g=ib∧cap=20∧room.take op.length=stO op)∨(g≠ib∧X g∧∃ cur T,w.heap[g]? = some (.cells cur T (0,0))∧cap≤cur.size∧cur.toList.take op.length=stO op)))∧X ib∧∀ n,X n→n < w.heap.size
 kept h hT hd:=by
  obtain ⟨⟨room,g,cap,h1,h2,h3,h4,h5⟩,h6,h7⟩:=h
  refine ⟨⟨room,g,cap,hT.cells h1 (hd _ h6),h2,h3,h4,?_⟩,h6,fun n hn=>Nat.lt_of_lt_of_le (h7 n hn) hT.size⟩
  rcases h5 with h5 | ⟨h8,h9,cur,T,h10,h11⟩
  ·exact .inl h5
  ·exact .inr ⟨h8,h9,cur,T,hT.cells h10 (hd _ h9),h11⟩
 lt h:=h.2.2
section
variable {w0 w:World} {l:List Own} {ib:Nat} {op:List Bool} {dp:Option Int}
theorem tail_at (room:List Value) (h:room.length=20) (v:Value) (dp:Option Int):(room++tailN v dp)[20]? = some v∧(room++tailN v dp)[21]? = some (.bool dp.isSome)∧(room++tailN v dp)[22]? = some (.int .i64 (dp.getD 0)):=by
 refine ⟨?_,?_,?_⟩ <;> (rw [List.getElem?_append_right (by omega),h];rfl)
theorem In.nestAt (h:In w0 (oNest ib op dp :: l) w):∃ g cap,w.cell? ⟨ib,20,none⟩=some (.slice (some ⟨g,0,none⟩) op.length cap)∧w.cell? ⟨ib,21,none⟩=some (.bool dp.isSome)∧w.cell? ⟨ib,22,none⟩=some (.int .i64 (dp.getD 0)) ∧
  (∀ j,w.frozen? ⟨ib,j,none⟩=false)∧op.length≤cap∧(∀ j,w.frozen? ⟨g,j,none⟩=false)∧∀ b o,op=b :: o→w.cell? ⟨g,o.length,none⟩=some (.bool b):=by
 obtain ⟨X,⟨⟨room,g,cap,h1,h2,h3,h4,h5⟩,h6,h7⟩,_⟩:=h.get (e:=oNest ib op dp) (by simp)
 obtain ⟨t0,t1,t2⟩:=tail_at room h2 (.slice (some ⟨g,0,none⟩) op.length cap) dp
 have hlast:∀ (cs:List Value),cs.take op.length=stO op→∀ b o,op=b :: o→cs[o.length]? = some (.bool b):=by
  rintro cs hc b o rfl
  have:(cs.take (b :: o).length)[o.length]? = some (.bool b):=by
   rw [hc,stO_cons,List.getElem?_append_right (by rw [stO_len];exact Nat.le_refl _),stO_len];simp
  rw [List.getElem?_take_of_lt (by simp)] at this
  exact this
 refine ⟨g,cap,?_,?_,?_,Lib.frozen_of_heap h1,h3,?_,?_⟩
 ·rw [Lib.cell_of_heap h1];simpa using t0
 ·rw [Lib.cell_of_heap h1];simpa using t1
 ·rw [Lib.cell_of_heap h1];simpa using t2
 ·rcases h5 with ⟨rfl,_,_⟩ | ⟨_,_,cur,T,h10,_,_⟩
  ·exact Lib.frozen_of_heap h1
  ·exact Lib.frozen_of_heap h10
 ·intro b o hop
  rcases h5 with ⟨rfl,h8,h9⟩ | ⟨_,_,cur,T,h10,_,h11⟩
  ·rw [Lib.cell_of_heap h1]
   have h12:=hlast (room++tailN (.slice (some ⟨g,0,none⟩) op.length cap) dp) (by rw [List.take_append_of_le_length (by omega)];exact h9) b o hop
   simpa using h12
  ·rw [Lib.cell_of_heap h10]
   have h12:=hlast cur.toList h11 b o hop
   simpa using h12
theorem In.nestDeep (h:In w0 (oNest ib op dp :: l) w) (a:Int):In w0 (oNest ib op (some a) :: l) ((w.setCell ⟨ib,21,none⟩ (.bool true)).setCell ⟨ib,22,none⟩ (.int .i64 a)) :=
 h.one fun X ⟨⟨room,g,cap,h1,h2,h3,h4,h5⟩,h6,h7⟩=>by
  have s1:=set_cells (i:=21) h1 (.bool true)
  have s2:=set_cells (i:=22) s1 (.int .i64 a)
  have e:((room++tailN (.slice (some ⟨g,0,none⟩) op.length cap) dp).set 21 (.bool true)).set 22 (.int .i64 a)=room++tailN (.slice (some ⟨g,0,none⟩) op.length cap) (some a):=by
   rw [List.set_append_right _ _ (by omega),List.set_append_right _ _ (by omega),h2];rfl
  rw [e] at s2
  have hT:Turned (fun n=>n=ib) w ((w.setCell ⟨ib,21,none⟩ (.bool true)).setCell ⟨ib,22,none⟩ (.int .i64 a)):=(Turned.setCell (X:=fun n=>n=ib) w ⟨ib,21,none⟩ _ rfl).trans (Turned.setCell (X:=fun n=>n=ib) _ ⟨ib,22,none⟩ _ rfl)
  refine ⟨X,⟨⟨room,g,cap,s2,h2,h3,h4,?_⟩,h6,fun n hn=>by have:=h7 n hn;simpa using this⟩,hT.wider fun n hn=>by rw [hn];exact h6,fun _=>.inl⟩
  rcases h5 with h5 | ⟨h8,h9,cur,T,h10,h11⟩
  ·exact .inl h5
  ·exact .inr ⟨h8,h9,cur,T,hT.cells h10 h8,h11⟩
theorem In.nestTop {g n cap:Nat} {b:Bool} (h:In w0 (oNest ib (b :: op) dp :: l) w) (hc:w.cell? ⟨ib,20,none⟩=some (.slice (some ⟨g,0,none⟩) n cap)) (b':Bool):In w0 (oNest ib (b' :: op) dp :: l) (w.setCell ⟨g,op.length,none⟩ (.bool b')) :=
 h.one fun X ⟨⟨room,g',cap',h1,h2,h3,h4,h5⟩,h6,h7⟩=>by
  obtain ⟨t0,_,_⟩:=tail_at room h2 (.slice (some ⟨g',0,none⟩) (b :: op).length cap') dp
  rw [Lib.cell_of_heap h1] at hc
  have hc':(room++tailN (.slice (some ⟨g',0,none⟩) (b :: op).length cap') dp)[20]? = some (.slice (some ⟨g,0,none⟩) n cap):=by simpa using hc
  rw [t0] at hc'
  simp only [Option.some.injEq,Value.slice.injEq,Addr.mk.injEq,and_true] at hc'
  obtain ⟨rfl,_⟩:=hc'
  have hset:∀ cs:List Value,cs.take (b :: op).length=stO (b :: op)→(cs.set op.length (.bool b')).take (b' :: op).length=stO (b' :: op):=fun cs hcs=>by
   rw [stO_cons] at hcs
   have e:(cs.set op.length (.bool b')).take (b' :: op).length=(cs.take (b :: op).length).set op.length (.bool b'):=by rw [List.take_set];rfl
   rw [e,hcs,stO_cons,List.set_append_right _ _ (by rw [stO_len];exact Nat.le_refl _),stO_len]
   simp
  rcases h5 with ⟨h8,h9,h10⟩ | ⟨h8,h9,cur,T,h10,h11,h12⟩
  ·subst h8
   have hl:op.length < 20:=by have:=h3;rw [h9] at this;simp at this;omega
   have s1:=set_cells (i:=op.length) h1 (.bool b')
   rw [List.set_append_left _ _ (by omega)] at s1
   exact ⟨X,⟨⟨room.set op.length (.bool b'),g',cap',s1,by rw [List.length_set];exact h2,h3,h4,.inl ⟨rfl,h9,hset room h10⟩⟩,h6,fun n hn=>by have:=h7 n hn;simpa using this⟩,Turned.setCell (X:=X) w ⟨g',op.length,none⟩ _ h6,fun _=>.inl⟩
  ·have hT:Turned (fun n=>n=g') w (w.setCell ⟨g',op.length,none⟩ (.bool b')):=Turned.setCell (X:=fun n=>n=g') w ⟨g',op.length,none⟩ _ rfl
   have s1:(w.setCell ⟨g',op.length,none⟩ (.bool b')).heap[g']? = some (.cells (cur.toList.set op.length (.bool b')).toArray T (0,0)):=set_cells (cs:=cur.toList) (by rw [h10]) (.bool b')
   exact ⟨X,⟨⟨room,g',cap',hT.cells h1 (fun e=>h8 e.symm),h2,h3,h4,.inr ⟨h8,h9,_,T,s1,by simpa using h11,by simpa using hset cur.toList h12⟩⟩,h6,fun n hn=>by have:=h7 n hn;simpa using this⟩,hT.wider fun n hn=>by rw [hn];exact h9,fun _=>.inl⟩
theorem In.nestPop {g n cap:Nat} {b:Bool} (h:In w0 (oNest ib (b :: op) dp :: l) w) (hc:w.cell? ⟨ib,20,none⟩=some (.slice (some ⟨g,0,none⟩) n cap)):In w0 (oNest ib op dp :: l) (w.setCell ⟨ib,20,none⟩ (.slice (some ⟨g,0,none⟩) op.length cap)) :=
 h.one fun X ⟨⟨room,g',cap',h1,h2,h3,h4,h5⟩,h6,h7⟩=>by
  obtain ⟨t0,_,_⟩:=tail_at room h2 (.slice (some ⟨g',0,none⟩) (b :: op).length cap') dp
  rw [Lib.cell_of_heap h1] at hc
  have hc':(room++tailN (.slice (some ⟨g',0,none⟩) (b :: op).length cap') dp)[20]? = some (.slice (some ⟨g,0,none⟩) n cap):=by simpa using hc
  rw [t0] at hc'
  simp only [Option.some.injEq,Value.slice.injEq,Addr.mk.injEq,and_true] at hc'
  obtain ⟨rfl,_,rfl⟩:=hc'
  have hpop:∀ cs:List Value,cs.take (b :: op).length=stO (b :: op)→cs.take op.length=stO op:=fun cs hcs=>by
   rw [stO_cons] at hcs
   have:=congrArg (List.take op.length) hcs
   rw [List.take_take,Nat.min_eq_left (by simp),List.take_append_of_le_length (by rw [stO_len];exact Nat.le_refl _),List.take_of_length_le (l:=stO op) (by rw [stO_len];exact Nat.le_refl _)] at this
   exact this
  have s1:=set_cells (i:=20) h1 (.slice (some ⟨g',0,none⟩) op.length cap')
  have e:(room++tailN (.slice (some ⟨g',0,none⟩) (b :: op).length cap') dp).set 20 (.slice (some ⟨g',0,none⟩) op.length cap')=room++tailN (.slice (some ⟨g',0,none⟩) op.length cap') dp:=by
   rw [List.set_append_right _ _ (by omega),h2];rfl
  rw [e] at s1
  have hT:Turned (fun n=>n=ib) w (w.setCell ⟨ib,20,none⟩ (.slice (some ⟨g',0,none⟩) op.length cap')):=Turned.setCell (X:=fun n=>n=ib) w ⟨ib,20,none⟩ _ rfl
  refine ⟨X,⟨⟨room,g',cap',s1,h2,by simp at h3;omega,h4,?_⟩,h6,fun n hn=>by have:=h7 n hn;simpa using this⟩,hT.wider fun n hn=>by rw [hn];exact h6,fun _=>.inl⟩
  rcases h5 with ⟨h8,h9,h10⟩ | ⟨h8,h9,cur,T,h10,h11,h12⟩
  ·exact .inl ⟨h8,h9,hpop room h10⟩
  ·exact .inr ⟨h8,h9,cur,T,hT.cells h10 h8,h11,hpop _ h12⟩
theorem boolInfo:(Tryz.prog.info? 4).map (fun i=>(i.zero,i.size,i.bytes))=some (some (.bool false),1,1):=by kernel_rfl
theorem In.nestPush {g n cap:Nat} (h:In w0 (oNest ib op dp :: l) w) (hc:w.cell? ⟨ib,20,none⟩=some (.slice (some ⟨g,0,none⟩) n cap)) (hl:op.length < 1073741824) (ty E:TypeId) :
  ∃ o' c' w',(Builtin.append_ #[74,74] ty #[.slice (some ⟨g,0,none⟩) n cap,.slice (some ⟨w.heap.size,0,none⟩) 1 1]).run Tryz.prog (w.alloc (.cells #[.bool false] E))=.ok (.slice o' (op.length+1) c') w' ∧
   w'.cell? ⟨ib,20,none⟩=some (.slice (some ⟨g,0,none⟩) n cap)∧w'.frozen? ⟨ib,20,none⟩=false∧In w0 (oNest ib (false :: op) dp :: l) (w'.setCell ⟨ib,20,none⟩ (.slice o' (op.length+1) c')):=by
 obtain ⟨i,hi,hz,hs,hby⟩:=info_parts boolInfo
 have hnew:=World.alloc_heap_new w (.cells #[.bool false] E)
 have hnews:∀ j u,([.bool false]:List Value)[j]? = some u→(w.alloc (.cells #[.bool false] E)).cell? ((⟨w.heap.size,0,none⟩:Addr).add j)=some u:=fun j u hu=>by
  cases j with
  | zero=>cases hu;rw [Addr.add_lit,Lib.cell_of_heap hnew];rfl
  | succ j=>simp at hu
 have h1':∀ u∈([.bool false]:List Value),u.oneCell'=true:=fun u hu=>by rw [List.mem_singleton.1 hu];rfl
 have key:∀ X,(oNest ib op dp).holds w X→∃ o' c' w',(Builtin.append_ #[74,74] ty #[.slice (some ⟨g,0,none⟩) n cap,.slice (some ⟨w.heap.size,0,none⟩) 1 1]).run Tryz.prog (w.alloc (.cells #[.bool false] E))=.ok (.slice o' (op.length+1) c') w' ∧
   w'.cell? ⟨ib,20,none⟩=some (.slice (some ⟨g,0,none⟩) n cap)∧w'.frozen? ⟨ib,20,none⟩=false ∧
   ∃ X',(oNest ib (false :: op) dp).holds (w'.setCell ⟨ib,20,none⟩ (.slice o' (op.length+1) c')) X'∧Turned X w (w'.setCell ⟨ib,20,none⟩ (.slice o' (op.length+1) c'))∧∀ m,X' m→X m∨w.heap.size≤m:=by
  rintro X ⟨⟨room,g',cap',h1,h2,h3,h4,h5⟩,h6,h7⟩
  obtain ⟨t0,_,_⟩:=tail_at room h2 (.slice (some ⟨g',0,none⟩) op.length cap') dp
  rw [Lib.cell_of_heap h1] at hc
  have hc':(room++tailN (.slice (some ⟨g',0,none⟩) op.length cap') dp)[20]? = some (.slice (some ⟨g,0,none⟩) n cap):=by simpa using hc
  rw [t0] at hc'
  simp only [Option.some.injEq,Value.slice.injEq,Addr.mk.injEq,and_true] at hc'
  obtain ⟨rfl,rfl,rfl⟩:=hc'
  have hbl:ib < w.heap.size:=h7 ib h6
  have hbA:Below w.heap.size w (w.alloc (.cells #[.bool false] E)):=(Below.refl _ w).alloc (Nat.le_refl _) _
  have k1:=(hbA.block _ hbl).trans h1
  obtain ⟨cur,T,hcur,hcs,hct⟩:∃ cur T,w.heap[g']? = some (.cells cur T (0,0))∧cap'≤cur.size∧cur.toList.take op.length=stO op:=by
   rcases h5 with ⟨rfl,h8,h9⟩ | ⟨_,_,cur,T,h10,h11,h12⟩
   ·exact ⟨_,_,h1,by simp [h8,h2],by show List.take _ (room++_)=_;rw [List.take_append_of_le_length (by omega)];exact h9⟩
   ·exact ⟨cur,T,h10,h11,h12⟩
  have hgl:g' < w.heap.size:=(Array.getElem?_eq_some_iff.1 hcur).1
  have kcur:=(hbA.block _ hgl).trans hcur
  have hTA:Turned X w (w.alloc (.cells #[.bool false] E)):=Turned.alloc X w _
  by_cases hroom:op.length+1≤cap'
  ·have hr:=run_append_in (P:=Tryz.prog) (w.alloc (.cells #[.bool false] E)) 74 ty 4 T i Tryz.underlying74 hi g' op.length cap' cur kcur ⟨w.heap.size,0,none⟩ 1 1 [.bool false] (by rw [hs];rfl) hnews h1' hroom (by rw [hs];simp;omega)
   rw [hs,Nat.mul_one] at hr
   obtain ⟨W',hW'⟩:∃ W',W'=(w.alloc (.cells #[.bool false] E)).setRow g' (cur.toList.take op.length++[Value.bool false]++cur.toList.drop (op.length+[Value.bool false].length)).toArray:=⟨_,rfl⟩
   rw [← hW'] at hr
   have hT2:Turned (fun m=>m=g') (w.alloc (.cells #[.bool false] E)) W':=by
    rw [hW']
    exact ⟨rfl,rfl,rfl,by simp,fun k _ hk=>setRow_other _ g' k _ hk⟩
   have hset:cur.toList.take op.length++[Value.bool false]++cur.toList.drop (op.length+[Value.bool false].length)=cur.toList.set op.length (.bool false):=by
    have hlt:op.length < cur.toList.length:=by simp;omega
    rw [List.set_eq_take_append_cons_drop,if_pos hlt];simp
   have hrow:W'.heap[g']? = some (.cells (cur.toList.set op.length (.bool false)).toArray T (0,0)):=by
    rw [hW',hset];exact setRow_heap _ g' cur _ T _ kcur
   have htk:∀ cs:List Value,op.length < cs.length→cs.take op.length=stO op→(cs.set op.length (.bool false)).take (false :: op).length=stO (false :: op):=fun cs hlt hcs=>by
    rw [stO_cons,← hcs,List.length_cons,List.take_add_one,List.take_set,List.set_eq_of_length_le (by rw [List.length_take];omega),List.getElem?_set_self hlt];rfl
   rcases h5 with ⟨h8,h9,h10⟩ | ⟨h8,h9,_⟩
   ·subst h8
    have hcc:cur=(room++tailN (.slice (some ⟨g',0,none⟩) op.length cap') dp).toArray∧T = 76:=by
     rw [h1] at hcur;cases hcur;exact ⟨rfl,rfl⟩
    obtain ⟨rfl,rfl⟩:=hcc
    have hl20:op.length < 20:=by omega
    have hrow':W'.heap[g']? = some (.cells (room.set op.length (.bool false)++tailN (.slice (some ⟨g',0,none⟩) op.length cap') dp).toArray 76 (0,0)):=by
     rw [hrow,List.toList_toArray,List.set_append_left _ _ (by omega)]
    obtain ⟨u0,_,_⟩:=tail_at (room.set op.length (.bool false)) (by rw [List.length_set];exact h2) (.slice (some ⟨g',0,none⟩) op.length cap') dp
    have s1:=set_cells (i:=20) hrow' (.slice (some ⟨g',0,none⟩) (op.length+1) cap')
    have e:(room.set op.length (.bool false)++tailN (.slice (some ⟨g',0,none⟩) op.length cap') dp).set 20 (.slice (some ⟨g',0,none⟩) (op.length+1) cap')=room.set op.length (.bool false)++tailN (.slice (some ⟨g',0,none⟩) (op.length+1) cap') dp:=by
     rw [List.set_append_right _ _ (by rw [List.length_set];omega),List.length_set,h2];rfl
    rw [e] at s1
    have hT3:Turned (fun m=>m=g') W' (W'.setCell ⟨g',20,none⟩ (.slice (some ⟨g',0,none⟩) (op.length+1) cap')):=Turned.setCell (X:=fun m=>m=g') W' ⟨g',20,none⟩ _ rfl
    refine ⟨_,_,W',hr,by rw [Lib.cell_of_heap hrow'];simpa using u0,Lib.frozen_of_heap hrow' _,X,⟨⟨_,g',cap',s1,by rw [List.length_set];exact h2,hroom,h4,.inl ⟨rfl,h9,htk room (by omega) h10⟩⟩,h6,fun m hm=>?_⟩,(hTA.trans (hT2.wider fun m hm=>by rw [hm];exact h6)).trans (hT3.wider fun m hm=>by rw [hm];exact h6),fun _=>.inl⟩
    have a1:=h7 m hm
    have a2:=hbA.size
    have a3:=hT2.size
    have a4:=hT3.size
    omega
   ·have hib:W'.heap[ib]? = some (.cells (room++tailN (.slice (some ⟨g',0,none⟩) op.length cap') dp).toArray 76 (0,0)):=hT2.cells k1 (fun e=>h8 e.symm)
    have s1:=set_cells (i:=20) hib (.slice (some ⟨g',0,none⟩) (op.length+1) cap')
    have e:(room++tailN (.slice (some ⟨g',0,none⟩) op.length cap') dp).set 20 (.slice (some ⟨g',0,none⟩) (op.length+1) cap')=room++tailN (.slice (some ⟨g',0,none⟩) (op.length+1) cap') dp:=by
     rw [List.set_append_right _ _ (by omega),h2];rfl
    rw [e] at s1
    have hT3:Turned (fun m=>m=ib) W' (W'.setCell ⟨ib,20,none⟩ (.slice (some ⟨g',0,none⟩) (op.length+1) cap')):=Turned.setCell (X:=fun m=>m=ib) W' ⟨ib,20,none⟩ _ rfl
    refine ⟨_,_,W',hr,by rw [Lib.cell_of_heap hib];simpa using t0,Lib.frozen_of_heap hib _,X,⟨⟨room,g',cap',s1,h2,hroom,h4,.inr ⟨h8,h9,_,T,hT3.cells hrow h8,by simpa using hcs,by simpa using htk cur.toList (by simp;omega) hct⟩⟩,h6,fun m hm=>?_⟩,(hTA.trans (hT2.wider fun m hm=>by rw [hm];exact h9)).trans (hT3.wider fun m hm=>by rw [hm];exact h6),fun _=>.inl⟩
    have a1:=h7 m hm
    have a2:=hbA.size
    have a3:=hT2.size
    have a4:=hT3.size
    omega
  ·have holds:∀ j u,(stO op)[j]? = some u→(w.alloc (.cells #[.bool false] E)).cell? ((⟨g',0,none⟩:Addr).add j)=some u:=fun j u hu=>by
    have hj:j < op.length:=by have:=(List.getElem?_eq_some_iff.1 hu).1;rwa [stO_len] at this
    rw [Addr.add_lit,Nat.zero_add,Lib.cell_of_heap kcur]
    rw [← hct,List.getElem?_take_of_lt hj] at hu
    simpa using hu
   have hr:=run_append_grow (P:=Tryz.prog) (w.alloc (.cells #[.bool false] E)) 74 ty 4 i (.bool false) Tryz.underlying74 hi hz ⟨g',0,none⟩ op.length cap' (stO op) (by rw [hs,Nat.mul_one,stO_len]) holds ⟨w.heap.size,0,none⟩ 1 1 [.bool false] (by rw [hs];rfl) hnews (by omega) (by omega)
    (growslice_fits (by omega) (by rw [hby];omega))
   have hge:=grownCap_ge (w.alloc (.cells #[.bool false] E)) (op.length+1) cap' 4
   have hgm:=grownCap_le_maxLen (w.alloc (.cells #[.bool false] E)) (op.length+1) cap' 4 (by unfold maxLen;omega)
   generalize grownCap (w.alloc (.cells #[.bool false] E)) (op.length+1) cap' 4=gc at hr hge hgm
   obtain ⟨W',hW'⟩:∃ W',W'=(w.alloc (.cells #[.bool false] E)).drew.alloc (.cells ((stO op).toArray++[Value.bool false].toArray++Builtin.zeroCells (Value.bool false).cells (gc - (op.length+1))) 4):=⟨_,rfl⟩
   rw [← hW'] at hr
   have hsz:(w.alloc (.cells #[.bool false] E)).heap.size=w.heap.size+1:=by simp
   rw [hsz] at hr
   have hT2:Turned (fun _=>False) (w.alloc (.cells #[.bool false] E)) W':=by
    rw [hW']
    exact ⟨rfl,rfl,rfl,by simp,fun k hk _=>heap_alloc_old (w.alloc (.cells #[.bool false] E)).drew _ hk⟩
   have hrow:W'.heap[w.heap.size+1]? = some (.cells ((stO op).toArray++[Value.bool false].toArray++Builtin.zeroCells (Value.bool false).cells (gc - (op.length+1))) 4 (0,0)):=by
    rw [hW',← hsz];exact World.alloc_heap_new (w.alloc (.cells #[.bool false] E)).drew _
   have hib:W'.heap[ib]? = some (.cells (room++tailN (.slice (some ⟨g',0,none⟩) op.length cap') dp).toArray 76 (0,0)):=hT2.cells k1 (fun h=>h)
   have s1:=set_cells (i:=20) hib (.slice (some ⟨w.heap.size+1,0,none⟩) (op.length+1) gc)
   have e:(room++tailN (.slice (some ⟨g',0,none⟩) op.length cap') dp).set 20 (.slice (some ⟨w.heap.size+1,0,none⟩) (op.length+1) gc)=room++tailN (.slice (some ⟨w.heap.size+1,0,none⟩) (op.length+1) gc) dp:=by
    rw [List.set_append_right _ _ (by omega),h2];rfl
   rw [e] at s1
   have hT3:Turned (fun m=>m=ib) W' (W'.setCell ⟨ib,20,none⟩ (.slice (some ⟨w.heap.size+1,0,none⟩) (op.length+1) gc)):=Turned.setCell (X:=fun m=>m=ib) W' ⟨ib,20,none⟩ _ rfl
   refine ⟨_,_,W',hr,by rw [Lib.cell_of_heap hib];simpa using t0,Lib.frozen_of_heap hib _,fun m=>X m∨m=w.heap.size+1,⟨⟨room,w.heap.size+1,gc,s1,h2,hge,hgm,.inr ⟨by omega,.inr rfl,_,_,hT3.cells hrow (by omega),?_,?_⟩⟩,.inl h6,fun m hm=>?_⟩,(hTA.trans (hT2.wider fun m hm=>hm.elim)).trans (hT3.wider fun m hm=>by rw [hm];exact h6),fun m hm=>?_⟩
   ·simp only [Array.size_append,List.size_toArray,stO_len,size_zeroCells,List.length_cons,List.length_nil]
    show gc≤op.length+(0+1)+(gc - (op.length+1))*1
    omega
   ·simp only [Array.toList_append,List.append_assoc]
    rw [stO_cons,← List.append_assoc]
    exact (congrArg (fun q=>List.take q _) (by simp [stO])).trans List.take_left
   ·have hs':(w.heap.size+1) < W'.heap.size:=(Array.getElem?_eq_some_iff.1 hrow).1
    have a4:=hT3.size
    rcases hm with hm | rfl
    ·have:=h7 m hm;omega
    ·omega
   ·rcases hm with hm | hm
    ·exact .inl hm
    ·exact .inr (by omega)
 obtain ⟨X0,hX0,_⟩:=h.get (e:=oNest ib op dp) (by simp)
 obtain ⟨o',c',w',hr,a1,a2,_⟩:=key X0 hX0
 refine ⟨o',c',w',hr,a1,a2,h.one fun X hX=>?_⟩
 obtain ⟨o2,c2,w2,hr2,_,_,hq⟩:=key X hX
 rw [hr] at hr2
 cases hr2
 exact hq
end
end Go.Proofs.YtmfjolmfbdbegaaGreatDoor

namespace Go.Proofs.YtmfjolmfbdbegaaGreatDoor
open Go.RowKit Go.Shelf
attribute [local go_sem] Oper.semAt_some
def fitStep (op:List Bool) (dp:Option Int) (n:Nd):Option (List Bool × Option Int) :=
 if n.kind=3 then some (false :: op,if op.length=20∧dp=none then some n.no else dp)
 else if n.kind=4 then (match op with | false :: o=>some (true :: o,dp) | _=>none)
 else if n.kind=5 then (match op with | _ :: o=>some (o,dp) | []=>none)
 else some (op,dp)
def FitPost (w0:World) (ib:Nat) (l:List Own) (r:Option (List Bool × Option Int)) (e:Ending) (w':World):Prop :=
 ∃ op' dp',e=.returned (.bool r.isSome)∧(∀ q,r=some q→q=(op',dp'))∧In w0 (oNest ib op' dp' :: l) w'
set_option maxRecDepth 100000 in
set_option maxHeartbeats 4000000 in
theorem In.fits {w0 w:World} {l:List Own} {ib:Nat} {op:List Bool} {dp:Option Int} (h:In w0 (oNest ib op dp :: l) w) (n:Nd) (hl:op.length≤1000000) :
  Calls Tryz.prog 30 #[.pointer (some ⟨ib,0,none⟩),.agg (cellsN n)] w (FitPost w0 ib l (fitStep op dp n)):=by
 have hbox:=World.alloc_heap_new w (.cells (cellsN n) 79)
 have h1:=h.below ((Below.refl _ w).alloc (Nat.le_refl _) (.cells (cellsN n) 79))
 have hne:ib≠w.heap.size:=by
  obtain ⟨X,hX,_⟩:=h.get (e:=oNest ib op dp) (by simp)
  have:=hX.2.2 ib hX.2.1
  omega
 have b0:(w.alloc (.cells (cellsN n) 79)).cell? ⟨w.heap.size,0,none⟩=some (.int .i64 n.kind):=by rw [Lib.cell_of_heap hbox];rfl
 have b1:(w.alloc (.cells (cellsN n) 79)).cell? ⟨w.heap.size,1,none⟩=some (.int .i64 n.no):=by rw [Lib.cell_of_heap hbox];rfl
 clear hbox h
 go_enter Tryz.func30,Tryz.ntmps30
 go_upto_region 1 with fail
 change In w0 (oNest ib op dp :: l) (w.alloc (.cells #[.int .i64 n.kind,.int .i64 n.no,.string (txt n.op),.string (txt n.name),.string (txt n.text),.string (txt n.targets),.string (txt n.pattern),.string (txt n.inputs),.string (txt n.order),.slice none 0 0] 79)) at h1
 generalize w.alloc (.cells #[.int .i64 n.kind,.int .i64 n.no,.string (txt n.op),.string (txt n.name),.string (txt n.text),.string (txt n.targets),.string (txt n.pattern),.string (txt n.inputs),.string (txt n.order),.slice none 0 0] 79)=W at h1 b0 b1 ⊢
 generalize w.heap.size=bb at hne b0 b1 ⊢
 obtain ⟨g,cap,f0,f1,f2,ff,hcap,fg,ft⟩:=h1.nestAt
 have H1:=Lib.hid h1
 clear h1
 by_cases h3:n.kind=3
 ·have ek:(n.kind == 3)=true:=by simp [h3]
  have HS0:Hid (fitStep op dp n=some (false :: op,if op.length=20∧dp=none then some n.no else dp)):=by show _=_;unfold fitStep;rw [if_pos h3]
  clear h3
  by_cases hA:op.length=20∧dp=none
  ·have HS:Hid (fitStep op dp n=some (false :: op,some n.no)):=by show _=_;rw [HS0.out,if_pos hA]
   obtain ⟨hA1,rfl⟩:=hA
   have e20:((op.length:Int) == 20)=true:=by simp [hA1]
   have f1':W.cell? ⟨ib,21,none⟩=some (.bool false):=f1
   clear f1 ft hA1 HS0
   have h2:=(H1.out.nestDeep n.no).below (show Below ((W.setCell ⟨ib,21,none⟩ (.bool true)).setCell ⟨ib,22,none⟩ (.int .i64 n.no)).heap.size ((W.setCell ⟨ib,21,none⟩ (.bool true)).setCell ⟨ib,22,none⟩ (.int .i64 n.no)) ((W.setCell ⟨ib,21,none⟩ (.bool true)).setCell ⟨ib,22,none⟩ (.int .i64 n.no)).drew from drewN_below' (Below.refl _ _))
   go_upto_region 5 with fail
   go_region
   generalize ((W.setCell ⟨ib,21,none⟩ (.bool true)).setCell ⟨ib,22,none⟩ (.int .i64 n.no)).drew=W5 at h2 ⊢
   clear f0 f1' f2 ff fg H1 b0 b1
   obtain ⟨g5,cap5,f0,f1,f2,ff,hcap5,fg,_⟩:=h2.nestAt
   obtain ⟨o6,c6,w6,hrun,q0,qf,h6⟩:=h2.nestPush f0 (by omega) 74 4
   have H6:=Lib.hid h6
   clear h2 h6
   go_wp2_with (first
    | (at_builtin;refine wpList_append_eq rfl _ _ 74 rfl _ _ _ w6 rfl rfl hrun ?_)
    | go_in)
   go_ret
   exact ⟨_,_,by rw [HS.out];rfl,(fun q hq=>by rw [HS.out] at hq;exact (Option.some.inj hq).symm),H6.out⟩
  ·have HS:Hid (fitStep op dp n=some (false :: op,dp)):=by show _=_;rw [HS0.out,if_neg hA]
   obtain ⟨o6,c6,w6,hrun,q0,qf,h6⟩:=H1.out.nestPush f0 (by omega) 74 4
   have H6:=Lib.hid h6
   clear h6 HS0 H1 ft
   by_cases hB:op.length=20
   ·cases dp with
    | none=>exact absurd ⟨hB,rfl⟩ hA
    | some a =>
     have e20:((op.length:Int) == 20)=true:=by simp [hB]
     have f1':W.cell? ⟨ib,21,none⟩=some (.bool true):=f1
     clear hA hB f1
     go_wp2_with (first
      | (at_builtin;refine wpList_append_eq rfl _ _ 74 rfl _ _ _ w6 rfl rfl hrun ?_)
      | go_in)
     go_ret
     exact ⟨_,_,by rw [HS.out];rfl,(fun q hq=>by rw [HS.out] at hq;exact (Option.some.inj hq).symm),H6.out⟩
   ·have e20:((op.length:Int) == 20)=false:=by simp;omega
    clear hA hB
    go_wp2_with (first
     | (at_builtin;refine wpList_append_eq rfl _ _ 74 rfl _ _ _ w6 rfl rfl hrun ?_)
     | go_in)
    go_ret
    exact ⟨_,_,by rw [HS.out];rfl,(fun q hq=>by rw [HS.out] at hq;exact (Option.some.inj hq).symm),H6.out⟩
 by_cases h4:n.kind=4
 ·have ek3:(n.kind == 3)=false:=by simp [h3]
  have ek4:(n.kind == 4)=true:=by simp [h4]
  cases op with
  | nil =>
   have HS:Hid (fitStep [] dp n=none):=by show _=_;unfold fitStep;rw [if_neg h3,if_pos h4]
   obtain ⟨m,hm⟩:∃ m,m=([]:List Bool).length:=⟨_,rfl⟩
   rw [← hm] at f0
   have dI:(m:Int) - 1 < 0:=by simp at hm;omega
   have hm5:m≤5:=by simp at hm;omega
   clear hm h3 h4 ft hcap
   go_wp2
   go_ret
   exact ⟨[],dp,by rw [HS.out];rfl,(fun q hq=>by rw [HS.out] at hq;cases hq),H1.out⟩
  | cons b o =>
   have hcell:=ft b o rfl
   have hc1:o.length+1≤cap:=hcap
   have hl1:o.length+1≤1000000:=hl
   have dI:¬ ((o.length:Int)+1) - 1 < 0:=by omega
   simp only [List.length_cons] at f0
   cases b with
   | true =>
    have HS:Hid (fitStep (true :: o) dp n=none):=by show _=_;unfold fitStep;rw [if_neg h3,if_pos h4]
    clear h3 h4 ft hcap hl
    go_wp2
    go_ret
    exact ⟨true :: o,dp,by rw [HS.out];rfl,(fun q hq=>by rw [HS.out] at hq;cases hq),H1.out⟩
   | false =>
    have HS:Hid (fitStep (false :: o) dp n=some (true :: o,dp)):=by show _=_;unfold fitStep;rw [if_neg h3,if_pos h4]
    have H2:=Lib.hid (H1.out.nestTop f0 true)
    clear h3 h4 ft hcap hl
    go_wp2
    go_ret
    exact ⟨_,_,by rw [HS.out];rfl,(fun q hq=>by rw [HS.out] at hq;exact (Option.some.inj hq).symm),H2.out⟩
 by_cases h5:n.kind=5
 ·have ek3:(n.kind == 3)=false:=by simp [h3]
  have ek4:(n.kind == 4)=false:=by simp [h4]
  have ek5:(n.kind == 5)=true:=by simp [h5]
  cases op with
  | nil =>
   have HS:Hid (fitStep [] dp n=none):=by show _=_;unfold fitStep;rw [if_neg h3,if_neg h4,if_pos h5]
   obtain ⟨m,hm⟩:∃ m,m=([]:List Bool).length:=⟨_,rfl⟩
   rw [← hm] at f0
   have dI:(m:Int) - 1 < 0:=by simp at hm;omega
   have hm5:m≤5:=by simp at hm;omega
   clear hm h3 h4 h5 ft hcap
   go_wp2
   go_ret
   exact ⟨[],dp,by rw [HS.out];rfl,(fun q hq=>by rw [HS.out] at hq;cases hq),H1.out⟩
  | cons b o =>
   have hc1:o.length+1≤cap:=hcap
   have hl1:o.length+1≤1000000:=hl
   have dI:¬ ((o.length:Int)+1) - 1 < 0:=by omega
   simp only [List.length_cons] at f0
   have HS:Hid (fitStep (b :: o) dp n=some (o,dp)):=by show _=_;unfold fitStep;rw [if_neg h3,if_neg h4,if_pos h5]
   have H2:=Lib.hid (H1.out.nestPop f0)
   clear h3 h4 h5 ft hcap hl
   go_wp2
   go_ret
   exact ⟨_,_,by rw [HS.out];rfl,(fun q hq=>by rw [HS.out] at hq;exact (Option.some.inj hq).symm),H2.out⟩
 ·have ek3:(n.kind == 3)=false:=by simp [h3]
  have ek4:(n.kind == 4)=false:=by simp [h4]
  have ek5:(n.kind == 5)=false:=by simp [h5]
  have HS:Hid (fitStep op dp n=some (op,dp)):=by show _=_;unfold fitStep;rw [if_neg h3,if_neg h4,if_neg h5]
  clear h3 h4 h5
  go_wp2
  go_ret
  exact ⟨op,dp,by rw [HS.out];rfl,(fun q hq=>by rw [HS.out] at hq;exact (Option.some.inj hq).symm),H1.out⟩
set_option maxHeartbeats 1000000 in
theorem isBehind_nil (o:Option Addr) (c:Nat) (w:World):Calls Tryz.prog 28 #[.slice o 0 c] w fun e w'=>e=.returned (.bool false)∧w=w':=by
 go_enter Tryz.func28,Tryz.ntmps28
 go_wp2
 go_ret
 exact ⟨rfl,rfl⟩
set_option maxHeartbeats 1000000 in
theorem isBehind_last (g m c:Nat) (k:Int) (hm:m≤1000000) (w:World) (hk:w.cell? ⟨g,m*10,none⟩=some (.int .i64 k)):Calls Tryz.prog 28 #[.slice (some ⟨g,0,none⟩) (m+1) c] w fun e w'=>e=.returned (.bool (k == 2))∧w=w':=by
 go_enter Tryz.func28,Tryz.ntmps28
 go_wp2
 go_ret
 exact ⟨rfl,rfl⟩
end Go.Proofs.YtmfjolmfbdbegaaGreatDoor

namespace Go.Proofs.YtmfjolmfbdbegaaGreatDoor
open Go.RowKit Go.Shelf
theorem rowNodesP:RowW 54 79 10 :=
 rowW_of (.agg #[.int .i64 0,.int .i64 0,.string ⟨#[]⟩,.string ⟨#[]⟩,.string ⟨#[]⟩,.string ⟨#[]⟩,.string ⟨#[]⟩,.string ⟨#[]⟩,.string ⟨#[]⟩,.slice none 0 0]) 152 Tryz.underlying54 (by kernel_rfl) (by decide) rfl (by decide)
def PSq (w0:World) (ov:Value) (nds:List NV) (Ls:List Own) (w:World):Prop :=
 In w0 (oRow 79 10 encN ov nds :: (nds.map recO++Ls)) w∧∀ x∈nds,∃ o n c,x.2=.slice o n c
section
variable {w0 w w':World} {ov:Value} {nds:List NV} {Ls:List Own} {op:List Bool} {dp:Option Int} {ib:Nat}
theorem PSq.back (h:PSq w0 ov nds Ls w):Below w0.heap.size w0 w:=h.1.back
theorem PSq.below (h:PSq w0 ov nds Ls w) (hb:Below w.heap.size w w'):PSq w0 ov nds Ls w':=⟨h.1.below hb,h.2⟩
theorem PSq.nodes (h:PSq w0 ov nds Ls w):∃ o c,ov=.slice o nds.length c∧nds.length≤c∧∀ i x,nds[i]? = some x→∃ g,o=some ⟨g,0,none⟩∧g < w.heap.size∧(∀ j,w.frozen? ⟨g,j,none⟩=false)∧∀ j,j < 10→w.cell? ⟨g,i*10+j,none⟩=(encN x)[j]? :=
 h.1.rowShape (E := 79) (k:=10) (enc:=encN) (v:=ov) (l:=nds) List.mem_cons_self (fun _=>rfl)
theorem PSq.nest (h:PSq w0 ov nds [oNest ib op dp] w):In w0 (oNest ib op dp :: oRow 79 10 encN ov nds :: nds.map recO) w :=
 h.1.perm (List.perm_append_comm (l₁:=oRow 79 10 encN ov nds :: nds.map recO) (l₂:=[oNest ib op dp]))
theorem PSq.ofNest (h:In w0 (oNest ib op dp :: oRow 79 10 encN ov nds :: nds.map recO) w) (hs:∀ x∈nds,∃ o n c,x.2=.slice o n c):PSq w0 ov nds [oNest ib op dp] w :=
 ⟨h.perm (List.perm_append_comm (l₁:=oRow 79 10 encN ov nds :: nds.map recO) (l₂:=[oNest ib op dp])).symm,hs⟩
theorem PSq.nest3 {e1 e2:Own} (h:PSq w0 ov nds [e1,e2,oNest ib op dp] w):In w0 (oNest ib op dp :: oRow 79 10 encN ov nds :: (nds.map recO++[e1,e2])) w :=
 h.1.perm (by
  have e:oRow 79 10 encN ov nds :: (nds.map recO++[e1,e2,oNest ib op dp])=(oRow 79 10 encN ov nds :: (nds.map recO++[e1,e2]))++[oNest ib op dp]:=by simp
  rw [e]
  exact List.perm_append_comm (l₁:=oRow 79 10 encN ov nds :: (nds.map recO++[e1,e2])) (l₂:=[oNest ib op dp]))
theorem PSq.ofNest3 {e1 e2:Own} (h:In w0 (oNest ib op dp :: oRow 79 10 encN ov nds :: (nds.map recO++[e1,e2])) w) (hs:∀ x∈nds,∃ o n c,x.2=.slice o n c):PSq w0 ov nds [oNest ib op dp] w :=
 PSq.ofNest ((h.perm (l':=[e1,e2]++(oNest ib op dp :: oRow 79 10 encN ov nds :: nds.map recO)) (List.perm_append_comm (l₁:=oNest ib op dp :: oRow 79 10 encN ov nds :: nds.map recO) (l₂:=[e1,e2]))).drop) hs
theorem PSq.hold (h:PSq w0 ov nds Ls w) (cs:List Value) (t:TypeId):PSq w0 ov nds (oCells w.heap.size cs t :: Ls) (w.alloc (.cells cs.toArray t)) :=
 ⟨(h.1.alloc cs t).perm (List.perm_middle (a:=oCells w.heap.size cs t) (l₁:=oRow 79 10 encN ov nds :: nds.map recO) (l₂:=Ls)).symm,h.2⟩
theorem PSq.free {e:Own} (h:PSq w0 ov nds (e :: Ls) w):PSq w0 ov nds Ls w :=
 ⟨(h.1.perm (List.perm_middle (a:=e) (l₁:=oRow 79 10 encN ov nds :: nds.map recO) (l₂:=Ls))).tail,h.2⟩
theorem PSq.push (h:PSq w0 ov nds Ls w) (n:Nd) (hr:n.recipe=[]) (hl:nds.length < 1073741824) (ty:TypeId) :
  ∃ o c w',(Builtin.append_ #[54,54] ty #[ov,.slice (some ⟨w.heap.size,0,none⟩) 1 1]).run Tryz.prog (w.alloc (.cells (encN (n,.slice none 0 0)).toArray 79))=.ok (.slice o (nds.length+1) c) w'∧PSq w0 (.slice o (nds.length+1) c) (nds++[(n,.slice none 0 0)]) Ls w':=by
 obtain ⟨o,c,w',hrun,hI⟩:=h.1.rowPush rowNodesP (n,.slice none 0 0) rfl (by simp [Value.oneCell']) hl ty
 refine ⟨o,c,w',hrun,?_,fun x hx=>?_⟩
 ·have h2:=(hI.rowNil 9 1 encS)
  have e:recO (n,.slice none 0 0)=oRow 9 1 encS (.slice none 0 0) []:=by unfold recO;rw [hr]
  rw [List.map_append,List.map_cons,List.map_nil,e]
  exact h2.perm (by
   refine (List.perm_middle (l₁:=oRow 79 10 encN (.slice o (nds.length+1) c) (nds++[(n,.slice none 0 0)]) :: nds.map recO) (l₂:=Ls)).symm.trans ?_
   simp)
 ·rcases List.mem_append.1 hx with hx | hx
  ·exact h.2 x hx
  ·rw [List.mem_singleton.1 hx];exact ⟨none,0,0,rfl⟩
theorem PSq.tab {n:Nd} {rv:Value} {g c:Nat} (h:PSq w0 (.slice (some ⟨g,0,none⟩) (nds.length+1) c) (nds++[(n,rv)]) Ls w) (t:BS) (hl:n.recipe.length < 1073741824) (ty:TypeId) :
  ∃ o c' w',(Builtin.append_ #[28,28] ty #[rv,.slice (some ⟨w.heap.size,0,none⟩) 1 1]).run Tryz.prog (w.alloc (.cells #[.string (txt t)] 9))=.ok (.slice o (n.recipe.length+1) c') w' ∧
   w'.cell? ⟨g,nds.length*10+9,none⟩=some rv∧(∀ j,w'.frozen? ⟨g,j,none⟩=false)∧In w0 Ls w' ∧
   PSq w0 (.slice (some ⟨g,0,none⟩) (nds.length+1) c) (nds++[({ n with recipe:=n.recipe++[t] },.slice o (n.recipe.length+1) c')]) Ls (w'.setCell ⟨g,nds.length*10+9,none⟩ (.slice o (n.recipe.length+1) c')):=by
 have h0:=h.1.perm (l':=recO (n,rv) :: oRow 79 10 encN (.slice (some ⟨g,0,none⟩) (nds.length+1) c) (nds++[(n,rv)]) :: (nds.map recO++Ls)) (by
  have e1:oRow 79 10 encN (.slice (some ⟨g,0,none⟩) (nds.length+1) c) (nds++[(n,rv)]) :: ((nds++[(n,rv)]).map recO++Ls) =
    (oRow 79 10 encN (.slice (some ⟨g,0,none⟩) (nds.length+1) c) (nds++[(n,rv)]) :: nds.map recO)++recO (n,rv) :: Ls:=by simp
  rw [e1]
  exact List.perm_middle)
 obtain ⟨o,c',w',hrun,hI⟩:=In.rowPush (t := 28) (enc:=encS) (v:=rv) (l:=n.recipe) rowStrings.wide h0 t rfl (by simp [Value.oneCell']) hl ty
 refine ⟨o,c',w',hrun,?_,?_,hI.tail.tail.drop,?_,fun x hx=>?_⟩
 ·obtain ⟨xo,xc,hxv,_,hxx⟩:=hI.rowShape (E := 79) (k:=10) (enc:=encN) (v:=.slice (some ⟨g,0,none⟩) (nds.length+1) c) (l:=nds++[(n,rv)]) (by simp) (fun _=>rfl)
  obtain ⟨g2,hg2,_,_,hc⟩:=hxx nds.length (n,rv) (by simp)
  simp only [Value.slice.injEq] at hxv
  have hgg:g2=g:=by
   have:=hxv.1.trans hg2
   simp at this
   exact this.symm
  subst hgg
  exact hc 9 (by omega)
 ·obtain ⟨xo,xc,hxv,_,hxx⟩:=hI.rowShape (E := 79) (k:=10) (enc:=encN) (v:=.slice (some ⟨g,0,none⟩) (nds.length+1) c) (l:=nds++[(n,rv)]) (by simp) (fun _=>rfl)
  obtain ⟨g2,hg2,_,hf,_⟩:=hxx nds.length (n,rv) (by simp)
  simp only [Value.slice.injEq] at hxv
  have hgg:g2=g:=by
   have:=hxv.1.trans hg2
   simp at this
   exact this.symm
  subst hgg
  exact hf
 ·have h1:=hI.swap
  unfold oRow at h1
  have hA:(nds.flatMap encN).length=nds.length*10:=flat_ten nds
  have e:∀ x:NV,(nds++[x]).flatMap encN=nds.flatMap encN++encN x:=fun x=>by rw [List.flatMap_append];simp
  rw [e,List.length_append] at h1
  have k1:=In.flatSet (p:=nds.length*10+9) (u:=.slice o (n.recipe.length+1) c') h1 (by rw [List.length_append,hA];simp)
  rw [set_at hA] at k1
  have k2:In w0 (oRow 79 10 encN (.slice (some ⟨g,0,none⟩) (nds.length+1) c) (nds++[({ n with recipe:=n.recipe++[t] },.slice o (n.recipe.length+1) c')]) :: recO ({ n with recipe:=n.recipe++[t] },.slice o (n.recipe.length+1) c') :: (nds.map recO++Ls)) (w'.setCell ⟨g,nds.length*10+9,none⟩ (.slice o (n.recipe.length+1) c')):=by
   unfold oRow
   rw [e,List.length_append]
   exact k1
  refine k2.perm ?_
  refine List.Perm.cons _ ?_
  have e2:(nds++[(({ n with recipe:=n.recipe++[t] },.slice o (n.recipe.length+1) c'):NV)]).map recO++Ls=nds.map recO++recO ({ n with recipe:=n.recipe++[t] },.slice o (n.recipe.length+1) c') :: Ls:=by simp
  rw [e2]
  exact List.perm_middle.symm
 ·rcases List.mem_append.1 hx with hx | hx
  ·exact h.2 x (List.mem_append_left _ hx)
  ·rw [List.mem_singleton.1 hx];exact ⟨_,_,_,rfl⟩
theorem PSq.reads (h:PSq w0 ov nds Ls w):ReadsN w w.heap.size ov (nds.map (·.1)):=by
 obtain ⟨o,c,hv,h1,h2⟩:=h.nodes
 refine ⟨o,c,by rw [List.length_map];exact hv,fun j x hj=>?_⟩
 rw [List.getElem?_map] at hj
 obtain ⟨y,hy,rfl⟩:=Option.map_eq_some_iff.1 hj
 obtain ⟨g,hg,hl,_,hc⟩:=h2 j y hy
 refine ⟨g,0,y.2,hg,hl,by rw [List.length_map];exact h1,fun i hi=>by rw [Nat.zero_add];exact hc i hi,?_⟩
 have hm:recO y∈oRow 79 10 encN ov nds :: (nds.map recO++Ls):=List.mem_cons_of_mem _ (List.mem_append_left _ (List.mem_map.2 ⟨y,List.mem_of_getElem? hy,rfl⟩))
 obtain ⟨o2,c2,hv2,h3,h4⟩:=h.1.rowShape (E := 9) (k:=1) (enc:=encS) (v:=y.2) (l:=y.1.recipe) hm (fun _=>rfl)
 refine ⟨o2,c2,by rw [List.length_map];exact hv2,fun k s hk=>?_⟩
 rw [List.getElem?_map] at hk
 obtain ⟨z,hz,rfl⟩:=Option.map_eq_some_iff.1 hk
 obtain ⟨g2,hg2,hl2,_,hc2⟩:=h4 k z hz
 have:=hc2 0 (by omega)
 rw [Nat.mul_one,Nat.add_zero] at this
 exact ⟨g2,0,hg2,hl2,by rw [List.length_map];exact h3,by rw [Nat.zero_add];exact this⟩
end
theorem ParsePost.rightQ {w w':World} {k:Parsed} {o:Option Addr} {c:Nat} {nds:List NV} {Ls:List Own} (h:k=(nds.map (·.1),0,0)) (hS:PSq w (.slice o nds.length c) nds Ls w'):ParsePost k w (.returned (.tuple #[.slice o nds.length c,.int .i64 0,.int .i64 0])) w':=by
 rw [h]
 refine ⟨o,c,by simp,?_,hS.back,nds,rfl,?_⟩
 ·have:=hS.reads
  simpa using this
 ·simp only [List.length_map]
  exact In.drop (l1:=Ls) (hS.1.perm (List.perm_append_comm (l₁:=oRow 79 10 encN (.slice o nds.length c) nds :: nds.map recO) (l₂:=Ls)))
theorem In.nestNew {w0 w:World} {l:List Own} (h:In w0 l w):In w0 (oNest w.heap.size [] none :: l) (w.alloc (.cells (List.replicate 20 (Value.bool false)++tailN (.slice (some ⟨w.heap.size,0,none⟩) 0 20) none).toArray 76)) :=
 In.add (X:=fun n=>n=w.heap.size) h ((Below.refl _ w).alloc (Nat.le_refl _) _) ⟨⟨List.replicate 20 (.bool false),w.heap.size,20,World.alloc_heap_new w _,by simp,Nat.zero_le _,by decide,.inl ⟨rfl,rfl,rfl⟩⟩,rfl,fun n hn=>by rw [hn];simp⟩ (fun n hn=>by rw [hn];exact Nat.le_refl _)
end Go.Proofs.YtmfjolmfbdbegaaGreatDoor
