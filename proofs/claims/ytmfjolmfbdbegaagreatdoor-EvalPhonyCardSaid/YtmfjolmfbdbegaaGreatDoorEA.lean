/-
  Chapter 8 in plain words: what a text's lines come to; no program, no world. No condition.
  Chapter 8's lines, taken one behind the other: what a loop over them keeps; no program. No condition.
  Chapter 8's lines put together by their trimmed pieces: the same as one put on behind the other; no program. No condition.
  Chapter 9 in plain words: names, what is outside, where a text is cut, what a line says, what lines say; no program, no world. No condition.
  Chapter 9's statements in plain words: what is cut is whole; rows one behind the other; conditionals; recipes. No program, no world. No condition.
  What the program's Parse tells: of what is wrong, a line of no form is told ahead of a conditional that is too deep; where nothing is wrong, it is the chapter's model. No program, no world. No condition.
-/
import Derived.Test.YtmfjolmfbdbegaaGreatDoorEP
import Derived.Test.YtmfjolmfbdbegaaGreatDoorGA
namespace Go.Proofs.YtmfjolmfbdbegaaGreatDoor
def strokeB (c:UInt8):Bool:=decide (c.toNat=92)
def hashB (c:UInt8):Bool:=decide (c.toNat=35)
theorem strokeB_is {c:UInt8}:strokeB c=true↔c=92:=by
 simp only [strokeB,decide_eq_true_eq]
 exact ⟨fun h=>UInt8.toNat_inj.1 (by rw [h];rfl),fun h=>by rw [h];rfl⟩
theorem hashB_is {c:UInt8}:hashB c=true↔c=35:=by
 simp only [hashB,decide_eq_true_eq]
 exact ⟨fun h=>UInt8.toNat_inj.1 (by rw [h];rfl),fun h=>by rw [h];rfl⟩
def strokes (l:BS):Nat:=(l.reverse.takeWhile strokeB).length
def oddB (l:BS):Bool:=decide (strokes l % 2=1)
def joinL (a b:BS):BS:=cutR a.dropLast++32 :: cutL b
def bareL (l:BS):BS:=l.takeWhile fun c=>!hashB c
def tabL (l:BS):Bool:=l.head? == some 9
def textL (tab:Bool) (l:BS):BS:=trimOf (if tab then l else bareL l)
def glue:BS→List BS→BS × Nat
 | a,[]=>(if oddB a then a.dropLast else a,0)
 | a,b :: r=>if oddB a then ((glue (joinL a b) r).1,(glue (joinL a b) r).2+1) else (a,0)
theorem glue_le:∀ (r:List BS) (a:BS),(glue a r).2≤r.length
 | [],_=>Nat.le_refl 0
 | b :: r,a=>by
  unfold glue
  split
  ·have:=glue_le r (joinL a b);simpa using this
  ·simp
theorem glue_even {a:BS} (h:oddB a=false) (r:List BS):glue a r=(a,0):=by
 cases r with
 | nil=>unfold glue;rw [h];rfl
 | cons b r=>unfold glue;rw [h];rfl
theorem glue_odd {a b:BS} (h:oddB a=true) (r:List BS):glue a (b :: r)=((glue (joinL a b) r).1,(glue (joinL a b) r).2+1):=by
 conv=>lhs;unfold glue
 rw [if_pos h]
theorem glue_last {a:BS} (h:oddB a=true):glue a []=(a.dropLast,0):=by unfold glue;rw [if_pos h]
abbrev Item:=Nat × Bool × BS
def itemsL:Nat→List BS→List Item
 | _,[]=>[]
 | no,a :: r =>
  if textL (tabL a) (glue a r).1=[] then itemsL (no+1+(glue a r).2) (r.drop (glue a r).2)
  else (no,tabL a,textL (tabL a) (glue a r).1) :: itemsL (no+1+(glue a r).2) (r.drop (glue a r).2)
termination_by _ l=>l.length
decreasing_by all_goals (simp only [List.length_drop,List.length_cons];omega)
theorem items_nil (no:Nat):itemsL no []=[]:=by unfold itemsL;rfl
theorem items_none {no:Nat} {a:BS} {r:List BS} (h:textL (tabL a) (glue a r).1=[]):itemsL no (a :: r)=itemsL (no+1+(glue a r).2) (r.drop (glue a r).2):=by
 conv=>lhs;unfold itemsL
 rw [if_pos h]
theorem items_some {no:Nat} {a:BS} {r:List BS} (h:textL (tabL a) (glue a r).1≠[]) :
  itemsL no (a :: r)=(no,tabL a,textL (tabL a) (glue a r).1) :: itemsL (no+1+(glue a r).2) (r.drop (glue a r).2):=by
 conv=>lhs;unfold itemsL
 rw [if_neg h]
def scanL:Nat→List Item→Option Nat
 | _,[]=>none
 | n,x :: r=>if 1000 < x.2.2.length∨300≤n then some x.1 else scanL (n+1) r
def lexOf (s:BS):List Item × Int × Nat :=
 match scanL 0 (itemsL 1 (linesL s)) with
 | none=>(itemsL 1 (linesL s),0,0)
 | some n=>([],3,n)
theorem lex_ok {s:BS} (h:scanL 0 (itemsL 1 (linesL s))=none):lexOf s=(itemsL 1 (linesL s),0,0):=by unfold lexOf;rw [h]
theorem lex_err {s:BS} {n:Nat} (h:scanL 0 (itemsL 1 (linesL s))=some n):lexOf s=([],3,n):=by unfold lexOf;rw [h]
theorem strokes_none {l:BS} (h:∀ c,l.getLast? = some c→c≠92):strokes l=0:=by
 rcases List.eq_nil_or_concat l with rfl | ⟨a,c,rfl⟩
 ·rfl
 ·rw [List.concat_eq_append] at h ⊢
  have hc:strokeB c=false:=by
   cases hs:strokeB c with
   | false=>rfl
   | true=>exact absurd (strokeB_is.1 hs) (h c (by simp))
  unfold strokes
  rw [List.reverse_append]
  simp [hc]
theorem odd_none {l:BS} (h:∀ c∈l,c≠92):oddB l=false:=by
 have:strokes l=0:=strokes_none fun c hc=>h c (List.mem_of_getLast? hc)
 unfold oddB
 rw [this];rfl
theorem strokes_mid (x y:BS) (c:UInt8) (h:c≠92):strokes (x++c :: y)=strokes y:=by
 have hc:strokeB c=false:=by
  cases hs:strokeB c with
  | false=>rfl
  | true=>exact absurd (strokeB_is.1 hs) h
 unfold strokes
 rw [List.reverse_append,List.reverse_cons,List.append_assoc,List.takeWhile_append]
 split
 ·rename_i he
  simp [hc]
  rw [he,List.length_reverse]
 ·rfl
theorem strokes_cutL (y:BS):strokes (cutL y)=strokes y:=by
 induction y with
 | nil=>rfl
 | cons c r ih =>
  rw [cutL_cons]
  split
  ·rename_i hb
   have hc:c≠92:=by rcases blankB_is.1 hb with rfl | rfl <;> decide
   rw [ih]
   exact (strokes_mid [] r c hc).symm
  ·rfl
theorem odd_join (a b:BS):oddB (joinL a b)=oddB b:=by
 have:strokes (joinL a b)=strokes b:=by
  unfold joinL
  rw [strokes_mid _ _ 32 (by decide),strokes_cutL]
 unfold oddB
 rw [this]
theorem dropLast_sub (l:BS):∀ c∈l.dropLast,c∈l:=fun _ h=>List.dropLast_subset _ h
theorem glue_sub (P:UInt8→Prop) (h32:P 32):∀ (r:List BS) (a:BS),(∀ c∈a,P c)→(∀ l∈r,∀ c∈l,P c)→∀ c∈(glue a r).1,P c
 | [],a,ha,_=>by
  unfold glue
  split
  ·exact fun c hc=>ha c (dropLast_sub a c hc)
  ·exact ha
 | b :: r,a,ha,hr=>by
  unfold glue
  split
  ·refine glue_sub P h32 r (joinL a b) (fun c hc=>?_) (fun l hl=>hr l (List.mem_cons_of_mem _ hl))
   unfold joinL at hc
   rcases List.mem_append.1 hc with hc | hc
   ·exact ha c (dropLast_sub a c (cutR_sub _ c hc))
   ·rcases List.mem_cons.1 hc with rfl | hc
    ·exact h32
    ·exact hr b (by simp) c (cutL_sub _ c hc)
  ·exact ha
theorem bare_sub (l:BS):∀ c∈bareL l,c∈l:=fun _ h=>(List.takeWhile_sublist _).subset h
theorem bare_cons (c:UInt8) (r:BS):bareL (c :: r)=if c=35 then [] else c :: bareL r:=by
 unfold bareL
 rw [List.takeWhile_cons]
 by_cases h:c=35
 ·rw [hashB_is.2 h,if_pos h];rfl
 ·have hb:hashB c=false:=by
   cases hs:hashB c with
   | false=>rfl
   | true=>exact absurd (hashB_is.1 hs) h
  rw [hb,if_neg h];rfl
theorem bare_clean (l:BS):∀ c∈bareL l,c≠35:=by
 induction l with
 | nil=>intro c hc;cases hc
 | cons x r ih =>
  intro c hc
  rw [bare_cons] at hc
  split at hc
  ·cases hc
  ·rename_i hx
   rcases List.mem_cons.1 hc with rfl | hc
   ·exact hx
   ·exact ih c hc
structure Told (lo hi:Nat) (x:Item):Prop where
 lo:lo≤x.1
 hi:x.1 < hi
 some:x.2.2≠[]
 tight:Tight x.2.2
 clean:∀ c∈x.2.2,c≠10
 bare:x.2.1=false→∀ c∈x.2.2,c≠35
theorem items_told:∀ (n:Nat) (ls:List BS) (no:Nat),ls.length≤n→(∀ l∈ls,∀ c∈l,c≠10)→(∀ x∈itemsL no ls,Told no (no+ls.length) x)∧(itemsL no ls).Pairwise fun x y=>x.1 < y.1
 | _,[],no,_,_=>by rw [items_nil];exact ⟨fun x hx=>by simp at hx,List.Pairwise.nil⟩
 | 0,a :: r,_,h,_=>by simp at h
 | n+1,a :: r,no,h,hc=>by
  have hg:=glue_le r a
  have hr:∀ l∈r,∀ c∈l,c≠10:=fun l hl=>hc l (List.mem_cons_of_mem _ hl)
  have hl:(r.drop (glue a r).2).length=r.length - (glue a r).2:=List.length_drop
  obtain ⟨h1,h2⟩:=items_told n (r.drop (glue a r).2) (no+1+(glue a r).2) (by rw [hl];simp at h;omega) (fun l hl=>hr l (List.mem_of_mem_drop hl))
  have h1':∀ x∈itemsL (no+1+(glue a r).2) (r.drop (glue a r).2),Told (no+1) (no+(a :: r).length) x:=fun x hx=>by
   have q:=h1 x hx
   exact ⟨by have:=q.lo;omega,by have:=q.hi;rw [hl] at this;simp;omega,q.some,q.tight,q.clean,q.bare⟩
  by_cases ht:textL (tabL a) (glue a r).1=[]
  ·rw [items_none ht]
   exact ⟨fun x hx=>by have q:=h1' x hx;exact ⟨by have:=q.lo;omega,q.hi,q.some,q.tight,q.clean,q.bare⟩,h2⟩
  ·rw [items_some ht]
   have hgc:∀ c∈(glue a r).1,c≠10:=glue_sub (fun c=>c≠10) (by decide) r a (hc a (by simp)) hr
   refine ⟨fun x hx=>?_,List.Pairwise.cons (fun y hy=>?_) h2⟩
   ·rcases List.mem_cons.1 hx with rfl | hx
    ·refine ⟨Nat.le_refl _,by simp,ht,trim_tight _,fun c hcm=>?_,fun hb c hcm=>?_⟩
     ·have hcm':=trim_sub _ c hcm
      split at hcm'
      ·exact hgc c hcm'
      ·exact hgc c (bare_sub _ c hcm')
     ·have hcm':=trim_sub _ c hcm
      simp only at hb
      rw [hb] at hcm'
      exact bare_clean _ c hcm'
    ·have q:=h1' x hx
     exact ⟨by have:=q.lo;omega,q.hi,q.some,q.tight,q.clean,q.bare⟩
   ·have:=(h1' y hy).lo
    show no < y.1
    omega
theorem scan_none:∀ {l:List Item} {n:Nat},scanL n l=none→(∀ x∈l,x.2.2.length≤1000)∧(l≠[]→n+l.length≤300)
 | [],_,_=>⟨by simp,by simp⟩
 | x :: r,n,h=>by
  unfold scanL at h
  split at h
  ·cases h
  ·rename_i hx
   obtain ⟨h1,h2⟩:=scan_none h
   refine ⟨fun y hy=>?_,fun _=>?_⟩
   ·rcases List.mem_cons.1 hy with rfl | hy
    ·omega
    ·exact h1 y hy
   ·rw [List.length_cons]
    by_cases hr:r=[]
    ·subst hr;simp;omega
    ·have:=h2 hr;omega
theorem scan_app:∀ (l r:List Item) (n:Nat),scanL n l=none→scanL n (l++r)=scanL (n+l.length) r
 | [],_,_,_=>rfl
 | x :: l,r,n,h=>by
  unfold scanL at h
  split at h
  ·cases h
  ·rename_i hx
   rw [List.cons_append,scanL,if_neg hx,scan_app l r (n+1) h,List.length_cons]
   congr 1
   omega
theorem items_shift:∀ (n:Nat) (ls:List BS) (no no':Nat),ls.length≤n→(itemsL no ls).map Prod.snd=(itemsL no' ls).map Prod.snd
 | _,[],_,_,_=>by rw [items_nil,items_nil]
 | 0,_ :: _,_,_,h=>by simp at h
 | n+1,a :: r,no,no',h=>by
  have hg:=glue_le r a
  have ih:=items_shift n (r.drop (glue a r).2) (no+1+(glue a r).2) (no'+1+(glue a r).2) (by rw [List.length_drop];simp at h;omega)
  by_cases ht:textL (tabL a) (glue a r).1=[]
  ·rw [items_none ht,items_none ht];exact ih
  ·rw [items_some ht,items_some ht,List.map_cons,List.map_cons,ih]
end Go.Proofs.YtmfjolmfbdbegaaGreatDoor

namespace Go.Proofs.YtmfjolmfbdbegaaGreatDoor
structure Sofar (ls:List BS) (k:Nat) (acc:List Item):Prop where
 items:itemsL 1 ls=acc++itemsL (k+1) (ls.drop k)
 fine:scanL 0 acc=none
theorem Sofar.start (ls:List BS):Sofar ls 0 []:=⟨rfl,rfl⟩
theorem drop_at {ls:List BS} {k:Nat} {a:BS} (h:ls[k]? = some a):ls.drop k=a :: ls.drop (k+1):=by
 have hk:=(List.getElem?_eq_some_iff.1 h).1
 rw [List.drop_eq_getElem_cons hk,(List.getElem?_eq_some_iff.1 h).2]
theorem Sofar.len {ls:List BS} {k:Nat} {acc:List Item} (h:Sofar ls k acc):acc.length≤300:=by
 have:=(scan_none h.fine).2
 by_cases hn:acc=[]
 ·rw [hn];simp
 ·have:=this hn;omega
theorem Sofar.done {s:BS} {k:Nat} {acc:List Item} (h:Sofar (linesL s) k acc) (hk:(linesL s).length≤k):lexOf s=(acc,0,0):=by
 have e:itemsL 1 (linesL s)=acc:=by rw [h.items,List.drop_eq_nil_of_le hk,items_nil,List.append_nil]
 rw [lex_ok (by rw [e];exact h.fine),e]
section
variable {ls:List BS} {k:Nat} {acc:List Item} {a:BS}
theorem Sofar.skip (h:Sofar ls k acc) (ha:ls[k]? = some a) (ht:textL (tabL a) (glue a (ls.drop (k+1))).1=[]):Sofar ls (k+1+(glue a (ls.drop (k+1))).2) acc:=by
 refine ⟨?_,h.fine⟩
 rw [h.items,drop_at ha,items_none ht,List.drop_drop]
 congr 2
 omega
theorem Sofar.next (h:Sofar ls k acc) (ha:ls[k]? = some a) (ht:textL (tabL a) (glue a (ls.drop (k+1))).1≠[]) (hl:(textL (tabL a) (glue a (ls.drop (k+1))).1).length≤1000) (hn:acc.length < 300) :
  Sofar ls (k+1+(glue a (ls.drop (k+1))).2) (acc++[(k+1,tabL a,textL (tabL a) (glue a (ls.drop (k+1))).1)]):=by
 refine ⟨?_,?_⟩
 ·rw [h.items,drop_at ha,items_some ht,List.drop_drop,List.append_assoc]
  congr 1
  rw [List.singleton_append]
  congr 2
  omega
 ·rw [scan_app _ _ _ h.fine]
  unfold scanL
  rw [if_neg (by simp;omega)]
  rfl
theorem Sofar.wrong {s:BS} (h:Sofar (linesL s) k acc) (ha:(linesL s)[k]? = some a) (ht:textL (tabL a) (glue a ((linesL s).drop (k+1))).1≠[]) (hb:1000 < (textL (tabL a) (glue a ((linesL s).drop (k+1))).1).length∨300≤acc.length) :
  lexOf s=([],3,k+1):=by
 refine lex_err ?_
 rw [h.items,drop_at ha,items_some ht,scan_app _ _ _ h.fine]
 unfold scanL
 rw [if_pos (by simpa using hb)]
end
structure Glued (a:BS) (r:List BS) (x:BS) (j:Nat):Prop where
 le:j≤r.length
 text:(glue a r).1=(glue x (r.drop j)).1
 many:(glue a r).2=j+(glue x (r.drop j)).2
theorem Glued.start (a:BS) (r:List BS):Glued a r a 0:=⟨Nat.zero_le _,rfl,by simp⟩
theorem Glued.next {a x b:BS} {r:List BS} {j:Nat} (h:Glued a r x j) (hb:r[j]? = some b) (ho:oddB x=true):Glued a r (joinL x b) (j+1):=by
 have hj:=(List.getElem?_eq_some_iff.1 hb).1
 have e:r.drop j=b :: r.drop (j+1):=drop_at hb
 refine ⟨hj,?_,?_⟩
 ·rw [h.text,e,glue_odd ho]
 ·rw [h.many,e,glue_odd ho]
  show j+((glue (joinL x b) (r.drop (j+1))).2+1)=_
  omega
theorem Glued.even {a x:BS} {r:List BS} {j:Nat} (h:Glued a r x j) (ho:oddB x=false):glue a r=(x,j):=by
 have h1:=h.text
 have h2:=h.many
 rw [glue_even ho] at h1 h2
 exact Prod.ext h1 h2
theorem Glued.last {a x:BS} {r:List BS} {j:Nat} (h:Glued a r x j) (ho:oddB x=true) (hj:r.length≤j):glue a r=(x.dropLast,j):=by
 have h1:=h.text
 have h2:=h.many
 rw [List.drop_eq_nil_of_le hj,glue_last ho] at h1 h2
 exact Prod.ext h1 h2
end Go.Proofs.YtmfjolmfbdbegaaGreatDoor

namespace Go.Proofs.YtmfjolmfbdbegaaGreatDoor
def joinP:List BS→BS
 | []=>[]
 | [p]=>p
 | p :: q :: r=>p++32 :: joinP (q :: r)
theorem join_snoc:∀ (P:List BS) (q:BS),P≠[]→joinP (P++[q])=joinP P++32 :: q
 | [],_,h=>absurd rfl h
 | [p],q,_=>rfl
 | p :: p' :: r,q,_=>by
  have ih:=join_snoc (p' :: r) q (by simp)
  show p++32 :: joinP (p' :: r++[q])=p++32 :: joinP (p' :: r)++32 :: q
  rw [ih];simp
theorem join_ne:∀ {P:List BS},P≠[]→(∀ p∈P,p≠[])→joinP P≠[]
 | [],h,_=>absurd rfl h
 | [p],_,h=>h p (by simp)
 | p :: q :: r,_,_=>by show p++32 :: joinP (q :: r)≠[];simp
theorem join_is (P:List BS):joinP P=[32].intercalate P:=by
 induction P with
 | nil=>rfl
 | cons p r ih =>
  cases r with
  | nil=>simp [joinP,List.intercalate]
  | cons q r =>
   show p++32 :: joinP (q :: r)=_
   rw [ih]
   simp [List.intercalate]
theorem cutL_app:∀ {u:BS} (v:BS),cutL u≠[]→cutL (u++v)=cutL u++v
 | [],_,h=>absurd rfl h
 | c :: r,v,h=>by
  rw [cutL_cons] at h
  rw [List.cons_append,cutL_cons,cutL_cons]
  by_cases hc:blankB c=true
  ·rw [if_pos hc] at h ⊢
   rw [if_pos hc];exact cutL_app v h
  ·rw [if_neg hc,if_neg hc];rfl
theorem cutL_none:∀ {u:BS} (v:BS),cutL u=[]→cutL (u++v)=cutL v
 | [],_,_=>rfl
 | c :: r,v,h=>by
  rw [cutL_cons] at h
  by_cases hc:blankB c=true
  ·rw [if_pos hc] at h
   rw [List.cons_append,cutL_cons,if_pos hc];exact cutL_none v h
  ·rw [if_neg hc] at h;cases h
theorem cutR_app:∀ (u:BS) {v:BS},cutR v≠[]→cutR (u++v)=u++cutR v
 | [],_,_=>rfl
 | c :: r,v,h=>by
  rw [List.cons_append,cutR_cons,cutR_app r h,if_neg (by simp [h])];rfl
theorem cutR_none:∀ (u:BS) {v:BS},cutR v=[]→cutR (u++v)=cutR u
 | [],v,h=>by rw [List.nil_append,h];rfl
 | c :: r,v,h=>by rw [List.cons_append,cutR_cons,cutR_none r h,← cutR_cons]
theorem cut_right:∀ {y:BS},cutL y=[]→cutR y=[]
 | [],_=>rfl
 | c :: r,h=>by
  rw [cutL_cons] at h
  by_cases hc:blankB c=true
  ·rw [if_pos hc] at h
   rw [cutR_cons,if_pos (cut_right h),if_pos hc]
  ·rw [if_neg hc] at h;cases h
theorem cutL_twice (y:BS):cutL (cutL y)=cutL y:=cutL_id (cutL_head y)
theorem cutR_twice (y:BS):cutR (cutR y)=cutR y:=cutR_id (cutR_last y)
theorem trim_none {y:BS} (h:trimOf y=[]):cutR y=[]:=by
 have h1:cutL (cutR y)=[]:=by rw [cut_swap];exact h
 have h2:=cut_right h1
 rw [cutR_twice] at h2
 exact h2
theorem trim_glued (y c:BS):trimOf (cutR y++32 :: cutL c)=if trimOf y=[] then trimOf c else if trimOf c=[] then trimOf y else trimOf y++32 :: trimOf c:=by
 have hb:blankB 32=true:=rfl
 by_cases hy:trimOf y=[]
 ·rw [if_pos hy,trim_none hy,List.nil_append]
  show cutR (cutL (32 :: cutL c))=trimOf c
  rw [cutL_cons,if_pos hb,cutL_twice];rfl
 ·rw [if_neg hy]
  have e:cutL (cutR y)=trimOf y:=cut_swap y
  show cutR (cutL (cutR y++32 :: cutL c))=_
  rw [cutL_app _ (by rw [e];exact hy),e]
  by_cases hc:trimOf c=[]
  ·have hc':cutR (cutL c)=[]:=hc
   rw [if_pos hc,cutR_none _ (by rw [cutR_cons,if_pos hc',if_pos hb]),cutR_id (trim_tight y).2]
  ·have e2:cutR (32 :: cutL c)=32 :: trimOf c:=by
    have hc':¬ cutR (cutL c)=[]:=hc
    rw [cutR_cons,if_neg hc'];rfl
   rw [if_neg hc,cutR_app _ (by rw [e2];simp),e2]
theorem bare_cutL (x:BS):bareL (cutL x)=cutL (bareL x):=by
 induction x with
 | nil=>rfl
 | cons c r ih =>
  by_cases hc:blankB c=true
  ·have h35:c≠35:=by rcases blankB_is.1 hc with rfl | rfl <;> decide
   rw [cutL_cons,if_pos hc,bare_cons,if_neg h35,cutL_cons,if_pos hc,ih]
  ·rw [cutL_cons,if_neg hc,bare_cons]
   by_cases h35:c=35
   ·rw [if_pos h35];rfl
   ·rw [if_neg h35,cutL_cons,if_neg hc]
theorem cutR_bare (x:BS):cutR (bareL (cutR x))=cutR (bareL x):=by
 induction x with
 | nil=>rfl
 | cons c r ih =>
  rw [cutR_cons c r]
  by_cases hr:cutR r=[]
  ·rw [hr] at ih
   have ih':cutR (bareL r)=[]:=ih.symm
   rw [if_pos hr]
   by_cases hc:blankB c=true
   ·have h35:c≠35:=by rcases blankB_is.1 hc with rfl | rfl <;> decide
    rw [if_pos hc,bare_cons,if_neg h35,cutR_cons,if_pos ih',if_pos hc];rfl
   ·rw [if_neg hc,bare_cons,bare_cons]
    by_cases h35:c=35
    ·rw [if_pos h35,if_pos h35]
    ·rw [if_neg h35,if_neg h35,cutR_cons c (bareL r),if_pos ih',if_neg hc]
     show cutR [c]=[c]
     rw [cutR_cons,if_pos (show cutR []=[] from rfl),if_neg hc]
  ·rw [if_neg hr,bare_cons,bare_cons]
   by_cases h35:c=35
   ·rw [if_pos h35,if_pos h35]
   ·rw [if_neg h35,if_neg h35,cutR_cons,cutR_cons,ih]
theorem trim_twice (x:BS):trimOf (trimOf x)=trimOf x:=trim_id (trim_tight x)
theorem text_trim (tab:Bool) (x:BS):textL tab (trimOf x)=textL tab x:=by
 unfold textL
 cases tab with
 | true=>exact trim_twice x
 | false =>
  show trimOf (bareL (cutR (cutL x)))=trimOf (bareL x)
  have e:∀ z:BS,trimOf z=cutL (cutR z):=fun z=>(cut_swap z).symm
  rw [e,cutR_bare,← e,bare_cutL]
  show cutR (cutL (cutL (bareL x)))=_
  rw [cutL_twice];rfl
def coreL (b:BS):BS:=if oddB b then b.dropLast else b
def pieceL (b:BS):BS:=trimOf (coreL b)
theorem odd_last {b:BS} (h:oddB b=true):∃ u,b=u++[92]:=by
 rcases List.eq_nil_or_concat b with rfl | ⟨u,c,rfl⟩
 ·cases h
 ·rw [List.concat_eq_append] at h ⊢
  refine ⟨u,?_⟩
  by_cases hc:c=92
  ·rw [hc]
  ·have:=strokes_none (l:=u++[c]) (fun d hd=>by simp at hd;rw [← hd];exact hc)
   unfold oddB at h
   rw [this] at h
   cases h
theorem core_join (a b:BS):coreL (joinL a b)=cutR a.dropLast++32 :: cutL (coreL b):=by
 unfold coreL
 rw [odd_join]
 cases hb:oddB b with
 | false=>rfl
 | true =>
  obtain ⟨u,rfl⟩:=odd_last hb
  have e:cutL (u++[92])=cutL u++[92]:=by
   by_cases hu:cutL u=[]
   ·rw [cutL_none _ hu,hu];rfl
   ·exact cutL_app _ hu
  unfold joinL
  simp only [if_true,List.dropLast_concat]
  rw [e,← List.cons_append,← List.append_assoc,List.dropLast_concat]
theorem core_odd {a:BS} (h:oddB a=true):coreL a=a.dropLast:=by unfold coreL;rw [if_pos h]
theorem core_even {a:BS} (h:oddB a=false):coreL a=a:=by unfold coreL;rw [h];rfl
structure Put (a:BS) (r:List BS) (k:Nat) (g:Bool) (P:List BS):Prop where
 full:∀ p∈P,p≠[]
 few:P.length≤k
 begun:k=0→g=true∧P=[]
 on:∀ j,k=j+1→∃ x,Glued a r x j∧g=oddB x∧joinP P=trimOf (coreL x)
theorem Put.start (a:BS) (r:List BS):Put a r 0 true []:=⟨by simp,Nat.le_refl _,fun _=>⟨rfl,rfl⟩,fun j h=>by cases h⟩
section
variable {a b:BS} {r:List BS} {k:Nat} {g:Bool} {P:List BS}
theorem Put.join (h:Put a r k true P) (hb:(a :: r)[k]? = some b):∃ x,Glued a r x k∧oddB b=oddB x∧(if joinP P=[] then pieceL b else if pieceL b=[] then joinP P else joinP P++32 :: pieceL b)=trimOf (coreL x):=by
 cases k with
 | zero =>
  obtain ⟨_,rfl⟩:=h.begun rfl
  have e:a=b:=by simpa using hb
  subst e
  exact ⟨a,Glued.start a r,rfl,rfl⟩
 | succ j =>
  obtain ⟨x,hx,hg,hj⟩:=h.on j rfl
  have hb':r[j]? = some b:=by simpa using hb
  refine ⟨joinL x b,hx.next hb' hg.symm,(odd_join x b).symm,?_⟩
  rw [core_join,trim_glued,hj,core_odd hg.symm];rfl
theorem Put.skip (h:Put a r k true P) (hb:(a :: r)[k]? = some b) (hp:pieceL b=[]):Put a r (k+1) (oddB b) P:=by
 obtain ⟨x,h1,h2,h3⟩:=h.join hb
 refine ⟨h.full,Nat.le_succ_of_le h.few,fun h=>by omega,fun j hj=>?_⟩
 obtain rfl:k=j:=by omega
 refine ⟨x,h1,h2,?_⟩
 rw [← h3,hp]
 by_cases hj:joinP P=[]
 ·rw [if_pos hj,hj]
 ·rw [if_neg hj,if_pos rfl]
theorem Put.next (h:Put a r k true P) (hb:(a :: r)[k]? = some b) (hp:pieceL b≠[]):Put a r (k+1) (oddB b) (P++[pieceL b]):=by
 obtain ⟨x,h1,h2,h3⟩:=h.join hb
 refine ⟨fun p hm=>?_,by rw [List.length_append];exact Nat.succ_le_succ h.few,fun h=>by omega,fun j hj=>?_⟩
 ·rcases List.mem_append.1 hm with hm | hm
  ·exact h.full p hm
  ·rw [List.mem_singleton.1 hm];exact hp
 obtain rfl:k=j:=by omega
 refine ⟨x,h1,h2,?_⟩
 rw [← h3]
 by_cases hP:P=[]
 ·subst hP;rw [if_pos (show joinP []=[] from rfl)];rfl
 ·rw [if_neg (join_ne hP h.full),if_neg hp,join_snoc _ _ hP]
theorem Put.done (h:Put a r k g P) (he:g=false∨r.length < k):k=(glue a r).2+1∧joinP P=trimOf (glue a r).1:=by
 cases k with
 | zero =>
  rcases he with he | he
  ·rw [(h.begun rfl).1] at he;cases he
  ·omega
 | succ j =>
  obtain ⟨x,hx,hg,hj⟩:=h.on j rfl
  cases ho:oddB x with
  | false =>
   rw [hx.even ho,hj,core_even ho];exact ⟨rfl,rfl⟩
  | true =>
   rw [hg,ho] at he
   have hr:r.length≤j:=by
    rcases he with he | he
    ·cases he
    ·omega
   rw [hx.last ho hr,hj,core_odd ho];exact ⟨rfl,rfl⟩
end
theorem join_len (a b:BS):(joinL a b).length≤a.length+b.length+1:=by
 have h1:=cutR_len a.dropLast
 have h2:=cutL_len b
 unfold joinL
 rw [List.length_append,List.length_cons]
 rw [List.length_dropLast] at h1
 omega
theorem glue_len (M:Nat):∀ (r:List BS) (a:BS),(∀ l∈r,l.length≤M)→(glue a r).1.length≤a.length+r.length*(M+1)
 | [],a,_=>by
  unfold glue
  split
  ·rw [List.length_dropLast];simp
  ·simp
 | b :: r,a,h=>by
  have hb:=h b (by simp)
  have ih:=glue_len M r (joinL a b) (fun l hl=>h l (List.mem_cons_of_mem _ hl))
  have hj:=join_len a b
  unfold glue
  split
  ·show (glue (joinL a b) r).1.length≤_
   rw [List.length_cons,Nat.add_mul]
   omega
  ·rw [List.length_cons];exact Nat.le_add_right _ _
theorem pieces_short (p:UInt8→Bool) (l:BS):∀ x∈pieces p l,x.length≤l.length:=by
 induction l with
 | nil=>intro x hx;simp [pieces] at hx;subst hx;simp
 | cons c r ih =>
  simp only [pieces]
  split
  ·intro x hx
   rcases List.mem_cons.1 hx with rfl | hx
   ·simp
   ·have:=ih x hx;simp;omega
  ·split
   ·rename_i h t e
    rw [e] at ih
    intro x hx
    rcases List.mem_cons.1 hx with rfl | hx
    ·have:=ih h (by simp);simp;omega
    ·have:=ih x (by simp [hx]);simp;omega
   ·rename_i e;exact absurd e (pieces_ne p r)
theorem lines_short {l:BS}:∀ x∈linesL l,x.length≤l.length:=by
 intro x hx
 have hm:x∈pieces nlB l:=by
  unfold linesL at hx
  split at hx
  ·exact List.dropLast_subset _ hx
  ·exact hx
 exact pieces_short nlB l x hm
end Go.Proofs.YtmfjolmfbdbegaaGreatDoor

namespace Go.Proofs.YtmfjolmfbdbegaaGreatDoor
section
variable {signs:List BS} {st:List UInt8} {c d q:UInt8} {r:BS}
end
structure Nd where
 kind:Int
 no:Int
 op:BS
 name:BS
 text:BS
 targets:BS
 pattern:BS
 inputs:BS
 order:BS
 recipe:List BS
def wordsL (l:BS):List BS:=(pieces blankB l).filter fun x=>decide (x≠[])
def wIfeq:BS:=[105,102,101,113]
def wIfneq:BS:=[105,102,110,101,113]
def wIfdef:BS:=[105,102,100,101,102]
def wIfndef:BS:=[105,102,110,100,101,102]
def wElse:BS:=[101,108,115,101]
def wEndif:BS:=[101,110,100,105,102]
def wIncl:BS:=[105,110,99,108,117,100,101]
def wIncl2:BS:=45 :: wIncl
def signsL:List BS:=[[58,61],[63,61],[43,61],[61],[58]]
def rulePat (b:BS):BS:=if (cutOf [[58]] b).2.1=[] then [] else trimOf (cutOf [[58]] b).1
def ruleRest (b:BS):BS:=if (cutOf [[58]] b).2.1=[] then b else (cutOf [[58]] b).2.2
def ruleBad (a b:BS):Bool :=
 decide ((cutOf [[58]] b).2.1≠[]∧rulePat b=[]) || decide (trimOf a=[]) || decide ((cutOf [[58]] (ruleRest b)).2.1≠[]) ||
  decide ((cutOf [[124]] (ruleRest b)).2.1≠[]∧(cutOf [[124]] (cutOf [[124]] (ruleRest b)).2.2).2.1≠[])
def ruleL (no:Int) (a b:BS):Option Nd :=
 if ruleBad a b=true then none
 else some ⟨2,no,[],[],[],trimOf a,rulePat b,trimOf (cutOf [[124]] (ruleRest b)).1,trimOf (cutOf [[124]] (ruleRest b)).2.2,[]⟩
def restL (x w:BS):BS:=trimOf (x.drop w.length)
def ifL (no:Int) (w rest:BS):Option Nd :=
 if 2≤rest.length∧rest.head? = some 40∧rest.getLast? = some 41 then
  let k:=cutOf [[44]] rest.tail.dropLast
  if k.2.1=[] then none else some ⟨3,no,w,trimOf k.1,trimOf k.2.2,[],[],[],[],[]⟩
 else none
def eqL (no:Int) (x:BS):Option Nd :=
 let k:=cutOf signsL x
 if k.2.1=[] then none
 else if k.2.1=[58] then ruleL no k.1 k.2.2
 else if nameB (trimOf k.1) then some ⟨1,no,k.2.1,trimOf k.1,trimOf k.2.2,[],[],[],[],[]⟩ else none
def oneL (no:Int) (t:BS):Option Nd :=
 match wordsL (trimOf t) with
 | []=>none
 | w :: ws =>
  if w=wIfeq∨w=wIfneq then ifL no w (restL (trimOf t) w)
  else if w=wIfdef∨w=wIfndef then (if nameB (restL (trimOf t) w) then some ⟨3,no,w,restL (trimOf t) w,[],[],[],[],[],[]⟩ else none)
  else if w=wElse then (if ws=[] then some ⟨4,no,[],[],[],[],[],[],[],[]⟩ else none)
  else if w=wEndif then (if ws=[] then some ⟨5,no,[],[],[],[],[],[],[],[]⟩ else none)
  else if w=wIncl∨w=wIncl2 then (if restL (trimOf t) w=[] then none else some ⟨6,no,w,[],restL (trimOf t) w,[],[],[],[],[]⟩)
  else eqL no (trimOf t)
abbrev LineI:=Int × Bool × BS
abbrev Parsed:=List Nd × Int × Int
def badL (e no:Int):Parsed:=([],e,no)
def parseF:List Bool→List Nd→List LineI→Parsed
 | op,out,[]=>if op=[] then (out,0,0) else badL 14 0
 | op,out,(no,true,t) :: r =>
  match out.getLast? with
  | some n=>if n.kind=2 then parseF op (out.dropLast++[{ n with recipe:=n.recipe++[t] }]) r else badL 2 no
  | none=>badL 2 no
 | op,out,(no,false,t) :: r =>
  match oneL no t with
  | none=>badL 2 no
  | some n =>
   if n.kind=3 then (if op.length=20 then badL 15 no else parseF (false :: op) (out++[n]) r)
   else if n.kind=4 then (match op with
    | false :: o=>parseF (true :: o) (out++[n]) r
    | _=>badL 2 no)
   else if n.kind=5 then (match op with
    | _ :: o=>parseF o (out++[n]) r
    | []=>badL 2 no)
   else parseF op (out++[n]) r
def parseOf (l:List LineI):Parsed:=parseF [] [] l
def toLine (x:Item):LineI:=((x.1:Nat),x.2.1,x.2.2)
theorem rule_kind {no:Int} {a b:BS} {n:Nd} (h:ruleL no a b=some n):n.kind=2∧n.no=no∧n.recipe=[]:=by
 unfold ruleL at h
 split at h
 ·cases h
 ·cases h;exact ⟨rfl,rfl,rfl⟩
theorem one_kind {no:Int} {t:BS} {n:Nd} (h:oneL no t=some n):1≤n.kind∧n.kind≤6∧n.no=no∧n.recipe=[]:=by
 unfold oneL at h
 split at h
 ·cases h
 ·split at h
  ·unfold ifL at h
   split at h
   ·simp only at h
    split at h
    ·cases h
    ·cases h;exact ⟨by simp,by simp,rfl,rfl⟩
   ·cases h
  split at h
  ·split at h
   ·cases h;exact ⟨by simp,by simp,rfl,rfl⟩
   ·cases h
  split at h
  ·split at h
   ·cases h;exact ⟨by simp,by simp,rfl,rfl⟩
   ·cases h
  split at h
  ·split at h
   ·cases h;exact ⟨by simp,by simp,rfl,rfl⟩
   ·cases h
  split at h
  ·split at h
   ·cases h
   ·cases h;exact ⟨by simp,by simp,rfl,rfl⟩
  ·unfold eqL at h
   simp only at h
   split at h
   ·cases h
   split at h
   ·obtain ⟨h1,h2,h3⟩:=rule_kind h
    exact ⟨by omega,by omega,h2,h3⟩
   split at h
   ·cases h;exact ⟨by simp,by simp,rfl,rfl⟩
   ·cases h
end Go.Proofs.YtmfjolmfbdbegaaGreatDoor

namespace Go.Proofs.YtmfjolmfbdbegaaGreatDoor
theorem cut_cases (signs:List BS) (st:List UInt8) (c:UInt8) (r:BS) :
  (∃ d r' q,r=d :: r'∧opens (c :: r)=some q∧cutW signs st (c :: r)=Cut3.put c (Cut3.put d (cutW signs (q :: st) r'))) ∨
  (opens (c :: r)=none∧((st.head? = some c∧cutW signs st (c :: r)=Cut3.put c (cutW signs st.tail r)) ∨
   (¬ st.head? = some c∧st≠[]∧cutW signs st (c :: r)=Cut3.put c (cutW signs st r)) ∨
   (st=[]∧∃ x,signAt signs (c :: r)=some x∧cutW signs st (c :: r)=([],x,(c :: r).drop x.length)) ∨
   (st=[]∧signAt signs (c :: r)=none∧cutW signs st (c :: r)=Cut3.put c (cutW signs st r)))):=by
 cases ho:opens (c :: r) with
 | some q =>
  cases r with
  | nil=>cases ho
  | cons d r=>exact .inl ⟨d,r,q,rfl,rfl,cutW_open ho⟩
 | none =>
  refine .inr ⟨rfl,?_⟩
  by_cases hs:st.head? = some c
  ·exact .inl ⟨hs,cutW_close ho hs⟩
  ·by_cases hn:st=[]
   ·subst hn
    cases hx:signAt signs (c :: r) with
    | some x=>exact .inr (.inr (.inl ⟨rfl,x,rfl,cutW_sign ho hx⟩))
    | none=>exact .inr (.inr (.inr ⟨rfl,rfl,cutW_out ho hx⟩))
   ·exact .inr (.inl ⟨hs,hn,cutW_in ho hs hn⟩)
def Whole (signs:List BS) (s:BS) (k:Cut3):Prop:=(k.2.1=[]∧k.1=s∧k.2.2=[])∨(k.2.1∈signs∧k.2.1≠[]∧k.1++k.2.1++k.2.2=s)
theorem Whole.put {signs:List BS} {s:BS} {k:Cut3} (c:UInt8) (h:Whole signs s k):Whole signs (c :: s) (Cut3.put c k):=by
 rcases h with ⟨h1,h2,h3⟩ | ⟨h1,h2,h3⟩
 ·exact .inl ⟨h1,by show c :: k.1=_;rw [h2],h3⟩
 ·exact .inr ⟨h1,h2,by show c :: k.1++k.2.1++k.2.2=_;rw [List.cons_append,List.cons_append,h3]⟩
theorem cutW_whole (signs:List BS):∀ (n:Nat) (st:List UInt8) (s:BS),s.length≤n→Whole signs s (cutW signs st s)
 | _,st,[],_=>by rw [cutW_nil];exact .inl ⟨rfl,rfl,rfl⟩
 | 0,_,_ :: _,h=>by simp at h
 | n+1,st,c :: r,h=>by
  have hr:r.length≤n:=by simpa using h
  rcases cut_cases signs st c r with ⟨d,r',q,rfl,_,e⟩ | ⟨_,⟨_,e⟩ | ⟨_,_,e⟩ | ⟨_,x,hx,e⟩ | ⟨_,_,e⟩⟩
  ·rw [e];exact ((cutW_whole signs n _ r' (by simp at hr;omega)).put d).put c
  ·rw [e];exact (cutW_whole signs n _ r hr).put c
  ·rw [e];exact (cutW_whole signs n _ r hr).put c
  ·rw [e]
   obtain ⟨h1,h2,h3⟩:=sign_at hx
   exact .inr ⟨h1,h2,by rw [List.nil_append];exact h3⟩
  ·rw [e];exact (cutW_whole signs n _ r hr).put c
theorem cut_whole (signs:List BS) (s:BS):Whole signs s (cutOf signs s):=cutW_whole signs s.length [] s (Nat.le_refl _)
theorem cut_len (signs:List BS) (s:BS):(cutOf signs s).1.length≤s.length∧(cutOf signs s).2.2.length≤s.length:=by
 rcases cut_whole signs s with ⟨_,h2,h3⟩ | ⟨_,_,h3⟩
 ·rw [h2,h3];simp
 ·have:=congrArg List.length h3
  simp only [List.length_append] at this
  omega
theorem cutW_clean {signs:List BS}:∀ (u v:BS),(∀ c∈u,c≠36∧∀ x∈signs,x.head?≠some c)→cutW signs [] (u++v)=(u++(cutW signs [] v).1,(cutW signs [] v).2.1,(cutW signs [] v).2.2)
 | [],v,_=>rfl
 | c :: u,v,h=>by
  have ih:=cutW_clean u v (fun d hd=>h d (List.mem_cons_of_mem _ hd))
  obtain ⟨h1,h2⟩:=h c (by simp)
  have ho:opens (c :: (u++v))=none:=by
   cases u++v with
   | nil=>rfl
   | cons d w =>
    show (if c=36 then (if d=40 then some 41 else if d=123 then some 125 else none) else none)=(none:Option UInt8)
    rw [if_neg h1]
  have hx:signAt signs (c :: (u++v))=none:=by
   unfold signAt
   rw [List.find?_eq_none]
   intro x hm hp
   simp only [Bool.and_eq_true,decide_eq_true_eq,List.isPrefixOf_iff_prefix] at hp
   obtain ⟨hne,t,ht⟩:=hp
   cases x with
   | nil=>exact hne rfl
   | cons d x =>
    have hd:d=c:=(List.cons.inj ht).1
    exact h2 _ hm (by rw [hd];rfl)
  rw [List.cons_append,cutW_out ho hx,ih]
  rfl
section
variable {op:List Bool} {out:List Nd} {no:Int} {t:BS} {r:List LineI}
theorem parse_tab:parseF op out ((no,true,t) :: r)=(match out.getLast? with
  | some n=>if n.kind=2 then parseF op (out.dropLast++[{ n with recipe:=n.recipe++[t] }]) r else badL 2 no
  | none=>badL 2 no):=rfl
theorem parse_one:parseF op out ((no,false,t) :: r)=(match oneL no t with
  | none=>badL 2 no
  | some n =>
   if n.kind=3 then (if op.length=20 then badL 15 no else parseF (false :: op) (out++[n]) r)
   else if n.kind=4 then (match op with
    | false :: o=>parseF (true :: o) (out++[n]) r
    | _=>badL 2 no)
   else if n.kind=5 then (match op with
    | _ :: o=>parseF o (out++[n]) r
    | []=>badL 2 no)
   else parseF op (out++[n]) r):=rfl
theorem parse_nil:parseF op out []=if op=[] then (out,0,0) else badL 14 0:=by unfold parseF;rfl
end
theorem parse_step (op:List Bool) (out:List Nd) (x:LineI) :
  (∃ e,e≠0∧e≠14∧∀ r,parseF op out (x :: r)=badL e x.1) ∨
  (∃ n,x.2.1=true∧out.getLast? = some n∧n.kind=2∧∀ r,parseF op out (x :: r)=parseF op (out.dropLast++[{ n with recipe:=n.recipe++[x.2.2] }]) r) ∨
  (∃ n op',x.2.1=false∧oneL x.1 x.2.2=some n∧(∀ r,parseF op out (x :: r)=parseF op' (out++[n]) r) ∧
   ((n.kind=3∧op.length < 20∧op'=false :: op∨n.kind=3∧20 < op.length∧op'=false :: op)∨(n.kind=4∧∃ o,op=false :: o∧op'=true :: o)∨(n.kind=5∧∃ b o,op=b :: o∧op'=o)∨(n.kind≠3∧n.kind≠4∧n.kind≠5∧op'=op))):=by
 obtain ⟨no,tab,t⟩:=x
 cases tab with
 | true =>
  cases hl:out.getLast? with
  | none=>exact .inl ⟨2,by decide,by decide,fun r=>by rw [parse_tab,hl]⟩
  | some n =>
   by_cases hk:n.kind=2
   ·exact .inr (.inl ⟨n,rfl,rfl,hk,fun r=>by rw [parse_tab,hl];simp only;rw [if_pos hk]⟩)
   ·exact .inl ⟨2,by decide,by decide,fun r=>by rw [parse_tab,hl];simp only;rw [if_neg hk]⟩
 | false =>
  cases h1:oneL no t with
  | none=>exact .inl ⟨2,by decide,by decide,fun r=>by rw [parse_one,h1]⟩
  | some n =>
   by_cases h3:n.kind=3
   ·by_cases h20:op.length=20
    ·exact .inl ⟨15,by decide,by decide,fun r=>by rw [parse_one,h1];simp only;rw [if_pos h3,if_pos h20]⟩
    ·refine .inr (.inr ⟨n,false :: op,rfl,rfl,fun r=>by rw [parse_one,h1];simp only;rw [if_pos h3,if_neg h20],.inl ?_⟩)
     rcases Nat.lt_or_gt_of_ne h20 with h | h
     ·exact .inl ⟨h3,h,rfl⟩
     ·exact .inr ⟨h3,h,rfl⟩
   by_cases h4:n.kind=4
   ·cases op with
    | nil=>exact .inl ⟨2,by decide,by decide,fun r=>by rw [parse_one,h1];simp only;rw [if_neg h3,if_pos h4]⟩
    | cons b o =>
     cases b with
     | true=>exact .inl ⟨2,by decide,by decide,fun r=>by rw [parse_one,h1];simp only;rw [if_neg h3,if_pos h4]⟩
     | false=>exact .inr (.inr ⟨n,true :: o,rfl,rfl,fun r=>by rw [parse_one,h1];simp only;rw [if_neg h3,if_pos h4],.inr (.inl ⟨h4,o,rfl,rfl⟩)⟩)
   by_cases h5:n.kind=5
   ·cases op with
    | nil=>exact .inl ⟨2,by decide,by decide,fun r=>by rw [parse_one,h1];simp only;rw [if_neg h3,if_neg h4,if_pos h5]⟩
    | cons b o=>exact .inr (.inr ⟨n,o,rfl,rfl,fun r=>by rw [parse_one,h1];simp only;rw [if_neg h3,if_neg h4,if_pos h5],.inr (.inr (.inl ⟨h5,b,o,rfl,rfl⟩))⟩)
   ·exact .inr (.inr ⟨n,op,rfl,rfl,fun r=>by rw [parse_one,h1];simp only;rw [if_neg h3,if_neg h4,if_neg h5],.inr (.inr (.inr ⟨h3,h4,h5,rfl⟩))⟩)
theorem parse_seq:∀ (l k:List LineI) (op:List Bool) (out a:List Nd) (m:Int),parseF op out l=(a,0,m)→parseF op out (l++k)=parseF [] a k
 | [],k,op,out,a,m,h=>by
  rw [parse_nil] at h
  split at h
  ·rename_i hop;cases h;rw [hop];rfl
  ·cases h
 | x :: l,k,op,out,a,m,h=>by
  rw [List.cons_append]
  rcases parse_step op out x with ⟨e,h0,_,h1⟩ | ⟨n,_,_,_,h1⟩ | ⟨n,op',_,_,h1,_⟩
  ·rw [h1] at h;cases h;exact absurd rfl h0
  ·rw [h1] at h ⊢;exact parse_seq l k _ _ a m h
  ·rw [h1] at h ⊢;exact parse_seq l k _ _ a m h
theorem parse_app:∀ (r:List LineI) (op:List Bool) (p out a:List Nd) (m:Int),parseF op out r=(a,0,m)→parseF op (p++out) r=(p++a,0,m)
 | [],op,p,out,a,m,h=>by
  rw [parse_nil] at h ⊢
  split at h
  ·rename_i hop;cases h;rw [if_pos hop]
  ·cases h
 | x :: r,op,p,out,a,m,h=>by
  rcases parse_step op out x with ⟨e,h0,_,h1⟩ | ⟨n,ht,hl,hk,h1⟩ | ⟨n,op',ht,hn,h1,h2⟩
  ·rw [h1] at h;cases h;exact absurd rfl h0
  ·rw [h1] at h
   have ih:=parse_app r op p _ a m h
   have hne:out≠[]:=by intro e;rw [e] at hl;cases hl
   rcases parse_step op (p++out) x with ⟨e,h0,_,h3⟩ | ⟨n',_,hl',hk',h3⟩ | ⟨n',op'',ht',_,_,_⟩
   ·exfalso
    obtain ⟨no,tab,t⟩:=x
    simp only at ht
    subst ht
    have:=h3 r
    rw [parse_tab,List.getLast?_append,hl,Option.some_or] at this
    simp only [if_pos hk] at this
    rw [List.dropLast_append_of_ne_nil hne,List.append_assoc,ih] at this
    exact h0 (congrArg (fun q:Parsed=>q.2.1) this).symm
   ·rw [List.getLast?_append,hl,Option.some_or] at hl'
    cases hl'
    rw [h3,List.dropLast_append_of_ne_nil hne,List.append_assoc]
    exact ih
   ·rw [ht] at ht';cases ht'
  ·rw [h1] at h
   have ih:=parse_app r op' p _ a m h
   rw [← List.append_assoc] at ih
   rw [← ih]
   obtain ⟨no,tab,t⟩:=x
   simp only at ht hn
   subst ht
   rw [parse_one,hn]
   simp only
   rcases h2 with (⟨h3,h20,rfl⟩ | ⟨h3,h20,rfl⟩) | ⟨h4,o,rfl,rfl⟩ | ⟨h5,b,o,rfl,rfl⟩ | ⟨h3,h4,h5,rfl⟩
   ·rw [if_pos h3,if_neg (by omega)]
   ·rw [if_pos h3,if_neg (by omega)]
   ·rw [if_neg (by omega),if_pos h4]
   ·rw [if_neg (by omega),if_neg (by omega),if_pos h5]
   ·rw [if_neg h3,if_neg h4,if_neg h5]
theorem rows_law {l k:List LineI} {a b:List Nd} {m n:Int} (h1:parseOf l=(a,0,m)) (h2:parseOf k=(b,0,n)):parseOf (l++k)=(a++b,0,n):=by
 have e:=parse_seq l k [] [] a m h1
 have e2:=parse_app k [] a [] b n h2
 rw [List.append_nil] at e2
 exact e.trans e2
theorem parse_len:∀ (l:List LineI) (op:List Bool) (out:List Nd),(parseF op out l).1.length≤out.length+l.length
 | [],op,out=>by
  rw [parse_nil]
  split
  ·simp
  ·simp [badL]
 | x :: l,op,out=>by
  rcases parse_step op out x with ⟨e,_,_,h1⟩ | ⟨n,_,hl,_,h1⟩ | ⟨n,op',_,_,h1,_⟩
  ·rw [h1];simp [badL]
  ·rw [h1]
   have:=parse_len l op (out.dropLast++[{ n with recipe:=n.recipe++[x.2.2] }])
   have hne:0 < out.length:=by
    cases out with
    | nil=>cases hl
    | cons a b=>simp
   simp at this ⊢;omega
  ·rw [h1]
   have:=parse_len l op' (out++[n])
   simp at this ⊢;omega
end Go.Proofs.YtmfjolmfbdbegaaGreatDoor

namespace Go.Proofs.YtmfjolmfbdbegaaGreatDoor
def parseG:List Bool→Option Int→List Nd→List LineI→Parsed
 | op,dp,out,[]=>match dp with
  | some a=>badL 15 a
  | none=>if op=[] then (out,0,0) else badL 14 0
 | op,dp,out,(no,true,t) :: r =>
  match out.getLast? with
  | some n=>if n.kind=2 then parseG op dp (out.dropLast++[{ n with recipe:=n.recipe++[t] }]) r else badL 2 no
  | none=>badL 2 no
 | op,dp,out,(no,false,t) :: r =>
  match oneL no t with
  | none=>badL 2 no
  | some n =>
   if n.kind=3 then parseG (false :: op) (if op.length=20∧dp=none then some no else dp) (out++[n]) r
   else if n.kind=4 then (match op with
    | false :: o=>parseG (true :: o) dp (out++[n]) r
    | _=>badL 2 no)
   else if n.kind=5 then (match op with
    | _ :: o=>parseG o dp (out++[n]) r
    | []=>badL 2 no)
   else parseG op dp (out++[n]) r
def parseP (l:List LineI):Parsed:=parseG [] none [] l
section
variable {op:List Bool} {dp:Option Int} {out:List Nd} {no:Int} {t:BS} {r:List LineI}
theorem parseG_tab:parseG op dp out ((no,true,t) :: r)=(match out.getLast? with
  | some n=>if n.kind=2 then parseG op dp (out.dropLast++[{ n with recipe:=n.recipe++[t] }]) r else badL 2 no
  | none=>badL 2 no):=by conv=>lhs;unfold parseG
theorem parseG_one:parseG op dp out ((no,false,t) :: r)=(match oneL no t with
  | none=>badL 2 no
  | some n =>
   if n.kind=3 then parseG (false :: op) (if op.length=20∧dp=none then some no else dp) (out++[n]) r
   else if n.kind=4 then (match op with
    | false :: o=>parseG (true :: o) dp (out++[n]) r
    | _=>badL 2 no)
   else if n.kind=5 then (match op with
    | _ :: o=>parseG o dp (out++[n]) r
    | []=>badL 2 no)
   else parseG op dp (out++[n]) r):=by conv=>lhs;unfold parseG
theorem parseG_nil:parseG op dp out []=(match dp with
  | some a=>badL 15 a
  | none=>if op=[] then (out,0,0) else badL 14 0):=by unfold parseG;rfl
end
theorem parseG_deep (a:Int):∀ (l:List LineI) (op:List Bool) (out:List Nd),parseG op (some a) out l=badL 15 a∨∃ no,parseG op (some a) out l=badL 2 no
 | [],_,_=>by rw [parseG_nil];exact .inl rfl
 | (no,true,t) :: r,op,out=>by
  rw [parseG_tab]
  split
  ·split
   ·exact parseG_deep a r _ _
   ·exact .inr ⟨_,rfl⟩
  ·exact .inr ⟨_,rfl⟩
 | (no,false,t) :: r,op,out=>by
  rw [parseG_one]
  split
  ·exact .inr ⟨_,rfl⟩
  ·split
   ·rw [if_neg (by simp)]
    exact parseG_deep a r _ _
   split
   ·split
    ·exact parseG_deep a r _ _
    ·exact .inr ⟨_,rfl⟩
   split
   ·split
    ·exact parseG_deep a r _ _
    ·exact .inr ⟨_,rfl⟩
   ·exact parseG_deep a r _ _
theorem parseG_near:∀ (l:List LineI) (op:List Bool) (out:List Nd),parseG op none out l=parseF op out l∨∃ a no,parseF op out l=badL 15 a∧parseG op none out l=badL 2 no
 | [],_,_=>by rw [parseG_nil,parse_nil];exact .inl rfl
 | (no,true,t) :: r,op,out=>by
  rw [parseG_tab,parse_tab]
  cases out.getLast? with
  | none=>exact .inl rfl
  | some n =>
   by_cases hk:n.kind=2
   ·simp only [if_pos hk]
    exact parseG_near r _ _
   ·simp only [if_neg hk]
    exact .inl trivial
 | (no,false,t) :: r,op,out=>by
  rw [parseG_one,parse_one]
  cases oneL no t with
  | none=>exact .inl rfl
  | some n =>
   by_cases h3:n.kind=3
   ·simp only [if_pos h3]
    by_cases hd:op.length=20
    ·rw [if_pos ⟨hd,trivial⟩,if_pos hd]
     rcases parseG_deep no r (false :: op) (out++[n]) with h | ⟨n2,h⟩
     ·exact .inl h
     ·exact .inr ⟨_,_,rfl,h⟩
    ·rw [if_neg (fun h=>hd h.1),if_neg hd]
     exact parseG_near r _ _
   by_cases h4:n.kind=4
   ·simp only [if_neg h3,if_pos h4]
    match op with
    | []=>exact .inl rfl
    | true :: _=>exact .inl rfl
    | false :: o=>exact parseG_near r _ _
   by_cases h5:n.kind=5
   ·simp only [if_neg h3,if_neg h4,if_pos h5]
    match op with
    | []=>exact .inl rfl
    | _ :: o=>exact parseG_near r _ _
   ·simp only [if_neg h3,if_neg h4,if_neg h5]
    exact parseG_near r _ _
theorem parseP_near (l:List LineI):parseP l=parseOf l∨∃ a no,parseOf l=badL 15 a∧parseP l=badL 2 no:=parseG_near l [] []
theorem parseP_right {l:List LineI} (h:(parseOf l).2.1≠15):parseP l=parseOf l:=by
 rcases parseP_near l with h1 | ⟨a,no,h1,_⟩
 ·exact h1
 ·rw [h1] at h;exact absurd rfl h
theorem parseP_ok {l:List LineI} (h:(parseP l).2.1≠2):parseP l=parseOf l:=by
 rcases parseP_near l with h1 | ⟨a,no,_,h1⟩
 ·exact h1
 ·rw [h1] at h;exact absurd rfl h
theorem parseP_few (l:List LineI):(parseP l).1.length≤l.length:=by
 rcases parseP_near l with h1 | ⟨a,no,_,h1⟩
 ·rw [h1]
  have:=parse_len l [] []
  unfold parseOf
  simpa using this
 ·rw [h1];exact Nat.zero_le _
end Go.Proofs.YtmfjolmfbdbegaaGreatDoor
