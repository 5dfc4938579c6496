/-
  Plain words of chapters 1 and 8: lines of a text, blanks cut off. No program, no world. No condition.
-/
import Derived.Test.YtmfjolmfbdbegaaGreatDoorCut
namespace Go.Proofs.YtmfjolmfbdbegaaGreatDoor
abbrev BS:=List UInt8
def blankB (c:UInt8):Bool:=decide (c.toNat=32∨c.toNat=9)
def nlB (c:UInt8):Bool:=decide (c.toNat=10)
theorem nlB_is {c:UInt8}:nlB c=true↔c=10:=by
 simp only [nlB,decide_eq_true_eq]
 exact ⟨fun h=>UInt8.toNat_inj.1 (by rw [h];rfl),fun h=>by rw [h];rfl⟩
theorem blankB_is {c:UInt8}:blankB c=true↔c=32∨c=9:=by
 simp only [blankB,decide_eq_true_eq]
 constructor
 ·rintro (h | h)
  ·exact .inl (UInt8.toNat_inj.1 (by rw [h];rfl))
  ·exact .inr (UInt8.toNat_inj.1 (by rw [h];rfl))
 ·rintro (rfl | rfl)
  ·exact .inl rfl
  ·exact .inr rfl
def linesL (l:BS):List BS:=if (pieces nlB l).getLast? = some [] then (pieces nlB l).dropLast else pieces nlB l
def linesOf (l:List UInt8):List ByteArray:=if (pieces nlB l).getLast? = some [] then ((pieces nlB l).map txt).dropLast else (pieces nlB l).map txt
theorem linesOf_is (l:BS):linesOf l=(linesL l).map txt:=by
 unfold linesOf linesL
 split
 ·rw [List.map_dropLast]
 ·rfl
theorem pieces_app (p:UInt8→Bool) (a:BS) (c:UInt8) (r:BS) (hc:p c=true):pieces p (a++c :: r)=pieces p a++pieces p r:=by
 induction a with
 | nil=>simp [pieces,hc]
 | cons x a ih =>
  rw [List.cons_append,pieces,ih]
  by_cases hx:p x=true
  ·rw [if_pos hx,pieces,if_pos hx];rfl
  ·rw [if_neg hx,pieces,if_neg hx]
   have:=pieces_ne p a
   cases h:pieces p a with
   | nil=>exact absurd h this
   | cons u v=>rfl
theorem pieces_count (p:UInt8→Bool) (l:BS):(pieces p l).length=l.countP p+1:=by
 induction l with
 | nil=>rfl
 | cons c r ih =>
  by_cases hc:p c=true
  ·rw [pieces,if_pos hc,List.length_cons,ih,List.countP_cons_of_pos hc]
  ·rw [pieces,if_neg hc,List.countP_cons_of_neg hc,← ih]
   cases h:pieces p r with
   | nil=>exact absurd h (pieces_ne p r)
   | cons u v=>rfl
theorem lines_count (l:BS):(linesL l).length≤l.countP nlB+1:=by
 have:=pieces_count nlB l
 unfold linesL
 split
 ·rw [List.length_dropLast];omega
 ·omega
theorem lines_app (a r:BS):linesL (a++10 :: r)=pieces nlB a++linesL r:=by
 have hp:=pieces_app nlB a 10 r rfl
 have hne:=pieces_ne nlB r
 unfold linesL
 have hl:(pieces nlB a++pieces nlB r).getLast? = (pieces nlB r).getLast?:=by
  rw [List.getLast?_append,List.getLast?_eq_some_getLast hne];rfl
 rw [hp,hl,List.dropLast_append_of_ne_nil hne]
 split <;> rfl
theorem pieces_one {a:BS} (h:∀ c∈a,c≠10):pieces nlB a=[a]:=pieces_none nlB a fun c hc=>by
 cases hn:nlB c with
 | false=>rfl
 | true=>exact absurd (nlB_is.1 hn) (h c hc)
def cutL (l:List UInt8):List UInt8:=l.dropWhile blankB
def cutR (l:List UInt8):List UInt8:=(l.reverse.dropWhile blankB).reverse
def trimOf (l:List UInt8):List UInt8:=cutR (cutL l)
theorem cutR_cons (c:UInt8) (r:List UInt8):cutR (c :: r)=if cutR r=[] then (if blankB c then [] else [c]) else c :: cutR r:=by
 unfold cutR
 rw [List.reverse_cons,List.dropWhile_append]
 by_cases h:r.reverse.dropWhile blankB=[]
 ·rw [h]
  by_cases hc:blankB c=true <;> simp [List.dropWhile,hc]
 ·have h1:(r.reverse.dropWhile blankB).isEmpty=false:=by simpa using h
  rw [h1]
  simp [h]
theorem cut_swap (l:List UInt8):cutL (cutR l)=cutR (cutL l):=by
 induction l with
 | nil=>rfl
 | cons c r ih =>
  by_cases hc:blankB c=true
  ·have e1:cutL (c :: r)=cutL r:=by simp [cutL,List.dropWhile,hc]
   rw [e1,← ih,cutR_cons]
   by_cases h:cutR r=[]
   ·rw [if_pos h,if_pos hc,h]
   ·rw [if_neg h];simp [cutL,List.dropWhile,hc]
  ·have hc':blankB c=false:=by simpa using hc
   have e1:cutL (c :: r)=c :: r:=by simp [cutL,List.dropWhile,hc']
   rw [e1,cutR_cons]
   by_cases h:cutR r=[]
   ·rw [if_pos h,if_neg hc];simp [cutL,List.dropWhile,hc']
   ·rw [if_neg h];simp [cutL,List.dropWhile,hc']
theorem cutR_snoc (l:List UInt8) (c:UInt8):cutR (l++[c])=if blankB c then cutR l else l++[c]:=by
 unfold cutR
 rw [List.reverse_append]
 by_cases h:blankB c=true
 ·simp [h]
 ·have h':blankB c=false:=by simpa using h
  simp [h']
theorem cutL_cons (c:UInt8) (r:BS):cutL (c :: r)=if blankB c then cutL r else c :: r:=by
 unfold cutL
 by_cases h:blankB c=true
 ·simp [h]
 ·have h':blankB c=false:=by simpa using h
  simp [h']
theorem cutL_sub (l:BS):∀ c∈cutL l,c∈l:=fun _ h=>(List.dropWhile_sublist blankB).subset h
theorem cutR_sub (l:BS):∀ c∈cutR l,c∈l:=fun c h=>by
 unfold cutR at h
 have:=(List.dropWhile_sublist blankB).subset (List.mem_reverse.1 h)
 exact List.mem_reverse.1 this
theorem trim_sub (l:BS):∀ c∈trimOf l,c∈l:=fun c h=>cutL_sub l c (cutR_sub _ c h)
theorem cutL_len (l:BS):(cutL l).length≤l.length:=(List.dropWhile_sublist blankB).length_le
theorem cutR_len (l:BS):(cutR l).length≤l.length:=by
 unfold cutR
 rw [List.length_reverse]
 exact Nat.le_trans (List.dropWhile_sublist blankB).length_le (by simp)
theorem trim_len (l:BS):(trimOf l).length≤l.length:=Nat.le_trans (cutR_len _) (cutL_len _)
def Tight (l:BS):Prop:=(∀ c,l.head? = some c→blankB c=false)∧(∀ c,l.getLast? = some c→blankB c=false)
theorem dropWhile_head {p:UInt8→Bool} (l:BS):∀ c,(l.dropWhile p).head? = some c→p c=false:=by
 induction l with
 | nil=>intro c h;cases h
 | cons x r ih =>
  intro c h
  rw [List.dropWhile_cons] at h
  split at h
  ·exact ih c h
  ·rename_i hx
   cases h
   simpa using hx
theorem cutL_head (l:BS):∀ c,(cutL l).head? = some c→blankB c=false:=dropWhile_head l
theorem cutR_last (l:BS):∀ c,(cutR l).getLast? = some c→blankB c=false:=fun c h=>by
 unfold cutR at h
 rw [List.getLast?_reverse] at h
 exact dropWhile_head _ c h
theorem cutL_id {l:BS} (h:∀ c,l.head? = some c→blankB c=false):cutL l=l:=by
 cases l with
 | nil=>rfl
 | cons c r=>rw [cutL_cons,h c rfl];rfl
theorem cutR_id {l:BS} (h:∀ c,l.getLast? = some c→blankB c=false):cutR l=l:=by
 rcases List.eq_nil_or_concat l with rfl | ⟨a,c,rfl⟩
 ·rfl
 ·rw [List.concat_eq_append] at h ⊢
  rw [cutR_snoc,h c (by simp)];rfl
theorem trim_id {l:BS} (h:Tight l):trimOf l=l:=by unfold trimOf;rw [cutL_id h.1,cutR_id h.2]
theorem trim_tight (l:BS):Tight (trimOf l):=by
 refine ⟨?_,cutR_last _⟩
 unfold trimOf
 rw [← cut_swap]
 exact cutL_head _
end Go.Proofs.YtmfjolmfbdbegaaGreatDoor
