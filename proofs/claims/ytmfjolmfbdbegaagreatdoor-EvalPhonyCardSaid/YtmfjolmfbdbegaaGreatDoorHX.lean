/-
  Chapter 10 in plain words: what each function of words answers; no program, no world. No condition.
  What the document's own last, found and subst of chapter 10 answer. For texts of at most a million bytes. No condition.
  What the document's own Many, number and part of chapter 10 answer. For texts of at most a million bytes. No condition.
  What the document's own decimal of chapter 10, and Join of chapter 1, answer. No condition but sizes.
  Chapter 10 in plain words, whole: what Many and Call answer; no program, no world. No condition.
  A text cut at a part, in plain words; put together with another text between, it is the text with that one in its place. No program.
  Sorted, and what is there already taken out: each word once, in order. No program.
  How many arguments a function of package call has. No condition.
-/
import Derived.Lib.IndexMore
import Derived.Lib.ItoaNum
import Derived.Lib.LastIndexByte
import Derived.Lib.SlicesCompact
import Derived.Sort.EncStr
import Derived.Test.YtmfjolmfbdbegaaGreatDoorHRf
namespace Go.Proofs.YtmfjolmfbdbegaaGreatDoor
abbrev BT:=List UInt8
def nSubst:BT:=[115,117,98,115,116]
def nPatsubst:BT:=[112,97,116,115,117,98,115,116]
def nStrip:BT:=[115,116,114,105,112]
def nFindstring:BT:=[102,105,110,100,115,116,114,105,110,103]
def nFilter:BT:=[102,105,108,116,101,114]
def nFilterOut:BT:=[102,105,108,116,101,114,45,111,117,116]
def nSort:BT:=[115,111,114,116]
def nWord:BT:=[119,111,114,100]
def nWordlist:BT:=[119,111,114,100,108,105,115,116]
def nWords:BT:=[119,111,114,100,115]
def nFirstword:BT:=[102,105,114,115,116,119,111,114,100]
def nLastword:BT:=[108,97,115,116,119,111,114,100]
def nDir:BT:=[100,105,114]
def nNotdir:BT:=[110,111,116,100,105,114]
def nSuffix:BT:=[115,117,102,102,105,120]
def nBasename:BT:=[98,97,115,101,110,97,109,101]
def nAddsuffix:BT:=[97,100,100,115,117,102,102,105,120]
def nAddprefix:BT:=[97,100,100,112,114,101,102,105,120]
def nJoin:BT:=[106,111,105,110]
def manyOf (n:BT):Int :=
 if n=nStrip∨n=nSort∨n=nWords∨n=nFirstword∨n=nLastword∨n=nDir∨n=nNotdir∨n=nSuffix∨n=nBasename then 1
 else if n=nFindstring∨n=nFilter∨n=nFilterOut∨n=nWord∨n=nAddsuffix∨n=nAddprefix∨n=nJoin then 2
 else if n=nSubst∨n=nPatsubst∨n=nWordlist then 3
 else 0
def subGo (a b:BT):Nat→BT→BT
 | _,[]=>[]
 | k+1,_ :: r=>subGo a b k r
 | 0,c :: r=>if a.isPrefixOf (c :: r) then b++subGo a b (a.length - 1) r else c :: subGo a b 0 r
def subT (a b t:BT):BT:=if a=[] then t else subGo a b 0 t
theorem subGo_skip (a b:BT):∀ (k:Nat) (l:BT),subGo a b k l=subGo a b 0 (l.drop k)
 | 0,l=>by rw [List.drop_zero]
 | k+1,[]=>by rw [List.drop_nil];unfold subGo;rfl
 | k+1,c :: r=>by
  conv=>lhs;unfold subGo
  rw [subGo_skip a b k r];rfl
theorem sub_hit {a b l:BT} (ha:a≠[]) (h:a.isPrefixOf l=true):subGo a b 0 l=b++subGo a b 0 (l.drop a.length):=by
 cases l with
 | nil=>cases a with
  | nil=>exact absurd rfl ha
  | cons x y=>simp [List.isPrefixOf] at h
 | cons c r =>
  conv=>lhs;unfold subGo
  rw [if_pos h,subGo_skip]
  cases a with
  | nil=>exact absurd rfl ha
  | cons x y=>rfl
theorem sub_miss {a b r:BT} {c:UInt8} (h:a.isPrefixOf (c :: r)=false):subGo a b 0 (c :: r)=c :: subGo a b 0 r:=by
 conv=>lhs;unfold subGo
 rw [if_neg (by rw [h];simp)]
theorem sub_done (a b:BT):subGo a b 0 []=[]:=by unfold subGo;rfl
def foundB (a t:BT):Bool:=(List.range (t.length+1)).any fun j=>a.isPrefixOf (t.drop j)
def wordsT (l:BT):List BT:=(pieces blankB l).filter fun x=>decide (x≠[])
def joinT (l:List BT):BT:=Lib.join l [32]
def lastIn (c:UInt8) (s:BT) (f:Nat):Nat→Int
 | 0=>-1
 | k+1=>if f≤k∧s[k]? = some c then (k:Int) else lastIn c s f k
theorem last_bound (c:UInt8) (s:BT) (f:Nat):∀ k:Nat,-1≤lastIn c s f k∧lastIn c s f k < (k:Int)
 | 0=>by unfold lastIn;exact ⟨by decide,by decide⟩
 | k+1=>by
  unfold lastIn
  have:=last_bound c s f k
  split <;> omega
theorem last_from (c:UInt8) (s:BT) (f:Nat):∀ k:Nat,k≤f→lastIn c s f k=-1
 | 0,_=>rfl
 | k+1,h=>by
  unfold lastIn
  rw [if_neg (fun e=>by omega)]
  exact last_from c s f k (by omega)
def slashAt (w:BT):Int:=lastIn 47 w 0 w.length
def dotAt (w:BT):Int:=lastIn 46 w (slashAt w+1).toNat w.length
def dirOf (w:BT):BT:=if slashAt w < 0 then [46,47] else w.take (slashAt w+1).toNat
def notdirOf (w:BT):BT:=w.drop (slashAt w+1).toNat
def suffixOf (w:BT):BT:=if dotAt w < 0 then [] else w.drop (dotAt w).toNat
def baseOf (w:BT):BT:=if dotAt w < 0 then w else w.take (dotAt w).toNat
def zipT:List BT→List BT→List BT
 | [],l=>l
 | x :: r,[]=>x :: r
 | x :: r,y :: s=>(x++y) :: zipT r s
def digitOf (n:Nat):UInt8:=UInt8.ofNat (48+n % 10)
end Go.Proofs.YtmfjolmfbdbegaaGreatDoor

namespace Go.Proofs.YtmfjolmfbdbegaaGreatDoor
open Go.RowKit Go.Shelf
end Go.Proofs.YtmfjolmfbdbegaaGreatDoor

namespace Go.Proofs.YtmfjolmfbdbegaaGreatDoor
open Go.RowKit Go.Shelf
attribute [local go_sem] Oper.semAt_some
end Go.Proofs.YtmfjolmfbdbegaaGreatDoor

namespace Go.Proofs.YtmfjolmfbdbegaaGreatDoor
open Go.RowKit Go.Shelf
attribute [local go_sem] Oper.semAt_some
def decOf (n:Nat):BT:=if n < 10 then [digitOf n] else decOf (n / 10)++[digitOf n]
termination_by n
decreasing_by omega
end Go.Proofs.YtmfjolmfbdbegaaGreatDoor

namespace Go.Proofs.YtmfjolmfbdbegaaGreatDoor
theorem bt_irrefl (a:BT):¬ a < a:=List.lt_irrefl a
theorem bt_trans {a b c:BT} (h:a < b) (h':b < c):a < c:=List.lt_trans h h'
theorem bt_tri {a b:BT} (h:¬ a < b) (hne:a≠b):b < a:=by
 rcases List.le_iff_lt_or_eq.1 (List.not_lt.1 h) with h | h
 ·exact h
 ·exact absurd h.symm hne
def insT (x:BT):List BT→List BT
 | []=>[x]
 | y :: r=>if y=x then y :: r else if x < y then x :: y :: r else y :: insT x r
def sortT (w:List BT):List BT:=w.foldl (fun l x=>insT x l) []
abbrev Asc (l:List BT):Prop:=l.Pairwise (fun a b=>a < b)
theorem ins_mem (x z:BT):∀ l:List BT,z∈insT x l↔z=x∨z∈l
 | []=>by simp [insT]
 | y :: r=>by
  unfold insT
  split
  ·next h=>subst h;simp
  ·split
   ·simp
   ·rw [List.mem_cons,ins_mem x z r,List.mem_cons]
    constructor
    ·rintro (h | h | h)
     ·exact .inr (.inl h)
     ·exact .inl h
     ·exact .inr (.inr h)
    ·rintro (h | h | h)
     ·exact .inr (.inl h)
     ·exact .inl h
     ·exact .inr (.inr h)
theorem ins_asc (x:BT):∀ l:List BT,Asc l→Asc (insT x l)
 | [],_=>by simp [insT,Asc]
 | y :: r,h=>by
  have h1:=List.pairwise_cons.1 h
  unfold insT
  split
  ·exact h
  ·next hne =>
   split
   ·next hlt =>
    refine List.pairwise_cons.2 ⟨fun z hz=>?_,h⟩
    rcases List.mem_cons.1 hz with rfl | hz
    ·exact hlt
    ·exact bt_trans hlt (h1.1 z hz)
   ·next hlt =>
    refine List.pairwise_cons.2 ⟨fun z hz=>?_,ins_asc x r h1.2⟩
    rcases (ins_mem x z r).1 hz with rfl | hz
    ·exact bt_tri hlt (fun e=>hne e.symm)
    ·exact h1.1 z hz
theorem sort_go:∀ (w l:List BT),Asc l→Asc (w.foldl (fun l x=>insT x l) l)∧∀ z,z∈w.foldl (fun l x=>insT x l) l↔z∈w∨z∈l
 | [],l,h=>⟨h,fun z=>by simp⟩
 | x :: r,l,h=>by
  obtain ⟨h1,h2⟩:=sort_go r (insT x l) (ins_asc x l h)
  refine ⟨h1,fun z=>?_⟩
  rw [List.foldl_cons,h2 z,ins_mem,List.mem_cons]
  constructor
  ·rintro (h | h | h)
   ·exact .inl (.inr h)
   ·exact .inl (.inl h)
   ·exact .inr h
  ·rintro ((h | h) | h)
   ·exact .inr (.inl h)
   ·exact .inl h
   ·exact .inr (.inr h)
theorem sort_asc (w:List BT):Asc (sortT w):=(sort_go w [] List.Pairwise.nil).1
theorem sort_mem (w:List BT) (z:BT):z∈sortT w↔z∈w:=by
 have:=(sort_go w [] List.Pairwise.nil).2 z
 simpa [sortT] using this
theorem asc_ext:∀ {a b:List BT},Asc a→Asc b→(∀ z,z∈a↔z∈b)→a=b
 | [],[],_,_,_=>rfl
 | [],y :: s,_,_,h=>by have:=(h y).2 (by simp);simp at this
 | x :: r,[],_,_,h=>by have:=(h x).1 (by simp);simp at this
 | x :: r,y :: s,ha,hb,h=>by
  have ha1:=List.pairwise_cons.1 ha
  have hb1:=List.pairwise_cons.1 hb
  have hxy:x=y:=by
   have h1:x∈y :: s:=(h x).1 (by simp)
   have h2:y∈x :: r:=(h y).2 (by simp)
   rcases List.mem_cons.1 h1 with e | h1
   ·exact e
   ·rcases List.mem_cons.1 h2 with e | h2
    ·exact e.symm
    ·exact absurd (bt_trans (hb1.1 x h1) (ha1.1 y h2)) (bt_irrefl y)
  subst hxy
  congr 1
  refine asc_ext ha1.2 hb1.2 fun z=>?_
  constructor
  ·intro hz
   rcases List.mem_cons.1 ((h z).1 (List.mem_cons_of_mem _ hz)) with rfl | h'
   ·exact absurd (ha1.1 z hz) (bt_irrefl z)
   ·exact h'
  ·intro hz
   rcases List.mem_cons.1 ((h z).2 (List.mem_cons_of_mem _ hz)) with rfl | h'
   ·exact absurd (hb1.1 z hz) (bt_irrefl z)
   ·exact h'
def neT (l:List BT):List BT:=l.filter fun x=>decide (x≠[])
def someN (a b:Nat) (w:List BT):List BT:=(w.take b).drop (a - 1)
def listT (n a b t:BT):List BT :=
 if n=nPatsubst then (wordsT t).map (substL a b)
 else if n=nFilter then (wordsT t).filter (anyL (wordsT a))
 else if n=nFilterOut then (wordsT t).filter (fun w=>!anyL (wordsT a) w)
 else if n=nSort then sortT (wordsT t)
 else if n=nFirstword then (wordsT t).take 1
 else if n=nLastword then (wordsT t).drop ((wordsT t).length - 1)
 else if n=nDir then (wordsT t).map dirOf
 else if n=nNotdir then neT ((wordsT t).map notdirOf)
 else if n=nSuffix then neT ((wordsT t).map suffixOf)
 else if n=nBasename then neT ((wordsT t).map baseOf)
 else if n=nAddsuffix then (wordsT t).map (fun w=>w++a)
 else if n=nAddprefix then (wordsT t).map (fun w=>a++w)
 else if n=nJoin then zipT (wordsT a) (wordsT t)
 else wordsT t
def wordT (a b t:BT):Option BT :=
 if numB (trimOf a)=true∧numB (trimOf b)=true∧1≤numV (trimOf a) then some (joinT (someN (numV (trimOf a)).toNat (numV (trimOf b)).toNat (wordsT t))) else none
def argT (x:List BT) (k:Nat):BT:=x.getD k []
def lastT (x:List BT):BT:=x.getD (x.length - 1) []
def ansT (n:BT) (x:List BT):Option BT :=
 if n=nSubst then some (subT (argT x 0) (argT x 1) (lastT x))
 else if n=nFindstring then some (if foundB (argT x 0) (lastT x)=true then argT x 0 else [])
 else if n=nWords then some (decOf (wordsT (lastT x)).length)
 else if n=nWord then wordT (argT x 0) (argT x 0) (lastT x)
 else if n=nWordlist then wordT (argT x 0) (argT x 1) (lastT x)
 else some (joinT (listT n (argT x 0) (argT x 1) (lastT x)))
def finT:Option BT→BT × Int
 | none=>([],1)
 | some s=>if s.length≤4000 then (s,0) else ([],3)
def callT (n:BT) (x:List BT):BT × Int :=
 if manyOf n=0 then ([],4) else if (x.length:Int)=manyOf n then finT (ansT n x) else ([],1)
theorem wordsT_of (l:BT):wordsOf l=(wordsT l).map txt:=by
 unfold wordsOf wordsT
 rw [List.filter_map]
 congr 1
 refine List.filter_congr fun x _=>?_
 simp only [Function.comp,isWord,txt_toL]
 cases x <;> rfl
def WordB (x:BT):Prop:=x≠[]∧∀ c∈x,blankB c=false
theorem pieces_memT (p:UInt8→Bool):∀ (l:BT),∀ x∈pieces p l,x.length≤l.length∧∀ c∈x,p c=false:=by
 intro l
 induction l with
 | nil=>intro x hx;simp [pieces] at hx;subst hx;simp
 | cons c r ih =>
  intro x hx
  simp only [pieces] at hx
  split at hx
  ·rcases List.mem_cons.1 hx with rfl | hx
   ·simp
   ·have:=ih x hx
    exact ⟨by simp;omega,this.2⟩
  ·rename_i hc
   have hc':p c=false:=by simpa using hc
   split at hx
   ·rename_i q qs h
    rw [h] at ih
    rcases List.mem_cons.1 hx with rfl | hx
    ·have:=ih q (by simp)
     refine ⟨by simp;omega,fun d hd=>?_⟩
     rcases List.mem_cons.1 hd with rfl | hd
     ·exact hc'
     ·exact this.2 d hd
    ·have:=ih x (by simp [hx])
     exact ⟨by simp;omega,this.2⟩
   ·simp only [List.mem_singleton] at hx
    subst hx
    refine ⟨by simp,fun d hd=>?_⟩
    simp only [List.mem_singleton] at hd
    subst hd
    exact hc'
theorem words_memT {l x:BT} (h:x∈wordsT l):WordB x∧x.length≤l.length:=by
 obtain ⟨h1,h2⟩:=List.mem_filter.1 h
 have:=pieces_memT blankB l x h1
 exact ⟨⟨by simpa using h2,this.2⟩,this.1⟩
theorem words_few (l:BT):(wordsT l).length≤l.length+1:=Nat.le_trans (List.length_filter_le _ _) (pieces_len blankB l)
end Go.Proofs.YtmfjolmfbdbegaaGreatDoor

namespace Go.Proofs.YtmfjolmfbdbegaaGreatDoor
def spl (a t:BT):List BT :=
 if _h:0≤Lib.index t a∧a≠[] then t.take (Lib.index t a).toNat :: spl a (t.drop ((Lib.index t a).toNat+a.length)) else [t]
termination_by t.length
decreasing_by
 have h1:=Lib.index_room t a _h.1
 have h2:0 < a.length:=List.length_pos_iff.2 _h.2
 rw [List.length_drop]
 omega
theorem spl_none {a t:BT} (h:Lib.index t a < 0):spl a t=[t]:=by
 rw [spl,dif_neg (fun h'=>by omega)]
theorem spl_some {a t:BT} (ha:a≠[]) {i:Nat} (h:Lib.index t a=i):spl a t=t.take i :: spl a (t.drop (i+a.length)):=by
 rw [spl,dif_pos ⟨by omega,ha⟩,h]
 rfl
theorem spl_ne (a t:BT):spl a t≠[]:=by
 rw [spl]
 split <;> simp
theorem subGo_none (a b:BT):∀ (t:BT),(∀ j,j≤t.length→Lib.occAt t a j=false)→subGo a b 0 t=t
 | [],_=>sub_done a b
 | c :: r,h=>by
  have h0:a.isPrefixOf (c :: r)=false:=by have:=h 0 (Nat.zero_le _);simpa [Lib.occAt] using this
  rw [sub_miss h0,subGo_none a b r (fun j hj=>by have:=h (j+1) (by simp;omega);simpa [Lib.occAt] using this)]
theorem subGo_some (a b:BT):∀ (t:BT) (i:Nat),i≤t.length→Lib.NoOcc t a i→subGo a b 0 t=t.take i++subGo a b 0 (t.drop i)
 | t,0,_,_=>by simp
 | [],i+1,h,_=>by simp at h
 | c :: r,i+1,h,hn=>by
  have h0:a.isPrefixOf (c :: r)=false:=by have:=hn 0 (by omega);simpa [Lib.occAt] using this
  rw [sub_miss h0,subGo_some a b r i (by simpa using h) (fun j hj=>by have:=hn (j+1) (by omega);simpa [Lib.occAt] using this)]
  rfl
theorem join_cons_ne {x:BT} {r:List BT} (h:r≠[]) (s:BT):Lib.join (x :: r) s=x++s++Lib.join r s:=by
 cases r with
 | nil=>exact absurd rfl h
 | cons y r =>
  rw [Lib.join_cons,Lib.join_cons]
  unfold Lib.joinTail
  simp [List.append_assoc]
theorem spl_sub (a b:BT) (ha:a≠[]):∀ (n:Nat) (t:BT),t.length≤n→Lib.join (spl a t) b=subGo a b 0 t:=by
 intro n
 induction n with
 | zero =>
  intro t ht
  have:t=[]:=List.eq_nil_of_length_eq_zero (by omega)
  subst this
  have hneg:Lib.index [] a < 0:=by
   cases a with
   | nil=>exact absurd rfl ha
   | cons x y=>unfold Lib.index;simp
  rw [spl_none hneg,sub_done];exact Lib.join_one [] b
 | succ n ih =>
  intro t ht
  rcases Lib.index_spec t a with ⟨h1,h2⟩ | ⟨i,h1,h2,h3,h4⟩
  ·rw [spl_none (by omega),subGo_none a b t h2];exact Lib.join_one t b
  ·have hr:=Lib.index_room t a (by omega)
   have hp:0 < a.length:=List.length_pos_iff.2 ha
   rw [spl_some ha h1,join_cons_ne (spl_ne _ _),subGo_some a b t i h2 h4,sub_hit ha h3,List.drop_drop,ih _ (by rw [List.length_drop];omega),List.append_assoc]
theorem spl_subT (a b t:BT) (ha:a≠[]):Lib.join (spl a t) b=subT a b t:=by
 unfold subT
 rw [if_neg ha]
 exact spl_sub a b ha _ t (Nat.le_refl _)
theorem spl_len (a:BT) (ha:a≠[]):∀ (n:Nat) (t:BT),t.length≤n→∀ x∈spl a t,x.length≤t.length:=by
 intro n
 induction n with
 | zero =>
  intro t ht x hx
  have:t=[]:=List.eq_nil_of_length_eq_zero (by omega)
  subst this
  have hneg:Lib.index [] a < 0:=by
   cases a with
   | nil=>exact absurd rfl ha
   | cons x y=>unfold Lib.index;simp
  rw [spl_none hneg] at hx
  simp at hx
  simp [hx]
 | succ n ih =>
  intro t ht x hx
  rcases Lib.index_spec t a with ⟨h1,h2⟩ | ⟨i,h1,h2,h3,h4⟩
  ·rw [spl_none (by omega)] at hx
   simp at hx
   simp [hx]
  ·have hr:=Lib.index_room t a (by omega)
   have hp:0 < a.length:=List.length_pos_iff.2 ha
   rw [spl_some ha h1] at hx
   rcases List.mem_cons.1 hx with rfl | hx
   ·rw [List.length_take];omega
   ·have:=ih _ (by rw [List.length_drop];omega) x hx
    rw [List.length_drop] at this
    omega
theorem found_index (a t:BT):foundB a t=decide (0≤Lib.index t a):=by
 rcases Lib.index_spec t a with ⟨h1,h2⟩ | ⟨i,h1,h2,h3,_⟩
 ·have:foundB a t=false:=by
   unfold foundB
   rw [List.any_eq_false]
   intro j hj hp
   have:=h2 j (by simpa [Nat.lt_succ_iff] using hj)
   unfold Lib.occAt at this
   rw [hp] at this
   cases this
  rw [this,h1];rfl
 ·have:foundB a t=true:=by
   unfold foundB
   rw [List.any_eq_true]
   exact ⟨i,by simpa [Nat.lt_succ_iff] using h2,h3⟩
  rw [this,h1];simp
theorem last_drop (c:UInt8) (s:BT) (f:Nat):∀ k:Nat,lastIn c (s.drop f) 0 k=(if lastIn c s f (f+k) < 0 then -1 else lastIn c s f (f+k) - f)
 | 0=>by
  rw [last_from c s f (f+0) (by omega)]
  rfl
 | k+1=>by
  have ih:=last_drop c s f k
  have hb:=last_bound c s f (f+k)
  have e:(s.drop f)[k]? = s[f+k]?:=by rw [List.getElem?_drop]
  have e1:lastIn c (s.drop f) 0 (k+1)=if 0≤k∧(s.drop f)[k]? = some c then (k:Int) else lastIn c (s.drop f) 0 k:=rfl
  have e2:lastIn c s f (f+(k+1))=if f≤f+k∧s[f+k]? = some c then ((f+k:Nat):Int) else lastIn c s f (f+k):=rfl
  by_cases h:s[f+k]? = some c
  ·have e1':lastIn c (s.drop f) 0 (k+1)=(k:Int):=by rw [e1,if_pos ⟨Nat.zero_le _,by rw [e];exact h⟩]
   have e2':lastIn c s f (f+(k+1))=((f+k:Nat):Int):=by rw [e2,if_pos ⟨by omega,h⟩]
   rw [e1',e2',if_neg (by omega)]
   omega
  ·have e1':lastIn c (s.drop f) 0 (k+1)=lastIn c (s.drop f) 0 k:=by rw [e1,if_neg (fun h'=>h (by rw [← e];exact h'.2))]
   have e2':lastIn c s f (f+(k+1))=lastIn c s f (f+k):=by rw [e2,if_neg (fun h'=>h h'.2)]
   rw [e1',e2',ih]
theorem last_lib (s:ByteArray) (c:UInt8):∀ k:Nat,k≤s.size→Lib.lastIdx s (c.toNat:Int) k=lastIn c s.data.toList 0 k
 | 0,_=>rfl
 | k+1,h=>by
  have hlt:k < s.data.size:=h
  unfold Lib.lastIdx lastIn
  rw [last_lib s c k (by omega)]
  have e1:s.data[k]! = s.data[k]:=getElem!_pos s.data k hlt
  have e2:s.data.toList[k]? = some s.data[k]:=by rw [List.getElem?_eq_getElem (by simpa using hlt)];simp
  rw [e1,e2]
  by_cases hc:s.data[k]=c
  ·rw [if_pos (by rw [hc]),if_pos ⟨Nat.zero_le _,by rw [hc]⟩]
  ·rw [if_neg (fun h'=>hc (UInt8.toNat_inj.1 (by omega))),if_neg (fun h'=>hc (Option.some.inj h'.2))]
theorem decDigits_is:∀ (k n:Nat),n≤k→Lib.decDigits n=decOf n:=by
 intro k
 induction k with
 | zero =>
  intro n hn
  obtain rfl:n=0:=by omega
  rw [Lib.decDigits,decOf]
  rfl
 | succ k ih =>
  intro n hn
  rw [Lib.decDigits,decOf]
  by_cases h:n < 10
  ·rw [dif_pos h,if_pos h]
   unfold digitOf
   rw [Nat.mod_eq_of_lt h]
  ·rw [dif_neg h,if_neg h,ih (n / 10) (by omega)]
   rfl
end Go.Proofs.YtmfjolmfbdbegaaGreatDoor

namespace Go.Proofs.YtmfjolmfbdbegaaGreatDoor
theorem bt_le_lt {a b:BT} (h:a≤b) (hne:a≠b):a < b:=by
 by_cases h2:a < b
 ·exact h2
 ·exact absurd (List.le_antisymm h (List.not_lt.1 h2)) hne
theorem get_bang {d:List BT} {j:Nat} (h:j < d.length):d.toArray[j]! = d[j]:=by
 rw [getElem!_pos d.toArray j (by simpa using h)];simp
theorem compact_go (d:List BT) (hd:d.Pairwise (fun a b=>a≤b)):∀ m:Nat,m≤d.length→Asc (Lib.compactUpTo d.toArray m)∧(∀ z,z∈Lib.compactUpTo d.toArray m↔∃ j,∃ _:j < m,∃ h':j < d.length,d[j]=z)
 | 0,_=>by simp [Lib.compactUpTo,Asc]
 | m+1,hm=>by
  obtain ⟨h1,h2⟩:=compact_go d hd m (by omega)
  have hlt:m < d.length:=hm
  have hle:∀ j (h:j < m),d[j]'(by omega)≤d[m]:=fun j h=>List.pairwise_iff_getElem.1 hd j m (by omega) hlt h
  rw [Lib.compactUpTo_succ]
  have hgm:=get_bang hlt
  cases hk:Lib.keeps d.toArray m with
  | true =>
   rw [if_pos rfl,hgm]
   refine ⟨List.pairwise_append.2 ⟨h1,by simp,fun z hz y hy=>?_⟩,fun z=>?_⟩
   ·obtain ⟨j,hj,hj',rfl⟩:=(h2 z).1 hz
    simp at hy
    subst hy
    have hne:d[m - 1]'(by omega)≠d[m]:=by
     intro e
     unfold Lib.keeps at hk
     have hm0:m≠0:=by omega
     rw [hgm,get_bang (show m - 1 < d.length by omega)] at hk
     simp [hm0,e] at hk
    have h3:d[j]≤d[m - 1]'(by omega):=by
     by_cases hjm:j=m - 1
     ·subst hjm;exact List.le_refl _
     ·exact List.pairwise_iff_getElem.1 hd j (m - 1) (by omega) (by omega) (by omega)
    have h4:d[m - 1]'(by omega) < d[m]:=bt_le_lt (hle (m - 1) (by omega)) hne
    rcases List.le_iff_lt_or_eq.1 h3 with h5 | h5
    ·exact bt_trans h5 h4
    ·rw [h5];exact h4
   ·rw [List.mem_append,h2 z]
    constructor
    ·rintro (⟨j,hj,hj',e⟩ | hz)
     ·exact ⟨j,by omega,hj',e⟩
     ·simp at hz
      exact ⟨m,by omega,hlt,hz.symm⟩
    ·rintro ⟨j,hj,hj',e⟩
     by_cases hjm:j=m
     ·subst hjm;right;simp [e]
     ·exact .inl ⟨j,by omega,hj',e⟩
  | false =>
   rw [if_neg (by simp),List.append_nil]
   refine ⟨h1,fun z=>?_⟩
   rw [h2 z]
   constructor
   ·rintro ⟨j,hj,hj',e⟩
    exact ⟨j,by omega,hj',e⟩
   ·rintro ⟨j,hj,hj',e⟩
    by_cases hjm:j=m
    ·subst hjm
     unfold Lib.keeps at hk
     have hm0:j≠0:=by intro h0;simp [h0] at hk
     rw [hgm,get_bang (show j - 1 < d.length by omega)] at hk
     simp [hm0] at hk
     exact ⟨j - 1,by omega,by omega,by rw [← hk];exact e⟩
    ·exact ⟨j,by omega,hj',e⟩
theorem compact_sort (w:List BT):Lib.compact (w.mergeSort fun x y=>decide (x≤y))=sortT w:=by
 have hp:(w.mergeSort fun x y=>decide (x≤y)).Pairwise (fun a b=>a≤b):=by
  have:=List.pairwise_mergeSort (le:=fun x y:BT=>decide (x≤y)) (fun a b c h1 h2=>by simp at *;exact List.le_trans h1 h2) (fun a b=>by simp;exact List.le_total a b) w
  exact this.imp (by simp)
 obtain ⟨h1,h2⟩:=compact_go _ hp _ (Nat.le_refl _)
 refine asc_ext h1 (sort_asc w) fun z=>?_
 rw [sort_mem]
 have h3:=h2 z
 unfold Lib.compact
 rw [h3]
 constructor
 ·rintro ⟨j,_,hj,e⟩
  exact (List.mem_mergeSort).1 (e ▸ List.getElem_mem hj)
 ·intro hz
  obtain ⟨j,hj,e⟩:=List.getElem_of_mem ((List.mem_mergeSort (le:=fun x y:BT=>decide (x≤y))).2 hz)
  exact ⟨j,hj,hj,e⟩
theorem sort_len (w:List BT):(sortT w).length≤w.length:=by
 rw [← compact_sort]
 unfold Lib.compact Lib.compactUpTo
 rw [List.length_map]
 refine Nat.le_trans (List.length_filter_le _ _) ?_
 rw [List.length_range,List.length_mergeSort]
 exact Nat.le_refl _
end Go.Proofs.YtmfjolmfbdbegaaGreatDoor

namespace Go.Proofs.YtmfjolmfbdbegaaGreatDoor
open Go.RowKit Go.Shelf
attribute [local go_sem] Oper.semAt_some
set_option maxRecDepth 100000 in
set_option maxHeartbeats 8000000 in
theorem many_any (s:ByteArray) (w:World):Calls Tryz.prog 190 #[.string s] w fun e w'=>e=.returned (.int .i64 (manyOf s.data.toList))∧w=w':=by
 obtain ⟨x,hx⟩:∃ x,x=s.data.toList:=⟨_,rfl⟩
 have hs:s.toList=x:=by rw [Lib.toList_data,hx]
 rw [← hx]
 clear hx
 by_cases c0:x=nStrip
 ·have HV:Hid (manyOf x=1):=by show _=_;rw [c0];decide
  have q0:(s.toList == [115,116,114,105,112])=true:=by rw [hs,c0];decide
  have q1:(s.toList == [115,111,114,116])=false:=by rw [hs,c0];decide
  have q2:(s.toList == [119,111,114,100,115])=false:=by rw [hs,c0];decide
  have q3:(s.toList == [102,105,114,115,116,119,111,114,100])=false:=by rw [hs,c0];decide
  have q4:(s.toList == [108,97,115,116,119,111,114,100])=false:=by rw [hs,c0];decide
  have q5:(s.toList == [100,105,114])=false:=by rw [hs,c0];decide
  have q6:(s.toList == [110,111,116,100,105,114])=false:=by rw [hs,c0];decide
  have q7:(s.toList == [115,117,102,102,105,120])=false:=by rw [hs,c0];decide
  have q8:(s.toList == [98,97,115,101,110,97,109,101])=false:=by rw [hs,c0];decide
  have q9:(s.toList == [102,105,110,100,115,116,114,105,110,103])=false:=by rw [hs,c0];decide
  have q10:(s.toList == [102,105,108,116,101,114])=false:=by rw [hs,c0];decide
  have q11:(s.toList == [102,105,108,116,101,114,45,111,117,116])=false:=by rw [hs,c0];decide
  have q12:(s.toList == [119,111,114,100])=false:=by rw [hs,c0];decide
  have q13:(s.toList == [97,100,100,115,117,102,102,105,120])=false:=by rw [hs,c0];decide
  have q14:(s.toList == [97,100,100,112,114,101,102,105,120])=false:=by rw [hs,c0];decide
  have q15:(s.toList == [106,111,105,110])=false:=by rw [hs,c0];decide
  have q16:(s.toList == [115,117,98,115,116])=false:=by rw [hs,c0];decide
  have q17:(s.toList == [112,97,116,115,117,98,115,116])=false:=by rw [hs,c0];decide
  have q18:(s.toList == [119,111,114,100,108,105,115,116])=false:=by rw [hs,c0];decide
  clear hs c0
  go_enter Tryz.func190,Tryz.ntmps190
  go_wp2
  go_ret
  exact ⟨by rw [HV.out];rfl,rfl⟩
 by_cases c1:x=nSort
 ·have HV:Hid (manyOf x=1):=by show _=_;rw [c1];decide
  have q0:(s.toList == [115,116,114,105,112])=false:=by rw [hs,c1];decide
  have q1:(s.toList == [115,111,114,116])=true:=by rw [hs,c1];decide
  have q2:(s.toList == [119,111,114,100,115])=false:=by rw [hs,c1];decide
  have q3:(s.toList == [102,105,114,115,116,119,111,114,100])=false:=by rw [hs,c1];decide
  have q4:(s.toList == [108,97,115,116,119,111,114,100])=false:=by rw [hs,c1];decide
  have q5:(s.toList == [100,105,114])=false:=by rw [hs,c1];decide
  have q6:(s.toList == [110,111,116,100,105,114])=false:=by rw [hs,c1];decide
  have q7:(s.toList == [115,117,102,102,105,120])=false:=by rw [hs,c1];decide
  have q8:(s.toList == [98,97,115,101,110,97,109,101])=false:=by rw [hs,c1];decide
  have q9:(s.toList == [102,105,110,100,115,116,114,105,110,103])=false:=by rw [hs,c1];decide
  have q10:(s.toList == [102,105,108,116,101,114])=false:=by rw [hs,c1];decide
  have q11:(s.toList == [102,105,108,116,101,114,45,111,117,116])=false:=by rw [hs,c1];decide
  have q12:(s.toList == [119,111,114,100])=false:=by rw [hs,c1];decide
  have q13:(s.toList == [97,100,100,115,117,102,102,105,120])=false:=by rw [hs,c1];decide
  have q14:(s.toList == [97,100,100,112,114,101,102,105,120])=false:=by rw [hs,c1];decide
  have q15:(s.toList == [106,111,105,110])=false:=by rw [hs,c1];decide
  have q16:(s.toList == [115,117,98,115,116])=false:=by rw [hs,c1];decide
  have q17:(s.toList == [112,97,116,115,117,98,115,116])=false:=by rw [hs,c1];decide
  have q18:(s.toList == [119,111,114,100,108,105,115,116])=false:=by rw [hs,c1];decide
  clear hs c0 c1
  go_enter Tryz.func190,Tryz.ntmps190
  go_wp2
  go_ret
  exact ⟨by rw [HV.out];rfl,rfl⟩
 by_cases c2:x=nWords
 ·have HV:Hid (manyOf x=1):=by show _=_;rw [c2];decide
  have q0:(s.toList == [115,116,114,105,112])=false:=by rw [hs,c2];decide
  have q1:(s.toList == [115,111,114,116])=false:=by rw [hs,c2];decide
  have q2:(s.toList == [119,111,114,100,115])=true:=by rw [hs,c2];decide
  have q3:(s.toList == [102,105,114,115,116,119,111,114,100])=false:=by rw [hs,c2];decide
  have q4:(s.toList == [108,97,115,116,119,111,114,100])=false:=by rw [hs,c2];decide
  have q5:(s.toList == [100,105,114])=false:=by rw [hs,c2];decide
  have q6:(s.toList == [110,111,116,100,105,114])=false:=by rw [hs,c2];decide
  have q7:(s.toList == [115,117,102,102,105,120])=false:=by rw [hs,c2];decide
  have q8:(s.toList == [98,97,115,101,110,97,109,101])=false:=by rw [hs,c2];decide
  have q9:(s.toList == [102,105,110,100,115,116,114,105,110,103])=false:=by rw [hs,c2];decide
  have q10:(s.toList == [102,105,108,116,101,114])=false:=by rw [hs,c2];decide
  have q11:(s.toList == [102,105,108,116,101,114,45,111,117,116])=false:=by rw [hs,c2];decide
  have q12:(s.toList == [119,111,114,100])=false:=by rw [hs,c2];decide
  have q13:(s.toList == [97,100,100,115,117,102,102,105,120])=false:=by rw [hs,c2];decide
  have q14:(s.toList == [97,100,100,112,114,101,102,105,120])=false:=by rw [hs,c2];decide
  have q15:(s.toList == [106,111,105,110])=false:=by rw [hs,c2];decide
  have q16:(s.toList == [115,117,98,115,116])=false:=by rw [hs,c2];decide
  have q17:(s.toList == [112,97,116,115,117,98,115,116])=false:=by rw [hs,c2];decide
  have q18:(s.toList == [119,111,114,100,108,105,115,116])=false:=by rw [hs,c2];decide
  clear hs c0 c1 c2
  go_enter Tryz.func190,Tryz.ntmps190
  go_wp2
  go_ret
  exact ⟨by rw [HV.out];rfl,rfl⟩
 by_cases c3:x=nFirstword
 ·have HV:Hid (manyOf x=1):=by show _=_;rw [c3];decide
  have q0:(s.toList == [115,116,114,105,112])=false:=by rw [hs,c3];decide
  have q1:(s.toList == [115,111,114,116])=false:=by rw [hs,c3];decide
  have q2:(s.toList == [119,111,114,100,115])=false:=by rw [hs,c3];decide
  have q3:(s.toList == [102,105,114,115,116,119,111,114,100])=true:=by rw [hs,c3];decide
  have q4:(s.toList == [108,97,115,116,119,111,114,100])=false:=by rw [hs,c3];decide
  have q5:(s.toList == [100,105,114])=false:=by rw [hs,c3];decide
  have q6:(s.toList == [110,111,116,100,105,114])=false:=by rw [hs,c3];decide
  have q7:(s.toList == [115,117,102,102,105,120])=false:=by rw [hs,c3];decide
  have q8:(s.toList == [98,97,115,101,110,97,109,101])=false:=by rw [hs,c3];decide
  have q9:(s.toList == [102,105,110,100,115,116,114,105,110,103])=false:=by rw [hs,c3];decide
  have q10:(s.toList == [102,105,108,116,101,114])=false:=by rw [hs,c3];decide
  have q11:(s.toList == [102,105,108,116,101,114,45,111,117,116])=false:=by rw [hs,c3];decide
  have q12:(s.toList == [119,111,114,100])=false:=by rw [hs,c3];decide
  have q13:(s.toList == [97,100,100,115,117,102,102,105,120])=false:=by rw [hs,c3];decide
  have q14:(s.toList == [97,100,100,112,114,101,102,105,120])=false:=by rw [hs,c3];decide
  have q15:(s.toList == [106,111,105,110])=false:=by rw [hs,c3];decide
  have q16:(s.toList == [115,117,98,115,116])=false:=by rw [hs,c3];decide
  have q17:(s.toList == [112,97,116,115,117,98,115,116])=false:=by rw [hs,c3];decide
  have q18:(s.toList == [119,111,114,100,108,105,115,116])=false:=by rw [hs,c3];decide
  clear hs c0 c1 c2 c3
  go_enter Tryz.func190,Tryz.ntmps190
  go_wp2
  go_ret
  exact ⟨by rw [HV.out];rfl,rfl⟩
 by_cases c4:x=nLastword
 ·have HV:Hid (manyOf x=1):=by show _=_;rw [c4];decide
  have q0:(s.toList == [115,116,114,105,112])=false:=by rw [hs,c4];decide
  have q1:(s.toList == [115,111,114,116])=false:=by rw [hs,c4];decide
  have q2:(s.toList == [119,111,114,100,115])=false:=by rw [hs,c4];decide
  have q3:(s.toList == [102,105,114,115,116,119,111,114,100])=false:=by rw [hs,c4];decide
  have q4:(s.toList == [108,97,115,116,119,111,114,100])=true:=by rw [hs,c4];decide
  have q5:(s.toList == [100,105,114])=false:=by rw [hs,c4];decide
  have q6:(s.toList == [110,111,116,100,105,114])=false:=by rw [hs,c4];decide
  have q7:(s.toList == [115,117,102,102,105,120])=false:=by rw [hs,c4];decide
  have q8:(s.toList == [98,97,115,101,110,97,109,101])=false:=by rw [hs,c4];decide
  have q9:(s.toList == [102,105,110,100,115,116,114,105,110,103])=false:=by rw [hs,c4];decide
  have q10:(s.toList == [102,105,108,116,101,114])=false:=by rw [hs,c4];decide
  have q11:(s.toList == [102,105,108,116,101,114,45,111,117,116])=false:=by rw [hs,c4];decide
  have q12:(s.toList == [119,111,114,100])=false:=by rw [hs,c4];decide
  have q13:(s.toList == [97,100,100,115,117,102,102,105,120])=false:=by rw [hs,c4];decide
  have q14:(s.toList == [97,100,100,112,114,101,102,105,120])=false:=by rw [hs,c4];decide
  have q15:(s.toList == [106,111,105,110])=false:=by rw [hs,c4];decide
  have q16:(s.toList == [115,117,98,115,116])=false:=by rw [hs,c4];decide
  have q17:(s.toList == [112,97,116,115,117,98,115,116])=false:=by rw [hs,c4];decide
  have q18:(s.toList == [119,111,114,100,108,105,115,116])=false:=by rw [hs,c4];decide
  clear hs c0 c1 c2 c3 c4
  go_enter Tryz.func190,Tryz.ntmps190
  go_wp2
  go_ret
  exact ⟨by rw [HV.out];rfl,rfl⟩
 by_cases c5:x=nDir
 ·have HV:Hid (manyOf x=1):=by show _=_;rw [c5];decide
  have q0:(s.toList == [115,116,114,105,112])=false:=by rw [hs,c5];decide
  have q1:(s.toList == [115,111,114,116])=false:=by rw [hs,c5];decide
  have q2:(s.toList == [119,111,114,100,115])=false:=by rw [hs,c5];decide
  have q3:(s.toList == [102,105,114,115,116,119,111,114,100])=false:=by rw [hs,c5];decide
  have q4:(s.toList == [108,97,115,116,119,111,114,100])=false:=by rw [hs,c5];decide
  have q5:(s.toList == [100,105,114])=true:=by rw [hs,c5];decide
  have q6:(s.toList == [110,111,116,100,105,114])=false:=by rw [hs,c5];decide
  have q7:(s.toList == [115,117,102,102,105,120])=false:=by rw [hs,c5];decide
  have q8:(s.toList == [98,97,115,101,110,97,109,101])=false:=by rw [hs,c5];decide
  have q9:(s.toList == [102,105,110,100,115,116,114,105,110,103])=false:=by rw [hs,c5];decide
  have q10:(s.toList == [102,105,108,116,101,114])=false:=by rw [hs,c5];decide
  have q11:(s.toList == [102,105,108,116,101,114,45,111,117,116])=false:=by rw [hs,c5];decide
  have q12:(s.toList == [119,111,114,100])=false:=by rw [hs,c5];decide
  have q13:(s.toList == [97,100,100,115,117,102,102,105,120])=false:=by rw [hs,c5];decide
  have q14:(s.toList == [97,100,100,112,114,101,102,105,120])=false:=by rw [hs,c5];decide
  have q15:(s.toList == [106,111,105,110])=false:=by rw [hs,c5];decide
  have q16:(s.toList == [115,117,98,115,116])=false:=by rw [hs,c5];decide
  have q17:(s.toList == [112,97,116,115,117,98,115,116])=false:=by rw [hs,c5];decide
  have q18:(s.toList == [119,111,114,100,108,105,115,116])=false:=by rw [hs,c5];decide
  clear hs c0 c1 c2 c3 c4 c5
  go_enter Tryz.func190,Tryz.ntmps190
  go_wp2
  go_ret
  exact ⟨by rw [HV.out];rfl,rfl⟩
 by_cases c6:x=nNotdir
 ·have HV:Hid (manyOf x=1):=by show _=_;rw [c6];decide
  have q0:(s.toList == [115,116,114,105,112])=false:=by rw [hs,c6];decide
  have q1:(s.toList == [115,111,114,116])=false:=by rw [hs,c6];decide
  have q2:(s.toList == [119,111,114,100,115])=false:=by rw [hs,c6];decide
  have q3:(s.toList == [102,105,114,115,116,119,111,114,100])=false:=by rw [hs,c6];decide
  have q4:(s.toList == [108,97,115,116,119,111,114,100])=false:=by rw [hs,c6];decide
  have q5:(s.toList == [100,105,114])=false:=by rw [hs,c6];decide
  have q6:(s.toList == [110,111,116,100,105,114])=true:=by rw [hs,c6];decide
  have q7:(s.toList == [115,117,102,102,105,120])=false:=by rw [hs,c6];decide
  have q8:(s.toList == [98,97,115,101,110,97,109,101])=false:=by rw [hs,c6];decide
  have q9:(s.toList == [102,105,110,100,115,116,114,105,110,103])=false:=by rw [hs,c6];decide
  have q10:(s.toList == [102,105,108,116,101,114])=false:=by rw [hs,c6];decide
  have q11:(s.toList == [102,105,108,116,101,114,45,111,117,116])=false:=by rw [hs,c6];decide
  have q12:(s.toList == [119,111,114,100])=false:=by rw [hs,c6];decide
  have q13:(s.toList == [97,100,100,115,117,102,102,105,120])=false:=by rw [hs,c6];decide
  have q14:(s.toList == [97,100,100,112,114,101,102,105,120])=false:=by rw [hs,c6];decide
  have q15:(s.toList == [106,111,105,110])=false:=by rw [hs,c6];decide
  have q16:(s.toList == [115,117,98,115,116])=false:=by rw [hs,c6];decide
  have q17:(s.toList == [112,97,116,115,117,98,115,116])=false:=by rw [hs,c6];decide
  have q18:(s.toList == [119,111,114,100,108,105,115,116])=false:=by rw [hs,c6];decide
  clear hs c0 c1 c2 c3 c4 c5 c6
  go_enter Tryz.func190,Tryz.ntmps190
  go_wp2
  go_ret
  exact ⟨by rw [HV.out];rfl,rfl⟩
 by_cases c7:x=nSuffix
 ·have HV:Hid (manyOf x=1):=by show _=_;rw [c7];decide
  have q0:(s.toList == [115,116,114,105,112])=false:=by rw [hs,c7];decide
  have q1:(s.toList == [115,111,114,116])=false:=by rw [hs,c7];decide
  have q2:(s.toList == [119,111,114,100,115])=false:=by rw [hs,c7];decide
  have q3:(s.toList == [102,105,114,115,116,119,111,114,100])=false:=by rw [hs,c7];decide
  have q4:(s.toList == [108,97,115,116,119,111,114,100])=false:=by rw [hs,c7];decide
  have q5:(s.toList == [100,105,114])=false:=by rw [hs,c7];decide
  have q6:(s.toList == [110,111,116,100,105,114])=false:=by rw [hs,c7];decide
  have q7:(s.toList == [115,117,102,102,105,120])=true:=by rw [hs,c7];decide
  have q8:(s.toList == [98,97,115,101,110,97,109,101])=false:=by rw [hs,c7];decide
  have q9:(s.toList == [102,105,110,100,115,116,114,105,110,103])=false:=by rw [hs,c7];decide
  have q10:(s.toList == [102,105,108,116,101,114])=false:=by rw [hs,c7];decide
  have q11:(s.toList == [102,105,108,116,101,114,45,111,117,116])=false:=by rw [hs,c7];decide
  have q12:(s.toList == [119,111,114,100])=false:=by rw [hs,c7];decide
  have q13:(s.toList == [97,100,100,115,117,102,102,105,120])=false:=by rw [hs,c7];decide
  have q14:(s.toList == [97,100,100,112,114,101,102,105,120])=false:=by rw [hs,c7];decide
  have q15:(s.toList == [106,111,105,110])=false:=by rw [hs,c7];decide
  have q16:(s.toList == [115,117,98,115,116])=false:=by rw [hs,c7];decide
  have q17:(s.toList == [112,97,116,115,117,98,115,116])=false:=by rw [hs,c7];decide
  have q18:(s.toList == [119,111,114,100,108,105,115,116])=false:=by rw [hs,c7];decide
  clear hs c0 c1 c2 c3 c4 c5 c6 c7
  go_enter Tryz.func190,Tryz.ntmps190
  go_wp2
  go_ret
  exact ⟨by rw [HV.out];rfl,rfl⟩
 by_cases c8:x=nBasename
 ·have HV:Hid (manyOf x=1):=by show _=_;rw [c8];decide
  have q0:(s.toList == [115,116,114,105,112])=false:=by rw [hs,c8];decide
  have q1:(s.toList == [115,111,114,116])=false:=by rw [hs,c8];decide
  have q2:(s.toList == [119,111,114,100,115])=false:=by rw [hs,c8];decide
  have q3:(s.toList == [102,105,114,115,116,119,111,114,100])=false:=by rw [hs,c8];decide
  have q4:(s.toList == [108,97,115,116,119,111,114,100])=false:=by rw [hs,c8];decide
  have q5:(s.toList == [100,105,114])=false:=by rw [hs,c8];decide
  have q6:(s.toList == [110,111,116,100,105,114])=false:=by rw [hs,c8];decide
  have q7:(s.toList == [115,117,102,102,105,120])=false:=by rw [hs,c8];decide
  have q8:(s.toList == [98,97,115,101,110,97,109,101])=true:=by rw [hs,c8];decide
  have q9:(s.toList == [102,105,110,100,115,116,114,105,110,103])=false:=by rw [hs,c8];decide
  have q10:(s.toList == [102,105,108,116,101,114])=false:=by rw [hs,c8];decide
  have q11:(s.toList == [102,105,108,116,101,114,45,111,117,116])=false:=by rw [hs,c8];decide
  have q12:(s.toList == [119,111,114,100])=false:=by rw [hs,c8];decide
  have q13:(s.toList == [97,100,100,115,117,102,102,105,120])=false:=by rw [hs,c8];decide
  have q14:(s.toList == [97,100,100,112,114,101,102,105,120])=false:=by rw [hs,c8];decide
  have q15:(s.toList == [106,111,105,110])=false:=by rw [hs,c8];decide
  have q16:(s.toList == [115,117,98,115,116])=false:=by rw [hs,c8];decide
  have q17:(s.toList == [112,97,116,115,117,98,115,116])=false:=by rw [hs,c8];decide
  have q18:(s.toList == [119,111,114,100,108,105,115,116])=false:=by rw [hs,c8];decide
  clear hs c0 c1 c2 c3 c4 c5 c6 c7 c8
  go_enter Tryz.func190,Tryz.ntmps190
  go_wp2
  go_ret
  exact ⟨by rw [HV.out];rfl,rfl⟩
 by_cases c9:x=nFindstring
 ·have HV:Hid (manyOf x=2):=by show _=_;rw [c9];decide
  have q0:(s.toList == [115,116,114,105,112])=false:=by rw [hs,c9];decide
  have q1:(s.toList == [115,111,114,116])=false:=by rw [hs,c9];decide
  have q2:(s.toList == [119,111,114,100,115])=false:=by rw [hs,c9];decide
  have q3:(s.toList == [102,105,114,115,116,119,111,114,100])=false:=by rw [hs,c9];decide
  have q4:(s.toList == [108,97,115,116,119,111,114,100])=false:=by rw [hs,c9];decide
  have q5:(s.toList == [100,105,114])=false:=by rw [hs,c9];decide
  have q6:(s.toList == [110,111,116,100,105,114])=false:=by rw [hs,c9];decide
  have q7:(s.toList == [115,117,102,102,105,120])=false:=by rw [hs,c9];decide
  have q8:(s.toList == [98,97,115,101,110,97,109,101])=false:=by rw [hs,c9];decide
  have q9:(s.toList == [102,105,110,100,115,116,114,105,110,103])=true:=by rw [hs,c9];decide
  have q10:(s.toList == [102,105,108,116,101,114])=false:=by rw [hs,c9];decide
  have q11:(s.toList == [102,105,108,116,101,114,45,111,117,116])=false:=by rw [hs,c9];decide
  have q12:(s.toList == [119,111,114,100])=false:=by rw [hs,c9];decide
  have q13:(s.toList == [97,100,100,115,117,102,102,105,120])=false:=by rw [hs,c9];decide
  have q14:(s.toList == [97,100,100,112,114,101,102,105,120])=false:=by rw [hs,c9];decide
  have q15:(s.toList == [106,111,105,110])=false:=by rw [hs,c9];decide
  have q16:(s.toList == [115,117,98,115,116])=false:=by rw [hs,c9];decide
  have q17:(s.toList == [112,97,116,115,117,98,115,116])=false:=by rw [hs,c9];decide
  have q18:(s.toList == [119,111,114,100,108,105,115,116])=false:=by rw [hs,c9];decide
  clear hs c0 c1 c2 c3 c4 c5 c6 c7 c8 c9
  go_enter Tryz.func190,Tryz.ntmps190
  go_wp2
  go_ret
  exact ⟨by rw [HV.out];rfl,rfl⟩
 by_cases c10:x=nFilter
 ·have HV:Hid (manyOf x=2):=by show _=_;rw [c10];decide
  have q0:(s.toList == [115,116,114,105,112])=false:=by rw [hs,c10];decide
  have q1:(s.toList == [115,111,114,116])=false:=by rw [hs,c10];decide
  have q2:(s.toList == [119,111,114,100,115])=false:=by rw [hs,c10];decide
  have q3:(s.toList == [102,105,114,115,116,119,111,114,100])=false:=by rw [hs,c10];decide
  have q4:(s.toList == [108,97,115,116,119,111,114,100])=false:=by rw [hs,c10];decide
  have q5:(s.toList == [100,105,114])=false:=by rw [hs,c10];decide
  have q6:(s.toList == [110,111,116,100,105,114])=false:=by rw [hs,c10];decide
  have q7:(s.toList == [115,117,102,102,105,120])=false:=by rw [hs,c10];decide
  have q8:(s.toList == [98,97,115,101,110,97,109,101])=false:=by rw [hs,c10];decide
  have q9:(s.toList == [102,105,110,100,115,116,114,105,110,103])=false:=by rw [hs,c10];decide
  have q10:(s.toList == [102,105,108,116,101,114])=true:=by rw [hs,c10];decide
  have q11:(s.toList == [102,105,108,116,101,114,45,111,117,116])=false:=by rw [hs,c10];decide
  have q12:(s.toList == [119,111,114,100])=false:=by rw [hs,c10];decide
  have q13:(s.toList == [97,100,100,115,117,102,102,105,120])=false:=by rw [hs,c10];decide
  have q14:(s.toList == [97,100,100,112,114,101,102,105,120])=false:=by rw [hs,c10];decide
  have q15:(s.toList == [106,111,105,110])=false:=by rw [hs,c10];decide
  have q16:(s.toList == [115,117,98,115,116])=false:=by rw [hs,c10];decide
  have q17:(s.toList == [112,97,116,115,117,98,115,116])=false:=by rw [hs,c10];decide
  have q18:(s.toList == [119,111,114,100,108,105,115,116])=false:=by rw [hs,c10];decide
  clear hs c0 c1 c2 c3 c4 c5 c6 c7 c8 c9 c10
  go_enter Tryz.func190,Tryz.ntmps190
  go_wp2
  go_ret
  exact ⟨by rw [HV.out];rfl,rfl⟩
 by_cases c11:x=nFilterOut
 ·have HV:Hid (manyOf x=2):=by show _=_;rw [c11];decide
  have q0:(s.toList == [115,116,114,105,112])=false:=by rw [hs,c11];decide
  have q1:(s.toList == [115,111,114,116])=false:=by rw [hs,c11];decide
  have q2:(s.toList == [119,111,114,100,115])=false:=by rw [hs,c11];decide
  have q3:(s.toList == [102,105,114,115,116,119,111,114,100])=false:=by rw [hs,c11];decide
  have q4:(s.toList == [108,97,115,116,119,111,114,100])=false:=by rw [hs,c11];decide
  have q5:(s.toList == [100,105,114])=false:=by rw [hs,c11];decide
  have q6:(s.toList == [110,111,116,100,105,114])=false:=by rw [hs,c11];decide
  have q7:(s.toList == [115,117,102,102,105,120])=false:=by rw [hs,c11];decide
  have q8:(s.toList == [98,97,115,101,110,97,109,101])=false:=by rw [hs,c11];decide
  have q9:(s.toList == [102,105,110,100,115,116,114,105,110,103])=false:=by rw [hs,c11];decide
  have q10:(s.toList == [102,105,108,116,101,114])=false:=by rw [hs,c11];decide
  have q11:(s.toList == [102,105,108,116,101,114,45,111,117,116])=true:=by rw [hs,c11];decide
  have q12:(s.toList == [119,111,114,100])=false:=by rw [hs,c11];decide
  have q13:(s.toList == [97,100,100,115,117,102,102,105,120])=false:=by rw [hs,c11];decide
  have q14:(s.toList == [97,100,100,112,114,101,102,105,120])=false:=by rw [hs,c11];decide
  have q15:(s.toList == [106,111,105,110])=false:=by rw [hs,c11];decide
  have q16:(s.toList == [115,117,98,115,116])=false:=by rw [hs,c11];decide
  have q17:(s.toList == [112,97,116,115,117,98,115,116])=false:=by rw [hs,c11];decide
  have q18:(s.toList == [119,111,114,100,108,105,115,116])=false:=by rw [hs,c11];decide
  clear hs c0 c1 c2 c3 c4 c5 c6 c7 c8 c9 c10 c11
  go_enter Tryz.func190,Tryz.ntmps190
  go_wp2
  go_ret
  exact ⟨by rw [HV.out];rfl,rfl⟩
 by_cases c12:x=nWord
 ·have HV:Hid (manyOf x=2):=by show _=_;rw [c12];decide
  have q0:(s.toList == [115,116,114,105,112])=false:=by rw [hs,c12];decide
  have q1:(s.toList == [115,111,114,116])=false:=by rw [hs,c12];decide
  have q2:(s.toList == [119,111,114,100,115])=false:=by rw [hs,c12];decide
  have q3:(s.toList == [102,105,114,115,116,119,111,114,100])=false:=by rw [hs,c12];decide
  have q4:(s.toList == [108,97,115,116,119,111,114,100])=false:=by rw [hs,c12];decide
  have q5:(s.toList == [100,105,114])=false:=by rw [hs,c12];decide
  have q6:(s.toList == [110,111,116,100,105,114])=false:=by rw [hs,c12];decide
  have q7:(s.toList == [115,117,102,102,105,120])=false:=by rw [hs,c12];decide
  have q8:(s.toList == [98,97,115,101,110,97,109,101])=false:=by rw [hs,c12];decide
  have q9:(s.toList == [102,105,110,100,115,116,114,105,110,103])=false:=by rw [hs,c12];decide
  have q10:(s.toList == [102,105,108,116,101,114])=false:=by rw [hs,c12];decide
  have q11:(s.toList == [102,105,108,116,101,114,45,111,117,116])=false:=by rw [hs,c12];decide
  have q12:(s.toList == [119,111,114,100])=true:=by rw [hs,c12];decide
  have q13:(s.toList == [97,100,100,115,117,102,102,105,120])=false:=by rw [hs,c12];decide
  have q14:(s.toList == [97,100,100,112,114,101,102,105,120])=false:=by rw [hs,c12];decide
  have q15:(s.toList == [106,111,105,110])=false:=by rw [hs,c12];decide
  have q16:(s.toList == [115,117,98,115,116])=false:=by rw [hs,c12];decide
  have q17:(s.toList == [112,97,116,115,117,98,115,116])=false:=by rw [hs,c12];decide
  have q18:(s.toList == [119,111,114,100,108,105,115,116])=false:=by rw [hs,c12];decide
  clear hs c0 c1 c2 c3 c4 c5 c6 c7 c8 c9 c10 c11 c12
  go_enter Tryz.func190,Tryz.ntmps190
  go_wp2
  go_ret
  exact ⟨by rw [HV.out];rfl,rfl⟩
 by_cases c13:x=nAddsuffix
 ·have HV:Hid (manyOf x=2):=by show _=_;rw [c13];decide
  have q0:(s.toList == [115,116,114,105,112])=false:=by rw [hs,c13];decide
  have q1:(s.toList == [115,111,114,116])=false:=by rw [hs,c13];decide
  have q2:(s.toList == [119,111,114,100,115])=false:=by rw [hs,c13];decide
  have q3:(s.toList == [102,105,114,115,116,119,111,114,100])=false:=by rw [hs,c13];decide
  have q4:(s.toList == [108,97,115,116,119,111,114,100])=false:=by rw [hs,c13];decide
  have q5:(s.toList == [100,105,114])=false:=by rw [hs,c13];decide
  have q6:(s.toList == [110,111,116,100,105,114])=false:=by rw [hs,c13];decide
  have q7:(s.toList == [115,117,102,102,105,120])=false:=by rw [hs,c13];decide
  have q8:(s.toList == [98,97,115,101,110,97,109,101])=false:=by rw [hs,c13];decide
  have q9:(s.toList == [102,105,110,100,115,116,114,105,110,103])=false:=by rw [hs,c13];decide
  have q10:(s.toList == [102,105,108,116,101,114])=false:=by rw [hs,c13];decide
  have q11:(s.toList == [102,105,108,116,101,114,45,111,117,116])=false:=by rw [hs,c13];decide
  have q12:(s.toList == [119,111,114,100])=false:=by rw [hs,c13];decide
  have q13:(s.toList == [97,100,100,115,117,102,102,105,120])=true:=by rw [hs,c13];decide
  have q14:(s.toList == [97,100,100,112,114,101,102,105,120])=false:=by rw [hs,c13];decide
  have q15:(s.toList == [106,111,105,110])=false:=by rw [hs,c13];decide
  have q16:(s.toList == [115,117,98,115,116])=false:=by rw [hs,c13];decide
  have q17:(s.toList == [112,97,116,115,117,98,115,116])=false:=by rw [hs,c13];decide
  have q18:(s.toList == [119,111,114,100,108,105,115,116])=false:=by rw [hs,c13];decide
  clear hs c0 c1 c2 c3 c4 c5 c6 c7 c8 c9 c10 c11 c12 c13
  go_enter Tryz.func190,Tryz.ntmps190
  go_wp2
  go_ret
  exact ⟨by rw [HV.out];rfl,rfl⟩
 by_cases c14:x=nAddprefix
 ·have HV:Hid (manyOf x=2):=by show _=_;rw [c14];decide
  have q0:(s.toList == [115,116,114,105,112])=false:=by rw [hs,c14];decide
  have q1:(s.toList == [115,111,114,116])=false:=by rw [hs,c14];decide
  have q2:(s.toList == [119,111,114,100,115])=false:=by rw [hs,c14];decide
  have q3:(s.toList == [102,105,114,115,116,119,111,114,100])=false:=by rw [hs,c14];decide
  have q4:(s.toList == [108,97,115,116,119,111,114,100])=false:=by rw [hs,c14];decide
  have q5:(s.toList == [100,105,114])=false:=by rw [hs,c14];decide
  have q6:(s.toList == [110,111,116,100,105,114])=false:=by rw [hs,c14];decide
  have q7:(s.toList == [115,117,102,102,105,120])=false:=by rw [hs,c14];decide
  have q8:(s.toList == [98,97,115,101,110,97,109,101])=false:=by rw [hs,c14];decide
  have q9:(s.toList == [102,105,110,100,115,116,114,105,110,103])=false:=by rw [hs,c14];decide
  have q10:(s.toList == [102,105,108,116,101,114])=false:=by rw [hs,c14];decide
  have q11:(s.toList == [102,105,108,116,101,114,45,111,117,116])=false:=by rw [hs,c14];decide
  have q12:(s.toList == [119,111,114,100])=false:=by rw [hs,c14];decide
  have q13:(s.toList == [97,100,100,115,117,102,102,105,120])=false:=by rw [hs,c14];decide
  have q14:(s.toList == [97,100,100,112,114,101,102,105,120])=true:=by rw [hs,c14];decide
  have q15:(s.toList == [106,111,105,110])=false:=by rw [hs,c14];decide
  have q16:(s.toList == [115,117,98,115,116])=false:=by rw [hs,c14];decide
  have q17:(s.toList == [112,97,116,115,117,98,115,116])=false:=by rw [hs,c14];decide
  have q18:(s.toList == [119,111,114,100,108,105,115,116])=false:=by rw [hs,c14];decide
  clear hs c0 c1 c2 c3 c4 c5 c6 c7 c8 c9 c10 c11 c12 c13 c14
  go_enter Tryz.func190,Tryz.ntmps190
  go_wp2
  go_ret
  exact ⟨by rw [HV.out];rfl,rfl⟩
 by_cases c15:x=nJoin
 ·have HV:Hid (manyOf x=2):=by show _=_;rw [c15];decide
  have q0:(s.toList == [115,116,114,105,112])=false:=by rw [hs,c15];decide
  have q1:(s.toList == [115,111,114,116])=false:=by rw [hs,c15];decide
  have q2:(s.toList == [119,111,114,100,115])=false:=by rw [hs,c15];decide
  have q3:(s.toList == [102,105,114,115,116,119,111,114,100])=false:=by rw [hs,c15];decide
  have q4:(s.toList == [108,97,115,116,119,111,114,100])=false:=by rw [hs,c15];decide
  have q5:(s.toList == [100,105,114])=false:=by rw [hs,c15];decide
  have q6:(s.toList == [110,111,116,100,105,114])=false:=by rw [hs,c15];decide
  have q7:(s.toList == [115,117,102,102,105,120])=false:=by rw [hs,c15];decide
  have q8:(s.toList == [98,97,115,101,110,97,109,101])=false:=by rw [hs,c15];decide
  have q9:(s.toList == [102,105,110,100,115,116,114,105,110,103])=false:=by rw [hs,c15];decide
  have q10:(s.toList == [102,105,108,116,101,114])=false:=by rw [hs,c15];decide
  have q11:(s.toList == [102,105,108,116,101,114,45,111,117,116])=false:=by rw [hs,c15];decide
  have q12:(s.toList == [119,111,114,100])=false:=by rw [hs,c15];decide
  have q13:(s.toList == [97,100,100,115,117,102,102,105,120])=false:=by rw [hs,c15];decide
  have q14:(s.toList == [97,100,100,112,114,101,102,105,120])=false:=by rw [hs,c15];decide
  have q15:(s.toList == [106,111,105,110])=true:=by rw [hs,c15];decide
  have q16:(s.toList == [115,117,98,115,116])=false:=by rw [hs,c15];decide
  have q17:(s.toList == [112,97,116,115,117,98,115,116])=false:=by rw [hs,c15];decide
  have q18:(s.toList == [119,111,114,100,108,105,115,116])=false:=by rw [hs,c15];decide
  clear hs c0 c1 c2 c3 c4 c5 c6 c7 c8 c9 c10 c11 c12 c13 c14 c15
  go_enter Tryz.func190,Tryz.ntmps190
  go_wp2
  go_ret
  exact ⟨by rw [HV.out];rfl,rfl⟩
 by_cases c16:x=nSubst
 ·have HV:Hid (manyOf x=3):=by show _=_;rw [c16];decide
  have q0:(s.toList == [115,116,114,105,112])=false:=by rw [hs,c16];decide
  have q1:(s.toList == [115,111,114,116])=false:=by rw [hs,c16];decide
  have q2:(s.toList == [119,111,114,100,115])=false:=by rw [hs,c16];decide
  have q3:(s.toList == [102,105,114,115,116,119,111,114,100])=false:=by rw [hs,c16];decide
  have q4:(s.toList == [108,97,115,116,119,111,114,100])=false:=by rw [hs,c16];decide
  have q5:(s.toList == [100,105,114])=false:=by rw [hs,c16];decide
  have q6:(s.toList == [110,111,116,100,105,114])=false:=by rw [hs,c16];decide
  have q7:(s.toList == [115,117,102,102,105,120])=false:=by rw [hs,c16];decide
  have q8:(s.toList == [98,97,115,101,110,97,109,101])=false:=by rw [hs,c16];decide
  have q9:(s.toList == [102,105,110,100,115,116,114,105,110,103])=false:=by rw [hs,c16];decide
  have q10:(s.toList == [102,105,108,116,101,114])=false:=by rw [hs,c16];decide
  have q11:(s.toList == [102,105,108,116,101,114,45,111,117,116])=false:=by rw [hs,c16];decide
  have q12:(s.toList == [119,111,114,100])=false:=by rw [hs,c16];decide
  have q13:(s.toList == [97,100,100,115,117,102,102,105,120])=false:=by rw [hs,c16];decide
  have q14:(s.toList == [97,100,100,112,114,101,102,105,120])=false:=by rw [hs,c16];decide
  have q15:(s.toList == [106,111,105,110])=false:=by rw [hs,c16];decide
  have q16:(s.toList == [115,117,98,115,116])=true:=by rw [hs,c16];decide
  have q17:(s.toList == [112,97,116,115,117,98,115,116])=false:=by rw [hs,c16];decide
  have q18:(s.toList == [119,111,114,100,108,105,115,116])=false:=by rw [hs,c16];decide
  clear hs c0 c1 c2 c3 c4 c5 c6 c7 c8 c9 c10 c11 c12 c13 c14 c15 c16
  go_enter Tryz.func190,Tryz.ntmps190
  go_wp2
  go_ret
  exact ⟨by rw [HV.out];rfl,rfl⟩
 by_cases c17:x=nPatsubst
 ·have HV:Hid (manyOf x=3):=by show _=_;rw [c17];decide
  have q0:(s.toList == [115,116,114,105,112])=false:=by rw [hs,c17];decide
  have q1:(s.toList == [115,111,114,116])=false:=by rw [hs,c17];decide
  have q2:(s.toList == [119,111,114,100,115])=false:=by rw [hs,c17];decide
  have q3:(s.toList == [102,105,114,115,116,119,111,114,100])=false:=by rw [hs,c17];decide
  have q4:(s.toList == [108,97,115,116,119,111,114,100])=false:=by rw [hs,c17];decide
  have q5:(s.toList == [100,105,114])=false:=by rw [hs,c17];decide
  have q6:(s.toList == [110,111,116,100,105,114])=false:=by rw [hs,c17];decide
  have q7:(s.toList == [115,117,102,102,105,120])=false:=by rw [hs,c17];decide
  have q8:(s.toList == [98,97,115,101,110,97,109,101])=false:=by rw [hs,c17];decide
  have q9:(s.toList == [102,105,110,100,115,116,114,105,110,103])=false:=by rw [hs,c17];decide
  have q10:(s.toList == [102,105,108,116,101,114])=false:=by rw [hs,c17];decide
  have q11:(s.toList == [102,105,108,116,101,114,45,111,117,116])=false:=by rw [hs,c17];decide
  have q12:(s.toList == [119,111,114,100])=false:=by rw [hs,c17];decide
  have q13:(s.toList == [97,100,100,115,117,102,102,105,120])=false:=by rw [hs,c17];decide
  have q14:(s.toList == [97,100,100,112,114,101,102,105,120])=false:=by rw [hs,c17];decide
  have q15:(s.toList == [106,111,105,110])=false:=by rw [hs,c17];decide
  have q16:(s.toList == [115,117,98,115,116])=false:=by rw [hs,c17];decide
  have q17:(s.toList == [112,97,116,115,117,98,115,116])=true:=by rw [hs,c17];decide
  have q18:(s.toList == [119,111,114,100,108,105,115,116])=false:=by rw [hs,c17];decide
  clear hs c0 c1 c2 c3 c4 c5 c6 c7 c8 c9 c10 c11 c12 c13 c14 c15 c16 c17
  go_enter Tryz.func190,Tryz.ntmps190
  go_wp2
  go_ret
  exact ⟨by rw [HV.out];rfl,rfl⟩
 by_cases c18:x=nWordlist
 ·have HV:Hid (manyOf x=3):=by show _=_;rw [c18];decide
  have q0:(s.toList == [115,116,114,105,112])=false:=by rw [hs,c18];decide
  have q1:(s.toList == [115,111,114,116])=false:=by rw [hs,c18];decide
  have q2:(s.toList == [119,111,114,100,115])=false:=by rw [hs,c18];decide
  have q3:(s.toList == [102,105,114,115,116,119,111,114,100])=false:=by rw [hs,c18];decide
  have q4:(s.toList == [108,97,115,116,119,111,114,100])=false:=by rw [hs,c18];decide
  have q5:(s.toList == [100,105,114])=false:=by rw [hs,c18];decide
  have q6:(s.toList == [110,111,116,100,105,114])=false:=by rw [hs,c18];decide
  have q7:(s.toList == [115,117,102,102,105,120])=false:=by rw [hs,c18];decide
  have q8:(s.toList == [98,97,115,101,110,97,109,101])=false:=by rw [hs,c18];decide
  have q9:(s.toList == [102,105,110,100,115,116,114,105,110,103])=false:=by rw [hs,c18];decide
  have q10:(s.toList == [102,105,108,116,101,114])=false:=by rw [hs,c18];decide
  have q11:(s.toList == [102,105,108,116,101,114,45,111,117,116])=false:=by rw [hs,c18];decide
  have q12:(s.toList == [119,111,114,100])=false:=by rw [hs,c18];decide
  have q13:(s.toList == [97,100,100,115,117,102,102,105,120])=false:=by rw [hs,c18];decide
  have q14:(s.toList == [97,100,100,112,114,101,102,105,120])=false:=by rw [hs,c18];decide
  have q15:(s.toList == [106,111,105,110])=false:=by rw [hs,c18];decide
  have q16:(s.toList == [115,117,98,115,116])=false:=by rw [hs,c18];decide
  have q17:(s.toList == [112,97,116,115,117,98,115,116])=false:=by rw [hs,c18];decide
  have q18:(s.toList == [119,111,114,100,108,105,115,116])=true:=by rw [hs,c18];decide
  clear hs c0 c1 c2 c3 c4 c5 c6 c7 c8 c9 c10 c11 c12 c13 c14 c15 c16 c17 c18
  go_enter Tryz.func190,Tryz.ntmps190
  go_wp2
  go_ret
  exact ⟨by rw [HV.out];rfl,rfl⟩
 have HV:Hid (manyOf x=0):=by show _=_;unfold manyOf;simp only [c0,c1,c2,c3,c4,c5,c6,c7,c8,c9,c10,c11,c12,c13,c14,c15,c16,c17,c18,or_self,if_false]
 have q0:(s.toList == [115,116,114,105,112])=false:=by rw [hs];exact beq_eq_false_iff_ne.2 c0
 have q1:(s.toList == [115,111,114,116])=false:=by rw [hs];exact beq_eq_false_iff_ne.2 c1
 have q2:(s.toList == [119,111,114,100,115])=false:=by rw [hs];exact beq_eq_false_iff_ne.2 c2
 have q3:(s.toList == [102,105,114,115,116,119,111,114,100])=false:=by rw [hs];exact beq_eq_false_iff_ne.2 c3
 have q4:(s.toList == [108,97,115,116,119,111,114,100])=false:=by rw [hs];exact beq_eq_false_iff_ne.2 c4
 have q5:(s.toList == [100,105,114])=false:=by rw [hs];exact beq_eq_false_iff_ne.2 c5
 have q6:(s.toList == [110,111,116,100,105,114])=false:=by rw [hs];exact beq_eq_false_iff_ne.2 c6
 have q7:(s.toList == [115,117,102,102,105,120])=false:=by rw [hs];exact beq_eq_false_iff_ne.2 c7
 have q8:(s.toList == [98,97,115,101,110,97,109,101])=false:=by rw [hs];exact beq_eq_false_iff_ne.2 c8
 have q9:(s.toList == [102,105,110,100,115,116,114,105,110,103])=false:=by rw [hs];exact beq_eq_false_iff_ne.2 c9
 have q10:(s.toList == [102,105,108,116,101,114])=false:=by rw [hs];exact beq_eq_false_iff_ne.2 c10
 have q11:(s.toList == [102,105,108,116,101,114,45,111,117,116])=false:=by rw [hs];exact beq_eq_false_iff_ne.2 c11
 have q12:(s.toList == [119,111,114,100])=false:=by rw [hs];exact beq_eq_false_iff_ne.2 c12
 have q13:(s.toList == [97,100,100,115,117,102,102,105,120])=false:=by rw [hs];exact beq_eq_false_iff_ne.2 c13
 have q14:(s.toList == [97,100,100,112,114,101,102,105,120])=false:=by rw [hs];exact beq_eq_false_iff_ne.2 c14
 have q15:(s.toList == [106,111,105,110])=false:=by rw [hs];exact beq_eq_false_iff_ne.2 c15
 have q16:(s.toList == [115,117,98,115,116])=false:=by rw [hs];exact beq_eq_false_iff_ne.2 c16
 have q17:(s.toList == [112,97,116,115,117,98,115,116])=false:=by rw [hs];exact beq_eq_false_iff_ne.2 c17
 have q18:(s.toList == [119,111,114,100,108,105,115,116])=false:=by rw [hs];exact beq_eq_false_iff_ne.2 c18
 clear hs c0 c1 c2 c3 c4 c5 c6 c7 c8 c9 c10 c11 c12 c13 c14 c15 c16 c17 c18
 go_enter Tryz.func190,Tryz.ntmps190
 go_wp2
 go_ret
 exact ⟨by rw [HV.out];rfl,rfl⟩
end Go.Proofs.YtmfjolmfbdbegaaGreatDoor
