/-
  Chapter 12 in plain words: what makefiles say, and what is wrong, and where; no program, no world. No condition.
  How long what makefiles say may be: nodes' texts, variables, rules; no program. No condition.
  Maps by texts that the call makes: what they hold, as a function; looking up, storing. What is kept of one among other things of the call's own. No condition but that there are fewer than 2^47 entries.
  What the program keeps while makefiles are read, as it lies in memory. No condition.
  What is panicked with, and what the methods answer that only read. No condition but sizes.
  What once and filled answer: rows of texts of the call's own, made longer one by one. No condition but sizes.
-/
import Derived.Maps.RangeWalk
import Derived.Maps.Ext
import Derived.Maps.OwnSet
import Derived.Test.YtmfjolmfbdbegaaGreatDoorEA
import Derived.Test.YtmfjolmfbdbegaaGreatDoorFP
import Derived.Test.YtmfjolmfbdbegaaGreatDoorHG
import Derived.Test.YtmfjolmfbdbegaaGreatDoorGG
import Derived.Test.YtmfjolmfbdbegaaGreatDoorPB
namespace Go.Proofs.YtmfjolmfbdbegaaGreatDoor
structure RuleM where
 targets:List BT
 isOpen:Bool
 stem:BT
 inputs:List BT
 order:List BT
 recipe:List BT
structure St where
 env:EnvT
 rules:List RuleM
 phony:List BT
 read:List BT
 done:Nat
abbrev Flt:=Int × BT × Int
abbrev Ev (α:Type):=Except Flt α
def Eb {α β:Type} (x:Ev α) (f:α→Ev β):Ev β:=match x with | .error e=>.error e | .ok a=>f a
abbrev Files:=List (BT × BT)
def fileOf (fs:Files) (p:BT):Option BT:=(fs.find? fun x=>decide (x.1=p)).map (·.2)
def saidE (p t:BT):Ev (List Nd) :=
 if (lexOf t).2.1≠0 then .error ((lexOf t).2.1,p,((lexOf t).2.2:Nat))
 else if (parseP ((lexOf t).1.map toLine)).2.1≠0 then .error ((parseP ((lexOf t).1.map toLine)).2.1,p,(parseP ((lexOf t).1.map toLine)).2.2)
 else .ok (parseP ((lexOf t).1.map toLine)).1
def exE (env:EnvT) (p:BT) (no:Int) (s:BT):Ev BT:=if (expandT env s).2=0 then .ok (expandT env s).1 else .error ((expandT env s).2,p,no)
def wordsE (env:EnvT) (p:BT) (no:Int) (s:BT):Ev (List BT):=Eb (exE env p no s) fun t=>if 200 < (wordsT t).length then .error (3,p,no) else .ok (wordsT t)
def onceL:List BT→List BT→List BT
 | _,[]=>[]
 | k,w :: r=>if w∈k then onceL k r else w :: onceL (w :: k) r
def goodW (o:Bool) (s:BT):Bool:=pathB s || (o && openB s)
def phonyW:BT:=[46,80,72,79,78,89]
def RuleM.all (x:RuleM):List BT:=x.targets++(x.inputs++x.order)
def addE (p:BT) (no:Int) (x:RuleM) (st:St):Ev St :=
 if x.all.all (goodW x.isOpen)=false then .error (2,p,no)
 else if x.targets=[phonyW] then .ok { st with phony:=st.phony++x.inputs } else .ok { st with rules:=st.rules++[x] }
def foldE {α β:Type} (f:α→β→Ev β):List α→β→Ev β
 | [],b=>.ok b
 | a :: r,b=>Eb (f a b) (foldE f r)
def oneOf (pat:BT) (inputs order recipe:List BT) (t:BT):RuleM :=
 ⟨[t],false,(matchL pat t).1,onceL [] (inputs.map fun x=>fillL x (matchL pat t).1),onceL (inputs.map fun x=>fillL x (matchL pat t).1) (order.map fun x=>fillL x (matchL pat t).1),recipe⟩
def byPatE (p:BT) (no:Int) (pat:BT) (inputs order recipe:List BT) (t:BT) (st:St):Ev St :=
 if ((matchL pat t).2 && openB pat)=false then .error (2,p,no) else addE p no (oneOf pat inputs order recipe t) st
def ruleE (p:BT) (n:Nd) (st:St):Ev St :=
 Eb (wordsE st.env p n.no n.targets) fun ts=>Eb (wordsE st.env p n.no n.inputs) fun is=>Eb (wordsE st.env p n.no n.order) fun os =>
  match onceL [] ts with
  | []=>.ok st
  | t :: r =>
   if n.pattern≠[] then Eb (exE st.env p n.no n.pattern) fun q=>foldE (byPatE p n.no (trimOf q) is os n.recipe) (t :: r) st
   else if (t :: r).any (fun x=>openB x != openB t)=true then .error (2,p,n.no)
   else addE p n.no ⟨t :: r,openB t,[],onceL [] is,onceL is os,n.recipe⟩ st
def hasB (env:EnvT) (n:BT):Bool:=decide (textOf (getT env n)≠[])
def oneE (env:EnvT) (p:BT) (n:Nd):Ev Bool:=Eb (exE env p n.no n.name) fun a=>Eb (exE env p n.no n.text) fun b=>.ok (decide (a=b))
def holdsE (env:EnvT) (p:BT) (n:Nd):Ev Bool :=
 if n.op=wIfeq then oneE env p n
 else if n.op=wIfneq then Eb (oneE env p n) fun b=>.ok !b
 else if n.op=wIfdef then .ok (hasB env n.name)
 else .ok !(hasB env n.name)
def assignE (p:BT) (n:Nd) (st:St):Ev St:=match assignT st.env n.name n.op n.text with | .error e=>.error (e,p,n.no) | .ok v=>.ok { st with env:=v }
def inclOne (fs:Files) (rd:BT→St→Ev St) (need:Bool) (w:BT) (st:St):Ev St:=if need || (fileOf fs w).isSome then rd w st else .ok st
def inclE (fs:Files) (rd:BT→St→Ev St) (p:BT) (n:Nd) (st:St):Ev St :=
 Eb (exE st.env p n.no n.text) fun t=>foldE (inclOne fs rd (decide (n.op=wIncl))) (wordsT t) st
def partL:Int→List Nd→List Nd
 | _,[]=>[]
 | o,n :: r =>
  if (n.kind=4∨n.kind=5)∧o=0 then r
  else if n.kind=3 then partL (o+1) r
  else if n.kind=5 then partL (o - 1) r
  else partL o r
def stepE (fs:Files) (rd:BT→St→Ev St) (p:BT) (n:Nd) (st:St):Ev (St × Bool) :=
 if n.kind=1 then Eb (assignE p n st) fun s=>.ok (s,true)
 else if n.kind=6 then Eb (inclE fs rd p n st) fun s=>.ok (s,true)
 else if n.kind=2 then Eb (ruleE p n st) fun s=>.ok (s,true)
 else if n.kind=3 then Eb (holdsE st.env p n) fun b=>.ok (st,b)
 else .ok (st,true)
def doF (fs:Files) (rd:BT→St→Ev St) (p:BT):Nat→List Nd→St→Ev St
 | 0,_,_=>.error (0,p,0)
 | _+1,[],st=>.ok st
 | f+1,n :: r,st =>
  if n.kind=5 then doF fs rd p f r st
  else if n.kind=4 then doF fs rd p f (partL 0 r) st
  else if st.done=1000 then .error (3,p,n.no)
  else Eb (stepE fs rd p n { st with done:=st.done+1 }) fun x=>doF fs rd p f (if x.2 then r else partL 0 r) x.1
def doE (fs:Files) (rd:BT→St→Ev St) (p:BT) (l:List Nd) (st:St):Ev St:=doF fs rd p (l.length+1) l st
def readE (fs:Files):Nat→BT→St→Ev St
 | 0,p,_=>match fileOf fs p with
  | none=>.error (4,p,0)
  | some _=>.error (15,p,0)
 | k+1,p,st=>match fileOf fs p with
  | none=>.error (4,p,0)
  | some t=>if st.read.length=200 then .error (3,p,0) else Eb (saidE p t) fun l=>doE fs (readE fs k) p l { st with read:=st.read++[p] }
def St.start:St:=⟨[],[],[],[],0⟩
def runE (fs:Files) (p:BT):Ev St:=readE fs 20 p St.start
def phonyOf (l:List BT):List BT:=sortT l
def headOf (l:List BT):BT:=l.headD []
def firstOk (x:RuleM):Bool:=!x.isOpen && !([46]:BT).isPrefixOf (headOf x.targets)
def firstOf (l:List RuleM):BT:=match l.find? firstOk with | some x=>headOf x.targets | none=>[]
section
variable {α β γ:Type}
theorem Eb_ok (a:α) (f:α→Ev β):Eb (.ok a) f=f a:=rfl
theorem Eb_is {x:Ev α} {f:α→Ev β} {b:β} (h:Eb x f=.ok b):∃ a,x=.ok a∧f a=.ok b:=by
 cases x with
 | error e=>cases h
 | ok y=>exact ⟨y,rfl,h⟩
theorem fold_nil (f:α→β→Ev β) (b:β):foldE f [] b=.ok b:=rfl
theorem fold_cons (f:α→β→Ev β) (a:α) (r:List α) (b:β):foldE f (a :: r) b=Eb (f a b) (foldE f r):=rfl
end
theorem behind_len:∀ (l:List Nd) (o:Int),(partL o l).length≤l.length
 | [],_=>by unfold partL;exact Nat.le_refl _
 | n :: r,o=>by
  unfold partL
  have h1:=behind_len r (o+1)
  have h2:=behind_len r (o - 1)
  have h3:=behind_len r o
  simp only [List.length_cons]
  split
  ·omega
  split
  ·omega
  split <;> omega
theorem do_fuel (fs:Files) (rd:BT→St→Ev St) (p:BT):∀ (f g:Nat) (l:List Nd) (st:St),l.length < f→l.length < g→doF fs rd p f l st=doF fs rd p g l st
 | 0,_,_,_,h,_=>absurd h (Nat.not_lt_zero _)
 | _+1,0,_,_,_,h=>absurd h (Nat.not_lt_zero _)
 | _+1,_+1,[],_,_,_=>rfl
 | f+1,g+1,n :: r,st,hf,hg=>by
  simp only [List.length_cons] at hf hg
  have hb:=behind_len r 0
  unfold doF
  split
  ·exact do_fuel fs rd p f g r st (by omega) (by omega)
  split
  ·exact do_fuel fs rd p f g _ st (by omega) (by omega)
  split
  ·rfl
  ·cases stepE fs rd p n { st with done:=st.done+1 } with
   | error e=>rfl
   | ok x =>
    rw [Eb_ok,Eb_ok]
    refine do_fuel fs rd p f g _ _ ?_ ?_ <;> (split <;> omega)
section
variable (fs:Files) (rd:BT→St→Ev St) (p:BT) (st:St)
theorem do_nil:doE fs rd p [] st=.ok st:=rfl
theorem do_end {n:Nd} (r:List Nd) (h:n.kind=5):doE fs rd p (n :: r) st=doE fs rd p r st:=by
 show doF fs rd p ((n :: r).length+1) (n :: r) st=_
 conv=>lhs;unfold doF
 rw [if_pos h];rfl
theorem do_else {n:Nd} (r:List Nd) (h:n.kind=4):doE fs rd p (n :: r) st=doE fs rd p (partL 0 r) st:=by
 show doF fs rd p ((n :: r).length+1) (n :: r) st=_
 conv=>lhs;unfold doF
 rw [if_neg (by rw [h];decide),if_pos h]
 have:=behind_len r 0
 exact do_fuel fs rd p _ _ _ _ (by simp only [List.length_cons];omega) (by omega)
theorem do_full {n:Nd} (r:List Nd) (h5:n.kind≠5) (h4:n.kind≠4) (hd:st.done=1000):doE fs rd p (n :: r) st=.error (3,p,n.no):=by
 show doF fs rd p ((n :: r).length+1) (n :: r) st=_
 conv=>lhs;unfold doF
 rw [if_neg h5,if_neg h4,if_pos hd]
theorem do_step {n:Nd} (r:List Nd) (h5:n.kind≠5) (h4:n.kind≠4) (hd:st.done≠1000) :
  doE fs rd p (n :: r) st=Eb (stepE fs rd p n { st with done:=st.done+1 }) fun x=>doE fs rd p (if x.2 then r else partL 0 r) x.1:=by
 show doF fs rd p ((n :: r).length+1) (n :: r) st=_
 conv=>lhs;unfold doF
 rw [if_neg h5,if_neg h4,if_neg hd]
 congr 1
 funext x
 have:=behind_len r 0
 exact do_fuel fs rd p _ _ _ _ (by simp only [List.length_cons];split <;> omega) (by omega)
end
end Go.Proofs.YtmfjolmfbdbegaaGreatDoor

namespace Go.Proofs.YtmfjolmfbdbegaaGreatDoor
structure NdOk (n:Nd):Prop where
 no:0≤n.no
 op:n.op.length≤1000
 name:n.name.length≤1000
 text:n.text.length≤1000
 targets:n.targets.length≤1000
 pattern:n.pattern.length≤1000
 inputs:n.inputs.length≤1000
 order:n.order.length≤1000
 recipe:n.recipe.length≤1000∧∀ x∈n.recipe,x.length≤1000
theorem cut_short2 (sg:List BS) (s:BS):(cutOf sg s).2.1.length≤s.length:=by
 have:=cut_parts sg s
 omega
theorem trim_le {l:BS} {k:Nat} (h:l.length≤k):(trimOf l).length≤k:=Nat.le_trans (trim_len l) h
theorem rest_le {x w:BS} {k:Nat} (h:x.length≤k):(restL x w).length≤k:=trim_le (by rw [List.length_drop];omega)
theorem ruleRest_le {b:BS} {k:Nat} (h:b.length≤k):(ruleRest b).length≤k:=by
 unfold ruleRest
 split
 ·exact h
 ·exact Nat.le_trans (cut_short _ _) h
theorem rulePat_le {b:BS} {k:Nat} (h:b.length≤k):(rulePat b).length≤k:=by
 unfold rulePat
 split
 ·simp
 ·exact trim_le (Nat.le_trans (cut_short1 _ _) h)
theorem rule_small {no:Int} {a b:BS} {n:Nd} (hno:0≤no) (ha:a.length≤1000) (hb:b.length≤1000) (h:ruleL no a b=some n):NdOk n:=by
 unfold ruleL at h
 split at h
 ·cases h
 ·cases h
  have hr:=ruleRest_le hb
  exact ⟨hno,by simp,by simp,by simp,trim_le ha,rulePat_le hb,trim_le (Nat.le_trans (cut_short1 _ _) hr),trim_le (Nat.le_trans (cut_short _ _) hr),by simp⟩
theorem one_small {no:Int} {t:BS} {n:Nd} (hno:0≤no) (ht:t.length≤1000) (h:oneL no t=some n):NdOk n:=by
 unfold oneL at h
 have htt:=trim_le ht
 have hw:∀ {w:BS} {ws:List BS},wordsL (trimOf t)=w :: ws→w.length≤1000:=fun {w ws} e=>by
  have hm:w∈wordsL (trimOf t):=by rw [e];exact List.mem_cons_self
  unfold wordsL at hm
  exact Nat.le_trans (pieces_short blankB _ w (List.mem_filter.1 hm).1) htt
 split at h
 ·cases h
 ·rename_i w ws he
  have hwl:=hw he
  split at h
  ·unfold ifL at h
   split at h
   ·simp only at h
    split at h
    ·cases h
    ·cases h
     have hr:((restL (trimOf t) w).tail.dropLast).length≤1000:=by
      have:=rest_le (w:=w) htt
      rw [List.length_dropLast,List.length_tail]
      omega
     exact ⟨hno,hwl,trim_le (Nat.le_trans (cut_short1 _ _) hr),trim_le (Nat.le_trans (cut_short _ _) hr),by simp,by simp,by simp,by simp,by simp⟩
   ·cases h
  split at h
  ·split at h
   ·cases h
    exact ⟨hno,hwl,rest_le htt,by simp,by simp,by simp,by simp,by simp,by simp⟩
   ·cases h
  split at h
  ·split at h
   ·cases h
    exact ⟨hno,by simp,by simp,by simp,by simp,by simp,by simp,by simp,by simp⟩
   ·cases h
  split at h
  ·split at h
   ·cases h
    exact ⟨hno,by simp,by simp,by simp,by simp,by simp,by simp,by simp,by simp⟩
   ·cases h
  split at h
  ·split at h
   ·cases h
   ·cases h
    exact ⟨hno,hwl,by simp,rest_le htt,by simp,by simp,by simp,by simp,by simp⟩
  ·unfold eqL at h
   simp only at h
   split at h
   ·cases h
   split at h
   ·exact rule_small hno (Nat.le_trans (cut_short1 _ _) htt) (Nat.le_trans (cut_short _ _) htt) h
   split at h
   ·cases h
    exact ⟨hno,Nat.le_trans (cut_short2 _ _) htt,trim_le (Nat.le_trans (cut_short1 _ _) htt),trim_le (Nat.le_trans (cut_short _ _) htt),by simp,by simp,by simp,by simp,by simp⟩
   ·cases h
def LineOk (x:LineI):Prop:=0≤x.1∧x.2.2.length≤1000
theorem parse_small:∀ (r:List LineI) (op:List Bool) (dp:Option Int) (out:List Nd) (k:Nat),(∀ x∈r,LineOk x)→(∀ a,dp=some a→0≤a)→(∀ n∈out,NdOk n∧n.recipe.length≤k)→k+r.length≤1000 →
  0≤(parseG op dp out r).2.2∧∀ n∈(parseG op dp out r).1,NdOk n
 | [],op,dp,out,k,_,hd,ho,_=>by
  rw [parseG_nil]
  cases dp with
  | some a=>exact ⟨hd a rfl,by intro n hn;cases hn⟩
  | none =>
   simp only
   split
   ·exact ⟨Int.le_refl _,fun n hn=>(ho n hn).1⟩
   ·exact ⟨Int.le_refl _,by intro n hn;cases hn⟩
 | (no,true,t) :: r,op,dp,out,k,hl,hd,ho,hk=>by
  have h0:LineOk (no,true,t):=hl _ List.mem_cons_self
  have hb:0≤(badL 2 no).2.2∧∀ n∈(badL 2 no).1,NdOk n:=⟨h0.1,fun n hn=>by cases hn⟩
  rw [parseG_tab]
  simp only [List.length_cons] at hk
  split
  ·rename_i n he
   split
   ·have hm:=List.mem_of_getLast? he
    obtain ⟨q1,q2⟩:=ho n hm
    refine parse_small r op dp _ (k+1) (fun x hx=>hl x (List.mem_cons_of_mem _ hx)) hd (fun y hy=>?_) (by omega)
    rcases List.mem_append.1 hy with hy | hy
    ·obtain ⟨z1,z2⟩:=ho y (List.dropLast_subset _ hy)
     exact ⟨z1,by omega⟩
    ·rw [List.mem_singleton.1 hy]
     refine ⟨⟨q1.no,q1.op,q1.name,q1.text,q1.targets,q1.pattern,q1.inputs,q1.order,?_⟩,?_⟩
     ·refine ⟨by simp only [List.length_append,List.length_cons,List.length_nil];omega,fun x hx=>?_⟩
      rcases List.mem_append.1 hx with hx | hx
      ·exact q1.recipe.2 x hx
      ·rw [List.mem_singleton.1 hx];exact h0.2
     ·simp only [List.length_append,List.length_cons,List.length_nil];omega
   ·exact hb
  ·exact hb
 | (no,false,t) :: r,op,dp,out,k,hl,hd,ho,hk=>by
  have h0:LineOk (no,false,t):=hl _ List.mem_cons_self
  have hb:0≤(badL 2 no).2.2∧∀ n∈(badL 2 no).1,NdOk n:=⟨h0.1,fun n hn=>by cases hn⟩
  rw [parseG_one]
  simp only [List.length_cons] at hk
  split
  ·exact hb
  ·rename_i n he
   have hn:=one_small h0.1 h0.2 he
   have hrec:=(one_kind he).2.2.2
   have hl':∀ x∈r,LineOk x:=fun x hx=>hl x (List.mem_cons_of_mem _ hx)
   have ho':∀ y∈out++[n],NdOk y∧y.recipe.length≤k:=fun y hy=>by
    rcases List.mem_append.1 hy with hy | hy
    ·exact ho y hy
    ·rw [List.mem_singleton.1 hy];exact ⟨hn,by rw [hrec];simp⟩
   split
   ·refine parse_small r _ _ _ k hl' (fun a ha=>?_) ho' (by omega)
    split at ha
    ·cases ha;exact h0.1
    ·exact hd a ha
   split
   ·split
    ·exact parse_small r _ _ _ k hl' hd ho' (by omega)
    ·exact hb
   split
   ·split
    ·exact parse_small r _ _ _ k hl' hd ho' (by omega)
    ·exact hb
   ·exact parse_small r _ _ _ k hl' hd ho' (by omega)
theorem scan_small:∀ (l:List Item) (n:Nat),scanL n l=none→n≤300→n+l.length≤300∧∀ x∈l,x.2.2.length≤1000
 | [],_,_,hn=>⟨hn,by simp⟩
 | x :: r,n,h,hn=>by
  unfold scanL at h
  split at h
  ·cases h
  ·rename_i hx
   obtain ⟨h1,h2⟩:=scan_small r (n+1) h (by omega)
   refine ⟨by simp only [List.length_cons];omega,fun y hy=>?_⟩
   rcases List.mem_cons.1 hy with rfl | hy
   ·omega
   ·exact h2 y hy
theorem lex_small (s:BS):(lexOf s).1.length≤300∧∀ x∈(lexOf s).1,x.2.2.length≤1000:=by
 cases h:scanL 0 (itemsL 1 (linesL s)) with
 | none =>
  rw [lex_ok h]
  have:=scan_small _ 0 h (by omega)
  exact ⟨by have h1:=this.1;rw [Nat.zero_add] at h1;exact h1,this.2⟩
 | some n =>
  rw [lex_err h]
  exact ⟨by simp,by simp⟩
theorem lines_small (s:BS):∀ x∈(lexOf s).1.map toLine,LineOk x:=fun x hx=>by
 obtain ⟨y,hy,rfl⟩:=List.mem_map.1 hx
 exact ⟨Int.natCast_nonneg _,(lex_small s).2 y hy⟩
theorem said_small {p t:BT} {l:List Nd} (h:saidE p t=.ok l):∀ n∈l,NdOk n:=by
 unfold saidE at h
 split at h
 ·cases h
 split at h
 ·cases h
 ·cases h
  exact (parse_small _ [] none [] 0 (lines_small t) (by simp) (by simp) (by have:=(lex_small t).1;rw [List.length_map];omega)).2
structure FitK (k:Nat) (st:St):Prop where
 srt:SrtT st.env
 env:st.env.length≤k
 vars:∀ x∈st.env,x.1.length≤40∧x.2.1.length≤5001*k
 rules:st.rules.length≤200*k
 phony:st.phony.length≤40000*k
 read:st.read.length≤200
structure Fits (st:St):Prop where
 fit:FitK st.done st
 done:st.done≤1000
theorem FitK.up {k j:Nat} {st:St} (h:FitK k st) (hkj:k≤j):FitK j st :=
 ⟨h.srt,by have:=h.env;omega,fun x hx=>⟨(h.vars x hx).1,by have:=(h.vars x hx).2;omega⟩,by have:=h.rules;omega,by have:=h.phony;omega,h.read⟩
theorem FitK.ok {k:Nat} {st:St} (h:FitK k st) (hk:k≤1000):EnvOk st.env 21:=by
 refine ⟨h.srt,by have:=h.env;omega,fun x hx=>?_⟩
 have:=h.vars x hx
 omega
theorem onceL_len:∀ (l k:List BT),(onceL k l).length≤l.length
 | [],_=>Nat.le_refl _
 | w :: r,k=>by
  unfold onceL
  split
  ·have:=onceL_len r k
   simp only [List.length_cons];omega
  ·have:=onceL_len r (w :: k)
   simp only [List.length_cons];omega
theorem words_fit {env:EnvT} {p:BT} {no:Int} {s:BT} {l:List BT} (h:wordsE env p no s=.ok l):l.length≤200∧∀ x∈l,x.length≤4000:=by
 unfold wordsE at h
 obtain ⟨t,h1,h2⟩:=Eb_is h
 unfold exE at h1
 split at h1
 ·cases h1
  split at h2
  ·cases h2
  ·cases h2
   refine ⟨by omega,fun x hx=>Nat.le_trans (words_memT hx).2 (expand_len env s)⟩
 ·cases h1
structure Same3 (st st':St):Prop where
 env:st'.env=st.env
 read:st'.read=st.read
 done:st'.done=st.done
theorem Same3.refl (st:St):Same3 st st:=⟨rfl,rfl,rfl⟩
theorem Same3.trans {a b c:St} (h:Same3 a b) (k:Same3 b c):Same3 a c:=⟨k.env.trans h.env,k.read.trans h.read,k.done.trans h.done⟩
theorem add_fit {st st':St} {p:BT} {no:Int} {x:RuleM} (he:addE p no x st=.ok st') :
  Same3 st st'∧st'.rules.length≤st.rules.length+1∧st'.phony.length≤st.phony.length+x.inputs.length:=by
 unfold addE at he
 split at he
 ·cases he
 split at he
 ·cases he
  exact ⟨⟨rfl,rfl,rfl⟩,by simp,by simp⟩
 ·cases he
  exact ⟨⟨rfl,rfl,rfl⟩,by simp,by simp⟩
theorem one_inputs (pat:BT) (is os rc:List BT) (t:BT):(oneOf pat is os rc t).inputs.length≤is.length:=by
 unfold oneOf
 refine Nat.le_trans (onceL_len _ _) ?_
 simp
theorem fold_fit {p:BT} {no:Int} {pat:BT} {is os rc:List BT}:∀ (ts:List BT) {st st':St},foldE (byPatE p no pat is os rc) ts st=.ok st' →
  Same3 st st'∧st'.rules.length≤st.rules.length+ts.length∧st'.phony.length≤st.phony.length+is.length*ts.length
 | [],st,st',h=>by cases h;exact ⟨Same3.refl _,by simp,by simp⟩
 | t :: r,st,st',h=>by
  rw [fold_cons] at h
  obtain ⟨s1,h1,h2⟩:=Eb_is h
  unfold byPatE at h1
  split at h1
  ·cases h1
  ·obtain ⟨a1,a2,a3⟩:=add_fit h1
   obtain ⟨b1,b2,b3⟩:=fold_fit r h2
   have:=one_inputs pat is os rc t
   refine ⟨a1.trans b1,by simp only [List.length_cons];omega,?_⟩
   rw [List.length_cons,Nat.mul_add]
   omega
theorem rule_fit {p:BT} {n:Nd} {st st':St} (h:ruleE p n st=.ok st'):Same3 st st'∧st'.rules.length≤st.rules.length+200∧st'.phony.length≤st.phony.length+40000:=by
 unfold ruleE at h
 obtain ⟨ts,h1,h⟩:=Eb_is h
 obtain ⟨is,h2,h⟩:=Eb_is h
 obtain ⟨os,h3,h⟩:=Eb_is h
 have hts:=(words_fit h1).1
 have his:=(words_fit h2).1
 have hol:=onceL_len ts []
 split at h
 ·cases h;exact ⟨Same3.refl _,by omega,by omega⟩
 ·rename_i t r ho
  rw [ho] at hol
  split at h
  ·obtain ⟨q,_,h⟩:=Eb_is h
   obtain ⟨a1,a2,a3⟩:=fold_fit _ h
   have hm:is.length*(t :: r).length≤200*200:=Nat.mul_le_mul his (by omega)
   exact ⟨a1,by omega,by omega⟩
  split at h
  ·cases h
  ·obtain ⟨a1,a2,a3⟩:=add_fit h
   have:=onceL_len is []
   simp only at a3
   exact ⟨a1,by omega,by omega⟩
theorem assign_fit {k:Nat} {p:BT} {n:Nd} {st st':St} (hf:FitK k st) (hn:NdOk n) (h:assignE p n st=.ok st'):FitK (k+1) st'∧st'.done=st.done:=by
 unfold assignE at h
 split at h
 ·cases h
 ·rename_i v hv
  cases h
  refine ⟨?_,rfl⟩
  have key:∀ x:VarT,v=setT st.env x→x.1.length≤40→x.2.1.length≤5001*(k+1)→FitK (k+1) { st with env:=v }:=fun x hx h1 h2=>by
   subst hx
   refine ⟨set_srt hf.srt,by have:=(set_len st.env x).1;have:=hf.env;show (setT st.env x).length≤_;omega,fun y hy=>?_,by have:=hf.rules;show st.rules.length≤_;omega,by have:=hf.phony;show st.phony.length≤_;omega,hf.read⟩
   rcases set_mem hy with rfl | hy
   ·exact ⟨h1,h2⟩
   ·have:=hf.vars y hy
    omega
  have htx:=hn.text
  have hex:=expand_len st.env n.text
  unfold assignT at hv
  split at hv
  ·cases hv
  rename_i hnm
  have hnl:n.name.length≤40:=name_len (by simpa using hnm)
  split at hv
  ·split at hv
   ·cases hv;exact key _ rfl hnl (by simp only;omega)
   ·cases hv
  split at hv
  ·cases hv;exact key _ rfl hnl (by simp only;omega)
  split at hv
  ·split at hv
   ·cases hv
   ·rename_i y hg
    have hy:=hf.vars y (get_mem hg)
    split at hv
    ·cases hv
     refine key _ rfl hy.1 ?_
     unfold moreT
     split
     ·split
      ·simp only [List.length_append,List.length_cons];omega
      ·simp
     ·simp only [List.length_append,List.length_cons];omega
    ·cases hv
  split at hv
  ·split at hv
   ·cases hv
   ·rename_i y hg
    have hy:=hf.vars y (get_mem hg)
    cases hv
    exact key _ rfl hy.1 (by omega)
  ·cases hv
def RdFit (rd:BT→St→Ev St):Prop:=∀ w st st',Fits st→rd w st=.ok st'→Fits st'∧st.done≤st'.done
theorem incl_fold_fit {fs:Files} {rd:BT→St→Ev St} (hr:RdFit rd) {b:Bool}:∀ (ws:List BT) {st st':St},Fits st→foldE (inclOne fs rd b) ws st=.ok st'→Fits st'∧st.done≤st'.done
 | [],st,st',hf,h=>by cases h;exact ⟨hf,Nat.le_refl _⟩
 | w :: r,st,st',hf,h=>by
  rw [fold_cons] at h
  obtain ⟨s1,h1,h2⟩:=Eb_is h
  unfold inclOne at h1
  split at h1
  ·obtain ⟨a1,a2⟩:=hr w st s1 hf h1
   obtain ⟨b1,b2⟩:=incl_fold_fit hr r a1 h2
   exact ⟨b1,by omega⟩
  ·cases h1
   exact incl_fold_fit hr r hf h2
theorem step_fit {fs:Files} {rd:BT→St→Ev St} (hr:RdFit rd) {p:BT} {n:Nd} (hn:NdOk n) {st st':St} {b:Bool} (hf:Fits st) (hd:st.done≠1000) (h:stepE fs rd p n { st with done:=st.done+1 }=.ok (st',b)):Fits st'∧st.done+1≤st'.done:=by
 have hdl:=hf.done
 have h0:FitK st.done { st with done:=st.done+1 }:=⟨hf.fit.srt,hf.fit.env,hf.fit.vars,hf.fit.rules,hf.fit.phony,hf.fit.read⟩
 have h1:Fits { st with done:=st.done+1 }:=⟨h0.up (Nat.le_succ _),by show st.done+1≤1000;omega⟩
 unfold stepE at h
 split at h
 ·obtain ⟨s,e1,e2⟩:=Eb_is h
  cases e2
  obtain ⟨a1,a2⟩:=assign_fit h0 hn e1
  simp only at a2
  exact ⟨⟨by rw [a2];exact a1,by omega⟩,by omega⟩
 split at h
 ·obtain ⟨s,e1,e2⟩:=Eb_is h
  cases e2
  unfold inclE at e1
  obtain ⟨t,_,e3⟩:=Eb_is e1
  obtain ⟨a1,a2⟩:=incl_fold_fit hr _ h1 e3
  exact ⟨a1,a2⟩
 split at h
 ·obtain ⟨s,e1,e2⟩:=Eb_is h
  cases e2
  obtain ⟨⟨a1,a2,a3⟩,a4,a5⟩:=rule_fit e1
  simp only at a1 a2 a3 a4 a5
  have q1:=h0.rules
  have q2:=h0.phony
  simp only at q1 q2
  refine ⟨⟨?_,by omega⟩,by omega⟩
  rw [a3]
  exact ⟨by rw [a1];exact h0.srt,by rw [a1];have:=h0.env;simp only at this;omega,by rw [a1];exact (h0.up (Nat.le_succ _)).vars,by omega,by omega,by rw [a2];exact h0.read⟩
 split at h
 ·obtain ⟨c,e1,e2⟩:=Eb_is h
  cases e2
  exact ⟨h1,Nat.le_refl _⟩
 ·cases h
  exact ⟨h1,Nat.le_refl _⟩
theorem behind_mem:∀ (l:List Nd) (o:Int),∀ n∈partL o l,n∈l
 | [],_,n,h=>by unfold partL at h;exact h
 | m :: r,o,n,h=>by
  unfold partL at h
  split at h
  ·exact List.mem_cons_of_mem _ h
  split at h
  ·exact List.mem_cons_of_mem _ (behind_mem r _ n h)
  split at h
  ·exact List.mem_cons_of_mem _ (behind_mem r _ n h)
  ·exact List.mem_cons_of_mem _ (behind_mem r _ n h)
theorem doF_fit {fs:Files} {rd:BT→St→Ev St} (hr:RdFit rd) {p:BT}:∀ (f:Nat) (l:List Nd) {st st':St},(∀ n∈l,NdOk n)→Fits st→doF fs rd p f l st=.ok st'→Fits st'∧st.done≤st'.done
 | 0,_,_,_,_,_,h=>by cases h
 | _+1,[],st,st',_,hf,h=>by cases h;exact ⟨hf,Nat.le_refl _⟩
 | f+1,n :: r,st,st',hl,hf,h=>by
  have hl':∀ m∈r,NdOk m:=fun m hm=>hl m (List.mem_cons_of_mem _ hm)
  have hlb:∀ m∈partL 0 r,NdOk m:=fun m hm=>hl' m (behind_mem r 0 m hm)
  unfold doF at h
  split at h
  ·exact doF_fit hr f r hl' hf h
  split at h
  ·exact doF_fit hr f _ hlb hf h
  split at h
  ·cases h
  ·rename_i hd
   obtain ⟨⟨s1,b⟩,h1,h2⟩:=Eb_is h
   obtain ⟨a1,a2⟩:=step_fit hr (hl n List.mem_cons_self) hf hd h1
   have hlx:∀ m∈(if b=true then r else partL 0 r),NdOk m:=by split <;> assumption
   obtain ⟨b1,b2⟩:=doF_fit hr f _ hlx a1 h2
   exact ⟨b1,by omega⟩
theorem read_fit (fs:Files):∀ k:Nat,RdFit (readE fs k)
 | 0=>fun p st st' hf h=>by
  unfold readE at h
  split at h <;> cases h
 | k+1=>fun p st st' hf h=>by
  unfold readE at h
  split at h
  ·cases h
  split at h
  ·cases h
  ·rename_i hlen
   obtain ⟨l,h1,h2⟩:=Eb_is h
   have hlen':=hf.fit.read
   have hf1:Fits { st with read:=st.read++[p] }:=⟨⟨hf.fit.srt,hf.fit.env,hf.fit.vars,hf.fit.rules,hf.fit.phony,by simp only [List.length_append,List.length_cons,List.length_nil];omega⟩,hf.done⟩
   have hq:=doF_fit (read_fit fs k) _ l (said_small h1) hf1 h2
   exact hq
theorem start_fit:Fits St.start:=⟨⟨List.Pairwise.nil,Nat.le_refl _,by simp [St.start],Nat.zero_le _,Nat.zero_le _,Nat.zero_le _⟩,by show 0≤1000;omega⟩
end Go.Proofs.YtmfjolmfbdbegaaGreatDoor

namespace Go.Proofs.YtmfjolmfbdbegaaGreatDoor
open Go.RowKit Go.Shelf Go.Maps
def rV (v:Value):Option (DataW Value × List MemPlace):=some (.held v,[])
theorem keyS:Keyed Tryz.prog 9:=string_keyed Tryz.underlying9
theorem keyOfS {s:ByteArray} (hs:s.size≤maxLen):keyOf Tryz.prog 9 (.string s)=some (.string s.data.toList):=Go.WideMaps.keyOf_string_mk Tryz.underlying9 hs
def MapF (w:World) (b n:Nat) (f:BT→Option Value):Prop :=
 ∃ D,w.ownsMap Tryz.prog 9 rV b n D∧IsMap D∧∀ p,has D (.string p)=(f p).isSome∧∀ v,f p=some v→∀ z,D.atKey (.string p) z=.held v
theorem MapF.lt {w:World} {b n:Nat} {f:BT→Option Value} (h:MapF w b n f):b < w.heap.size:=let ⟨_,h1,_⟩:=h;h1.lt
theorem MapF.kept {w w':World} {b n:Nat} {f:BT→Option Value} (h:MapF w b n f) (hb:w'.heap[b]? = w.heap[b]?):MapF w' b n f:=by
 obtain ⟨D,⟨es,clock,hh,r⟩,hs⟩:=h
 exact ⟨D,⟨es,clock,hb.trans hh,r⟩,hs⟩
theorem MapF.made (w:World):MapF (w.alloc (.map #[] 0)) w.heap.size 0 (fun _=>none) :=
 ⟨_,World.ownsMap_made w _ _ _,isMap_empty,fun p=>⟨rfl,fun v h=>by cases h⟩⟩
theorem MapF.at {w:World} {b n:Nat} {f:BT→Option Value} {D:DataW Value} (h:∀ p,has D (.string p)=(f p).isSome∧∀ v,f p=some v→∀ z,D.atKey (.string p) z=.held v) (p:BT) (z:Value) :
  D.atKey (.string p) (.held z)=.held ((f p).getD z):=by
 obtain ⟨h1,h2⟩:=h p
 cases hf:f p with
 | none =>
  rw [hf] at h1
  exact atKey_of_not_has h1 _
 | some v=>exact h2 v hf _
theorem MapF.look {w:World} {b n:Nat} {f:BT→Option Value} (h:MapF w b n f) {t e:TypeId} (ht:Tryz.prog.underlying t=some (.map 9 e)) {z:Value} (hz:(zeroValue e).run Tryz.prog w=.ok z w) (s:ByteArray) (hs:s.size≤maxLen) :
  (Instr.lookup t (.map (some b)) (.string s) false).run Tryz.prog w=.ok ((f s.data.toList).getD z) w:=by
 obtain ⟨D,h1,h2,h3⟩:=h
 obtain ⟨v,ps,hrun,hv⟩:=h1.lookup keyS ht hz (zd:=.held z) (zp:=[]) rfl (keyOfS hs)
 rw [MapF.at (w:=w) (b:=b) (n:=n) h3] at hv
 cases hv
 exact hrun
theorem MapF.lookOk {w:World} {b n:Nat} {f:BT→Option Value} (h:MapF w b n f) {t e:TypeId} (ht:Tryz.prog.underlying t=some (.map 9 e)) {z:Value} (hz:(zeroValue e).run Tryz.prog w=.ok z w) (s:ByteArray) (hs:s.size≤maxLen) :
  (Instr.lookup t (.map (some b)) (.string s) true).run Tryz.prog w=.ok (.tuple #[(f s.data.toList).getD z,.bool (f s.data.toList).isSome]) w:=by
 obtain ⟨D,h1,h2,h3⟩:=h
 obtain ⟨v,ps,hrun,hv⟩:=h1.look_ok keyS ht hz (zd:=.held z) (zp:=[]) rfl (keyOfS hs)
 rw [MapF.at (w:=w) (b:=b) (n:=n) h3] at hv
 cases hv
 rw [← (h3 s.data.toList).1]
 exact hrun
def putF (f:BT→Option Value) (p:BT) (v:Value):BT→Option Value:=fun q=>if q=p then some v else f q
theorem isKey (p:BT):WideAt.IsKeyLit (.string p):=by first | trivial | exact ⟨_,rfl⟩ | (unfold WideAt.IsKeyLit;simp) | decide
theorem mapf_put {D:DataW Value} {f:BT→Option Value} (h2:IsMap D) (h3:∀ p,has D (.string p)=(f p).isSome∧∀ v,f p=some v→∀ z,D.atKey (.string p) z=.held v) (p:BT) (v:Value) :
  ∀ q,has (D.put (.string p) (.held v)) (.string q)=(putF f p v q).isSome∧∀ u,putF f p v q=some u→∀ z,(D.put (.string p) (.held v)).atKey (.string q) z=.held u:=fun q=>by
 unfold putF
 by_cases hq:q=p
 ·subst hq
  rw [if_pos rfl]
  exact ⟨by rw [has_put_same h2 (isKey _)];rfl,fun u hu z=>by cases hu;exact atKey_put_same h2 (isKey _) _ _⟩
 ·rw [if_neg hq]
  have hne:(Lit.string q)≠.string p:=fun e=>hq (by injection e)
  exact ⟨by rw [has_put_other hne];exact (h3 q).1,fun u hu z=>by rw [atKey_put_other hne];exact (h3 q).2 u hu z⟩
theorem turned_mapB {w w':World} {b:Nat} (h:w.mapTurned w' b):Turned (fun n=>n=b) w w':=turned_grown h.grown (fun _ hg=>(Option.some.inj hg).symm)
section
variable (w:World) {ops:Array Oper} {rs:List Oper} {o:Oper} {a:Act} {Q:Exit→Act→World→Prop}
theorem wpList_store_f (hg:o.guard=none) (m x v:Operand) (t e:TypeId) (hop:o.op=Op.mapUpdate t m x v) (ht:Tryz.prog.underlying t=some (.map 9 e)) (b n:Nat) (f:BT→Option Value) (hm:a.eval m=.map (some b)) (hM:MapF w b n f) (hn:n < maxLen)
  (s:ByteArray) (hs:s.size≤maxLen) (u:Value) (hx:a.eval x=.string s) (hv:a.eval v=u)
  (hK:∀ w',MapF w' b (n+1) (putF f s.data.toList u)→Turned (fun n=>n=b) w w'→wpList Tryz.prog ops Q rs (a.put o.dst undef) w') :
  wpList Tryz.prog ops Q (o :: rs) a w:=by
 obtain ⟨D,h1,h2,h3⟩:=hM
 refine wpList_mapUpdate_in w hg m x v t hop 9 e keyS ht rV b n D hm h1 hn (.string s) u _ hx hv (keyOfS hs) (.held u) [] rfl ?_
 intro w' k1 k2
 exact hK w' ⟨_,k1,h2.put _ _,mapf_put h2 h3 _ _⟩ (turned_mapB k2)
end
def oMap (b n:Nat) (f:BT→Option Value):Own where
 holds w X:=MapF w b n f∧∀ m,X m↔m=b
 kept h hT hd:=⟨h.1.kept (hT.block b h.1.lt (fun hz=>hd b ((h.2 b).2 rfl) hz)),h.2⟩
 lt h m hm:=by rw [(h.2 m).1 hm];exact h.1.lt
section
variable {w0 w w':World} {l:List Own} {b n:Nat} {f:BT→Option Value}
theorem In.mapMake (h:In w0 l w):In w0 (oMap w.heap.size 0 (fun _=>none) :: l) (w.alloc (.map #[] 0)) :=
 In.add (X:=fun m=>m=w.heap.size) h ((Below.refl _ w).alloc (Nat.le_refl _) _) ⟨MapF.made w,fun _=>Iff.rfl⟩ (fun m hm=>by omega)
theorem In.mapAt (h:In w0 l w) (hm:oMap b n f∈l):MapF w b n f:=by
 obtain ⟨X,h1,_⟩:=h.get hm
 exact h1.1
theorem In.mapPut {p:BT} {u:Value} (h:In w0 (oMap b n f :: l) w) (h1:MapF w' b (n+1) (putF f p u)) (h2:Turned (fun m=>m=b) w w'):In w0 (oMap b (n+1) (putF f p u) :: l) w' :=
 h.one fun X hX=>⟨X,⟨h1,hX.2⟩,h2.wider fun m hm=>(hX.2 m).2 hm,fun _=>.inl⟩
end
end Go.Proofs.YtmfjolmfbdbegaaGreatDoor

namespace Go.Proofs.YtmfjolmfbdbegaaGreatDoor
open Go.RowKit Go.Shelf
def oAll (l:List Own):Own where
 holds w X:=Os w l X∧∀ n,X n→n < w.heap.size
 kept h hT hd:=⟨h.1.kept hT hd,fun n hn=>Nat.lt_of_lt_of_le (h.2 n hn) hT.size⟩
 lt h:=h.2
section
variable {w0 w w':World} {l l1 l2:List Own}
theorem In.pack (h:In w0 (l1++l) w):In w0 (oAll l1 :: l) w:=by
 obtain ⟨Z,h1,h5,h6⟩:=h
 obtain ⟨X,Y,k1,k2,k3,k4⟩:=os_append.1 h1
 exact ⟨Z,⟨fun n=>X n∧n < w.heap.size,Y,⟨k1.tight,fun n hn=>hn.2⟩,k2,fun n hx hy=>k3 n hx.1 hy,fun n hn=>k4 n (hn.imp And.left id)⟩,h5,h6⟩
theorem In.unpack (h:In w0 (oAll l1 :: l) w):In w0 (l1++l) w:=by
 obtain ⟨Z,⟨X,Y,⟨h1,_⟩,h2,h3,h4⟩,h5,h6⟩:=h
 exact ⟨Z,os_append.2 ⟨X,Y,h1,h2,h3,h4⟩,h5,h6⟩
theorem In.join (h:In w0 l w) (h2:In w l2 w'):In w0 (l2++l) w':=by
 obtain ⟨Z,h1,h5,h6⟩:=h
 obtain ⟨Z2,k1,k5,k6⟩:=h2
 refine ⟨fun n=>Z2 n∨(Z n∧n < w.heap.size),os_append.2 ⟨Z2,_,k1,h1.tight.kept (turned_below k6) (fun _ _ h=>h),fun n hx hy=>?_,fun n hn=>hn⟩,fun n hn=>?_,h6.trans (k6.mono h6.size)⟩
 ·have:=k5 n hx
  have:=hy.2
  omega
 ·rcases hn with hn | hn
  ·have:=k5 n hn
   have:=h6.size
   omega
  ·exact h5 n hn.1
theorem In.front (h:In w0 (l1++l2) w):In w0 l1 w:=In.drop (l1:=l2) (h.perm List.perm_append_comm)
end
def oEnv (v:Value) (env:EnvT):Own where
 holds w X:=EnvS w X v env∧∀ n,X n→n < w.heap.size
 kept h hT hd:=⟨h.1.turned hT hd,fun n hn=>Nat.lt_of_lt_of_le (h.2 n hn) hT.size⟩
 lt h:=h.2
abbrev oTexts (v:Value) (l:List BT):Own:=oRow 9 1 encS v l
abbrev RV:=RuleM × Value × Value × Value × Value
abbrev encR (x:RV):List Value:=[x.2.1,.bool x.1.isOpen,.string (txt x.1.stem),x.2.2.1,x.2.2.2.1,x.2.2.2.2]
def ruleO (x:RV):Own:=oAll [oTexts x.2.1 x.1.targets,oTexts x.2.2.1 x.1.inputs,oTexts x.2.2.2.1 x.1.order,oTexts x.2.2.2.2 x.1.recipe]
abbrev KV:=BT × Value × List NV
def knownO (y:KV):Own:=oAll (oRow 79 10 encN y.2.1 y.2.2 :: y.2.2.map recO)
def knownF (l:List KV) (p:BT):Option Value:=(l.find? fun y=>decide (y.1=p)).map (·.2.1)
structure Ctx where
 fsV:Value
 fs:Files
 rb:Nat
 fb:Nat
 fn:Nat
 nb:Nat
def firstF (fs:Files) (p:BT):Option Value:=match fs.findIdx? fun x=>decide (x.1=p) with | some i=>some (.int .i64 ((i:Nat):Int)) | none=>none
structure SV where
 ev:Value
 rv:Value
 pv:Value
 wv:Value
 nn:Nat
 rules:List RV
 known:List KV
def rCells (c:Ctx) (s:SV) (done:Nat):List Value:=[c.fsV,.map (some c.fb),.map (some c.nb),.int .i64 done,s.ev,s.rv,s.pv,.string ⟨#[]⟩,s.wv]
def owns (c:Ctx) (s:SV) (st:St):List Own :=
 [oCells c.rb (rCells c s st.done) 86,oEnv s.ev st.env,oRow 41 6 encR s.rv s.rules,oAll (s.rules.map ruleO),oTexts s.pv st.phony,oTexts s.wv st.read,oMap c.fb c.fn (firstF c.fs),oMap c.nb s.nn (knownF s.known),oAll (s.known.map knownO)]
structure SvOk (c:Ctx) (s:SV) (st:St):Prop where
 rules:s.rules.map (·.1)=st.rules
 known:∀ y∈s.known,∃ t,fileOf c.fs y.1=some t∧saidE y.1 t=.ok (y.2.2.map (·.1))
 nn:s.nn≤st.read.length
 few:s.nn < maxLen
def FilesAt (w:World) (v:Value) (fs:Files):Prop :=
 ∃ o c,v=.slice o fs.length c∧∀ j x,fs[j]? = some x→∃ b f,o=some ⟨b,f,none⟩∧b < w.heap.size∧fs.length≤c∧w.cell? ⟨b,f+j*2,none⟩=some (.string (txt x.1))∧w.cell? ⟨b,f+j*2+1,none⟩=some (.string (txt x.2))
theorem FilesAt.below {w w':World} {v:Value} {fs:Files} (h:FilesAt w v fs) (hb:Below w.heap.size w w'):FilesAt w' v fs:=by
 obtain ⟨o,c,hv,hx⟩:=h
 refine ⟨o,c,hv,fun j x hj=>?_⟩
 obtain ⟨b,f,h1,h2,h3,h4,h5⟩:=hx j x hj
 exact ⟨b,f,h1,Nat.lt_of_lt_of_le h2 hb.size,h3,(hb.cell (p:=⟨b,f+j*2,none⟩) h2).trans h4,(hb.cell (p:=⟨b,f+j*2+1,none⟩) h2).trans h5⟩
def RS (w0:World) (c:Ctx) (L:List Own) (kn:List KV) (st:St) (w:World):Prop:=∃ s,In w0 (owns c s st++L) w∧SvOk c s st∧∀ y∈kn,y∈s.known
section
variable {w0 w w':World} {c:Ctx} {L:List Own} {kn:List KV} {st:St}
theorem RS.below (h:RS w0 c L kn st w) (hb:Below w.heap.size w w'):RS w0 c L kn st w':=let ⟨s,h1,h2⟩:=h;⟨s,h1.below hb,h2⟩
theorem RS.rest (h:RS w0 c L kn st w):In w0 L w:=let ⟨_,h1,_⟩:=h;h1.drop
theorem RS.back (h:RS w0 c L kn st w):Below w0.heap.size w0 w:=let ⟨_,h1,_⟩:=h;h1.back
theorem RS.more {l:List Own} (h:RS w0 c L kn st w) (h2:In w l w'):RS w0 c (l++L) kn st w':=by
 obtain ⟨s,h1,h3⟩:=h
 refine ⟨s,(In.join h1 h2).perm ?_,h3⟩
 rw [← List.append_assoc,← List.append_assoc]
 exact List.perm_append_comm.append_right _
theorem RS.less {l:List Own} (h:RS w0 c (l++L) kn st w):RS w0 c L kn st w:=by
 obtain ⟨s,h1,h3⟩:=h
 refine ⟨s,In.drop (l1:=l) (h1.perm ?_),h3⟩
 rw [← List.append_assoc,← List.append_assoc]
 exact List.perm_append_comm.append_right _
theorem In.rcells {s:SV} (h:In w0 (owns c s st++L) w):w.heap[c.rb]? = some (.cells (rCells c s st.done).toArray 86 (0,0)):=h.cells (List.mem_append_left _ List.mem_cons_self)
theorem nine_cells {b:Nat} {a0 a1 a2 a3 a4 a5 a6 a7 a8:Value} {T:TypeId} (h:w.heap[b]? = some (.cells #[a0,a1,a2,a3,a4,a5,a6,a7,a8] T (0,0))) :
  w.cell? ⟨b,0,none⟩=some a0∧w.cell? ⟨b,1,none⟩=some a1∧w.cell? ⟨b,2,none⟩=some a2∧w.cell? ⟨b,3,none⟩=some a3∧w.cell? ⟨b,4,none⟩=some a4∧w.cell? ⟨b,5,none⟩=some a5∧w.cell? ⟨b,6,none⟩=some a6∧w.cell? ⟨b,7,none⟩=some a7∧w.cell? ⟨b,8,none⟩=some a8∧∀ j,w.frozen? ⟨b,j,none⟩=false:=by
 refine ⟨?_,?_,?_,?_,?_,?_,?_,?_,?_,Lib.frozen_of_heap h⟩ <;> (rw [Lib.cell_of_heap h];rfl)
end
def panV (f:Flt):Value:=.iface 60 (.agg #[.int .i64 f.1,.string (txt f.2.1),.int .i64 f.2.2])
def panE (f:Flt):Ending:=.panicked [{ v:=panV f,recovered:=false }]
end Go.Proofs.YtmfjolmfbdbegaaGreatDoor

namespace Go.Proofs.YtmfjolmfbdbegaaGreatDoor
open Go.RowKit Go.Shelf
attribute [local go_sem] Oper.semAt_some
theorem pan_is (c:Int) (p:BT) (no:Int):Ending.panicked [{ v:=.iface 60 (.agg #[.int .i64 c,.string (txt p),.int .i64 no]),recovered:=false }]=panE (c,p,no):=rfl
abbrev atV (p:BT) (no:Int):Value:=.agg #[.string (txt p),.int .i64 no]
set_option maxHeartbeats 1000000 in
theorem fail_any (c:Int) (p:BT) (no:Int) (w:World):Calls Tryz.prog 33 #[.int .i64 c,atV p no] w fun e w'=>e=panE (c,p,no)∧Below w.heap.size w w':=by
 have HB:Hid (Below w.heap.size w (w.alloc (.cells #[.string (txt p),.int .i64 no] 33))):=(Below.refl _ w).alloc (Nat.le_refl _) _
 go_enter Tryz.func33,Tryz.ntmps33
 go_wp2
 exact ⟨rfl,pan_is c p no,HB.out⟩
set_option maxHeartbeats 1000000 in
theorem check_any (c:Int) (p:BT) (no:Int) (w:World):Calls Tryz.prog 58 #[.int .i64 c,atV p no] w fun e w'=>Below w.heap.size w w'∧((c=0∧e=.returned (.tuple #[]))∨(c≠0∧e=panE (c,p,no))):=by
 have HB:Hid (Below w.heap.size w (w.alloc (.cells #[.string (txt p),.int .i64 no] 33))):=(Below.refl _ w).alloc (Nat.le_refl _) _
 obtain ⟨p0,p1,_⟩:=two_cells (World.alloc_heap_new w (.cells #[.string (txt p),.int .i64 no] 33))
 by_cases hc:c=0
 ·have e1:(c != 0)=false:=by rw [hc];rfl
  go_enter Tryz.func58,Tryz.ntmps58
  go_wp2_with fail
  first | go_end0 | skip
  exact ⟨HB.out,.inl ⟨hc,rfl⟩⟩
 ·have e1:(c != 0)=true:=by rw [bne_iff_ne];exact hc
  go_enter Tryz.func58,Tryz.ntmps58
  go_wp2_with fail
  refine (fail_any c p no _).mono ?_
  rintro e w' ⟨rfl,hb⟩
  unfold panE
  go_wp2_with fail
  exact ⟨rfl,HB.out.trans (hb.mono HB.out.size),.inr ⟨hc,rfl⟩⟩
theorem zeroI (w:World):(zeroValue 3).run Tryz.prog w=.ok (.int .i64 0) w:=by kernel_rfl
set_option maxHeartbeats 1000000 in
theorem there12_any (rb fb n:Nat) (f:BT→Option Value) (p:BT) (w:World) (hc:w.cell? ⟨rb,1,none⟩=some (.map (some fb))) (hM:MapF w fb n f) (hp:p.length≤1000000) :
  Calls Tryz.prog 31 #[.pointer (some ⟨rb,0,none⟩),.string (txt p)] w fun e w'=>e=.returned (.bool (f p).isSome)∧w=w':=by
 have hlook:=hM.lookOk (t := 83) Tryz.underlying83 (zeroI w) (txt p) (by rw [txt_size];unfold maxLen;omega)
 rw [txt_data] at hlook
 generalize (f p).getD (.int .i64 0)=u at hlook
 generalize (f p).isSome=b at hlook ⊢
 clear hM
 go_enter Tryz.func31,Tryz.ntmps31
 go_wp2_with fail
 go_ret
 exact ⟨rfl,rfl⟩
theorem firstF_is (fs:Files) (p:BT):(firstF fs p).isSome=(fileOf fs p).isSome:=by
 unfold firstF fileOf
 have h1:(fs.findIdx? fun x=>decide (x.1=p)).isSome=(fs.find? fun x=>decide (x.1=p)).isSome:=by rw [List.findIdx?_isSome,Bool.eq_iff_iff,List.find?_isSome,List.any_eq_true]
 rw [Option.isSome_map,← h1]
 cases fs.findIdx? fun x=>decide (x.1=p) <;> rfl
structure RE (w:World) (rb:Nat) (env:EnvT):Prop where
 std:Std w
 cell:∃ o m c,w.cell? ⟨rb,4,none⟩=some (.slice o m c)∧EnvS w (fun _=>True) (.slice o m c) env
 ok:EnvOk env 21
 lt:rb < w.heap.size
theorem RE.below {w w':World} {rb:Nat} {env:EnvT} (h:RE w rb env) (hb:Below w.heap.size w w'):RE w' rb env:=by
 obtain ⟨o,m,c,h1,h2⟩:=h.cell
 exact ⟨h.std.below hb,⟨o,m,c,(hb.cell (p:=⟨rb,4,none⟩) h.lt).trans h1,h2.below hb⟩,h.ok,Nat.lt_of_lt_of_le h.lt hb.size⟩
def ExPost {α:Type} (r:Ev α) (val:α→Value) (w:World) (e:Ending) (w':World):Prop :=
 Below w.heap.size w w'∧((∃ f,r=.error f∧e=panE f)∨∃ a,r=.ok a∧e=.returned (val a))
set_option maxHeartbeats 2000000 in
theorem rexpand12_any (rb:Nat) (env:EnvT) (s p:BT) (no:Int) (w:World) (h:RE w rb env) (hs:s.length≤1000000) :
  Calls Tryz.prog 76 #[.pointer (some ⟨rb,0,none⟩),.string (txt s),atV p no] w (ExPost (exE env p no s) (fun t=>.string (txt t)) w):=by
 have hb0:Below w.heap.size w (w.alloc (.cells #[.string (txt p),.int .i64 no] 33)):=(Below.refl _ w).alloc (Nat.le_refl _) _
 have h0:=h.below hb0
 obtain ⟨o,m,c,hc,hE⟩:=h0.cell
 have HX:=Lib.hid (expand_any _ o m c env s _ h0.std hE h0.ok.less (by omega))
 have HB0:=Lib.hid hb0
 have H1:=Lib.hid (World.alloc_heap_new w (.cells #[.string (txt p),.int .i64 no] 33))
 obtain ⟨P,hP⟩:∃ P,P=expandT env s:=⟨_,rfl⟩
 have HV:Hid (exE env p no s=if P.2=0 then .ok P.1 else .error (P.2,p,no)):=by rw [hP];exact rfl
 unfold ExpandPost at HX
 rw [← hP] at HX
 clear hP h0 hE hb0 h
 go_enter Tryz.func76,Tryz.ntmps76
 go_wp2_with fail
 refine HX.out.mono ?_
 rintro e w1 ⟨rfl,hb1⟩
 have HB1:Hid (Below w.heap.size w w1):=HB0.out.trans (hb1.mono HB0.out.size)
 obtain ⟨p0,p1,_⟩:=two_cells ((hb1.block _ (by simp)).trans H1.out)
 have HC:=Lib.hid (check_any P.2 p no w1)
 clear hb1 HX hc
 go_wp2_with fail
 refine HC.out.mono ?_
 rintro e w2 ⟨hb2,⟨hz,rfl⟩ | ⟨hz,rfl⟩⟩
 ·have HB2:Hid (Below w.heap.size w w2):=HB1.out.trans (hb2.mono HB1.out.size)
  have hv:=HV.out
  rw [if_pos hz] at hv
  have HV2:=Lib.hid hv
  clear hb2 hv hz HV HC
  go_wp2_with fail
  go_ret
  exact ⟨HB2.out,.inr ⟨P.1,HV2.out,rfl⟩⟩
 ·have HB2:Hid (Below w.heap.size w w2):=HB1.out.trans (hb2.mono HB1.out.size)
  have hv:=HV.out
  rw [if_neg hz] at hv
  have HV2:=Lib.hid hv
  clear hb2 hv hz HV HC
  unfold panE
  go_wp2_with fail
  exact ⟨rfl,HB2.out,.inl ⟨_,HV2.out,rfl⟩⟩
set_option maxHeartbeats 2000000 in
theorem hasText_any (rb:Nat) (env:EnvT) (s:BT) (w:World) (h:RE w rb env) :
  Calls Tryz.prog 85 #[.pointer (some ⟨rb,0,none⟩),.string (txt s)] w fun e w'=>e=.returned (.bool (hasB env s))∧Below w.heap.size w w':=by
 obtain ⟨o,m,c,hc,hE⟩:=h.cell
 have hG:=get_any _ (.slice o m c) env (txt s) w hE (by have:=h.ok.2.1;omega)
 rw [txt_data] at hG
 unfold GetPost aggV at hG
 have HG:=Lib.hid hG
 obtain ⟨y,hy⟩:∃ y,y=(getT env s).getD ([],[],false):=⟨_,rfl⟩
 have HV:Hid ((!(txt y.2.1).toList.isEmpty)=hasB env s):=by
  show _=_
  rw [hy,Lib.toList_data,txt_data]
  unfold hasB textOf
  cases getT env s with
  | none=>rfl
  | some z=>show (!z.2.1.isEmpty)=decide (z.2.1≠[]);cases z.2.1 <;> rfl
 rw [← hy] at HG
 clear hy hG hE h
 go_enter Tryz.func85,Tryz.ntmps85
 go_wp2_with fail
 refine HG.out.mono ?_
 rintro e w1 ⟨rfl,hb1⟩
 have HB:Hid (Below w.heap.size w (w1.alloc (.cells #[.string (txt y.1),.string (txt y.2.1),.bool y.2.2] 43))):=hb1.alloc hb1.size _
 clear hb1 HG
 go_wp2_with fail
 go_ret
 exact ⟨by rw [← HV.out];rfl,HB.out⟩
end Go.Proofs.YtmfjolmfbdbegaaGreatDoor

namespace Go.Proofs.YtmfjolmfbdbegaaGreatDoor
open Go.RowKit Go.Shelf Go.Maps
attribute [local go_sem] Oper.semAt_some
def setF (k:List BT):BT→Option Value:=fun p=>if p∈k then some (.agg #[]) else none
theorem setF_put (k:List BT) (p:BT):putF (setF k) p (.agg #[])=setF (p :: k):=by
 funext q
 unfold putF setF
 by_cases h:q=p
 ·subst h;simp
 ·rw [if_neg h]
  by_cases hk:q∈k
  ·rw [if_pos hk,if_pos (List.mem_cons_of_mem _ hk)]
  ·rw [if_neg hk,if_neg (by simp [h,hk])]
theorem setF_congr {k k':List BT} (h:∀ x,x∈k↔x∈k'):setF k=setF k':=by
 funext q
 unfold setF
 by_cases hk:q∈k
 ·rw [if_pos hk,if_pos ((h q).1 hk)]
 ·rw [if_neg hk,if_neg (fun h'=>hk ((h q).2 h'))]
theorem once_in {k:List BT} {w:BT} (r:List BT) (h:w∈k):onceL k (w :: r)=onceL k r:=by
 conv=>lhs;unfold onceL
 rw [if_pos h]
theorem once_out {k:List BT} {w:BT} (r:List BT) (h:w∉k):onceL k (w :: r)=w :: onceL (w :: k) r:=by
 conv=>lhs;unfold onceL
 rw [if_neg h]
structure OnceAt (k l:List BT) (i:Nat) (acc K:List BT):Prop where
 told:onceL k l=acc++onceL K (l.drop i)
 known:∀ x,x∈K↔x∈k∨x∈l.take i
 few:acc.length≤i
theorem OnceAt.start (k l:List BT):OnceAt k l 0 [] k:=⟨rfl,fun x=>by simp,Nat.le_refl _⟩
theorem OnceAt.skip {k l:List BT} {i:Nat} {acc K:List BT} {w:BT} (h:OnceAt k l i acc K) (hw:l[i]? = some w) (hk:w∈K):OnceAt k l (i+1) acc K:=by
 obtain ⟨hi,he⟩:=List.getElem?_eq_some_iff.1 hw
 refine ⟨?_,fun x=>?_,by have:=h.few;omega⟩
 ·rw [h.told,List.drop_eq_getElem_cons hi,he,once_in _ hk]
 ·rw [h.known,List.take_succ_eq_append_getElem hi,he,List.mem_append,List.mem_singleton]
  constructor
  ·rintro (a | a)
   ·exact .inl a
   ·exact .inr (.inl a)
  ·rintro (a | a | a)
   ·exact .inl a
   ·exact .inr a
   ·rw [a];exact (h.known w).1 hk
theorem OnceAt.next {k l:List BT} {i:Nat} {acc K:List BT} {w:BT} (h:OnceAt k l i acc K) (hw:l[i]? = some w) (hk:w∉K):OnceAt k l (i+1) (acc++[w]) (w :: K):=by
 obtain ⟨hi,he⟩:=List.getElem?_eq_some_iff.1 hw
 refine ⟨?_,fun x=>?_,by have:=h.few;simp only [List.length_append,List.length_cons,List.length_nil];omega⟩
 ·rw [h.told,List.drop_eq_getElem_cons hi,he,once_out _ hk];simp
 ·rw [List.mem_cons,h.known,List.take_succ_eq_append_getElem hi,he,List.mem_append,List.mem_singleton]
  constructor
  ·rintro (a | a | a)
   ·exact .inr (.inr a)
   ·exact .inl a
   ·exact .inr (.inl a)
  ·rintro (a | a | a)
   ·exact .inr (.inl a)
   ·exact .inr (.inr a)
   ·exact .inl a
theorem OnceAt.done {k l:List BT} {i:Nat} {acc K:List BT} (h:OnceAt k l i acc K) (hi:l.length≤i):onceL k l=acc∧∀ x,x∈K↔x∈l++k:=by
 refine ⟨by rw [h.told,List.drop_eq_nil_of_le hi];show acc++[]=acc;rw [List.append_nil],fun x=>?_⟩
 rw [h.known,List.take_of_length_le hi,List.mem_append]
 exact Or.comm
theorem zeroU (w:World):(zeroValue 163).run Tryz.prog w=.ok (.agg #[]) w:=by kernel_rfl
theorem In.textPush {w0 w:World} {L:List Own} {v:Value} {l:List BT} (h:In w0 (oTexts v l :: L) w) (x:BT) (hl:l.length < 1073741824) (ty:TypeId) :
  ∃ o c w',(Builtin.append_ #[28,28] ty #[v,.slice (some ⟨w.heap.size,0,none⟩) 1 1]).run Tryz.prog (w.alloc (.cells #[.string (txt x)] 9))=.ok (.slice o (l.length+1) c) w'∧In w0 (oTexts (.slice o (l.length+1) c) (l++[x]) :: L) w' :=
 In.rowPush (t := 28) (enc:=encS) (v:=v) (l:=l) rowStrings.wide h x rfl (by simp [Value.oneCell']) hl ty
theorem In.textAt {w0 w:World} {L:List Own} {o:Option Addr} {n c:Nat} {l:List BT} (h:In w0 L w) (hm:oTexts (.slice o n c) l∈L) {j:Nat} {x:BT} (hj:l[j]? = some x) :
  ∃ g,o=some ⟨g,0,none⟩∧n≤c∧w.cell? ⟨g,j,none⟩=some (.string (txt x)):=by
 obtain ⟨o',c',hv,h1,h2⟩:=h.rowShape (E := 9) (k:=1) (enc:=encS) (v:=.slice o n c) (l:=l) hm (fun _=>rfl)
 cases hv
 obtain ⟨g,hg,_,_,hc⟩:=h2 j x hj
 refine ⟨g,hg,h1,?_⟩
 have:=hc 0 (by omega)
 rw [Nat.mul_one,Nat.add_zero] at this
 exact this
theorem In.textLen {w0 w:World} {L:List Own} {v:Value} {l:List BT} (h:In w0 L w) (hm:oTexts v l∈L):∃ o c,v=.slice o l.length c:=by
 obtain ⟨o,c,hv,_⟩:=h.rowShape (E := 9) (k:=1) (enc:=encS) (v:=v) (l:=l) hm (fun _=>rfl)
 exact ⟨o,c,hv⟩
def OncePost (w0:World) (L:List Own) (mb n:Nat) (k l:List BT) (e:Ending) (w':World):Prop :=
 ∃ o c n',e=.returned (.slice o (onceL k l).length c)∧n'≤n+l.length∧In w0 (oTexts (.slice o (onceL k l).length c) (onceL k l) :: oMap mb n' (setF (l++k)) :: L) w'
set_option maxRecDepth 100000 in
set_option maxHeartbeats 4000000 in
theorem ronce_any (w0:World) (L:List Own) (mb n:Nat) (k l:List BT) (v:Value) (w:World) (h:In w0 (oMap mb n (setF k) :: L) w) (hm:oTexts v l∈L) (hn:n+l.length≤1000000) (hs:∀ x∈l,x.length≤1000000) :
  Calls Tryz.prog 77 #[v,.map (some mb)] w (OncePost w0 L mb n k l):=by
 obtain ⟨o,c,rfl⟩:=h.textLen (List.mem_cons_of_mem _ hm)
 obtain ⟨m,hml⟩:∃ m,m=l.length:=⟨_,rfl⟩
 rw [← hml] at hm hn ⊢
 have HM:=Lib.hid hm
 have HML:=Lib.hid hml
 have HSz:=Lib.hid hs
 have H0:Hid (In w0 (oTexts (.slice none 0 0) [] :: oMap mb n (setF k) :: L) w):=h.rowNil _ _ _
 clear h hm hml hs
 go_enter Tryz.func77,Tryz.ntmps77
 go_wp2_with fail
 go_loopw [5,12] (fun vv iv wr=>∃ (i n' z:Nat) (q:Option Addr) (cz:Nat) (acc K:List BT),i≤m∧iv=.int .i64 i∧vv=.slice q z cz∧z=acc.length∧n'≤n+i∧Hid (OnceAt k l i acc K)∧Hid (In w0 (oTexts (.slice q z cz) acc :: oMap mb n' (setF K) :: L) wr)) (fun _ iv _=>m - (intOf iv).toNat)
 case atStart=>exact ⟨0,n,0,none,0,[],k,Nat.zero_le _,rfl,rfl,rfl,Nat.le_refl _,OnceAt.start k l,H0.out⟩
 case round =>
  obtain ⟨i,n',z,q,cz,acc,K,hi,rfl,rfl,hz,hn',HO,HI⟩:=hrel
  clear H0
  by_cases hlt:i < m
  ·obtain ⟨x,hx⟩:∃ x,l[i]? = some x:=⟨_,List.getElem?_eq_getElem (by rw [← HML.out];exact hlt)⟩
   obtain ⟨g,rfl,hnc,hcell⟩:=HI.out.textAt (List.mem_cons_of_mem _ (List.mem_cons_of_mem _ HM.out)) hx
   have hxl:x.length≤1000000:=HSz.out x (List.mem_of_getElem? hx)
   have hMap:=HI.out.mapAt (b:=mb) (n:=n') (f:=setF K) (by simp)
   have hlook:=hMap.lookOk (t := 128) Tryz.underlying128 (zeroU wr) (txt x) (by rw [txt_size];unfold maxLen;omega)
   rw [txt_data] at hlook
   have hil:(i:Int) < (m:Int):=by omega
   have HB9:Hid (In w0 (oTexts (.slice q z cz) acc :: oMap mb n' (setF K) :: L) (wr.alloc (.cells #[] 163))):=HI.out.below ((Below.refl _ wr).alloc (Nat.le_refl _) _)
   have hnt:(w0.heap.size:Nat)≤w0.heap.size:=Nat.le_refl _
   by_cases hk:x∈K
   ·have HN:=Lib.hid (HO.out.skip hx hk)
    have e1:(setF K x).isSome=true:=by unfold setF;rw [if_pos hk];rfl
    have e2:(setF K x).getD (.agg #[])=.agg #[]:=by unfold setF;rw [if_pos hk];rfl
    rw [e1,e2] at hlook
    clear HO HI hMap hx hk e1 e2 hnt
    go_wp2_with fail
    go_roundw
    case rel=>exact ⟨i+1,n',z,q,cz,acc,K,by omega,by go_num,rfl,hz,by omega,HN,HB9⟩
    case measure=>simp [intOf];omega
   ·have HN:=Lib.hid (HO.out.next hx hk)
    have hfew:=HO.out.few
    have e1:(setF K x).isSome=false:=by unfold setF;rw [if_neg hk];rfl
    have e2:(setF K x).getD (.agg #[])=.agg #[]:=by unfold setF;rw [if_neg hk];rfl
    rw [e1,e2] at hlook
    have HMap9:Hid (MapF (wr.alloc (.cells #[] 163)) mb n' (setF K)):=HB9.out.mapAt (by simp)
    subst hz
    clear HO HI hMap hx hk e1 e2 hnt
    go_wp2_with (first
     | (at_mapUpdate;refine wpList_store_f _ rfl _ _ _ 128 163 rfl Tryz.underlying128 mb n' (setF K) rfl HMap9.out (by unfold maxLen;omega) (txt x) (by rw [txt_size];unfold maxLen;omega) (.agg #[]) rfl rfl ?_;intro w2 hM2 hT2;rw [txt_data] at hM2;have hI2:=(HB9.out.swap.mapPut hM2 hT2).swap;rw [setF_put] at hI2;obtain ⟨q3,c3,w3,hrun,hI3⟩:=hI2.textPush x (by omega) 28;have HI3:=Lib.hid hI3;clear hI2 hI3 hM2 hT2 HB9 HMap9;go_frame)
     | (at_builtin;refine wpList_append_eq rfl _ _ 28 rfl _ _ _ w3 rfl rfl hrun ?_))
    go_roundw
    case rel=>exact ⟨i+1,n'+1,acc.length+1,q3,c3,acc++[x],x :: K,by omega,by go_num,rfl,by simp,by omega,HN,HI3⟩
    case measure=>simp [intOf];omega
  ·obtain ⟨d1,d2⟩:=HO.out.done (by rw [← HML.out];omega)
   subst hz
   have HP:Hid (OncePost w0 L mb n k l (.returned (.slice q acc.length cz)) wr):=⟨q,cz,n',by rw [d1],by rw [← HML.out];omega,by rw [d1,← setF_congr d2];exact HI.out⟩
   clear HO HI d1 d2
   go_wp2_with fail
   go_ret
   exact HP.out
set_option maxRecDepth 100000 in
set_option maxHeartbeats 4000000 in
theorem filled_any (w0:World) (L:List Own) (l:List BT) (st:BT) (v:Value) (w:World) (h:In w0 L w) (hm:oTexts v l∈L) (hn:l.length≤1000000) (hs:∀ x∈l,x.length≤1000000) (hst:st.length≤1000000) :
  Calls Tryz.prog 120 #[v,.string (txt st)] w fun e w'=>∃ o c,e=.returned (.slice o l.length c)∧In w0 (oTexts (.slice o l.length c) (l.map fun x=>fillL x st) :: L) w':=by
 obtain ⟨o,c,rfl⟩:=h.textLen hm
 obtain ⟨m,hml⟩:∃ m,m=l.length:=⟨_,rfl⟩
 rw [← hml] at hm hn ⊢
 have HM:=Lib.hid hm
 have HML:=Lib.hid hml
 have HSz:=Lib.hid hs
 have H0:Hid (In w0 (oTexts (.slice none 0 0) [] :: L) w):=h.rowNil _ _ _
 clear h hm hml hs
 go_enter Tryz.func120,Tryz.ntmps120
 go_wp2_with fail
 go_loopw [5,10] (fun vv iv wr=>∃ (i:Nat) (q:Option Addr) (cz:Nat),i≤m∧iv=.int .i64 i∧vv=.slice q i cz∧Hid (In w0 (oTexts (.slice q i cz) ((l.take i).map fun x=>fillL x st) :: L) wr)) (fun _ iv _=>m - (intOf iv).toNat)
 case atStart=>exact ⟨0,none,0,Nat.zero_le _,rfl,rfl,H0.out⟩
 case round =>
  obtain ⟨i,q,cz,hi,rfl,rfl,HI⟩:=hrel
  clear H0
  by_cases hlt:i < m
  ·obtain ⟨x,hx⟩:∃ x,l[i]? = some x:=⟨_,List.getElem?_eq_getElem (by rw [← HML.out];exact hlt)⟩
   obtain ⟨g,rfl,hnc,hcell⟩:=HI.out.textAt (List.mem_cons_of_mem _ HM.out) hx
   have hxl:x.length≤1000000:=HSz.out x (List.mem_of_getElem? hx)
   have hF:=fill_any (txt x) (txt st) (by rw [txt_size];omega) (by rw [txt_size];omega) wr
   rw [txt_data,txt_data] at hF
   have HF:=Lib.hid hF
   have HT:Hid (l.take (i+1)=l.take i++[x]):=by
    obtain ⟨h1,h2⟩:=List.getElem?_eq_some_iff.1 hx
    show _=_
    rw [List.take_succ_eq_append_getElem h1,h2]
   have hil:(i:Int) < (m:Int):=by omega
   clear hF hx
   go_wp2_with fail
   refine HF.out.mono ?_
   rintro e w2 ⟨rfl,⟨nd,rfl⟩⟩
   have hI2:=HI.out.below (drewN_below _ wr nd)
   have hlen:((l.take i).map fun x=>fillL x st).length=i:=by rw [List.length_map,List.length_take,← HML.out];omega
   obtain ⟨q3,c3,w3,hrun,hI3⟩:=hI2.textPush (fillL x st) (by rw [hlen];omega) 28
   rw [hlen] at hrun hI3
   have e4:((l.take i).map fun x=>fillL x st)++[fillL x st]=(l.take (i+1)).map fun x=>fillL x st:=by rw [HT.out];simp
   rw [e4] at hI3
   have HI3:=Lib.hid hI3
   clear hI2 hI3 HI hlen e4 HF HT
   go_wp2_with (at_builtin;refine wpList_append_eq rfl _ _ 28 rfl _ _ _ w3 rfl rfl hrun ?_)
   go_roundw
   case rel=>exact ⟨i+1,q3,c3,by omega,by go_num,rfl,HI3⟩
   case measure=>simp [intOf];omega
  ·have him:i=m:=by omega
   subst him
   have hI:=HI.out
   rw [List.take_of_length_le (by rw [← HML.out];exact Nat.le_refl _)] at hI
   have HP:=Lib.hid hI
   clear HI hI
   go_wp2_with fail
   go_ret
   exact ⟨q,cz,rfl,HP.out⟩
end Go.Proofs.YtmfjolmfbdbegaaGreatDoor
