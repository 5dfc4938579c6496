/-
  What is true of what makefiles say, without the document's answer: each rule has a target, what it has are paths; errors have a line. No condition.
  An error has a number; no program, no world. No condition.
-/
import Derived.Test.YtmfjolmfbdbegaaGreatDoorY1
namespace Go.Proofs.YtmfjolmfbdbegaaGreatDoor
section
variable {I:St→Prop} {fs:Files} {rd:BT→St→Ev St}
end
section
variable {α β:Type}
end
section
variable {env:EnvT} {p:BT} {no:Int}
end
end Go.Proofs.YtmfjolmfbdbegaaGreatDoor

namespace Go.Proofs.YtmfjolmfbdbegaaGreatDoor
def Nz12 {α:Type} (r:Ev α):Prop:=∀ f,r=.error f→f.1≠0
section
variable {α β:Type}
theorem Nz12.bind {x:Ev α} {f:α→Ev β} (h:Nz12 x) (hf:∀ a,Nz12 (f a)):Nz12 (Eb x f):=by
 intro e he
 cases x with
 | error g=>exact h e (by cases he;rfl)
 | ok a=>exact hf a e he
theorem Nz12.ok (a:α):Nz12 (.ok a:Ev α):=fun f h=>by cases h
theorem Nz12.err {f:Flt} (h:f.1≠0):Nz12 (.error f:Ev α):=fun g hg=>by cases hg;exact h
theorem Nz12.fold {f:α→β→Ev β} (h:∀ a b,Nz12 (f a b)):∀ (l:List α) (b:β),Nz12 (foldE f l b)
 | [],b=>Nz12.ok b
 | a :: r,b=>(h a b).bind (Nz12.fold h r)
end
section
variable {env:EnvT} {p:BT} {no:Int}
theorem ex_nz (s:BT):Nz12 (exE env p no s):=by
 unfold exE;split
 ·exact Nz12.ok _
 ·rename_i h;exact Nz12.err h
theorem words_nz (s:BT):Nz12 (wordsE env p no s):=by
 unfold wordsE
 refine (ex_nz s).bind fun t=>?_
 split
 ·exact Nz12.err (by simp)
 ·exact Nz12.ok _
theorem add_nz (x:RuleM) (st:St):Nz12 (addE p no x st):=by
 unfold addE
 split
 ·exact Nz12.err (by simp)
 split <;> exact Nz12.ok _
theorem pat_nz (pat:BT) (is os rc:List BT) (t:BT) (st:St):Nz12 (byPatE p no pat is os rc t st):=by
 unfold byPatE
 split
 ·exact Nz12.err (by simp)
 ·exact add_nz _ _
theorem rule_nz (n:Nd) (st:St):Nz12 (ruleE p n st):=by
 unfold ruleE
 refine (words_nz _).bind fun ts=>(words_nz _).bind fun is=>(words_nz _).bind fun os=>?_
 split
 ·exact Nz12.ok _
 split
 ·exact (ex_nz _).bind fun q=>Nz12.fold (fun a b=>pat_nz _ _ _ _ a b) _ _
 split
 ·exact Nz12.err (by simp)
 ·exact add_nz _ _
theorem one_nz (n:Nd):Nz12 (oneE env p n):=(ex_nz _).bind fun a=>(ex_nz _).bind fun b=>Nz12.ok _
theorem holds_nz (n:Nd):Nz12 (holdsE env p n):=by
 unfold holdsE
 split
 ·exact one_nz n
 split
 ·exact (one_nz n).bind fun b=>Nz12.ok _
 split <;> exact Nz12.ok _
theorem assignT_nz {n op s:BT} {e:Int} (h:assignT env n op s=.error e):e≠0:=by
 unfold assignT at h
 split at h
 ·cases h;decide
 split at h
 ·split at h
  ·cases h
  ·rename_i h0;cases h;exact h0
 split at h
 ·cases h
 split at h
 ·split at h
  ·cases h;decide
  ·split at h
   ·cases h
   ·rename_i h0;cases h;exact h0
 split at h
 ·split at h
  ·cases h;decide
  ·cases h
 ·cases h;decide
theorem assign_nz (n:Nd) (st:St):Nz12 (assignE p n st):=by
 unfold assignE
 split
 ·rename_i e he;exact Nz12.err (assignT_nz he)
 ·exact Nz12.ok _
theorem step_nz {fs:Files} {rd:BT→St→Ev St} (hr:∀ w st,Nz12 (rd w st)) (n:Nd) (st:St):Nz12 (stepE fs rd p n st):=by
 unfold stepE
 split
 ·exact (assign_nz n st).bind fun s=>Nz12.ok _
 split
 ·refine Nz12.bind ?_ fun s=>Nz12.ok _
  unfold inclE
  refine (ex_nz _).bind fun t=>Nz12.fold (fun a b=>?_) _ _
  unfold inclOne
  split
  ·exact hr _ _
  ·exact Nz12.ok _
 split
 ·exact (rule_nz n st).bind fun s=>Nz12.ok _
 split
 ·exact (holds_nz n).bind fun s=>Nz12.ok _
 ·exact Nz12.ok _
theorem doF_nz {fs:Files} {rd:BT→St→Ev St} (hr:∀ w st,Nz12 (rd w st)):∀ (f:Nat) (l:List Nd) (st:St),l.length < f→Nz12 (doF fs rd p f l st)
 | 0,_,_,h=>absurd h (Nat.not_lt_zero _)
 | f+1,[],st,_=>by unfold doF;exact Nz12.ok _
 | f+1,n :: r,st,h=>by
  simp only [List.length_cons] at h
  have hb:=behind_len r 0
  unfold doF
  split
  ·exact doF_nz hr f r st (by omega)
  split
  ·exact doF_nz hr f _ st (by omega)
  split
  ·exact Nz12.err (by simp)
  ·refine (step_nz hr n _).bind fun x=>?_
   refine doF_nz hr f _ _ ?_
   split <;> omega
theorem said_nz (t:BT):Nz12 (saidE p t):=by
 unfold saidE
 split
 ·rename_i h;exact Nz12.err h
 split
 ·rename_i h;exact Nz12.err h
 ·exact Nz12.ok _
theorem read_nz (fs:Files):∀ (k:Nat) (p:BT) (st:St),Nz12 (readE fs k p st)
 | 0,p,st=>by unfold readE;split <;> exact Nz12.err (by simp)
 | k+1,p,st=>by
  unfold readE
  split
  ·exact Nz12.err (by simp)
  split
  ·exact Nz12.err (by simp)
  ·exact (said_nz _).bind fun l=>doF_nz (read_nz fs k) _ l _ (Nat.lt_succ_self _)
end
theorem run_nz {fs:Files} {p:BT} {f:Flt} (h:runE fs p=.error f):f.1≠0:=read_nz fs 20 p St.start f h
end Go.Proofs.YtmfjolmfbdbegaaGreatDoor
