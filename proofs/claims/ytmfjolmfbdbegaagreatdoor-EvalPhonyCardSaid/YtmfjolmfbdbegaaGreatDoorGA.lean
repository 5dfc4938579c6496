/-
  Chapter 9 in plain words: names, what is outside, where a text is cut; no program, no world. No condition.
  Chapter 11 in plain words: variables, and what a text expands to; no program, no world. No condition.
  Chapter 11: how long what is told is; that a text that is right stays so with more room; what two texts are, put together. No program, no world. No condition.
-/
import Derived.Test.YtmfjolmfbdbegaaGreatDoorHX
namespace Go.Proofs.YtmfjolmfbdbegaaGreatDoor
def nameC (c:UInt8):Bool:=decide (65≤c.toNat∧c.toNat≤90∨97≤c.toNat∧c.toNat≤122∨48≤c.toNat∧c.toNat≤57∨c.toNat=95∨c.toNat=45∨c.toNat=46)
def nameB (l:BS):Bool:=l.all nameC && decide (l≠[]) && decide (l.length≤40)
def opens:BS→Option UInt8
 | c :: d :: _=>if c=36 then (if d=40 then some 41 else if d=123 then some 125 else none) else none
 | _=>none
def outsL:List UInt8→BS→List Bool
 | _,[]=>[]
 | st,[c]=>[if st.head? = some c then false else decide (st=[])]
 | st,c :: d :: r =>
  match opens (c :: d :: r) with
  | some q=>false :: false :: outsL (q :: st) r
  | none=>if st.head? = some c then false :: outsL st.tail (d :: r) else decide (st=[]) :: outsL st (d :: r)
theorem outs_open {st:List UInt8} {c d q:UInt8} {r:BS} (h:opens (c :: d :: r)=some q):outsL st (c :: d :: r)=false :: false :: outsL (q :: st) r:=by
 conv=>lhs;unfold outsL
 rw [h]
theorem outs_close {st:List UInt8} {c:UInt8} {r:BS} (h:opens (c :: r)=none) (hs:st.head? = some c):outsL st (c :: r)=false :: outsL st.tail r:=by
 cases r with
 | nil=>unfold outsL;rw [if_pos hs]
 | cons d r =>
  conv=>lhs;unfold outsL
  rw [h]
  simp only
  rw [if_pos hs]
theorem outs_plain {st:List UInt8} {c:UInt8} {r:BS} (h:opens (c :: r)=none) (hs:¬ st.head? = some c):outsL st (c :: r)=decide (st=[]) :: outsL st r:=by
 cases r with
 | nil=>unfold outsL;rw [if_neg hs]
 | cons d r =>
  conv=>lhs;unfold outsL
  rw [h]
  simp only
  rw [if_neg hs]
def signAt (signs:List BS) (s:BS):Option BS:=signs.find? fun x=>decide (x≠[]) && x.isPrefixOf s
abbrev Cut3:=BS × BS × BS
def Cut3.put (c:UInt8) (x:Cut3):Cut3:=(c :: x.1,x.2.1,x.2.2)
def cutIdx (signs:List BS):List Bool→BS→Cut3
 | _,[]=>([],[],[])
 | [],c :: r=>(c :: r,[],[])
 | true :: o,c :: r =>
  match signAt signs (c :: r) with
  | some x=>([],x,(c :: r).drop x.length)
  | none=>Cut3.put c (cutIdx signs o r)
 | false :: o,c :: r=>Cut3.put c (cutIdx signs o r)
def cutW (signs:List BS) (st:List UInt8) (s:BS):Cut3:=cutIdx signs (outsL st s) s
def cutOf (signs:List BS) (s:BS):Cut3:=cutW signs [] s
section
variable {signs:List BS} {st:List UInt8} {c d q:UInt8} {r:BS}
theorem cutW_nil:cutW signs st []=([],[],[]):=by unfold cutW cutIdx;rfl
theorem cutW_open (h:opens (c :: d :: r)=some q):cutW signs st (c :: d :: r)=Cut3.put c (Cut3.put d (cutW signs (q :: st) r)):=by
 unfold cutW;rw [outs_open h];rfl
theorem cutW_close (h:opens (c :: r)=none) (hs:st.head? = some c):cutW signs st (c :: r)=Cut3.put c (cutW signs st.tail r):=by
 unfold cutW;rw [outs_close h hs];rfl
theorem cutW_in (h:opens (c :: r)=none) (hs:¬ st.head? = some c) (hn:st≠[]):cutW signs st (c :: r)=Cut3.put c (cutW signs st r):=by
 unfold cutW;rw [outs_plain h hs,decide_eq_false hn];rfl
theorem cutW_sign {x:BS} (h:opens (c :: r)=none) (hx:signAt signs (c :: r)=some x):cutW signs [] (c :: r)=([],x,(c :: r).drop x.length):=by
 unfold cutW
 rw [outs_plain h (by simp),decide_eq_true rfl]
 show (match signAt signs (c :: r) with | some x=>_ | none=>_)=_
 rw [hx]
theorem cutW_out (h:opens (c :: r)=none) (hx:signAt signs (c :: r)=none):cutW signs [] (c :: r)=Cut3.put c (cutW signs [] r):=by
 unfold cutW
 rw [outs_plain h (by simp),decide_eq_true rfl]
 show (match signAt signs (c :: r) with | some x=>_ | none=>_)=_
 rw [hx]
end
theorem sign_at {signs:List BS} {s x:BS} (h:signAt signs s=some x):x∈signs∧x≠[]∧x++s.drop x.length=s:=by
 unfold signAt at h
 have h1:=List.mem_of_find?_eq_some h
 have h2:=List.find?_some h
 simp only [Bool.and_eq_true,decide_eq_true_eq,List.isPrefixOf_iff_prefix] at h2
 refine ⟨h1,h2.1,?_⟩
 obtain ⟨t,rfl⟩:=h2.2
 rw [List.drop_left]
theorem opens_two (c d:UInt8) (r:BS):opens (c :: d :: r)=if c=36 then (if d=40 then some 41 else if d=123 then some 125 else none) else none:=rfl
theorem opens_by (l:BS):(([36,40]:BS).isPrefixOf l=true∧opens l=some 41)∨(([36,40]:BS).isPrefixOf l=false∧([36,123]:BS).isPrefixOf l=true∧opens l=some 125) ∨
  (([36,40]:BS).isPrefixOf l=false∧([36,123]:BS).isPrefixOf l=false∧opens l=none):=by
 match l with
 | []=>exact .inr (.inr ⟨rfl,rfl,rfl⟩)
 | [c] =>
  refine .inr (.inr ⟨?_,?_,rfl⟩) <;> simp [List.isPrefixOf]
 | c :: d :: r =>
  rw [opens_two]
  by_cases hc:c=36
  ·subst hc
   by_cases h1:d=40
   ·subst h1;exact .inl ⟨by simp [List.isPrefixOf],rfl⟩
   by_cases h2:d=123
   ·subst h2;exact .inr (.inl ⟨by simp [List.isPrefixOf],by simp [List.isPrefixOf],rfl⟩)
   have e1:(40 == d)=false:=by simpa using fun e:40=d=>h1 e.symm
   have e2:(123 == d)=false:=by simpa using fun e:123=d=>h2 e.symm
   exact .inr (.inr ⟨by simp [List.isPrefixOf,e1],by simp [List.isPrefixOf,e2],by rw [if_pos rfl,if_neg h1,if_neg h2]⟩)
  ·have e0:(36 == c)=false:=by simpa using fun e:36=c=>hc e.symm
   exact .inr (.inr ⟨by simp [List.isPrefixOf,e0],by simp [List.isPrefixOf,e0],by rw [if_neg hc]⟩)
theorem opens_none {d:UInt8} {r:BS} (h:d≠36):opens (d :: r)=none:=by
 cases r with
 | nil=>rfl
 | cons e r=>rw [opens_two,if_neg h]
theorem cutW_begin {signs:List BS} {st:List UInt8} {c q:UInt8} {r:BS} (h:opens (c :: r)=some q):cutW signs st (c :: r)=Cut3.put c (cutW signs (q :: st) r):=by
 cases r with
 | nil=>cases h
 | cons d r =>
  rw [cutW_open h]
  have h':=h
  rw [opens_two] at h'
  split at h'
  ·split at h'
   ·rename_i h1 h2
    cases h'
    rw [cutW_in (opens_none (by rw [h2];decide)) (by rw [h2];simp) (by simp)]
   ·split at h'
    ·rename_i h1 h2
     cases h'
     rw [cutW_in (opens_none (by rw [h2];decide)) (by rw [h2];simp) (by simp)]
    ·cases h'
  ·cases h'
def CutS (sg:List BS) (l:BS) (st:List UInt8) (i:Nat):Prop :=
 cutOf sg l=(l.take i++(cutW sg st (l.drop i)).1,(cutW sg st (l.drop i)).2.1,(cutW sg st (l.drop i)).2.2)
section
variable {sg:List BS} {l:BS} {st:List UInt8} {i:Nat}
theorem CutS.start (sg:List BS) (l:BS):CutS sg l [] 0:=by
 unfold CutS cutOf
 simp
theorem CutS.next (h:CutS sg l st i) {st':List UInt8} (hi:i < l.length) (he:cutW sg st (l.drop i)=Cut3.put l[i] (cutW sg st' (l.drop (i+1)))):CutS sg l st' (i+1):=by
 unfold CutS at h ⊢
 rw [h,he]
 have e4:∀ K:BS,l.take (i+1)++K=l.take i++l[i] :: K:=fun K=>by rw [List.take_succ_eq_append_getElem hi,List.append_assoc];rfl
 rw [e4];rfl
theorem CutS.begin (h:CutS sg l st i) (hi:i < l.length) {q:UInt8} (ho:opens (l.drop i)=some q):CutS sg l (q :: st) (i+1):=by
 refine h.next hi ?_
 rw [List.drop_eq_getElem_cons hi] at ho ⊢
 exact cutW_begin ho
theorem CutS.close {b:UInt8} (h:CutS sg l (b :: st) i) (hi:i < l.length) (ho:opens (l.drop i)=none) (hb:l[i]=b):CutS sg l st (i+1):=by
 refine h.next hi ?_
 rw [List.drop_eq_getElem_cons hi] at ho ⊢
 exact cutW_close ho (by rw [hb];rfl)
theorem CutS.inside {b:UInt8} (h:CutS sg l (b :: st) i) (hi:i < l.length) (ho:opens (l.drop i)=none) (hb:l[i]≠b):CutS sg l (b :: st) (i+1):=by
 refine h.next hi ?_
 rw [List.drop_eq_getElem_cons hi] at ho ⊢
 exact cutW_in ho (by simpa using fun e:b=l[i]=>hb e.symm) (by simp)
theorem CutS.outside (h:CutS sg l [] i) (hi:i < l.length) (ho:opens (l.drop i)=none) (hs:signAt sg (l.drop i)=none):CutS sg l [] (i+1):=by
 refine h.next hi ?_
 rw [List.drop_eq_getElem_cons hi] at ho hs ⊢
 exact cutW_out ho hs
theorem CutS.hit {x:BS} (h:CutS sg l [] i) (hi:i < l.length) (ho:opens (l.drop i)=none) (hs:signAt sg (l.drop i)=some x):cutOf sg l=(l.take i,x,l.drop (i+x.length)):=by
 unfold CutS at h
 rw [List.drop_eq_getElem_cons hi] at ho hs
 rw [h,List.drop_eq_getElem_cons hi,cutW_sign ho hs,List.append_nil,← List.drop_eq_getElem_cons hi,List.drop_drop]
theorem CutS.done (h:CutS sg l st i) (hi:l.length≤i):cutOf sg l=(l,[],[]):=by
 unfold CutS at h
 rw [h,List.drop_eq_nil_of_le hi,List.take_of_length_le hi,cutW_nil,List.append_nil]
end
theorem cutIdx_short (sg:List BS):∀ (o:List Bool) (s:BS),(cutIdx sg o s).1.length≤s.length∧(cutIdx sg o s).2.2.length≤s.length∧(cutIdx sg o s).2.1.length≤s.length∧(cutIdx sg o s).1.length+(cutIdx sg o s).2.1.length+(cutIdx sg o s).2.2.length=s.length
 | _,[]=>by unfold cutIdx;simp
 | [],c :: r=>by unfold cutIdx;simp
 | true :: o,c :: r=>by
  unfold cutIdx
  cases h:signAt sg (c :: r) with
  | some x =>
   have h1:=congrArg List.length (sign_at h).2.2
   rw [List.length_append,List.length_drop] at h1
   simp only [List.length_nil,List.length_drop,List.length_cons] at h1 ⊢
   omega
  | none =>
   have:=cutIdx_short sg o r
   simp only [Cut3.put,List.length_cons]
   omega
 | false :: o,c :: r=>by
  unfold cutIdx
  have:=cutIdx_short sg o r
  simp only [Cut3.put,List.length_cons]
  omega
theorem cut_parts (sg:List BS) (s:BS):(cutOf sg s).1.length+(cutOf sg s).2.1.length+(cutOf sg s).2.2.length=s.length:=(cutIdx_short sg _ s).2.2.2
theorem cut_short (sg:List BS) (s:BS):(cutOf sg s).2.2.length≤s.length:=(cutIdx_short sg _ s).2.1
theorem cut_short1 (sg:List BS) (s:BS):(cutOf sg s).1.length≤s.length:=(cutIdx_short sg _ s).1
end Go.Proofs.YtmfjolmfbdbegaaGreatDoor

namespace Go.Proofs.YtmfjolmfbdbegaaGreatDoor
abbrev VarT:=BT × BT × Bool
abbrev EnvT:=List VarT
def getT (v:EnvT) (n:BT):Option VarT:=v.find? fun x=>decide (x.1=n)
def setT:EnvT→VarT→EnvT
 | [],x=>[x]
 | y :: r,x=>if y.1=x.1 then x :: r else if x.1 < y.1 then x :: y :: r else y :: setT r x
def SrtT (v:EnvT):Prop:=v.Pairwise fun a b=>a.1 < b.1
abbrev Rs (α:Type):=Except Int (Nat × α)
abbrev R:=Rs BT
def Rb {α β:Type} (x:Rs α) (f:Nat→α→Rs β):Rs β:=match x with | .error e=>.error e | .ok y=>f y.1 y.2
def finR (n:Nat) (s:BT):R:=if 4000 < s.length then .error 3 else .ok (n,s)
def textsR (E:BT→Nat→R):List BT→Nat→Rs (List BT)
 | [],n=>.ok (n,[])
 | s :: r,n=>Rb (E s n) fun m t=>Rb (textsR E r m) fun k l=>.ok (k,t :: l)
def eachR (f:BT→Nat→R) (s:BT) (n:Nat):R:=Rb (textsR f (wordsT s) n) fun m l=>finR m (joinT l)
def refAt (rf:BT→Nat→R) (q:UInt8) (r:BT) (n:Nat):Rs (BT × BT) :=
 if (cutOf [[q]] r).2.1=[] then .error 2 else Rb (rf (cutOf [[q]] r).1 n) fun m t=>.ok (m,t,(cutOf [[q]] r).2.2)
def dolR (rf vf:BT→Nat→R):BT→Nat→Rs (BT × BT)
 | [],_=>.error 2
 | c :: r,n =>
  if c=36 then .ok (n,[36],r)
  else if c=40 then refAt rf 41 r n
  else if c=123 then refAt rf 125 r n
  else Rb (vf [c] n) fun m t=>.ok (m,t,r)
def bodyF (rf vf:BT→Nat→R):Nat→BT→Nat→R
 | 0,_,_=>.error 0
 | _+1,[],n=>.ok (n,[])
 | f+1,c :: r,n =>
  if c=36 then Rb (dolR rf vf r n) fun m x=>Rb (bodyF rf vf f x.2 m) fun k u=>.ok (k,x.1++u)
  else Rb (bodyF rf vf f r n) fun k u=>.ok (k,c :: u)
def bodyR (rf vf:BT→Nat→R) (s:BT) (n:Nat):R:=bodyF rf vf (s.length+1) s n
def textR (rf vf:BT→Nat→R) (s:BT) (n:Nat):R:=Rb (bodyR rf vf s n) finR
def nIf:BT:=[105,102]
def nForeach:BT:=[102,111,114,101,97,99,104]
def nCallW:BT:=[99,97,108,108]
def leastT (w:BT):Int:=if w=nIf then 2 else if w=nForeach then 3 else if w=nCallW then 1 else manyOf w
def mostT (w:BT):Int:=if w=nIf then 3 else if w=nForeach then 3 else if w=nCallW then 9 else manyOf w
def hasBl (c:BT):Bool:=c.any blankB
def funW (c:BT):BT:=if hasBl c then c.takeWhile fun x=>!blankB x else []
def funRest (c:BT):BT:=if hasBl c then cutL (c.dropWhile fun x=>!blankB x) else []
def argsT:Nat→BT→List BT
 | 0,s=>[s]
 | m+1,s=>if (cutOf [[44]] s).2.1=[] then [s] else (cutOf [[44]] s).1 :: argsT m (cutOf [[44]] s).2.2
def callR (m:Nat) (x:BT × Int):R:=if x.2=0 then .ok (m,x.1) else .error x.2
def chooseR (E:BT→Nat→R) (args:List BT) (n:Nat):R :=
 Rb (E (args.getD 0 []) n) fun m t=>if trimOf t≠[] then E (args.getD 1 []) m else if args.length < 3 then .ok (m,[]) else E (args.getD 2 []) m
def stepR (n:Nat) (f:Nat→R):R:=if 2000≤n then .error 12 else f (n+1)
def forR (E:EnvT→BT→Nat→R) (v:EnvT) (args:List BT) (n:Nat):R :=
 Rb (textsR (E v) (args.take 2) n) fun m l=>eachR (fun w k=>stepR k fun k'=>E (setT v (trimOf (l.getD 0 []),w,true)) (args.getD 2 []) k') (l.getD 1 []) m
def putT:EnvT→Nat→List BT→EnvT
 | v,_,[]=>v
 | v,i,s :: r=>putT (setT v (decOf i,s,true)) (i+1) r
def textOf (x:Option VarT):BT:=match x with | none=>[] | some y=>y.2.1
def applyR (E:EnvT→BT→Nat→R) (v:EnvT) (args:List BT) (n:Nat):R :=
 Rb (textsR (E v) args n) fun m l=>E (putT v 0 (l.set 0 (trimOf (l.getD 0 [])))) (textOf (getT v (trimOf (l.getD 0 [])))) m
def turnP (p q:BT):BT × BT:=if openB p=true then (p,q) else (37 :: p,37 :: q)
def turnedR (s p q:BT) (n:Nat):R:=eachR (fun w k=>.ok (k,substL (turnP p q).1 (turnP p q).2 w)) s n
def varB (E:EnvT→BT→Nat→R) (vf:EnvT→BT→Nat→R) (v:EnvT) (c:BT) (n:Nat):R :=
 if (cutOf [[61]] (cutOf [[58]] c).2.2).2.1=[] then Rb (E v c n) fun m x=>vf v x m
 else Rb (textsR (E v) [(cutOf [[58]] c).1,(cutOf [[61]] (cutOf [[58]] c).2.2).1,(cutOf [[61]] (cutOf [[58]] c).2.2).2.2] n) fun m l =>
  Rb (vf v (l.getD 0 []) m) fun m' s=>turnedR s (l.getD 1 []) (l.getD 2 []) m'
def funB (E:EnvT→BT→Nat→R) (v:EnvT) (w:BT) (args:List BT) (n:Nat):R :=
 if w=nIf then chooseR (E v) args n
 else if w=nForeach then forR E v args n
 else if w=nCallW then applyR E v args n
 else Rb (textsR (E v) args n) fun m l=>callR m (callT w l)
def refB (E:EnvT→BT→Nat→R) (vf:EnvT→BT→Nat→R) (v:EnvT) (c:BT) (n:Nat):R :=
 if mostT (funW c)=0 then varB E vf v c n
 else if ((argsT ((mostT (funW c)).toNat - 1) (funRest c)).length:Int) < leastT (funW c) then .error 1
 else funB E v (funW c) (argsT ((mostT (funW c)).toNat - 1) (funRest c)) n
def valB (g:BT→Nat→R) (v:EnvT) (x:BT) (n:Nat):R :=
 match getT v x with
 | none=>.ok (n,[])
 | some y=>if y.2.2=true then finR n y.2.1 else g y.2.1 n
def levR:Nat→(EnvT→BT→Nat→R) × (EnvT→BT→Nat→R)
 | 0=>(fun _ _ _=>.error 15,fun v x n=>valB (fun _ _=>.error 15) v x n)
 | k+1 =>
  (fun v c n => stepR n fun m => refB (fun v' s m' => textR ((levR k).1 v') ((levR k).2 v') s m') (levR k).2 v c m,
   fun v x n => valB (fun s n' => stepR n' fun m => textR ((levR k).1 v) ((levR k).2 v) s m) v x n)
def refE (k:Nat) (v:EnvT) (c:BT) (n:Nat):R:=(levR k).1 v c n
def valE (k:Nat) (v:EnvT) (x:BT) (n:Nat):R:=(levR k).2 v x n
def textE (k:Nat) (v:EnvT) (s:BT) (n:Nat):R:=textR (refE k v) (valE k v) s n
def expandT (v:EnvT) (s:BT):BT × Int:=match textE 20 v s 0 with | .error e=>([],e) | .ok y=>(y.2,0)
theorem ref_succ (k:Nat) (v:EnvT) (c:BT) (n:Nat):refE (k+1) v c n=stepR n (refB (textE k) (valE k) v c):=rfl
section
variable {α β γ:Type}
theorem Rb_ok (n:Nat) (a:α) (f:Nat→α→Rs β):Rb (.ok (n,a)) f=f n a:=rfl
theorem Rb_assoc (x:Rs α) (f:Nat→α→Rs β) (g:Nat→β→Rs γ):Rb (Rb x f) g=Rb x fun n a=>Rb (f n a) g:=by
 cases x <;> rfl
theorem Rb_is {x:Rs α} {f:Nat→α→Rs β} {m:Nat} {b:β} (h:Rb x f=.ok (m,b)):∃ n a,x=.ok (n,a)∧f n a=.ok (m,b):=by
 cases x with
 | error e=>cases h
 | ok y=>exact ⟨y.1,y.2,rfl,h⟩
theorem Rb_self (x:Rs α):(Rb x fun n a=>.ok (n,a))=x:=by cases x <;> rfl
end
theorem fin_is {n m:Nat} {s t:BT} (h:finR n s=.ok (m,t)):n=m∧s=t∧s.length≤4000:=by
 unfold finR at h
 split at h
 ·cases h
 ·cases h;exact ⟨rfl,rfl,by omega⟩
theorem fin_ok (n:Nat) {s:BT} (h:s.length≤4000):finR n s=.ok (n,s):=if_neg (by omega)
theorem fin_err (n:Nat) {s:BT} (h:4000 < s.length):finR n s=.error 3:=if_pos h
section
variable {rf vf:BT→Nat→R}
theorem dol_cons (c:UInt8) (r:BT) (n:Nat):dolR rf vf (c :: r) n=if c=36 then .ok (n,[36],r) else if c=40 then refAt rf 41 r n else if c=123 then refAt rf 125 r n else Rb (vf [c] n) fun m t=>.ok (m,t,r):=rfl
theorem dol_rest {s:BT} {n m:Nat} {x:BT × BT} (h:dolR rf vf s n=.ok (m,x)):x.2.length < s.length:=by
 cases s with
 | nil=>cases h
 | cons c r =>
  rw [dol_cons] at h
  have hr:∀ q:UInt8,refAt rf q r n=.ok (m,x)→x.2.length < (c :: r).length:=fun q hq=>by
   unfold refAt at hq
   split at hq
   ·cases hq
   ·obtain ⟨k,t,h1,h2⟩:=Rb_is hq
    cases h2
    have:=cut_short [[q]] r
    simp only [List.length_cons]
    omega
  split at h
  ·cases h;simp
  ·split at h
   ·exact hr _ h
   ·split at h
    ·exact hr _ h
    ·obtain ⟨k,t,h1,h2⟩:=Rb_is h
     cases h2;simp
theorem body_fuel:∀ (f g:Nat) (s:BT) (n:Nat),s.length < f→s.length < g→bodyF rf vf f s n=bodyF rf vf g s n
 | 0,_,_,_,h,_=>absurd h (Nat.not_lt_zero _)
 | _+1,0,_,_,_,h=>absurd h (Nat.not_lt_zero _)
 | _+1,_+1,[],_,_,_=>rfl
 | f+1,g+1,c :: r,n,hf,hg=>by
  simp only [List.length_cons] at hf hg
  unfold bodyF
  split
  ·cases hd:dolR rf vf r n with
   | error e=>rfl
   | ok y =>
    obtain ⟨y1,y2⟩:=y
    have:=dol_rest hd
    rw [Rb_ok,Rb_ok,body_fuel f g y2.2 y1 (by omega) (by omega)]
  ·rw [body_fuel f g r n (by omega) (by omega)]
theorem body_nil (n:Nat):bodyR rf vf [] n=.ok (n,[]):=rfl
theorem body_dol (r:BT) (n:Nat):bodyR rf vf (36 :: r) n=Rb (dolR rf vf r n) fun m x=>Rb (bodyR rf vf x.2 m) fun k u=>.ok (k,x.1++u):=by
 show bodyF rf vf ((36 :: r).length+1) (36 :: r) n=_
 conv=>lhs;unfold bodyF
 rw [if_pos rfl]
 cases hd:dolR rf vf r n with
 | error e=>rfl
 | ok y =>
  obtain ⟨y1,y2⟩:=y
  have:=dol_rest hd
  rw [Rb_ok,Rb_ok]
  unfold bodyR
  rw [body_fuel (36 :: r).length (y2.2.length+1) y2.2 y1 (by simp only [List.length_cons];omega) (by omega)]
theorem body_byte {c:UInt8} (hc:c≠36) (r:BT) (n:Nat):bodyR rf vf (c :: r) n=Rb (bodyR rf vf r n) fun k u=>.ok (k,c :: u):=by
 show bodyF rf vf ((c :: r).length+1) (c :: r) n=_
 conv=>lhs;unfold bodyF
 rw [if_neg hc]
 rfl
theorem body_plain:∀ (a r:BT) (n:Nat),36∉a→bodyR rf vf (a++r) n=Rb (bodyR rf vf r n) fun k u=>.ok (k,a++u)
 | [],r,n,_=>(Rb_self _).symm
 | c :: a,r,n,h=>by
  have h1:c≠36:=fun e=>h (by simp [e])
  rw [List.cons_append,body_byte h1,body_plain a r n (fun e=>h (by simp [e])),Rb_assoc]
  rfl
theorem body_all (a:BT) (n:Nat) (h:36∉a):bodyR rf vf a n=.ok (n,a):=by
 have:=body_plain (rf:=rf) (vf:=vf) a [] n h
 rw [List.append_nil,body_nil] at this
 rw [this]
 show Except.ok (n,a++[])=_
 rw [List.append_nil]
end
def headD (s:BT):BT:=s.takeWhile fun c=>decide (c≠36)
def tailD (s:BT):BT:=s.dropWhile fun c=>decide (c≠36)
theorem head_tail (s:BT):headD s++tailD s=s:=List.takeWhile_append_dropWhile
theorem head_none (s:BT):36∉headD s:=fun h=>by
 have h2:∀ (l:BT),36∈l.takeWhile (fun c=>decide (c≠36))→False:=fun l=>by
  induction l with
  | nil=>simp
  | cons c r ih =>
   intro h
   rw [List.takeWhile_cons] at h
   split at h
   ·rename_i hc
    rcases List.mem_cons.1 h with e | e
    ·subst e;simp at hc
    ·exact ih e
   ·cases h
 exact h2 s h
theorem tail_dol (s:BT):tailD s=[]∨∃ b,tailD s=36 :: b:=by
 have h2:∀ (l:BT),l.dropWhile (fun c=>decide (c≠36))=[]∨∃ b,l.dropWhile (fun c=>decide (c≠36))=36 :: b:=fun l=>by
  induction l with
  | nil=>exact .inl rfl
  | cons c r ih =>
   rw [List.dropWhile_cons]
   split
   ·exact ih
   ·rename_i hc
    have:c=36:=by simpa using hc
    exact .inr ⟨r,by rw [this]⟩
 exact h2 s
end Go.Proofs.YtmfjolmfbdbegaaGreatDoor

namespace Go.Proofs.YtmfjolmfbdbegaaGreatDoor
def ShortR (x:R):Prop:=∀ m t,x=.ok (m,t)→t.length≤4000
theorem short_fin (n:Nat) (s:BT):ShortR (finR n s):=fun m t h=>by
 obtain ⟨_,rfl,h2⟩:=fin_is h;exact h2
theorem short_err (e:Int):ShortR (.error e):=fun _ _ h=>by cases h
theorem short_nil (n:Nat):ShortR (.ok (n,[])):=fun _ _ h=>by cases h;simp
theorem short_Rb {α:Type} {x:Rs α} {f:Nat→α→R} (h:∀ n a,ShortR (f n a)):ShortR (Rb x f):=fun m t e=>by
 obtain ⟨n,a,_,e2⟩:=Rb_is e
 exact h n a m t e2
theorem short_text (rf vf:BT→Nat→R) (s:BT) (n:Nat):ShortR (textR rf vf s n):=short_Rb fun _ _=>short_fin _ _
theorem short_textE (k:Nat) (v:EnvT) (s:BT) (n:Nat):ShortR (textE k v s n):=short_text _ _ _ _
theorem short_each (f:BT→Nat→R) (s:BT) (n:Nat):ShortR (eachR f s n):=short_Rb fun _ _=>short_fin _ _
theorem short_step {n:Nat} {f:Nat→R} (h:∀ m,ShortR (f m)):ShortR (stepR n f):=by
 unfold stepR;split
 ·exact short_err _
 ·exact h _
theorem short_callR (m:Nat) (w:BT) (l:List BT):ShortR (callR m (callT w l)):=fun k t h=>by
 unfold callR at h
 split at h
 ·rename_i h0
  cases h
  unfold callT at h0 ⊢
  split
  ·simp
  ·rename_i hm
   rw [if_neg hm] at h0
   split
   ·rename_i hl
    rw [if_pos hl] at h0
    cases ha:ansT w l with
    | none=>simp [finT]
    | some u =>
     rw [ha] at h0
     simp only [finT] at h0 ⊢
     split
     ·assumption
     ·simp
   ·simp
 ·cases h
theorem short_val {g:BT→Nat→R} (hg:∀ s n,ShortR (g s n)) (v:EnvT) (x:BT) (n:Nat):ShortR (valB g v x n):=by
 unfold valB
 split
 ·exact short_nil _
 ·split
  ·exact short_fin _ _
  ·exact hg _ _
theorem short_ref {E vf:EnvT→BT→Nat→R} (hE:∀ v s n,ShortR (E v s n)) (hv:∀ v s n,ShortR (vf v s n)) (v:EnvT) (c:BT) (n:Nat):ShortR (refB E vf v c n):=by
 unfold refB
 split
 ·unfold varB
  split
  ·exact short_Rb fun _ _=>hv _ _ _
  ·exact short_Rb fun _ _=>short_Rb fun _ _=>short_each _ _ _
 ·split
  ·exact short_err _
  ·unfold funB
   split
   ·unfold chooseR
    refine short_Rb fun _ _=>?_
    split
    ·exact hE _ _ _
    ·split
     ·exact short_nil _
     ·exact hE _ _ _
   ·split
    ·exact short_Rb fun _ _=>short_each _ _ _
    ·split
     ·exact short_Rb fun _ _=>hE _ _ _
     ·exact short_Rb fun _ _=>short_callR _ _ _
theorem short_valE (k:Nat) (v:EnvT) (x:BT) (n:Nat):ShortR (valE k v x n):=by
 cases k with
 | zero=>exact short_val (fun _ _=>short_err _) _ _ _
 | succ k=>exact short_val (g:=fun s n'=>stepR n' (textE k v s)) (fun _ _=>short_step fun _=>short_textE _ _ _ _) _ _ _
theorem short_refE (k:Nat) (v:EnvT) (c:BT) (n:Nat):ShortR (refE k v c n):=by
 cases k with
 | zero=>exact short_err _
 | succ k=>exact short_step fun _=>short_ref (fun _ _ _=>short_textE _ _ _ _) (fun _ _ _=>short_valE _ _ _ _) _ _ _
section
variable {α β:Type}
end
end Go.Proofs.YtmfjolmfbdbegaaGreatDoor
