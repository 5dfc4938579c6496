/-
  How the program's Cut goes: one byte at a time, what is open kept as a row; and that blanks at a text's ends change nothing but themselves. No program, no world. No condition.
  What a line's first word is, and what is behind it; what is between two brackets; what a line says does not hang on blanks at its ends. No program, no world. No condition.
  What the library's strings.HasPrefix, TrimPrefix, CutPrefix and CutSuffix answer. For every two texts. No condition.
  What the document's own outside answers: of each byte, is it outside; for every text of at most a million bytes. No condition.
  What the document's own Cut answers, for every text of at most a million bytes, and every row of signs. No condition.
  Nodes as values; what a call that makes a node tells; the words of a text. No condition.
  The program's nodes as a call makes them: the one that it answers with, and one of its own. No condition.
-/
import Derived.Lib.Strings
import Derived.Shelf.Strings.Prefix
import Derived.Shelf.Small.Wraps
import Derived.Deep.QuietTactic
import Derived.Deep.DeepCutAuto
import Derived.Deep.CutBlock
import Derived.Deep.OwnRows
import Derived.BigQuiet
import Derived.StillTailTactics
import Derived.Deep.RegionHeld3
import Derived.Test.YtmfjolmfbdbegaaGreatDoorEA
import Derived.Test.YtmfjolmfbdbegaaGreatDoorGA
import Derived.Test.YtmfjolmfbdbegaaGreatDoorEB
import Derived.Test.YtmfjolmfbdbegaaGreatDoorHG
import Derived.Test.YtmfjolmfbdbegaaGreatDoorGC
import Derived.Test.YtmfjolmfbdbegaaGreatDoorHRf
import Derived.Test.YtmfjolmfbdbegaaGreatDoorHB
import Derived.Test.YtmfjolmfbdbegaaGreatDoorVNm
namespace Go.Proofs.YtmfjolmfbdbegaaGreatDoor
section
variable {sg:List BS} {l:BS} {st:List UInt8} {i:Nat}
end
theorem cutW_lead {signs:List BS} (hs:∀ x∈signs,x.head?≠some 32∧x.head?≠some 9) (u v:BS) (hu:∀ c∈u,blankB c=true):cutW signs [] (u++v)=(u++(cutW signs [] v).1,(cutW signs [] v).2.1,(cutW signs [] v).2.2) :=
 cutW_clean u v fun c hc=>by
  have:=blankB_is.1 (hu c hc)
  rcases this with rfl | rfl
  ·exact ⟨by decide,fun x hx=>(hs x hx).1⟩
  ·exact ⟨by decide,fun x hx=>(hs x hx).2⟩
def NoBl (signs:List BS):Prop:=∀ x∈signs,∀ c∈x,blankB c=false
theorem NoBl.head {signs:List BS} (h:NoBl signs):∀ x∈signs,x.head?≠some 32∧x.head?≠some 9:=by
 intro x hx
 cases x with
 | nil=>simp
 | cons c r =>
  have hc:=h _ hx c (by simp)
  refine ⟨fun e=>?_,fun e=>?_⟩
  ·cases e;exact absurd hc (by decide)
  ·cases e;exact absurd hc (by decide)
theorem prefix_blank {x s t:BS} (hx:∀ c∈x,blankB c=false) (ht:∀ c∈t,blankB c=true):x.isPrefixOf (s++t)=x.isPrefixOf s:=by
 induction x generalizing s with
 | nil=>simp [List.isPrefixOf]
 | cons c r ih =>
  cases s with
  | nil =>
   cases t with
   | nil=>rfl
   | cons d t =>
    have h1:=hx c (by simp)
    have h2:=ht d (by simp)
    have:(c == d)=false:=by
     rw [beq_eq_false_iff_ne];rintro rfl;rw [h1] at h2;cases h2
    simp [List.isPrefixOf,this]
  | cons d s =>
   simp only [List.cons_append,List.isPrefixOf]
   rw [ih (fun c hc=>hx c (by simp [hc]))]
theorem sign_blank {signs:List BS} (h:NoBl signs) {s t:BS} (ht:∀ c∈t,blankB c=true):signAt signs (s++t)=signAt signs s:=by
 unfold signAt
 induction signs with
 | nil=>rfl
 | cons x r ih =>
  rw [List.find?_cons,List.find?_cons,prefix_blank (h x (by simp)) ht,ih fun y hy=>h y (by simp [hy])]
theorem opens_blank {s t:BS} (ht:∀ c∈t,blankB c=true) (hne:s≠[]):opens (s++t)=opens s:=by
 match s,hne with
 | [c],_ =>
  cases t with
  | nil=>rfl
  | cons d t =>
   have h2:=blankB_is.1 (ht d (by simp))
   show opens (c :: d :: t)=none
   rw [opens_two]
   rcases h2 with rfl | rfl <;> (split <;> simp)
 | c :: d :: r,_=>rfl
def Trail (k k':Cut3) (t:BS):Prop:=k'.2.1=k.2.1∧(k.2.1≠[]→k'.1=k.1∧k'.2.2=k.2.2++t)
theorem Trail.put {k k':Cut3} {t:BS} (c:UInt8) (h:Trail k k' t):Trail (Cut3.put c k) (Cut3.put c k') t :=
 ⟨h.1,fun hn=>⟨by show c :: k'.1=c :: k.1;rw [(h.2 hn).1],(h.2 hn).2⟩⟩
theorem sign_lead {signs:List BS} (h:NoBl signs) {c:UInt8} {r:BS} (hc:blankB c=true):signAt signs (c :: r)=none:=by
 unfold signAt
 rw [List.find?_eq_none]
 intro x hx hp
 cases x with
 | nil=>simp at hp
 | cons d y =>
  have h1:=h _ hx d (by simp)
  simp only [Bool.and_eq_true,List.isPrefixOf,beq_iff_eq] at hp
  obtain ⟨_,rfl,_⟩:=hp
  rw [h1] at hc;cases hc
theorem blank_ne {c:UInt8} (h:blankB c=true):c≠36:=by rintro rfl;exact absurd h (by decide)
theorem cutW_blanks {signs:List BS} (h:NoBl signs):∀ (t:BS) (st:List UInt8),(∀ c∈t,blankB c=true)→(cutW signs st t).2.1=[]
 | [],st,_=>by rw [cutW_nil]
 | c :: r,st,ht=>by
  have hc:=ht c (by simp)
  have ho:opens (c :: r)=none:=opens_none (blank_ne hc)
  have hr:∀ d∈r,blankB d=true:=fun d hd=>ht d (by simp [hd])
  by_cases h1:st.head? = some c
  ·rw [cutW_close ho h1];exact cutW_blanks h r st.tail hr
  ·by_cases h2:st=[]
   ·subst h2
    rw [cutW_out ho (sign_lead h hc)];exact cutW_blanks h r [] hr
   ·rw [cutW_in ho h1 h2];exact cutW_blanks h r st hr
theorem cutW_trail {signs:List BS} (h:NoBl signs) {t:BS} (ht:∀ c∈t,blankB c=true):∀ (s:BS) (st:List UInt8),Trail (cutW signs st s) (cutW signs st (s++t)) t
 | [],st=>by
  rw [cutW_nil,List.nil_append]
  exact ⟨cutW_blanks h t st ht,fun hn=>absurd rfl hn⟩
 | c :: r,st=>by
  have he:opens (c :: (r++t))=opens (c :: r):=opens_blank (s:=c :: r) ht (by simp)
  show Trail _ (cutW signs st (c :: (r++t))) t
  cases ho:opens (c :: r) with
  | some q =>
   rw [ho] at he
   rw [cutW_begin ho,cutW_begin he]
   exact (cutW_trail h ht r (q :: st)).put c
  | none =>
   rw [ho] at he
   by_cases h1:st.head? = some c
   ·rw [cutW_close ho h1,cutW_close he h1];exact (cutW_trail h ht r st.tail).put c
   ·by_cases h2:st=[]
    ·subst h2
     have hsg:signAt signs (c :: (r++t))=signAt signs (c :: r):=sign_blank h (s:=c :: r) ht
     cases hs:signAt signs (c :: r) with
     | none =>
      rw [hs] at hsg
      rw [cutW_out ho hs,cutW_out he hsg];exact (cutW_trail h ht r []).put c
     | some x =>
      rw [hs] at hsg
      rw [cutW_sign ho hs,cutW_sign he hsg]
      refine ⟨rfl,fun _=>⟨rfl,?_⟩⟩
      obtain ⟨_,_,hx⟩:=sign_at hs
      have hl:x.length≤(c :: r).length:=by
       have:=congrArg List.length hx
       rw [List.length_append] at this;omega
      show (c :: r++t).drop x.length=(c :: r).drop x.length++t
      rw [List.drop_append_of_le_length hl]
    ·rw [cutW_in ho h1 h2,cutW_in he h1 h2];exact (cutW_trail h ht r st).put c
theorem cut_trail {signs:List BS} (h:NoBl signs) {t:BS} (ht:∀ c∈t,blankB c=true) (s:BS):Trail (cutOf signs s) (cutOf signs (s++t)) t:=cutW_trail h ht s []
theorem drop_blanks {u:BS} (hu:∀ c∈u,blankB c=true) (a:BS):(u++a).dropWhile blankB=a.dropWhile blankB:=by
 induction u with
 | nil=>rfl
 | cons c r ih =>
  rw [List.cons_append,List.dropWhile_cons_of_pos (hu c (by simp))]
  exact ih fun d hd=>hu d (by simp [hd])
theorem trim_lead {u:BS} (hu:∀ c∈u,blankB c=true) (a:BS):trimOf (u++a)=trimOf a:=by
 unfold trimOf cutL
 rw [drop_blanks hu]
theorem trim_trail {t:BS} (ht:∀ c∈t,blankB c=true) (a:BS):trimOf (a++t)=trimOf a:=by
 unfold trimOf
 rw [← cut_swap,← cut_swap]
 congr 1
 unfold cutR
 rw [List.reverse_append,drop_blanks (fun c hc=>ht c (List.mem_reverse.1 hc))]
theorem take_blanks:∀ (l:BS),∀ c∈l.takeWhile blankB,blankB c=true
 | [],_,h=>by simp at h
 | d :: r,c,h=>by
  by_cases hd:blankB d=true
  ·rw [List.takeWhile_cons_of_pos hd] at h
   rcases List.mem_cons.1 h with rfl | h
   ·exact hd
   ·exact take_blanks r c h
  ·rw [List.takeWhile_cons_of_neg hd] at h;cases h
theorem trim_parts (l:BS):∃ u t,(∀ c∈u,blankB c=true)∧(∀ c∈t,blankB c=true)∧l=u++(trimOf l++t):=by
 refine ⟨l.takeWhile blankB,((cutL l).reverse.takeWhile blankB).reverse,take_blanks l,fun c hc=>take_blanks _ c (List.mem_reverse.1 hc),?_⟩
 have h2:cutL l=trimOf l++((cutL l).reverse.takeWhile blankB).reverse:=by
  unfold trimOf cutR
  rw [← List.reverse_append,List.takeWhile_append_dropWhile,List.reverse_reverse]
 rw [← h2]
 exact (List.takeWhile_append_dropWhile (p:=blankB) (l:=l)).symm
theorem cut_trim {signs:List BS} (h:NoBl signs) (s:BS):(cutOf signs s).2.1=(cutOf signs (trimOf s)).2.1∧((cutOf signs s).2.1≠[]→trimOf (cutOf signs s).1=trimOf (cutOf signs (trimOf s)).1 ∧
  ∃ t:BS,(∀ c∈t,blankB c=true)∧(cutOf signs s).2.2=(cutOf signs (trimOf s)).2.2++t):=by
 obtain ⟨u,t,hu,ht,he⟩:=trim_parts s
 have h1:cutOf signs s=(u++(cutOf signs (trimOf s++t)).1,(cutOf signs (trimOf s++t)).2.1,(cutOf signs (trimOf s++t)).2.2):=by
  conv=>lhs;rw [he]
  exact cutW_lead h.head u _ hu
 have h2:=cut_trail h ht (trimOf s)
 rw [h1]
 refine ⟨h2.1,fun hn=>?_⟩
 have hn':(cutOf signs (trimOf s)).2.1≠[]:=by rw [← h2.1];exact hn
 refine ⟨?_,t,ht,(h2.2 hn').2⟩
 show trimOf (u++(cutOf signs (trimOf s++t)).1)=_
 rw [trim_lead hu,(h2.2 hn').1]
theorem rule_trail (no:Int) (a b:BS) {t:BS} (ht:∀ c∈t,blankB c=true):ruleL no a (b++t)=ruleL no a b:=by
 have n58:NoBl [[58]]:=by intro x hx c hc;simp at hx;subst hx;simp at hc;subst hc;decide
 have n124:NoBl [[124]]:=by intro x hx c hc;simp at hx;subst hx;simp at hc;subst hc;decide
 have h1:=cut_trail n58 ht b
 have hp:rulePat (b++t)=rulePat b:=by
  unfold rulePat
  rw [h1.1]
  split
  ·rfl
  ·rename_i hn;rw [(h1.2 hn).1]
 have hr:ruleRest (b++t)=ruleRest b++t:=by
  unfold ruleRest
  rw [h1.1]
  split
  ·rfl
  ·rename_i hn;rw [(h1.2 hn).2]
 have h2:=cut_trail n58 ht (ruleRest b)
 have h3:=cut_trail n124 ht (ruleRest b)
 have h4:=cut_trail n124 ht (cutOf [[124]] (ruleRest b)).2.2
 have hbad:ruleBad a (b++t)=ruleBad a b:=by
  unfold ruleBad
  rw [hp,hr,h1.1,h2.1,h3.1]
  congr 1
  by_cases hn:(cutOf [[124]] (ruleRest b)).2.1=[]
  ·simp [hn]
  ·rw [(h3.2 hn).2,h4.1]
 have hin:trimOf (cutOf [[124]] (ruleRest b++t)).1=trimOf (cutOf [[124]] (ruleRest b)).1:=by
  by_cases hn:(cutOf [[124]] (ruleRest b)).2.1=[]
  ·have w1:=cut_whole [[124]] (ruleRest b++t)
   have w2:=cut_whole [[124]] (ruleRest b)
   rcases w1 with ⟨_,w1,_⟩ | ⟨_,w1,_⟩
   ·rcases w2 with ⟨_,w2,_⟩ | ⟨_,w2,_⟩
    ·rw [w1,w2,trim_trail ht]
    ·exact absurd hn w2
   ·exact absurd (h3.1.trans hn) w1
  ·rw [(h3.2 hn).1]
 have hor:trimOf (cutOf [[124]] (ruleRest b++t)).2.2=trimOf (cutOf [[124]] (ruleRest b)).2.2:=by
  by_cases hn:(cutOf [[124]] (ruleRest b)).2.1=[]
  ·have w1:=cut_whole [[124]] (ruleRest b++t)
   have w2:=cut_whole [[124]] (ruleRest b)
   rcases w1 with ⟨_,_,w1⟩ | ⟨_,w1,_⟩
   ·rcases w2 with ⟨_,_,w2⟩ | ⟨_,w2,_⟩
    ·rw [w1,w2]
    ·exact absurd hn w2
   ·exact absurd (h3.1.trans hn) w1
  ·rw [(h3.2 hn).2,trim_trail ht]
 unfold ruleL
 rw [hbad,hp,hr,hin,hor]
end Go.Proofs.YtmfjolmfbdbegaaGreatDoor

namespace Go.Proofs.YtmfjolmfbdbegaaGreatDoor
theorem words_cons_blank {c:UInt8} {r:BS} (h:blankB c=true):wordsL (c :: r)=wordsL r:=by
 unfold wordsL
 simp [pieces,h]
theorem words_lead:∀ (u l:BS),(∀ c∈u,blankB c=true)→wordsL (u++l)=wordsL l
 | [],_,_=>rfl
 | c :: r,l,h=>by
  rw [List.cons_append,words_cons_blank (h c (by simp))]
  exact words_lead r l fun d hd=>h d (by simp [hd])
theorem words_trail {t:BS} (ht:∀ c∈t,blankB c=true) (l:BS):wordsL (l++t)=wordsL l:=by
 cases t with
 | nil=>rw [List.append_nil]
 | cons c r =>
  have h1:wordsL r=[]:=by
   have:=words_lead r [] fun d hd=>ht d (by simp [hd])
   rwa [List.append_nil] at this
  unfold wordsL at h1 ⊢
  rw [pieces_app blankB l c r (ht c (by simp)),List.filter_append,h1,List.append_nil]
theorem words_trim (s:BS):wordsL (trimOf s)=wordsL s:=by
 obtain ⟨u,t,hu,ht,he⟩:=trim_parts s
 conv=>rhs;rw [he]
 rw [words_lead u _ hu,words_trail ht]
theorem piece_parts:∀ (l h:BS) (t:List BS),pieces blankB l=h :: t→(l=h∧t=[])∨∃ c r,blankB c=true∧l=h++c :: r∧t=pieces blankB r
 | [],h,t,e=>by
  simp only [pieces,List.cons.injEq] at e
  exact .inl ⟨e.1,e.2.symm⟩
 | c :: l,h,t,e=>by
  by_cases hc:blankB c=true
  ·simp only [pieces,hc,if_true,List.cons.injEq] at e
   exact .inr ⟨c,l,hc,by rw [← e.1];rfl,e.2.symm⟩
  ·have hc':blankB c=false:=by simpa using hc
   simp only [pieces,hc'] at e
   cases hp:pieces blankB l with
   | nil=>exact absurd hp (pieces_ne blankB l)
   | cons h2 t2 =>
    rw [hp] at e
    simp only [Bool.false_eq_true,if_false,List.cons.injEq] at e
    obtain ⟨rfl,rfl⟩:=e
    rcases piece_parts l h2 t2 hp with ⟨h1,h2⟩ | ⟨d,r,h1,h2,h3⟩
    ·exact .inl ⟨by rw [h1],h2⟩
    ·exact .inr ⟨d,r,h1,by rw [h2];rfl,h3⟩
theorem first_word {l w:BS} {ws:List BS} (hl:∀ c,l.head? = some c→blankB c=false) (h:wordsL l=w :: ws):w≠[]∧∃ r,l=w++r∧ws=wordsL r:=by
 cases l with
 | nil=>cases h
 | cons c r =>
  have hc:=hl c rfl
  cases hp:pieces blankB (c :: r) with
  | nil=>exact absurd hp (pieces_ne blankB _)
  | cons p t =>
   have hp0:p≠[]:=by
    rintro rfl
    rcases piece_parts _ _ _ hp with ⟨h1,_⟩ | ⟨d,r',h1,h2,_⟩
    ·cases h1
    ·cases h2;rw [h1] at hc;cases hc
   unfold wordsL at h
   rw [hp,List.filter_cons_of_pos (by simpa using hp0)] at h
   obtain ⟨rfl,h2⟩:=List.cons.inj h
   refine ⟨hp0,?_⟩
   rcases piece_parts _ _ _ hp with ⟨h1,h3⟩ | ⟨d,r',h1,h3,h4⟩
   ·exact ⟨[],by rw [List.append_nil];exact h1,by rw [← h2,h3];rfl⟩
   ·refine ⟨d :: r',h3,?_⟩
    rw [words_cons_blank h1,← h2,h4];rfl
theorem trim_void {l:BS}:trimOf l=[]↔wordsL l=[]:=by
 rw [← words_trim]
 constructor
 ·intro h;rw [h];rfl
 ·intro h
  cases hl:trimOf l with
  | nil=>rfl
  | cons c r =>
   exfalso
   have hc:blankB c=false:=(trim_tight l).1 c (by rw [hl];rfl)
   rw [hl] at h
   unfold wordsL at h
   have:pieces blankB (c :: r)≠[]:=pieces_ne blankB _
   cases hp:pieces blankB (c :: r) with
   | nil=>exact this hp
   | cons p t =>
    have hp0:p≠[]:=by
     rintro rfl
     rcases piece_parts _ _ _ hp with ⟨h1,_⟩ | ⟨d,r',h1,h2,_⟩
     ·cases h1
     ·cases h2;rw [h1] at hc;cases hc
    rw [hp,List.filter_cons_of_pos (by simpa using hp0)] at h
    cases h
def fwd (s:BS):BS × BS:=match wordsL s with | []=>([],[]) | w :: _=>(w,restL (trimOf s) w)
theorem fwd_nil {s:BS} (h:wordsL s=[]):fwd s=([],[]):=by unfold fwd;rw [h]
theorem fwd_cons {s w:BS} {ws:List BS} (h:wordsL s=w :: ws):fwd s=(w,restL (trimOf s) w):=by unfold fwd;rw [h]
theorem fwd_prefix {s w:BS} {ws:List BS} (h:wordsL s=w :: ws):Lib.trimPrefix (trimOf s) w=(trimOf s).drop w.length:=by
 rw [← words_trim] at h
 obtain ⟨_,r,hr,_⟩:=first_word (trim_tight s).1 h
 unfold Lib.trimPrefix Lib.hasPrefix
 rw [if_pos (by rw [List.isPrefixOf_iff_prefix,hr];exact List.prefix_append _ _)]
theorem rest_none {s w:BS} {ws:List BS} (h:wordsL s=w :: ws):restL (trimOf s) w=[]↔ws=[]:=by
 rw [← words_trim] at h
 obtain ⟨_,r,hr,hw⟩:=first_word (trim_tight s).1 h
 unfold restL
 rw [hr,List.drop_left,trim_void,hw]
theorem paren_is (l:BS):(Lib.hasPrefix l [40] && Lib.hasSuffix (Lib.trimPrefix l [40]) [41])=decide (2≤l.length∧l.head? = some 40∧l.getLast? = some 41):=by
 cases l with
 | nil=>rfl
 | cons c r =>
  by_cases hc:c=40
  ·subst hc
   have e1:Lib.hasPrefix (40 :: r) [40]=true:=by simp [Lib.hasPrefix,List.isPrefixOf]
   have e2:Lib.trimPrefix (40 :: r) [40]=r:=by unfold Lib.trimPrefix;rw [e1];rfl
   rw [e1,e2,Bool.true_and]
   unfold Lib.hasSuffix
   rcases List.eq_nil_or_concat r with rfl | ⟨u,d,rfl⟩
   ·rfl
   ·rw [List.concat_eq_append,Bool.eq_iff_iff,List.isSuffixOf_iff_suffix,decide_eq_true_eq]
    constructor
    ·rintro ⟨v,hv⟩
     obtain ⟨_,hd⟩:=List.append_inj' hv rfl
     cases hd
     refine ⟨by simp,rfl,?_⟩
     show ((40:UInt8) :: u++[41]).getLast? = some 41
     rw [List.getLast?_append];rfl
    ·rintro ⟨_,_,h⟩
     have h':((40:UInt8) :: u++[d]).getLast? = some 41:=h
     rw [List.getLast?_append] at h'
     have h2:d=41:=by simpa using h'
     subst h2
     exact List.suffix_append _ _
  ·have e1:Lib.hasPrefix (c :: r) [40]=false:=by
    have:(40 == c)=false:=by simpa using fun e:40=c=>hc e.symm
    simp [Lib.hasPrefix,List.isPrefixOf,this]
   rw [e1,Bool.false_and]
   refine (decide_eq_false fun h=>?_).symm
   have:=h.2.1
   simp at this
   exact hc this
theorem paren_mid {l:BS} (h:2≤l.length∧l.head? = some 40∧l.getLast? = some 41):Lib.trimSuffix (Lib.trimPrefix l [40]) [41]=l.tail.dropLast:=by
 have h1:=paren_is l
 rw [decide_eq_true h,Bool.and_eq_true] at h1
 have e:Lib.trimPrefix l [40]=l.tail:=by
  unfold Lib.trimPrefix
  rw [if_pos h1.1]
  cases l <;> rfl
 rw [e] at h1 ⊢
 unfold Lib.trimSuffix
 rw [if_pos h1.2,List.dropLast_eq_take];rfl
theorem mid_len (l:BS):(Lib.trimSuffix (Lib.trimPrefix l [40]) [41]).length≤l.length:=by
 have h1:(Lib.trimPrefix l [40]).length≤l.length:=by
  unfold Lib.trimPrefix
  split
  ·rw [List.length_drop];omega
  ·exact Nat.le_refl _
 refine Nat.le_trans ?_ h1
 unfold Lib.trimSuffix
 split
 ·rw [List.length_take];omega
 ·exact Nat.le_refl _
theorem signs_clean:NoBl signsL:=by
 have h:∀ x∈signsL,∀ c∈x,blankB c=false:=by decide
 exact h
theorem rule_head (no:Int) {a a':BS} (b:BS) (h:trimOf a=trimOf a'):ruleL no a b=ruleL no a' b:=by
 unfold ruleL ruleBad
 rw [h]
theorem eq_trim (no:Int) (s:BS):eqL no (trimOf s)=eqL no s:=by
 obtain ⟨h1,h2⟩:=cut_trim signs_clean s
 unfold eqL
 simp only
 rw [← h1]
 by_cases hn:(cutOf signsL s).2.1=[]
 ·rw [if_pos hn,if_pos hn]
 ·rw [if_neg hn,if_neg hn]
  obtain ⟨h3,t,ht,h4⟩:=h2 hn
  rw [h4,rule_trail no _ _ ht,trim_trail ht,h3,rule_head no _ h3]
theorem one_no (no:Int) (t:BS):oneL no t=(oneL 0 t).map fun n=>{ n with no:=no }:=by
 have hr:∀ a b,ruleL no a b=(ruleL 0 a b).map fun n=>{ n with no:=no }:=fun a b=>by
  unfold ruleL
  split <;> rfl
 have hi:∀ w r,ifL no w r=(ifL 0 w r).map fun n=>{ n with no:=no }:=fun w r=>by
  unfold ifL
  split
  ·simp only
   split <;> rfl
  ·rfl
 have he:∀ x,eqL no x=(eqL 0 x).map fun n=>{ n with no:=no }:=fun x=>by
  unfold eqL
  simp only
  split
  ·rfl
  ·split
   ·exact hr _ _
   ·split <;> rfl
 unfold oneL
 split
 ·rfl
 ·split
  ·exact hi _ _
  split
  ·split <;> rfl
  split
  ·split <;> rfl
  split
  ·split <;> rfl
  split
  ·split <;> rfl
  ·exact he _
end Go.Proofs.YtmfjolmfbdbegaaGreatDoor

namespace Go.Proofs.YtmfjolmfbdbegaaGreatDoor
open Go.RowKit Go.Shelf
def lays101_ren:Go.Shelf.Ren:=⟨fun | 101 => 69 | 206 => 61 | 208 => 109 | n=>n,fun | 3 => 3 | 4 => 4 | 9 => 9 | n=>n,fun | n=>n⟩
theorem lays101:Go.Proofs.Lays.n101 Tryz.prog lays101_ren:={
 mixed:=by kernel_rfl
 f101:=Tryz.func69.trans (congrArg some (by kernel_rfl))
 f206:=Tryz.func61.trans (congrArg some (by kernel_rfl))
 f208:=Tryz.func109.trans (congrArg some (by kernel_rfl))
 t3:=Tryz.underlying3
 a3:=Tryz.isAgg3
 z3:=Tryz.sizeOf3
 v3:=Tryz.zeroValue3
 t4:=Tryz.underlying4
 a4:=Tryz.isAgg4
 z4:=Tryz.sizeOf4
 v4:=Tryz.zeroValue4
 t9:=Tryz.underlying9
 a9:=Tryz.isAgg9
 z9:=Tryz.sizeOf9
 v9:=Tryz.zeroValue9 }
theorem trimPrefix_any (s p:ByteArray) (w:World):Calls Tryz.prog 69 #[.string s,.string p] w fun e w'=>e=.returned (.string (txt (Lib.trimPrefix s.data.toList p.data.toList)))∧w'=w :=
 Any.strings_TrimPrefix lays101 s p w
theorem cutPrefix_any (s p:ByteArray) (w:World):Calls Tryz.prog 70 #[.string s,.string p] w fun e w'=>e=.returned (.tuple #[.string (txt (Lib.trimPrefix s.data.toList p.data.toList)),.bool (Lib.hasPrefix s.data.toList p.data.toList)])∧w'=w :=
 Any.strings_CutPrefix lays103 s p w
theorem cutSuffix_any (s p:ByteArray) (hs:s.size≤9223372036854775807) (w:World):Calls Tryz.prog 71 #[.string s,.string p] w fun e w'=>e=.returned (.tuple #[.string (txt (Lib.trimSuffix s.data.toList p.data.toList)),.bool (Lib.hasSuffix s.data.toList p.data.toList)])∧w'=w :=
 Any.strings_CutSuffix lays104 s p w hs
end Go.Proofs.YtmfjolmfbdbegaaGreatDoor

namespace Go.Proofs.YtmfjolmfbdbegaaGreatDoor
open Go.RowKit Go.Shelf
attribute [local go_sem] Oper.semAt_some
section
variable {w0 wr w':World} {l:BS} {n i:Nat} {st:List UInt8} {pre:List Bool} {sv:Value}
end
end Go.Proofs.YtmfjolmfbdbegaaGreatDoor

namespace Go.Proofs.YtmfjolmfbdbegaaGreatDoor
open Go.RowKit Go.Shelf
attribute [local go_sem] Oper.semAt_some
end Go.Proofs.YtmfjolmfbdbegaaGreatDoor

namespace Go.Proofs.YtmfjolmfbdbegaaGreatDoor
open Go.RowKit Go.Shelf
attribute [local go_sem] Oper.semAt_some
abbrev cellsN (nd:Nd):Array Value:=#[.int .i64 nd.kind,.int .i64 nd.no,.string (txt nd.op),.string (txt nd.name),.string (txt nd.text),.string (txt nd.targets),.string (txt nd.pattern),.string (txt nd.inputs),.string (txt nd.order),.slice none 0 0]
def zeroN:Nd:=⟨0,0,[],[],[],[],[],[],[],[]⟩
def doneN (wr:World) (z:Nat) (v0 v1 v2 v3 v4 v5 v6 v7 v8 v9:Value):World :=
 (((((((((wr.setCell ⟨z,0,none⟩ v0).setCell ⟨z,1,none⟩ v1).setCell ⟨z,2,none⟩ v2).setCell ⟨z,3,none⟩ v3).setCell ⟨z,4,none⟩ v4).setCell ⟨z,5,none⟩ v5).setCell ⟨z,6,none⟩ v6).setCell ⟨z,7,none⟩ v7).setCell ⟨z,8,none⟩ v8).setCell ⟨z,9,none⟩ v9
theorem below_drewE {B:Nat} {a w:World} (h:Below B a w):Below B a w.drew:=⟨h.os,h.tape,h.output,h.size,h.block⟩
def OnePost (r:Option Nd) (w:World) (e:Ending) (w':World):Prop :=
 ∃ nd,e=.returned (.tuple #[.agg (cellsN nd),.bool r.isSome])∧(∀ n,r=some n→nd=n)∧Below w.heap.size w w'
theorem words_is (l:BS):wordsOf l=(wordsL l).map txt:=by
 unfold wordsOf wordsL
 induction pieces blankB l with
 | nil=>rfl
 | cons x r ih =>
  rw [List.map_cons,List.filter_cons,List.filter_cons,ih]
  have e:isWord (txt x)=decide (x≠[]):=by
   unfold isWord
   rw [txt_toL]
   cases x <;> rfl
  rw [e]
  split <;> rfl
theorem drewN_below' {B:Nat} {a w:World} (h:Below B a w):Below B a w.drew:=⟨h.os,h.tape,h.output,h.size,h.block⟩
end Go.Proofs.YtmfjolmfbdbegaaGreatDoor

namespace Go.Proofs.YtmfjolmfbdbegaaGreatDoor
open Go.RowKit Go.Shelf
attribute [local go_sem] Oper.semAt_some
structure TwoP (w wr:World) (k:Nat) (cs:Array Value):Prop where
 back:Below w.heap.size w wr
 lt:w.heap.size < k
 zero:∃ zs:Array Value,zs.size=10∧wr.heap[w.heap.size]? = some (.cells zs 79 (0,0))
 own:wr.heap[k]? = some (.cells cs 79 (0,0))
section
variable {w wr w':World} {k:Nat} {cs:Array Value}
theorem TwoP.below (h:TwoP w wr k cs) (hb:Below wr.heap.size wr w'):TwoP w w' k cs:=by
 obtain ⟨zs,hz1,hz2⟩:=h.zero
 exact ⟨h.back.trans (hb.mono h.back.size),h.lt,⟨zs,hz1,(hb.block _ (Array.getElem?_eq_some_iff.1 hz2).1).trans hz2⟩,(hb.block _ (Array.getElem?_eq_some_iff.1 h.own).1).trans h.own⟩
theorem TwoP.set (h:TwoP w wr k cs) (j:Nat) (v:Value):TwoP w (wr.setCell ⟨k,j,none⟩ v) k (cs.set! j v):=by
 obtain ⟨zs,hz1,hz2⟩:=h.zero
 have hne:k≠w.heap.size:=by have:=h.lt;omega
 have ho:=h.own
 refine ⟨h.back.trans ((Turned.setCell (X:=fun n=>w.heap.size≤n) wr ⟨k,j,none⟩ v (Nat.le_of_lt h.lt)).below h.back.size fun n hn=>hn),h.lt,⟨zs,hz1,?_⟩,?_⟩
 ·rw [← hz2]
  generalize w.heap.size=z at hne ⊢
  simp [World.setCell,Array.getElem?_modify,hne]
 ·simp [World.setCell,Array.getElem?_modify,ho]
theorem TwoP.cells {v0 v1 v2 v3 v4 v5 v6 v7 v8 v9:Value} (h:TwoP w wr k #[v0,v1,v2,v3,v4,v5,v6,v7,v8,v9]):(wr.cell? ⟨k,0,none⟩=some v0∧wr.cell? ⟨k,1,none⟩=some v1∧wr.cell? ⟨k,2,none⟩=some v2∧wr.cell? ⟨k,3,none⟩=some v3∧wr.cell? ⟨k,4,none⟩=some v4∧wr.cell? ⟨k,5,none⟩=some v5∧wr.cell? ⟨k,6,none⟩=some v6∧wr.cell? ⟨k,7,none⟩=some v7∧wr.cell? ⟨k,8,none⟩=some v8∧wr.cell? ⟨k,9,none⟩=some v9)∧(∀ j,wr.frozen? ⟨k,j,none⟩=false):=by
 refine ⟨⟨?_,?_,?_,?_,?_,?_,?_,?_,?_,?_⟩,Lib.frozen_of_heap h.own⟩ <;> (rw [Lib.cell_of_heap h.own];rfl)
theorem TwoP.zcells (h:TwoP w wr k cs):(∀ j,j < 10→∃ v,wr.cell? ⟨w.heap.size,j,none⟩=some v)∧∀ j,wr.frozen? ⟨w.heap.size,j,none⟩=false:=by
 obtain ⟨zs,hz1,hz2⟩:=h.zero
 refine ⟨fun j hj=>⟨zs[j]'(by omega),?_⟩,Lib.frozen_of_heap hz2⟩
 rw [Lib.cell_of_heap hz2];simp
theorem TwoP.done (h:TwoP w wr k cs) (v0 v1 v2 v3 v4 v5 v6 v7 v8 v9:Value) :
  Below w.heap.size w (doneN wr w.heap.size v0 v1 v2 v3 v4 v5 v6 v7 v8 v9)∧(doneN wr w.heap.size v0 v1 v2 v3 v4 v5 v6 v7 v8 v9).heap[w.heap.size]? = some (.cells #[v0,v1,v2,v3,v4,v5,v6,v7,v8,v9] 79 (0,0)):=by
 obtain ⟨zs,hz1,hz2⟩:=h.zero
 have hT:∀ (u:World) (j:Nat) (v:Value),Turned (fun n=>w.heap.size≤n) u (u.setCell ⟨w.heap.size,j,none⟩ v):=fun u j v=>Turned.setCell (X:=fun n=>w.heap.size≤n) u ⟨w.heap.size,j,none⟩ v (Nat.le_refl _)
 constructor
 ·unfold doneN
  exact h.back.trans ((((((((((((hT _ _ _).trans (hT _ _ _)).trans (hT _ _ _)).trans (hT _ _ _)).trans (hT _ _ _)).trans (hT _ _ _)).trans (hT _ _ _)).trans (hT _ _ _)).trans (hT _ _ _)).trans (hT _ _ _)).below h.back.size fun n hn=>hn))
 ·unfold doneN
  generalize w.heap.size=z at hz2 ⊢
  obtain ⟨l,rfl⟩:∃ l:List Value,zs=l.toArray:=⟨zs.toList,by simp⟩
  match l,hz1 with
  | [a0,a1,a2,a3,a4,a5,a6,a7,a8,a9],_ =>
   simp [World.setCell,Array.getElem?_modify,hz2]
end
theorem TwoP.fin {w wr:World} {k:Nat} {cs:Array Value} (h:TwoP w wr k cs) (v0 v1 v2 v3 v4 v5 v6 v7 v8 v9:Value) :
  Below w.heap.size w (doneN wr w.heap.size v0 v1 v2 v3 v4 v5 v6 v7 v8 v9)∧(doneN wr w.heap.size v0 v1 v2 v3 v4 v5 v6 v7 v8 v9).cell? ⟨w.heap.size,0,none⟩=some v0∧(doneN wr w.heap.size v0 v1 v2 v3 v4 v5 v6 v7 v8 v9).cell? ⟨w.heap.size,1,none⟩=some v1∧(doneN wr w.heap.size v0 v1 v2 v3 v4 v5 v6 v7 v8 v9).cell? ⟨w.heap.size,2,none⟩=some v2∧(doneN wr w.heap.size v0 v1 v2 v3 v4 v5 v6 v7 v8 v9).cell? ⟨w.heap.size,3,none⟩=some v3∧(doneN wr w.heap.size v0 v1 v2 v3 v4 v5 v6 v7 v8 v9).cell? ⟨w.heap.size,4,none⟩=some v4∧(doneN wr w.heap.size v0 v1 v2 v3 v4 v5 v6 v7 v8 v9).cell? ⟨w.heap.size,5,none⟩=some v5∧(doneN wr w.heap.size v0 v1 v2 v3 v4 v5 v6 v7 v8 v9).cell? ⟨w.heap.size,6,none⟩=some v6∧(doneN wr w.heap.size v0 v1 v2 v3 v4 v5 v6 v7 v8 v9).cell? ⟨w.heap.size,7,none⟩=some v7∧(doneN wr w.heap.size v0 v1 v2 v3 v4 v5 v6 v7 v8 v9).cell? ⟨w.heap.size,8,none⟩=some v8∧(doneN wr w.heap.size v0 v1 v2 v3 v4 v5 v6 v7 v8 v9).cell? ⟨w.heap.size,9,none⟩=some v9:=by
 obtain ⟨h1,h2⟩:=h.done v0 v1 v2 v3 v4 v5 v6 v7 v8 v9
 refine ⟨h1,?_,?_,?_,?_,?_,?_,?_,?_,?_,?_⟩ <;> (rw [Lib.cell_of_heap h2];rfl)
theorem TwoP.finD {w wr:World} {k:Nat} {cs:Array Value} (h:TwoP w wr k cs) (v0 v1 v2 v3 v4 v5 v6 v7 v8 v9:Value) :
  Below w.heap.size w (doneN wr w.heap.size v0 v1 v2 v3 v4 v5 v6 v7 v8 v9).drew∧(doneN wr w.heap.size v0 v1 v2 v3 v4 v5 v6 v7 v8 v9).drew.cell? ⟨w.heap.size,0,none⟩=some v0∧(doneN wr w.heap.size v0 v1 v2 v3 v4 v5 v6 v7 v8 v9).drew.cell? ⟨w.heap.size,1,none⟩=some v1∧(doneN wr w.heap.size v0 v1 v2 v3 v4 v5 v6 v7 v8 v9).drew.cell? ⟨w.heap.size,2,none⟩=some v2∧(doneN wr w.heap.size v0 v1 v2 v3 v4 v5 v6 v7 v8 v9).drew.cell? ⟨w.heap.size,3,none⟩=some v3∧(doneN wr w.heap.size v0 v1 v2 v3 v4 v5 v6 v7 v8 v9).drew.cell? ⟨w.heap.size,4,none⟩=some v4∧(doneN wr w.heap.size v0 v1 v2 v3 v4 v5 v6 v7 v8 v9).drew.cell? ⟨w.heap.size,5,none⟩=some v5∧(doneN wr w.heap.size v0 v1 v2 v3 v4 v5 v6 v7 v8 v9).drew.cell? ⟨w.heap.size,6,none⟩=some v6∧(doneN wr w.heap.size v0 v1 v2 v3 v4 v5 v6 v7 v8 v9).drew.cell? ⟨w.heap.size,7,none⟩=some v7∧(doneN wr w.heap.size v0 v1 v2 v3 v4 v5 v6 v7 v8 v9).drew.cell? ⟨w.heap.size,8,none⟩=some v8∧(doneN wr w.heap.size v0 v1 v2 v3 v4 v5 v6 v7 v8 v9).drew.cell? ⟨w.heap.size,9,none⟩=some v9:=by
 obtain ⟨h1,r0,r1,r2,r3,r4,r5,r6,r7,r8,r9⟩:=h.fin v0 v1 v2 v3 v4 v5 v6 v7 v8 v9
 have e:∀ (u:World) a,u.drew.cell? a=u.cell? a:=fun _ _=>rfl
 exact ⟨below_drewE h1,(e _ _).trans r0,(e _ _).trans r1,(e _ _).trans r2,(e _ _).trans r3,(e _ _).trans r4,(e _ _).trans r5,(e _ _).trans r6,(e _ _).trans r7,(e _ _).trans r8,(e _ _).trans r9⟩
theorem finP0 {w wr:World} (hb:Below w.heap.size w wr) (hz:∃ zs:Array Value,zs.size=10∧wr.heap[w.heap.size]? = some (.cells zs 79 (0,0))) (v0 v1 v2 v3 v4 v5 v6 v7 v8 v9:Value) :
  Below w.heap.size w (doneN wr w.heap.size v0 v1 v2 v3 v4 v5 v6 v7 v8 v9)∧(doneN wr w.heap.size v0 v1 v2 v3 v4 v5 v6 v7 v8 v9).cell? ⟨w.heap.size,0,none⟩=some v0∧(doneN wr w.heap.size v0 v1 v2 v3 v4 v5 v6 v7 v8 v9).cell? ⟨w.heap.size,1,none⟩=some v1∧(doneN wr w.heap.size v0 v1 v2 v3 v4 v5 v6 v7 v8 v9).cell? ⟨w.heap.size,2,none⟩=some v2∧(doneN wr w.heap.size v0 v1 v2 v3 v4 v5 v6 v7 v8 v9).cell? ⟨w.heap.size,3,none⟩=some v3∧(doneN wr w.heap.size v0 v1 v2 v3 v4 v5 v6 v7 v8 v9).cell? ⟨w.heap.size,4,none⟩=some v4∧(doneN wr w.heap.size v0 v1 v2 v3 v4 v5 v6 v7 v8 v9).cell? ⟨w.heap.size,5,none⟩=some v5∧(doneN wr w.heap.size v0 v1 v2 v3 v4 v5 v6 v7 v8 v9).cell? ⟨w.heap.size,6,none⟩=some v6∧(doneN wr w.heap.size v0 v1 v2 v3 v4 v5 v6 v7 v8 v9).cell? ⟨w.heap.size,7,none⟩=some v7∧(doneN wr w.heap.size v0 v1 v2 v3 v4 v5 v6 v7 v8 v9).cell? ⟨w.heap.size,8,none⟩=some v8∧(doneN wr w.heap.size v0 v1 v2 v3 v4 v5 v6 v7 v8 v9).cell? ⟨w.heap.size,9,none⟩=some v9:=by
 obtain ⟨zs,hz1,hz2⟩:=hz
 have hT:∀ (u:World) (j:Nat) (v:Value),Turned (fun n=>w.heap.size≤n) u (u.setCell ⟨w.heap.size,j,none⟩ v):=fun u j v=>Turned.setCell (X:=fun n=>w.heap.size≤n) u ⟨w.heap.size,j,none⟩ v (Nat.le_refl _)
 have h2:(doneN wr w.heap.size v0 v1 v2 v3 v4 v5 v6 v7 v8 v9).heap[w.heap.size]? = some (.cells #[v0,v1,v2,v3,v4,v5,v6,v7,v8,v9] 79 (0,0)):=by
  unfold doneN
  generalize w.heap.size=z at hz2 ⊢
  obtain ⟨l,rfl⟩:∃ l:List Value,zs=l.toArray:=⟨zs.toList,by simp⟩
  match l,hz1 with
  | [a0,a1,a2,a3,a4,a5,a6,a7,a8,a9],_ =>
   simp [World.setCell,Array.getElem?_modify,hz2]
 refine ⟨?_,?_,?_,?_,?_,?_,?_,?_,?_,?_,?_⟩
 ·unfold doneN
  exact hb.trans ((((((((((((hT _ _ _).trans (hT _ _ _)).trans (hT _ _ _)).trans (hT _ _ _)).trans (hT _ _ _)).trans (hT _ _ _)).trans (hT _ _ _)).trans (hT _ _ _)).trans (hT _ _ _)).trans (hT _ _ _)).below hb.size fun n hn=>hn))
 all_goals (rw [Lib.cell_of_heap h2];rfl)
def ZeroP (w wr:World):Prop:=Below w.heap.size w wr∧∃ zs:Array Value,zs.size=10∧wr.heap[w.heap.size]? = some (.cells zs 79 (0,0))
section
variable {w wr w':World}
theorem ZeroP.start (w:World):ZeroP w (w.alloc (.cells (cellsN zeroN) 79)):=⟨(Below.refl _ w).alloc (Nat.le_refl _) _,_,rfl,World.alloc_heap_new w _⟩
theorem ZeroP.lt (h:ZeroP w wr):w.heap.size < wr.heap.size:=by
 obtain ⟨_,zs,_,h2⟩:=h
 exact (Array.getElem?_eq_some_iff.1 h2).1
theorem ZeroP.below (h:ZeroP w wr) (hb:Below wr.heap.size wr w'):ZeroP w w':=by
 obtain ⟨h0,zs,h1,h2⟩:=h
 exact ⟨h0.trans (hb.mono h0.size),zs,h1,(hb.block _ (Array.getElem?_eq_some_iff.1 h2).1).trans h2⟩
theorem ZeroP.own (h:ZeroP w wr) (cs:Array Value):TwoP w (wr.alloc (.cells cs 79)) wr.heap.size cs:=by
 have h1:=h.below ((Below.refl _ wr).alloc (Nat.le_refl _) (.cells cs 79))
 exact ⟨h1.1,h.lt,h1.2,World.alloc_heap_new wr _⟩
theorem ZeroP.cells (h:ZeroP w wr):(∀ j,j < 10→∃ v,wr.cell? ⟨w.heap.size,j,none⟩=some v)∧∀ j,wr.frozen? ⟨w.heap.size,j,none⟩=false:=by
 obtain ⟨_,zs,hz1,hz2⟩:=h
 refine ⟨fun j hj=>⟨zs[j]'(by omega),?_⟩,Lib.frozen_of_heap hz2⟩
 rw [Lib.cell_of_heap hz2];simp
end
theorem pcutOne (c:UInt8) (z:ByteArray) (hz:z.size≤1000000) (W:World) (q:Nat) (hq:q=W.heap.size):Calls Tryz.prog 72 #[.string z,.slice (some ⟨q,0,none⟩) 1 1] (W.alloc (.cells #[.string ⟨#[c]⟩] 9)) fun e w' =>
  e=.returned (.tuple #[.string (txt (cutOf [[c]] z.data.toList).1),.string (txt (cutOf [[c]] z.data.toList).2.1),.string (txt (cutOf [[c]] z.data.toList).2.2)])∧Below W.heap.size W w':=by
 subst hq
 have hh:=World.alloc_heap_new W (.cells #[.string ⟨#[c]⟩] 9)
 have hr:ReadsO (W.alloc (.cells #[.string ⟨#[c]⟩] 9)) (W.alloc (.cells #[.string ⟨#[c]⟩] 9)).heap.size (.slice (some ⟨W.heap.size,0,none⟩) 1 1) ([[c]].map txt):=by
  refine ⟨_,_,rfl,fun k x hk=>⟨W.heap.size,0,rfl,by simp,by simp,?_⟩⟩
  cases k with
  | zero =>
   cases hk
   rw [Lib.cell_of_heap hh];rfl
  | succ k=>simp at hk
 refine (pcut_any _ [[c]] z _ hr (by simp) (by simp) (by omega)).mono ?_
 rintro e w' ⟨rfl,hb⟩
 exact ⟨rfl,((Below.refl _ W).alloc (Nat.le_refl _) _).trans (hb.mono (by simp))⟩
theorem pcutFive (z:ByteArray) (hz:z.size≤1000000) (W:World) (q:Nat) (hq:q=W.heap.size):Calls Tryz.prog 72 #[.string z,.slice (some ⟨q,0,none⟩) 5 5] (W.alloc (.cells #[.string ⟨#[58,61]⟩,.string ⟨#[63,61]⟩,.string ⟨#[43,61]⟩,.string ⟨#[61]⟩,.string ⟨#[58]⟩] 9)) fun e w' =>
  e=.returned (.tuple #[.string (txt (cutOf signsL z.data.toList).1),.string (txt (cutOf signsL z.data.toList).2.1),.string (txt (cutOf signsL z.data.toList).2.2)])∧Below W.heap.size W w':=by
 subst hq
 have hh:=World.alloc_heap_new W (.cells #[.string ⟨#[58,61]⟩,.string ⟨#[63,61]⟩,.string ⟨#[43,61]⟩,.string ⟨#[61]⟩,.string ⟨#[58]⟩] 9)
 have hr:ReadsO (W.alloc (.cells #[.string ⟨#[58,61]⟩,.string ⟨#[63,61]⟩,.string ⟨#[43,61]⟩,.string ⟨#[61]⟩,.string ⟨#[58]⟩] 9)) (W.alloc (.cells #[.string ⟨#[58,61]⟩,.string ⟨#[63,61]⟩,.string ⟨#[43,61]⟩,.string ⟨#[61]⟩,.string ⟨#[58]⟩] 9)).heap.size (.slice (some ⟨W.heap.size,0,none⟩) 5 5) (signsL.map txt):=by
  refine ⟨_,_,rfl,fun k x hk=>⟨W.heap.size,0,rfl,by simp,by simp [signsL],?_⟩⟩
  rw [Lib.cell_of_heap hh]
  match k,hk with
  | 0,hk=>cases hk;rfl
  | 1,hk=>cases hk;rfl
  | 2,hk=>cases hk;rfl
  | 3,hk=>cases hk;rfl
  | 4,hk=>cases hk;rfl
  | k+5,hk=>simp [signsL] at hk
 refine (pcut_any _ signsL z _ hr (by simp [signsL]) (by simp [signsL]) (by omega)).mono ?_
 rintro e w' ⟨rfl,hb⟩
 exact ⟨rfl,((Below.refl _ W).alloc (Nat.le_refl _) _).trans (hb.mono (by simp))⟩
theorem trimQ (z:ByteArray) (hz:z.size≤1000000) (W:World):Calls Tryz.prog 47 #[.string z] W fun e w'=>e=.returned (.string (txt (trimOf z.data.toList)))∧Below W.heap.size W w':=trim_any z (by unfold maxLen;omega) W
theorem isThere_any (c:UInt8) (s:ByteArray) (hs:s.size≤1000000) (w:World):Calls Tryz.prog 114 #[.string ⟨#[c]⟩,.string s] w fun e w'=>e=.returned (.bool (!decide ((cutOf [[c]] s.data.toList).2.1=[])))∧Below w.heap.size w w':=by
 have HC:=Lib.hid (pcutOne c s hs)
 obtain ⟨k1,hk1⟩:∃ x,x=(cutOf [[c]] s.data.toList).1:=⟨_,rfl⟩
 obtain ⟨k2,hk2⟩:∃ x,x=(cutOf [[c]] s.data.toList).2.1:=⟨_,rfl⟩
 obtain ⟨k3,hk3⟩:∃ x,x=(cutOf [[c]] s.data.toList).2.2:=⟨_,rfl⟩
 rw [← hk1,← hk2,← hk3] at HC
 rw [← hk2]
 clear hk1 hk2 hk3
 have eb:(txt k2).toList.isEmpty=decide (k2=[]):=by rw [txt_toL];cases k2 <;> rfl
 generalize decide (k2=[])=b at eb ⊢
 go_enter Tryz.func114,Tryz.ntmps114
 go_wp2_with fail
 refine (HC.out _ _ rfl).mono ?_
 rintro e w1 ⟨rfl,hb1⟩
 go_wp2
 go_ret
 exact ⟨rfl,hb1⟩
end Go.Proofs.YtmfjolmfbdbegaaGreatDoor
