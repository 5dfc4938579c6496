/-
  Makefiles whose lines are plain: what Lex and Parse tell of them; no program, no world. No condition.
  What a makefile comes to that names what is phony, line by line; no program, no world. No condition.
  What the statements' own plain and In answer. No condition but sizes.
-/
import Derived.Test.YtmfjolmfbdbegaaGreatDoorY1
import Derived.Test.YtmfjolmfbdbegaaGreatDoorY6
import Derived.Test.YtmfjolmfbdbegaaGreatDoorY7
namespace Go.Proofs.YtmfjolmfbdbegaaGreatDoor
def safeB (c:UInt8):Bool:=decide ((46≤c.toNat∧c.toNat≤57)∨(65≤c.toNat∧c.toNat≤90)∨(97≤c.toNat∧c.toNat≤122))
def Safe (l:BS):Prop:=∀ c∈l,safeB c=true
theorem safe_ne {c:UInt8} (h:safeB c=true):c≠36∧c≠58∧c≠63∧c≠43∧c≠61∧c≠32∧c≠9∧c≠10∧c≠92∧c≠35∧c≠124∧c≠44∧c≠37:=by
 refine ⟨?_,?_,?_,?_,?_,?_,?_,?_,?_,?_,?_,?_,?_⟩ <;> (rintro rfl;revert h;decide)
theorem safe_blank {c:UInt8} (h:safeB c=true):blankB c=false:=by
 obtain ⟨_,_,_,_,_,h1,h2,_⟩:=safe_ne h
 cases hb:blankB c with
 | false=>rfl
 | true => rcases blankB_is.1 hb with e | e
           · exact absurd e h1
           · exact absurd e h2
theorem safe_tight {t:BS} (h:Safe t):Tight t:=by
 refine ⟨fun c hc=>safe_blank (h c ?_),fun c hc=>safe_blank (h c (List.mem_of_getLast? hc))⟩
 cases t with
 | nil=>cases hc
 | cons d r=>cases hc;simp
theorem safe_trim {t:BS} (h:Safe t):trimOf t=t:=trim_id (safe_tight h)
theorem trim_blank (t:BS):trimOf (32 :: t)=trimOf t:=by
 unfold trimOf
 rw [cutL_cons]
 rfl
theorem safe_36 {t:BS} (h:Safe t):36∉t:=fun hc=>(safe_ne (h _ hc)).1 rfl
theorem cut_safe {signs:List BS} (hs:∀ x∈signs,∀ c,x.head? = some c→safeB c=false∧c≠32) {t:BS} (h:∀ c∈t,safeB c=true∨c=32) (v:BS):cutW signs [] (t++v)=(t++(cutW signs [] v).1,(cutW signs [] v).2.1,(cutW signs [] v).2.2) :=
 cutW_clean t v fun c hc=>by
  rcases h c hc with h | rfl
  ·refine ⟨(safe_ne h).1,fun x hx e=>?_⟩
   have:=(hs x hx c e).1
   rw [h] at this
   cases this
  ·exact ⟨by decide,fun x hx e=>(hs x hx 32 e).2 rfl⟩
theorem cut_safe_all {signs:List BS} (hs:∀ x∈signs,∀ c,x.head? = some c→safeB c=false∧c≠32) {t:BS} (h:∀ c∈t,safeB c=true∨c=32):cutOf signs t=(t,[],[]):=by
 have:=cut_safe hs h []
 rw [List.append_nil,cutW_nil,List.append_nil] at this
 exact this
theorem hs_colon:∀ x∈([[58]]:List BS),∀ c,x.head? = some c→safeB c=false∧c≠32:=fun x hx c hc=>by
 rw [List.mem_singleton.1 hx] at hc
 cases hc
 decide
theorem hs_bar:∀ x∈([[124]]:List BS),∀ c,x.head? = some c→safeB c=false∧c≠32:=fun x hx c hc=>by
 rw [List.mem_singleton.1 hx] at hc
 cases hc
 decide
theorem hs_signs:∀ x∈signsL,∀ c,x.head? = some c→safeB c=false∧c≠32:=fun x hx c hc=>by
 simp only [signsL,List.mem_cons,List.not_mem_nil,or_false] at hx
 rcases hx with rfl | rfl | rfl | rfl | rfl <;> (cases hc;decide)
theorem safe_mem {t:BS} (h:Safe t):∀ c∈t,safeB c=true∨c=32:=fun c hc=>.inl (h c hc)
theorem safe_mem32 {t:BS} (h:Safe t):∀ c∈32 :: t,safeB c=true∨c=32:=fun c hc=>(List.mem_cons.1 hc).elim .inr fun hc=>.inl (h c hc)
theorem words_safe {t:BS} (h:Safe t) (h0:t≠[]):wordsL t=[t]:=by
 unfold wordsL
 rw [pieces_none blankB _ (fun c hc=>safe_blank (h c hc))]
 simp [h0]
theorem words_first {u v:BS} (hu:∀ c∈u,blankB c=false) (h0:u≠[]):∃ ws,wordsL (u++32 :: v)=u :: ws:=by
 unfold wordsL
 rw [pieces_app blankB u 32 v rfl,pieces_none blankB u hu]
 exact ⟨(pieces blankB v).filter fun x=>decide (x≠[]),by simp [h0]⟩
theorem rule_one {t w:BS} (ht:Safe t) (hw:Safe w) (h1:t≠[]) (h2:w≠[]) (no:Int):oneL no (t++58 :: 32 :: w)=some ⟨2,no,[],[],[],t,[],w,[],[]⟩:=by
 have hT:Tight (t++58 :: 32 :: w):=by
  refine ⟨fun c hc=>?_,fun c hc=>?_⟩
  ·cases t with
   | nil=>exact absurd rfl h1
   | cons d r=>injection hc with hc;rw [← hc];exact safe_blank (ht d (by simp))
  ·refine safe_blank (hw c (List.mem_of_getLast? ?_))
   rw [List.getLast?_append,List.getLast?_cons_cons,List.getLast?_cons] at hc
   cases hl:w.getLast? with
   | none=>exact absurd (List.getLast?_eq_none_iff.1 hl) h2
   | some d=>rw [hl] at hc;simpa using hc
 have hcl:∀ c∈t++[58],blankB c=false:=fun c hc=>by
  rcases List.mem_append.1 hc with hc | hc
  ·exact safe_blank (ht c hc)
  ·rw [List.mem_singleton.1 hc];rfl
 have e1:t++58 :: 32 :: w=(t++[58])++32 :: w:=by simp
 obtain ⟨ws,hws⟩:=words_first (v:=w) hcl (by simp)
 have hne:∀ w:BS,(∀ c∈w,c≠58)→t++[58]≠w:=fun w hc e=>hc 58 (by rw [← e];simp) rfl
 have hc:cutOf signsL (t++58 :: 32 :: w)=(t,[58],32 :: w):=by
  unfold cutOf
  rw [cut_safe hs_signs (safe_mem ht)]
  have e:cutW signsL [] (58 :: 32 :: w)=([],[58],32 :: w):=by
   rw [cutW_sign (x:=[58]) (opens_none (by decide)) (by simp [signAt,signsL,List.isPrefixOf])]
   rfl
  rw [e];simp
 have hr:ruleL no t (32 :: w)=some ⟨2,no,[],[],[],t,[],w,[],[]⟩:=by
  have e1:cutOf [[58]] (32 :: w)=(32 :: w,[],[]):=cut_safe_all hs_colon (safe_mem32 hw)
  have e2:cutOf [[124]] (32 :: w)=(32 :: w,[],[]):=cut_safe_all hs_bar (safe_mem32 hw)
  have er:ruleRest (32 :: w)=32 :: w:=by unfold ruleRest;rw [e1];rfl
  have ep:rulePat (32 :: w)=[]:=by unfold rulePat;rw [e1];rfl
  have eb:ruleBad t (32 :: w)=false:=by
   unfold ruleBad
   rw [er,e1,e2,safe_trim ht]
   simp [h1]
  unfold ruleL
  rw [eb,er,ep,e2,safe_trim ht,trim_blank,safe_trim hw]
  rfl
 unfold oneL
 rw [trim_id hT,e1,hws,← e1]
 simp only
 rw [if_neg (by rintro (e | e) <;> exact hne _ (by decide) e),if_neg (by rintro (e | e) <;> exact hne _ (by decide) e),if_neg (hne _ (by decide)),if_neg (hne _ (by decide)),if_neg (by rintro (e | e) <;> exact hne _ (by decide) e)]
 unfold eqL
 rw [hc]
 simp only
 rw [if_neg (by simp),if_pos trivial,hr]
structure PlainL (a:BS):Prop where
 clean:∀ c∈a,c≠10∧c≠92∧c≠35
 tight:Tight a
 some:a≠[]
 short:a.length≤1000
def numL:Nat→List BS→List Item
 | _,[]=>[]
 | no,a :: r=>(no,false,a) :: numL (no+1) r
def ended (Ls:List BS):BS:=(Ls.map fun a=>a++[10]).flatten
theorem lines_ended:∀ Ls:List BS,(∀ a∈Ls,PlainL a)→linesL (ended Ls)=Ls
 | [],_=>rfl
 | a :: r,h=>by
  have e:ended (a :: r)=a++10 :: ended r:=by unfold ended;simp
  rw [e,lines_app,pieces_one (fun c hc=>((h a List.mem_cons_self).clean c hc).1),lines_ended r fun b hb=>h b (List.mem_cons_of_mem _ hb)]
  rfl
theorem text_plainL {a:BS} (h:PlainL a):tabL a=false∧textL false a=a:=by
 have h1:tabL a=false:=by
  unfold tabL
  cases a with
  | nil=>rfl
  | cons c r =>
   have:=h.tight.1 c rfl
   have hc:c≠9:=by rintro rfl;revert this;decide
   simp [hc]
 have h2:bareL a=a:=by
  unfold bareL
  have:∀ l:BS,(∀ c∈l,c≠35)→l.takeWhile (fun c=>!hashB c)=l:=fun l=>by
   induction l with
   | nil=>intro _;rfl
   | cons d r ih =>
    intro hl
    have hd:hashB d=false:=by
     cases hh:hashB d with
     | false=>rfl
     | true=>exact absurd (hashB_is.1 hh) (hl d List.mem_cons_self)
    rw [List.takeWhile_cons,hd]
    simp only [Bool.not_false,if_true]
    rw [ih fun c hc=>hl c (List.mem_cons_of_mem _ hc)]
  exact this a fun c hc=>(h.clean c hc).2.2
 refine ⟨h1,?_⟩
 unfold textL
 rw [if_neg (by simp),h2,trim_id h.tight]
theorem items_plain:∀ (Ls:List BS) (no:Nat),(∀ a∈Ls,PlainL a)→itemsL no Ls=numL no Ls
 | [],no,_=>items_nil no
 | a :: r,no,h=>by
  have ha:=h a List.mem_cons_self
  obtain ⟨h1,h2⟩:=text_plainL ha
  have hg:glue a r=(a,0):=glue_even (odd_none fun c hc=>(ha.clean c hc).2.1) r
  rw [items_some (by rw [hg,h1];simp only;rw [h2];exact ha.some),hg,h1]
  simp only
  rw [h2,List.drop_zero,Nat.add_zero,items_plain r _ fun b hb=>h b (List.mem_cons_of_mem _ hb)]
  rfl
theorem scan_plain:∀ (Ls:List BS) (no m:Nat),(∀ a∈Ls,PlainL a)→m+Ls.length≤300→scanL m (numL no Ls)=none
 | [],_,_,_,_=>rfl
 | a :: r,no,m,h,hl=>by
  simp only [List.length_cons] at hl
  have:=(h a List.mem_cons_self).short
  unfold numL scanL
  rw [if_neg (by simp only;omega)]
  exact scan_plain r _ _ (fun b hb=>h b (List.mem_cons_of_mem _ hb)) (by omega)
theorem lex_plain {Ls:List BS} (h:∀ a∈Ls,PlainL a) (hl:Ls.length≤300):lexOf (ended Ls)=(numL 1 Ls,0,0):=by
 have e:itemsL 1 (linesL (ended Ls))=numL 1 Ls:=by rw [lines_ended Ls h,items_plain Ls 1 h]
 have:=lex_ok (s:=ended Ls) (by rw [e];exact scan_plain Ls 1 0 h (by omega))
 rw [this,e]
theorem parse_rules:∀ (ts:List (BS × BS)) (no:Nat) (out:List Nd),(∀ x∈ts,Safe x.1∧Safe x.2∧x.1≠[]∧x.2≠[]) →
  ∃ nds,parseG [] none out ((numL no (ts.map fun x=>x.1++58 :: 32 :: x.2)).map toLine)=(out++nds,0,0)∧nds.map (fun n=>(n.kind,n.targets,n.pattern,n.inputs,n.order,n.recipe))=ts.map fun x=>(2,x.1,[],x.2,[],[])
 | [],no,out,_=>⟨[],by show parseG [] none out []=_;rw [parseG_nil,List.append_nil];rfl,rfl⟩
 | x :: r,no,out,h=>by
  obtain ⟨h1,h2,h3,h4⟩:=h x List.mem_cons_self
  obtain ⟨nds,h5,h6⟩:=parse_rules r (no+1) (out++[⟨2,(no:Nat),[],[],[],x.1,[],x.2,[],[]⟩]) fun y hy=>h y (List.mem_cons_of_mem _ hy)
  refine ⟨⟨2,(no:Nat),[],[],[],x.1,[],x.2,[],[]⟩ :: nds,?_,?_⟩
  ·rw [List.map_cons]
   unfold numL
   rw [List.map_cons]
   show parseG [] none out (((no:Nat),false,x.1++58 :: 32 :: x.2) :: _)=_
   rw [parseG_one,rule_one h1 h2 h3 h4]
   simp only
   rw [if_neg (by decide),if_neg (by decide),if_neg (by decide),h5,List.append_assoc]
   rfl
  ·rw [List.map_cons,List.map_cons,h6]
end Go.Proofs.YtmfjolmfbdbegaaGreatDoor

namespace Go.Proofs.YtmfjolmfbdbegaaGreatDoor
theorem exE_safe (env:EnvT) (p:BT) (no:Int) {s:BT} (h:Safe s) (hs:s.length≤4000):exE env p no s=.ok s:=by
 have:expandT env s=(s,0):=by
  unfold expandT textE textR
  rw [body_all s 0 (safe_36 h),Rb_ok,fin_ok _ hs]
 unfold exE
 rw [this]
 rfl
theorem wordsE_safe (env:EnvT) (p:BT) (no:Int) {s:BT} (h:Safe s) (hs:s.length≤4000) (h0:s≠[]):wordsE env p no s=.ok [s]:=by
 unfold wordsE
 rw [exE_safe env p no h hs,Eb_ok]
 have:wordsT s=[s]:=words_safe h h0
 rw [this,if_neg (by simp)]
theorem wordsE_nil (env:EnvT) (p:BT) (no:Int):wordsE env p no []=.ok []:=by
 unfold wordsE
 rw [exE_safe env p no (fun c hc=>by cases hc) (by simp),Eb_ok]
 rfl
theorem path_closed {s:BT} (h:Safe s):openB s=false:=by
 have h37:∀ c∈s,c≠37:=fun c hc=>by
  obtain ⟨_,_,_,_,_,_,_,_,_,_,_,_,h⟩:=safe_ne (h c hc)
  exact h
 unfold openB
 rw [List.count_eq_zero.2 (fun hc=>h37 _ hc rfl)]
 rfl
abbrev ndKey (n:Nd):Int × BS × BS × BS × BS × List BS:=(n.kind,n.targets,n.pattern,n.inputs,n.order,n.recipe)
theorem rule_plain (p:BT) (n:Nd) (st:St) {t w:BS} (hk:ndKey n=(2,t,[],w,[],[])) (ht:Safe t) (hw:Safe w) (h1:t≠[]) (h2:w≠[]) (l1:t.length≤4000) (l2:w.length≤4000) (pt:pathB t=true) (pw:pathB w=true) :
  ruleE p n st=if t=phonyW then .ok { st with phony:=st.phony++[w] } else .ok { st with rules:=st.rules++[⟨[t],false,[],[w],[],[]⟩] }:=by
 unfold ndKey at hk
 simp only [Prod.mk.injEq] at hk
 obtain ⟨_,e1,e2,e3,e4,e5⟩:=hk
 unfold ruleE
 rw [e1,e3,e4,e2,e5,wordsE_safe _ _ _ ht l1 h1,Eb_ok,wordsE_safe _ _ _ hw l2 h2,Eb_ok,wordsE_nil,Eb_ok]
 have o1:onceL [] [t]=[t]:=by simp [onceL]
 have o2:onceL [] [w]=[w]:=by simp [onceL]
 rw [o1]
 simp only
 rw [if_neg (by simp),if_neg (by simp),o2,path_closed ht]
 have o3:onceL [w] ([]:List BT)=[]:=rfl
 rw [o3]
 unfold addE
 have hg:(RuleM.all ⟨[t],false,[],[w],[],[]⟩).all (goodW false)=true:=by
  unfold RuleM.all goodW
  simp [pt,pw]
 rw [if_neg (by simp only;rw [hg];simp)]
 simp only [List.cons.injEq,and_true]
theorem phony_safe:Safe phonyW:=by unfold Safe;decide
theorem phony_path:pathB phonyW=true:=by decide +kernel
abbrev allW:BT:=[97,108,108]
theorem all_safe:Safe allW:=by unfold Safe;decide
theorem all_path:pathB allW=true:=by decide +kernel
theorem do_phony (fs:Files) (rd:BT→St→Ev St) (p:BT):∀ (ws:List BT) (nds:List Nd) (st:St),nds.map ndKey=ws.map (fun w=>(2,phonyW,[],w,[],[]))→(∀ w∈ws,Safe w∧w≠[]∧w.length≤4000∧pathB w=true)→st.done+ws.length≤1000 →
  doE fs rd p nds st=.ok { st with phony:=st.phony++ws,done:=st.done+ws.length }
 | [],nds,st,hk,_,_=>by
  rw [List.map_nil,List.map_eq_nil_iff] at hk
  subst hk
  rw [do_nil,List.append_nil]
  rfl
 | w :: r,nds,st,hk,hw,hd=>by
  cases nds with
  | nil=>cases hk
  | cons n nds =>
   rw [List.map_cons,List.map_cons] at hk
   injection hk with k1 k2
   simp only [List.length_cons] at hd
   obtain ⟨q1,q2,q3,q4⟩:=hw w List.mem_cons_self
   have hkind:n.kind=2:=by
    have:=congrArg Prod.fst k1
    exact this
   rw [do_step _ _ _ _ _ (by rw [hkind];decide) (by rw [hkind];decide) (by omega)]
   have hs:stepE fs rd p n { st with done:=st.done+1 }=.ok ({ st with done:=st.done+1,phony:=st.phony++[w] },true):=by
    unfold stepE
    rw [if_neg (by rw [hkind];decide),if_neg (by rw [hkind];decide),if_pos hkind,rule_plain p n _ k1 phony_safe q1 (by decide) q2 (by decide) q3 phony_path q4,if_pos rfl]
    rfl
   rw [hs,Eb_ok]
   simp only [if_true]
   rw [do_phony fs rd p r nds _ k2 (fun y hy=>hw y (List.mem_cons_of_mem _ hy)) (by simp only;omega)]
   simp only [List.append_assoc,List.cons_append,List.nil_append,List.length_cons]
   congr 2
   omega
abbrev phonyText (ws:List BT):BT:=ended ((allW++58 :: 32 :: [120]) :: ws.map fun w=>phonyW++58 :: 32 :: w)
theorem plain_rule {t w:BS} (ht:Safe t) (hw:Safe w) (h1:t≠[]) (h2:w≠[]) (hl:t.length+w.length≤900):PlainL (t++58 :: 32 :: w):=by
 have hT:Tight (t++58 :: 32 :: w):=by
  refine ⟨fun c hc=>?_,fun c hc=>?_⟩
  ·cases t with
   | nil=>exact absurd rfl h1
   | cons d r=>injection hc with hc;rw [← hc];exact safe_blank (ht d (by simp))
  ·refine safe_blank (hw c (List.mem_of_getLast? ?_))
   rw [List.getLast?_append,List.getLast?_cons_cons,List.getLast?_cons] at hc
   cases hl:w.getLast? with
   | none=>exact absurd (List.getLast?_eq_none_iff.1 hl) h2
   | some d=>rw [hl] at hc;simpa using hc
 refine ⟨fun c hc=>?_,hT,by simp,by simp only [List.length_append,List.length_cons];omega⟩
 rcases List.mem_append.1 hc with hc | hc
 ·obtain ⟨_,_,_,_,_,_,_,q1,q2,q3,_⟩:=safe_ne (ht c hc)
  exact ⟨q1,q2,q3⟩
 ·rcases List.mem_cons.1 hc with rfl | hc
  ·decide
  ·rcases List.mem_cons.1 hc with rfl | hc
   ·decide
   ·obtain ⟨_,_,_,_,_,_,_,q1,q2,q3,_⟩:=safe_ne (hw c hc)
    exact ⟨q1,q2,q3⟩
theorem run_phony (m:BT) (ws:List BT) (hl:ws.length≤20) (hw:∀ w∈ws,Safe w∧w≠[]∧w.length≤60∧pathB w=true) :
  runE [(m,phonyText ws)] m=.ok ⟨[],[⟨[allW],false,[],[[120]],[],[]⟩],ws,[m],1+ws.length⟩:=by
 have hx:Safe ([120]:BS):=by unfold Safe;decide
 have hP:∀ a∈(allW++58 :: 32 :: [120]) :: ws.map (fun w=>phonyW++58 :: 32 :: w),PlainL a:=fun a ha=>by
  rcases List.mem_cons.1 ha with rfl | ha
  ·exact plain_rule all_safe hx (by decide) (by decide) (by decide)
  ·obtain ⟨w,hm,rfl⟩:=List.mem_map.1 ha
   obtain ⟨q1,q2,q3,_⟩:=hw w hm
   exact plain_rule phony_safe q1 (by decide) q2 (by simp [phonyW];omega)
 have hlex:=lex_plain hP (by simp;omega)
 obtain ⟨nds,hp,hk⟩:=parse_rules ((allW,[120]) :: ws.map fun w=>(phonyW,w)) 1 [] (fun x hx'=>by
  rcases List.mem_cons.1 hx' with rfl | hx'
  ·exact ⟨all_safe,hx,by decide,by decide⟩
  ·obtain ⟨w,hm,rfl⟩:=List.mem_map.1 hx'
   obtain ⟨q1,q2,q3,_⟩:=hw w hm
   exact ⟨phony_safe,q1,by simp [phonyW],q2⟩)
 rw [List.map_cons,List.map_map] at hp hk
 have hp2:parseP ((numL 1 ((allW++58 :: 32 :: [120]) :: ws.map fun w=>phonyW++58 :: 32 :: w)).map toLine)=(nds,0,0):=hp
 have hsaid:saidE m (phonyText ws)=.ok nds:=by
  unfold saidE
  rw [hlex]
  simp only
  rw [hp2,if_neg (by simp),if_neg (by simp)]
 unfold runE readE
 have hf:fileOf [(m,phonyText ws)] m=some (phonyText ws):=by
  unfold fileOf
  rw [List.find?_cons_of_pos (by simp)]
  rfl
 rw [hf]
 simp only
 rw [if_neg (by simp [St.start]),hsaid,Eb_ok]
 cases nds with
 | nil=>cases hk
 | cons n nds =>
  rw [List.map_cons] at hk
  injection hk with k1 k2
  have k1':ndKey n=(2,allW,[],[120],[],[]):=k1
  have hkind:n.kind=2:=congrArg Prod.fst k1'
  rw [do_step _ _ _ _ _ (by rw [hkind];decide) (by rw [hkind];decide) (by simp [St.start])]
  have hs:∀ st,stepE [(m,phonyText ws)] (readE [(m,phonyText ws)] 19) m n st=.ok ({ st with rules:=st.rules++[⟨[allW],false,[],[[120]],[],[]⟩] },true):=fun st=>by
   unfold stepE
   rw [if_neg (by rw [hkind];decide),if_neg (by rw [hkind];decide),if_pos hkind,rule_plain m n _ k1' all_safe hx (by decide) (by decide) (by decide) (by decide) all_path (by decide +kernel),if_neg (by decide)]
   rfl
  rw [hs,Eb_ok]
  simp only [if_true]
  rw [do_phony _ _ _ ws nds _ k2 (fun w hm=>by
   obtain ⟨q1,q2,q3,q4⟩:=hw w hm
   exact ⟨q1,q2,by omega,q4⟩) (by simp only [St.start];omega)]
  rfl
end Go.Proofs.YtmfjolmfbdbegaaGreatDoor

namespace Go.Proofs.YtmfjolmfbdbegaaGreatDoor
open Go.RowKit Go.Shelf Go.Maps
attribute [local go_sem] Oper.semAt_some
def plC (c:UInt8):Bool:=decide ((97≤c.toNat∧c.toNat≤122)∨(48≤c.toNat∧c.toNat≤57)∨c.toNat=47∨c.toNat=46)
def plainT (s:BT):Bool:=allB plC s && decide (s.length≤60)
theorem plain_safe {s:BT} (h:plainT s=true):Safe s∧s.length≤60:=by
 unfold plainT at h
 simp only [Bool.and_eq_true,decide_eq_true_eq] at h
 refine ⟨fun c hc=>?_,h.2⟩
 have h1:=h.1
 unfold allB at h1
 have:=List.all_eq_true.1 h1 c hc
 unfold plC at this
 unfold safeB
 simp only [decide_eq_true_eq] at this ⊢
 omega
set_option maxRecDepth 100000 in
set_option maxHeartbeats 4000000 in
theorem plain12_any (s:ByteArray) (hs:s.size≤maxLen) (w:World):Calls Tryz.prog 12 #[.string s] w fun e w'=>e=.returned (.bool (plainT s.data.toList))∧w=w':=by
 unfold maxLen at hs
 have hsz:=size_list s
 go_enter Tryz.func12,Tryz.ntmps12
 go_wp2
 go_loop [3,4] (fun i _=>∃ k:Nat,k≤s.size∧i=.int .i64 k∧allB plC (s.data.toList.take k)=true) (fun i _=>s.size - (intOf i).toNat)
 case atStart=>exact ⟨0,Nat.zero_le _,rfl,by simp [allB]⟩
 case round =>
  obtain ⟨k,hk,rfl,hall⟩:=hrel
  have HA:=Lib.hid hall;clear hall
  by_cases hlt:k < s.size
  ·have hlt':k < s.data.toList.length:=by rw [Array.length_toList];exact hlt
   have hgk:s.data.toList[k]=s[k]:=by rw [Array.getElem_toList];rfl
   obtain ⟨c,hc⟩:∃ c,c=s[k]:=⟨_,rfl⟩
   have HTr:Hid (plC c=true→allB plC (s.data.toList.take (k+1))=true):=fun hp=>all_take HA.out hlt' (by rw [hgk,← hc];exact hp)
   have HFa:Hid (plC c=false→plainT s.data.toList=false):=fun hp=>by unfold plainT;rw [all_not hlt' (by rw [hgk,← hc];exact hp)];rfl
   have hD:plC c=decide ((97≤c.toNat∧c.toNat≤122)∨(48≤c.toNat∧c.toNat≤57)∨c.toNat=47∨c.toNat=46):=rfl
   obtain ⟨n,hn⟩:∃ n,n=c.toNat:=⟨_,rfl⟩
   rw [← hn] at hD
   have hcase:(97≤n∧n≤122)∨(48≤n∧n≤57)∨n=47∨n=46∨122 < n∨n < 46∨(57 < n∧n < 97):=by omega
   have hv:s[k].toNat=n:=by rw [hn,hc]
   have HD:=Lib.hid hD
   clear hgk hc hn hD HA
   rcases hcase with ⟨h1,h2⟩ | ⟨h1,h2⟩ | h1 | h1 | h1 | h1 | ⟨h1,h2⟩
   ·have HN:=Lib.hid (HTr.out (by rw [HD.out];simp;try omega))
    clear HTr HFa
    have e1:(97:Int)≤(n:Int):=by omega
    have e2:(n:Int)≤122:=by omega
    go_wp2
    go_round
    case rel=>exact ⟨k+1,by omega,by go_num,HN.out⟩
    case measure=>simp [intOf];omega
   ·have HN:=Lib.hid (HTr.out (by rw [HD.out];simp;try omega))
    clear HTr HFa
    have e1:(n:Int) < 97:=by omega
    have e2:(48:Int)≤(n:Int):=by omega
    have e3:(n:Int)≤57:=by omega
    go_wp2
    go_round
    case rel=>exact ⟨k+1,by omega,by go_num,HN.out⟩
    case measure=>simp [intOf];omega
   ·have HN:=Lib.hid (HTr.out (by rw [HD.out];simp;try omega))
    clear HTr HFa
    subst h1
    go_wp2
    go_round
    case rel=>exact ⟨k+1,by omega,by go_num,HN.out⟩
    case measure=>simp [intOf];omega
   ·have HN:=Lib.hid (HTr.out (by rw [HD.out];simp;try omega))
    clear HTr HFa
    subst h1
    go_wp2
    go_round
    case rel=>exact ⟨k+1,by omega,by go_num,HN.out⟩
    case measure=>simp [intOf];omega
   ·have HN:=Lib.hid (HFa.out (by rw [HD.out];simp;try omega))
    clear HTr HFa
    have e1:(122:Int) < (n:Int):=by omega
    have f1:((n:Int) == 47)=false:=by rw [beq_eq_false_iff_ne];omega
    have f2:((n:Int) == 46)=false:=by rw [beq_eq_false_iff_ne];omega
    have f3:decide ((n:Int)≤57)=false:=decide_eq_false (by omega)
    have f4:decide ((n:Int)≤122)=false:=decide_eq_false (by omega)
    go_wp2
    go_ret
    exact ⟨ret_bool HN.out.symm,rfl⟩
   ·have HN:=Lib.hid (HFa.out (by rw [HD.out];simp;try omega))
    clear HTr HFa
    have e1:(n:Int) < 46:=by omega
    have f1:((n:Int) == 47)=false:=by rw [beq_eq_false_iff_ne];omega
    have f2:((n:Int) == 46)=false:=by rw [beq_eq_false_iff_ne];omega
    go_wp2
    go_ret
    exact ⟨ret_bool HN.out.symm,rfl⟩
   ·have HN:=Lib.hid (HFa.out (by rw [HD.out];simp;try omega))
    clear HTr HFa
    have e1:(57:Int) < (n:Int):=by omega
    have f1:((n:Int) == 47)=false:=by rw [beq_eq_false_iff_ne];omega
    have f2:((n:Int) == 46)=false:=by rw [beq_eq_false_iff_ne];omega
    have f3:decide ((n:Int)≤57)=false:=decide_eq_false (by omega)
    have e2:(n:Int) < 97:=by omega
    go_wp2
    go_ret
    exact ⟨ret_bool HN.out.symm,rfl⟩
  ·have HN:Hid (allB plC s.data.toList=true):=by
    have:=HA.out
    rwa [List.take_of_length_le (by rw [Array.length_toList];show s.size≤k;omega)] at this
   go_wp2
   go_ret
   refine ⟨ret_bool ?_,rfl⟩
   unfold plainT
   rw [HN.out,hsz]
   simp
   omega
set_option maxRecDepth 100000 in
set_option maxHeartbeats 4000000 in
theorem in12_any (v:Value) (l:List BT) (t:BT) (w:World) (h:ReadsO w w.heap.size v (l.map txt)) (hl:l.length≤1000000):Calls Tryz.prog 15 #[v,.string (txt t)] w fun e w'=>e=.returned (.bool (decide (t∈l)))∧w=w':=by
 obtain ⟨o,c,rfl,hx⟩:=h
 rw [List.length_map] at hx ⊢
 obtain ⟨n,hn⟩:∃ n,n=l.length:=⟨_,rfl⟩
 rw [← hn] at hx hl ⊢
 have HX:Hid (∀ k x,l[k]? = some x→∃ b f,o=some ⟨b,f,none⟩∧n≤c∧w.cell? ⟨b,f+k,none⟩=some (.string (txt x))):=fun k x hk=>by
  obtain ⟨b,f,p1,p2,p3,p4⟩:=hx k (txt x) (by rw [List.getElem?_map,hk];rfl)
  exact ⟨b,f,p1,p3,p4⟩
 have HN:=Lib.hid hn
 clear hx hn
 go_enter Tryz.func15,Tryz.ntmps15
 go_wp2
 go_loop [5] (fun i=>∃ k:Nat,k≤n∧i=.int .i64 k∧Hid (∀ x∈l.take k,x≠t)) (fun i=>n - (intOf i).toNat)
 case atStart=>exact ⟨0,Nat.zero_le _,rfl,fun x hx=>by cases hx⟩
 case round =>
  obtain ⟨k,hk,rfl,HA⟩:=hrel
  by_cases hkn:k < n
  ·obtain ⟨x,hx⟩:∃ x,l[k]? = some x:=⟨_,List.getElem?_eq_getElem (by rw [← HN.out];exact hkn)⟩
   obtain ⟨b,f,rfl,hc,hcell⟩:=HX.out k x hx
   have hki:(k:Int) < (n:Int):=by omega
   by_cases hxt:x=t
   ·have hmem:Hid (decide (t∈l)=true):=by
     show _=_
     rw [decide_eq_true_iff,← hxt]
     exact List.mem_of_getElem? hx
    subst hxt
    clear hx HX HA
    go_wp2
    go_ret
    exact ⟨ret_bool hmem.out.symm,rfl⟩
   ·have HA2:Hid (∀ y∈l.take (k+1),y≠t):=fun y hy=>by
     obtain ⟨h1,h2⟩:=List.getElem?_eq_some_iff.1 hx
     rw [List.take_succ_eq_append_getElem h1,h2] at hy
     rcases List.mem_append.1 hy with hy | hy
     ·exact HA.out y hy
     ·rw [List.mem_singleton.1 hy];exact hxt
    have hne2:((txt x).toList == (txt t).toList)=false:=by rw [Lib.toList_data,Lib.toList_data,txt_data,txt_data,beq_eq_false_iff_ne];exact hxt
    clear hx HA hxt
    go_wp2
    go_round
    case rel=>exact ⟨k+1,by omega,by go_num,HA2⟩
    case measure=>simp [intOf];omega
  ·have hmem:Hid (decide (t∈l)=false):=by
    show _=_
    rw [decide_eq_false_iff_not]
    intro ht
    exact HA.out t (by rw [List.take_of_length_le (by rw [← HN.out];omega)];exact ht) rfl
   clear HA
   go_wp2
   go_ret
   exact ⟨ret_bool hmem.out.symm,rfl⟩
end Go.Proofs.YtmfjolmfbdbegaaGreatDoor
