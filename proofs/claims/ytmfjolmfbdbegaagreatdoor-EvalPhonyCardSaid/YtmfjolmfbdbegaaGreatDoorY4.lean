/-
  What rule answers. No condition but sizes.
  What said answers: a file's nodes, kept or told anew. No condition but sizes.
  What include answers, where what read answers is known. No condition but sizes.
  What do answers, where what read and rule answer is known. No condition but sizes.
  What read answers, so many levels above the deepest one. No condition but sizes.
-/
import Derived.Test.YtmfjolmfbdbegaaGreatDoorY3
import Derived.Test.YtmfjolmfbdbegaaGreatDoorEB
namespace Go.Proofs.YtmfjolmfbdbegaaGreatDoor
open Go.RowKit Go.Shelf Go.Maps
attribute [local go_sem] Oper.semAt_some
theorem WdPost.ok {l:List BT} {w w':World} {e:Ending} (h:WdPost (.ok l) w e w'):∃ o c,e=.returned (.slice o l.length c)∧In w [oTexts (.slice o l.length c) l] w':=by
 rcases h with ⟨f,hf,_⟩ | ⟨l2,o,c,hl,he,hI⟩
 ·cases hf
 ·cases hl;exact ⟨o,c,he,hI⟩
section
variable {w0 w:World} {c:Ctx} {L:List Own} {kn:List KV} {st:St} {a b d x y z u:Own}
theorem RS.keep1 (h:RS w0 c (a :: b :: d :: L) kn st w):RS w0 c (a :: L) kn st w:=RS.less (l:=[_]) (RS.pull 1 (RS.less (l:=[_]) (RS.pull 1 h rfl)) rfl)
theorem RS.pickR {b r1 r2 m o4 o3 tv:Own} (h:RS w0 c (r2 :: m :: r1 :: b :: o4 :: o3 :: tv :: L) kn st w):RS w0 c (tv :: r1 :: r2 :: b :: L) kn st w :=
 RS.less (l:=[_]) (RS.pull 4 (RS.less (l:=[_]) (RS.pull 4 (RS.less (l:=[_]) (RS.pull 3 (((h.pull 0 rfl).pull 2 rfl).pull 6 rfl) rfl)) rfl)) rfl)
end
set_option maxRecDepth 100000 in
set_option maxHeartbeats 32000000 in
theorem rule_words (w0:World) (c:Ctx) (L:List Own) (kn:List KV) (st:St) (n:Nd) (ro:Option Addr) (rn rc:Nat) (p:BT) (w:World)
  (h:RS w0 c L kn st w) (hst:Std w0) (hE:EnvOk st.env 21) (hn:NdOk n) (hrec:RecKeeps c kn (.slice ro rn rc) n.recipe) (hsr:st.rules.length≤500000) (hsp:st.phony.length≤50000000) (ts is os:List BT) (e1:wordsE st.env p n.no n.targets=.ok ts) (e2:wordsE st.env p n.no n.inputs=.ok is) (e3:wordsE st.env p n.no n.order=.ok os) :
  Calls Tryz.prog 56 #[.pointer (some ⟨c.rb,0,none⟩),ndV n (.slice ro rn rc),atV p n.no] w (StPost w0 c L kn (ruleE p n st)):=by
 obtain ⟨xb,hxb⟩:∃ xb,xb=w.heap.size:=⟨_,rfl⟩
 have hB:=h.boxes n (.slice ro rn rc) p n.no
 rw [← hxb] at hB
 have hR:ruleE p n st=match onceL [] ts with
  | []=>.ok st
  | t :: r =>
   if n.pattern≠[] then Eb (exE st.env p n.no n.pattern) fun q=>foldE (byPatE p n.no (trimOf q) is os n.recipe) (t :: r) st
   else if (t :: r).any (fun x=>openB x != openB t)=true then .error (2,p,n.no)
   else addE p n.no ⟨t :: r,openB t,[],onceL [] is,onceL is os,n.recipe⟩ st:=by
  unfold ruleE;rw [e1,e2,e3];rfl
 have HR:=Lib.hid hR
 have hts:WdsOk ts:=words_fit e1
 have his:WdsOk is:=words_fit e2
 have hos:WdsOk os:=words_fit e3
 have HW1:Hid (∀ W,RE W c.rb st.env→Calls Tryz.prog 78 #[.pointer (some ⟨c.rb,0,none⟩),.string (txt n.targets),atV p n.no] W fun e w'=>∃ o cc,e=.returned (.slice o ts.length cc)∧In W [oTexts (.slice o ts.length cc) ts] w'):=fun W hW=>by
  have:=rwords12_any c.rb st.env n.targets p n.no W hW (by have:=hn.targets;omega)
  rw [e1] at this
  exact this.mono fun e w' h=>WdPost.ok h
 have HW2:Hid (∀ W,RE W c.rb st.env→Calls Tryz.prog 78 #[.pointer (some ⟨c.rb,0,none⟩),.string (txt n.inputs),atV p n.no] W fun e w'=>∃ o cc,e=.returned (.slice o is.length cc)∧In W [oTexts (.slice o is.length cc) is] w'):=fun W hW=>by
  have:=rwords12_any c.rb st.env n.inputs p n.no W hW (by have:=hn.inputs;omega)
  rw [e2] at this
  exact this.mono fun e w' h=>WdPost.ok h
 have HW3:Hid (∀ W,RE W c.rb st.env→Calls Tryz.prog 78 #[.pointer (some ⟨c.rb,0,none⟩),.string (txt n.order),atV p n.no] W fun e w'=>∃ o cc,e=.returned (.slice o os.length cc)∧In W [oTexts (.slice o os.length cc) os] w'):=fun W hW=>by
  have:=rwords12_any c.rb st.env n.order p n.no W hW (by have:=hn.order;omega)
  rw [e3] at this
  exact this.mono fun e w' h=>WdPost.ok h
 have HTs:=Lib.hid hts
 have HIs:=Lib.hid his
 have HOs:=Lib.hid hos
 have HRE:Hid (∀ L W,RS w0 c L kn st W→RE W c.rb st.env):=fun L W hW=>hW.re hst hE
 have HRec:=Lib.hid hrec
 have hrl:n.recipe.length≤1000:=hn.recipe.1
 have HSt:=Lib.hid hst
 have HE:=Lib.hid hE
 have HNd:=Lib.hid hn
 obtain ⟨q0,q1,q2,q3,q4,q5,q6,q7,q8,q9⟩:=ten_cells (hB.cellsAt (b:=xb) (cs:=[.int .i64 n.kind,.int .i64 n.no,.string (txt n.op),.string (txt n.name),.string (txt n.text),.string (txt n.targets),.string (txt n.pattern),.string (txt n.inputs),.string (txt n.order),.slice ro rn rc]) (t := 79) (by simp [boxes2]))
 obtain ⟨p0,p1,_⟩:=two_cells (hB.cellsAt (b:=xb+1) (cs:=[.string (txt p),.int .i64 n.no]) (t := 33) (by simp [boxes2]))
 have HCell:Hid (∀ L W,RS w0 c L kn st W→boxN xb n (.slice ro rn rc)∈L→boxW (xb+1) p n.no∈L→W.heap[xb]? = some (.cells #[.int .i64 n.kind,.int .i64 n.no,.string (txt n.op),.string (txt n.name),.string (txt n.text),.string (txt n.targets),.string (txt n.pattern),.string (txt n.inputs),.string (txt n.order),.slice ro rn rc] 79 (0,0))∧W.heap[xb+1]? = some (.cells #[.string (txt p),.int .i64 n.no] 33 (0,0))):=fun L W hW h1 h2=>⟨hW.cellsAt h1,hW.cellsAt h2⟩
 have HB:=Lib.hid hB
 have hmm:=@run_makeMap Tryz.prog
 clear h hB hst hE hn hR e1 e2 e3 hts his hos hrec
 subst hxb
 go_enter Tryz.func56,Tryz.ntmps56
 go_wp2_with fail
 refine (HW1.out _ (HRE.out _ _ HB.out)).mono ?_
 rintro e w1 ⟨o1,c1,rfl,hI1⟩
 have hA1:=(HB.out.more hI1).makeSeen
 have HOn:=Lib.hid (hA1.once (v:=.slice o1 ts.length c1) (l:=ts) (by simp) (by have:=HTs.out.1;omega) (fun x hx=>by have:=HTs.out.2 x hx;omega))
 clear hI1 hA1 HW1 q0 q1 q2 q3 q4 q5 q6 q7 q8 q9 p0 p1
 go_wp2_with fail
 refine HOn.out.mono ?_
 rintro e w2 ⟨o2,c2,n2,rfl,hn2,hA2⟩
 rw [List.append_nil] at hA2
 have HA2:=Lib.hid hA2.keep1
 clear hA2 HOn hn2
 obtain ⟨b1,b2⟩:=HCell.out _ _ HA2.out (by simp [boxes2]) (by simp [boxes2])
 obtain ⟨q0,q1,q2,q3,q4,q5,q6,q7,q8,q9⟩:=ten_cells b1
 obtain ⟨p0,p1,_⟩:=two_cells b2
 have HT:Hid ((onceL [] ts).length≤200∧∀ x∈onceL [] ts,x.length≤4000):=⟨Nat.le_trans (onceL_len _ _) HTs.out.1,fun x hx=>HTs.out.2 x (onceL_mem hx)⟩
 generalize onceL [] ts=T at HA2 HT HR ⊢
 clear b1 b2 HTs
 go_wp2_with fail
 refine (HW2.out _ (HRE.out _ _ HA2.out)).mono ?_
 rintro e w3 ⟨o3,c3,rfl,hI3⟩
 have HA3:=Lib.hid (HA2.out.more (l:=[_]) hI3)
 clear hI3 HW2 HA2 q0 q1 q2 q3 q4 q5 q6 q7 q8 q9 p0 p1
 obtain ⟨b1,b2⟩:=HCell.out _ _ HA3.out (by simp [boxes2]) (by simp [boxes2])
 obtain ⟨q0,q1,q2,q3,q4,q5,q6,q7,q8,q9⟩:=ten_cells b1
 obtain ⟨p0,p1,_⟩:=two_cells b2
 clear b1 b2
 go_wp2_with fail
 refine (HW3.out _ (HRE.out _ _ HA3.out)).mono ?_
 rintro e w4 ⟨o4,c4,rfl,hI4⟩
 have HA4:=Lib.hid (HA3.out.more (l:=[_]) hI4)
 clear hI4 HW3 HA3 q0 q1 q2 q3 q4 q5 q6 q7 q8 q9 p0 p1
 obtain ⟨b1,b2⟩:=HCell.out _ _ HA4.out (by simp [boxes2]) (by simp [boxes2])
 obtain ⟨q0,q1,q2,q3,q4,q5,q6,q7,q8,q9⟩:=ten_cells b1
 obtain ⟨p0,p1,_⟩:=two_cells b2
 clear b1 b2
 cases T with
 | nil =>
  have HR2:Hid (ruleE p n st=.ok st):=HR.out
  have HA5:Hid (RS w0 c L kn st w4):=RS.less (l:=[_,_,_,_,_]) HA4.out
  clear HR HA4
  go_wp2_with fail
  go_end0
  exact .inr ⟨st,HR2.out,rfl,HA5.out⟩
 | cons t r =>
  have hlen:(t :: r).length=r.length+1:=rfl
  have hlz:(((r.length+1:Nat):Int) == 0)=false:=by rw [beq_eq_false_iff_ne];omega
  by_cases hp:n.pattern=[]
  ·have ep:(txt n.pattern).toList.isEmpty=true:=by rw [Lib.toList_data,txt_data,hp];rfl
   have hV:ruleE p n st=if (t :: r).any (fun x=>openB x != openB t)=true then .error (2,p,n.no) else addE p n.no ⟨t :: r,openB t,[],onceL [] is,onceL is os,n.recipe⟩ st:=by rw [HR.out];exact if_neg (by simpa using hp)
   obtain ⟨g,rfl,hcc,hcell⟩:=HA4.out.textAt (o:=o2) (n:=(t :: r).length) (cc:=c2) (l:=t :: r) (j:=0) (x:=t) (by simp) rfl
   have hop:=open_any (txt t)
   rw [txt_data] at hop
   have HOp:=Lib.hid hop
   have hmf:∀ (fn:Fn) (first cap:Array Value) (w:World),(Instr.makeFunc fn first cap).run Tryz.prog w=.ok (.func fn first cap) w:=fun _ _ _ _=>rfl
   have hg0:(0:Int) < ((r.length+1:Nat):Int):=by omega
   have HVd:=Lib.hid hV
   clear hop hp HR hV
   go_wp2_with fail
   refine (HOp.out _).mono ?_
   rintro e w5 ⟨rfl,rfl⟩
   have hA6:=HA4.out.more (l:=[oCells w5.heap.size [.bool (openB t)] 4]) ((In.nil (Below.refl _ w5)).alloc [.bool (openB t)] 4)
   have hc6:=hA6.cellsAt (b:=w5.heap.size) (cs:=[.bool (openB t)]) (t := 4) (by simp)
   obtain ⟨bc0,_⟩:=one_cell hc6
   have HC:=Lib.hid (containsOther_any (.slice (some ⟨g,0,none⟩) (t :: r).length c2) (t :: r) (openB t) w5.heap.size _ (hA6.readsO (by simp)) (by have:=HT.out.1;omega) bc0 (by simp))
   have HA6:=Lib.hid hA6
   have HAn:Hid ((t :: r).any (otherB (openB t))=true→ruleE p n st=.error (2,p,n.no)):=fun h=>by
    rw [HVd.out,if_pos (by exact h)]
   have HAd:Hid ((t :: r).any (otherB (openB t))=false→ruleE p n st=addE p n.no ⟨t :: r,openB t,[],onceL [] is,onceL is os,n.recipe⟩ st):=fun h=>by
    rw [HVd.out,if_neg (by show ¬ (t :: r).any (otherB (openB t))=true;rw [h];simp)]
   clear hA6 hc6 hcell HA4 HVd q0 q1 q2 q3 q4 q5 q6 q7 q8 q9 p0 p1 HOp
   go_wp2_with fail
   refine HC.out.mono ?_
   rintro e w6 ⟨rfl,hb6⟩
   have hA7:=HA6.out.below hb6
   clear hb6 HC HA6
   cases hany:(t :: r).any (otherB (openB t)) with
   | true =>
    have HErr:=Lib.hid (HAn.out hany)
    have HFl:=Lib.hid (fun w=>fail_any 2 p n.no w)
    have HR9:Hid (In w0 L w6):=(hA7.rest).drop (l1:=[_,_,_,_,_,_])
    obtain ⟨p0,p1,_⟩:=two_cells (hA7.cellsAt (b:=w.heap.size+1) (cs:=[.string (txt p),.int .i64 n.no]) (t := 33) (by simp [boxes2]))
    clear hA7 HAn HAd hany hmf
    go_wp2_with fail
    with_reducible refine (HFl.out _).mono ?_
    rintro e w7 ⟨rfl,hb7⟩
    unfold panE
    go_wp2_with fail
    exact ⟨rfl,.inl ⟨(2,p,n.no),HErr.out,rfl,HR9.out.below hb7⟩⟩
   | false =>
    have hAdd:=HAd.out hany
    have HA7:=Lib.hid hA7
    have hB1:RS w0 c (oMap w6.heap.size 0 (setF []) :: oCells w5.heap.size [.bool (openB t)] 4 :: oTexts (.slice o4 os.length c4) os :: oTexts (.slice o3 is.length c3) is :: oTexts (.slice (some ⟨g,0,none⟩) (t :: r).length c2) (t :: r) :: boxes2 w.heap.size n (.slice ro rn rc) p n.no L) kn st (w6.alloc (.map #[] 0)):=hA7.makeSeen
    clear hA7 HAn HAd hany hmf
    go_upto_region 12 with fail
    generalize w5.heap.size=bx at HA7 hB1 ⊢
    clear HA7
    generalize w6.heap.size=mb at hB1 ⊢
    generalize w6.alloc (.map #[] 0)=w8 at hB1 ⊢
    have HK:Hid (∀ L st' W,RS w0 c L kn st' W→oCells bx [.bool (openB t)] 4∈L→boxN w.heap.size n (.slice ro rn rc)∈L→boxW (w.heap.size+1) p n.no∈L→W.cell? ⟨bx,0,none⟩=some (.bool (openB t))∧W.cell? ⟨w.heap.size,9,none⟩=some (.slice ro rn rc)∧W.cell? ⟨w.heap.size+1,0,none⟩=some (.string (txt p))∧W.cell? ⟨w.heap.size+1,1,none⟩=some (.int .i64 n.no)):=fun L st' W hW m1 m2 m3 =>
     ⟨(one_cell (hW.cellsAt m1)).1,hW.three m2 m3⟩
    have HAd:Hid (∀ (v4 v6:Option Addr) (m4 d4 m6 d6:Nat) (W:World),RS w0 c (oTexts (.slice (some ⟨g,0,none⟩) (t :: r).length c2) (t :: r) :: oTexts (.slice v4 m4 d4) (onceL [] is) :: oTexts (.slice v6 m6 d6) (onceL is os) :: oCells bx [.bool (openB t)] 4 :: boxes2 w.heap.size n (.slice ro rn rc) p n.no L) kn st W →
      Calls Tryz.prog 83 #[.pointer (some ⟨c.rb,0,none⟩),.agg #[.slice (some ⟨g,0,none⟩) (r.length+1) c2,.bool (openB t),.string ⟨#[]⟩,.slice v4 m4 d4,.slice v6 m6 d6,.slice ro rn rc],atV p n.no] W
       (StPost w0 c (oCells bx [.bool (openB t)] 4 :: boxes2 w.heap.size n (.slice ro rn rc) p n.no L) kn (ruleE p n st))):=fun v4 v6 m4 d4 m6 d6 W hW=>by
     rw [hAdd]
     refine radd_any w0 c (oCells bx [.bool (openB t)] 4 :: boxes2 w.heap.size n (.slice ro rn rc) p n.no L) kn st ⟨t :: r,openB t,[],onceL [] is,onceL is os,n.recipe⟩ _ _ _ _ _ _ _ _ _ _ _ _ p n.no W hW (HRec.out _ _ _ _ hW) (fun y hy=>?_) ?_ ?_ ?_ ?_ ?_ ?_
     ·unfold RuleM.all at hy
      rcases List.mem_append.1 hy with hy | hy
      ·have:=HT.out.2 y hy;omega
      rcases List.mem_append.1 hy with hy | hy
      ·have:=HIs.out.2 y (onceL_mem hy);omega
      ·have:=HOs.out.2 y (onceL_mem hy);omega
     ·show n.recipe.length≤_;omega
     ·have:=HT.out.1;show (t :: r).length≤_;omega
     ·have:=HIs.out.1;have:=onceL_len is [];show (onceL _ _).length≤_;omega
     ·have:=HOs.out.1;have:=onceL_len os is;show (onceL _ _).length≤_;omega
     ·omega
     ·omega
    have HZ:Hid (0+is.length≤1000000∧(∀ x∈is,x.length≤1000000)∧(∀ n4,n4≤0+is.length→n4+os.length≤1000000)∧(∀ x∈os,x.length≤1000000)) :=
     ⟨by have:=HIs.out.1;omega,fun x hx=>by have:=HIs.out.2 x hx;omega,fun n4 hn4=>by have:=HIs.out.1;have:=HOs.out.1;omega,fun x hx=>by have:=HOs.out.2 x hx;omega⟩
    clear hAdd HRE HCell HRec HT
    go_region_held2 (fun W=>W.cell? ⟨bx,0,none⟩=some (.bool (openB t))∧W.cell? ⟨w.heap.size,9,none⟩=some (.slice ro rn rc)∧W.cell? ⟨w.heap.size+1,0,none⟩=some (.string (txt p))∧W.cell? ⟨w.heap.size+1,1,none⟩=some (.int .i64 n.no))
     (first | exact HK.out _ _ _ (by first | with_reducible assumption | with_reducible exact RS.drew (by with_reducible assumption)) (by simp [boxes2]) (by simp [boxes2]) (by simp [boxes2]))
     (first
      | (go_at_call 77;with_reducible refine (RS.onceAt 0 (n:=0) (k:=[]) (l:=is) (v:=.slice o3 is.length c3) (st:=st) (kn:=kn) (w0:=w0) (c:=c) (by first | with_reducible assumption | with_reducible exact RS.drew (by with_reducible assumption)) rfl (by simp) HZ.out.1 HZ.out.2.1).mono ?_;rintro e w9 ⟨v4,d4,n4,rfl,hn4,hB2⟩;rw [List.append_nil] at hB2;simp only [List.eraseIdx_cons_succ,List.eraseIdx_cons_zero] at hB2)
      | (go_at_call 77;with_reducible refine (RS.onceAt 1 (n:=n4) (k:=is) (l:=os) (v:=.slice o4 os.length c4) (st:=st) (kn:=kn) (w0:=w0) (c:=c) (by first | with_reducible assumption | with_reducible exact RS.drew (by with_reducible assumption)) rfl (by simp) (HZ.out.2.2.1 n4 hn4) HZ.out.2.2.2).mono ?_;rintro e w10 ⟨v6,d6,n6,rfl,hn6,hB3⟩;simp only [List.eraseIdx_cons_succ,List.eraseIdx_cons_zero] at hB3)
      | (go_at_call 83;with_reducible refine (HAd.out _ _ _ _ _ _ _ ?_).mono ?_;(first | (with_reducible apply RS.pickR;with_reducible assumption) | (with_reducible apply RS.pickR;with_reducible apply RS.drew;with_reducible assumption));intro e w11 hp7;unfold StPost at hp7;rcases hp7 with ⟨f,hf,rfl,hI7⟩ | ⟨s9,hs9,rfl,hB4⟩;(with_unfolding_all exact And.intro rfl (Or.inl ⟨f,hf,rfl,hI7.drop (l1:=[_,_,_])⟩))))
    have HR5:=Lib.hid (RS.less (l:=[_,_,_]) hB4)
    have HS9:=Lib.hid hs9
    clear hB4 hB1 hs9
    go_wp2_with fail
    go_end0
    exact .inr ⟨s9,HS9.out,rfl,HR5.out⟩
  ·have ep:(txt n.pattern).toList.isEmpty=false:=by rw [Lib.toList_data,txt_data];cases h:n.pattern <;> simp_all
   have hV:ruleE p n st=Eb (exE st.env p n.no n.pattern) fun q=>foldE (byPatE p n.no (trimOf q) is os n.recipe) (t :: r) st:=by rw [HR.out];exact if_pos hp
   have HC:=Lib.hid (byPattern_any w0 c (oTexts (.slice o4 os.length c4) os :: oTexts (.slice o3 is.length c3) is :: oTexts (.slice o2 (t :: r).length c2) (t :: r) :: boxes2 w.heap.size n (.slice ro rn rc) p n.no L) kn st n ro rn rc p (t :: r) is os o2 o3 o4 (t :: r).length c2 is.length c3 os.length c4 w4 HA4.out (by simp) (by simp) (by simp) HSt.out HE.out HNd.out HT.out HIs.out HOs.out HRec.out hsr hsp)
   rw [← hV] at HC
   clear hV HR HA4
   go_wp2_with fail
   refine HC.out.mono ?_
   rintro e w5 (⟨f,hf,rfl,hI5⟩ | ⟨s9,hs9,rfl,hR5⟩)
   ·have HF:=Lib.hid hf
    clear HC hf
    unfold panE
    go_wp2_with fail
    exact ⟨rfl,.inl ⟨f,HF.out,rfl,hI5.drop (l1:=[_,_,_,_,_])⟩⟩
   ·have HR5:=Lib.hid (RS.less (l:=[_,_,_,_,_]) hR5)
    have HS9:=Lib.hid hs9
    clear hR5 HC hs9
    go_wp2_with fail
    go_end0
    exact .inr ⟨s9,HS9.out,rfl,HR5.out⟩
set_option maxRecDepth 100000 in
set_option maxHeartbeats 8000000 in
theorem rrule_any (w0:World) (c:Ctx) (L:List Own) (kn:List KV) (st:St) (n:Nd) (ro:Option Addr) (rn rc:Nat) (p:BT) (w:World)
  (h:RS w0 c L kn st w) (hst:Std w0) (hE:EnvOk st.env 21) (hn:NdOk n) (hrec:RecKeeps c kn (.slice ro rn rc) n.recipe) (hsr:st.rules.length≤500000) (hsp:st.phony.length≤50000000) :
  Calls Tryz.prog 56 #[.pointer (some ⟨c.rb,0,none⟩),ndV n (.slice ro rn rc),atV p n.no] w (StPost w0 c L kn (ruleE p n st)):=by
 by_cases hall:(∃ ts,wordsE st.env p n.no n.targets=.ok ts)∧(∃ is,wordsE st.env p n.no n.inputs=.ok is)∧∃ os,wordsE st.env p n.no n.order=.ok os
 ·obtain ⟨⟨ts,e1⟩,⟨is,e2⟩,⟨os,e3⟩⟩:=hall
  exact rule_words w0 c L kn st n ro rn rc p w h hst hE hn hrec hsr hsp ts is os e1 e2 e3
 obtain ⟨xb,hxb⟩:∃ xb,xb=w.heap.size:=⟨_,rfl⟩
 have hB:=h.boxes n (.slice ro rn rc) p n.no
 rw [← hxb] at hB
 have HW1:Hid (∀ W,RE W c.rb st.env→Calls Tryz.prog 78 #[.pointer (some ⟨c.rb,0,none⟩),.string (txt n.targets),atV p n.no] W (WdPost (wordsE st.env p n.no n.targets) W)):=fun W hW=>rwords12_any c.rb st.env n.targets p n.no W hW (by have:=hn.targets;omega)
 have HW2:Hid (∀ W,RE W c.rb st.env→Calls Tryz.prog 78 #[.pointer (some ⟨c.rb,0,none⟩),.string (txt n.inputs),atV p n.no] W (WdPost (wordsE st.env p n.no n.inputs) W)):=fun W hW=>rwords12_any c.rb st.env n.inputs p n.no W hW (by have:=hn.inputs;omega)
 have HW3:Hid (∀ W,RE W c.rb st.env→Calls Tryz.prog 78 #[.pointer (some ⟨c.rb,0,none⟩),.string (txt n.order),atV p n.no] W (WdPost (wordsE st.env p n.no n.order) W)):=fun W hW=>rwords12_any c.rb st.env n.order p n.no W hW (by have:=hn.order;omega)
 have HRE:Hid (∀ L W,RS w0 c L kn st W→RE W c.rb st.env):=fun L W hW=>hW.re hst hE
 have HE1:Hid (∀ f,wordsE st.env p n.no n.targets=.error f→ruleE p n st=.error f):=fun f hf=>by unfold ruleE;rw [hf];rfl
 have HE2:Hid (∀ ts f,wordsE st.env p n.no n.targets=.ok ts→wordsE st.env p n.no n.inputs=.error f→ruleE p n st=.error f):=fun ts f h1 hf=>by unfold ruleE;rw [h1,hf];rfl
 have HE3:Hid (∀ ts is f,wordsE st.env p n.no n.targets=.ok ts→wordsE st.env p n.no n.inputs=.ok is→wordsE st.env p n.no n.order=.error f→ruleE p n st=.error f):=fun ts is f h1 h2 hf=>by unfold ruleE;rw [h1,h2,hf];rfl
 have HFt:Hid (∀ ts,wordsE st.env p n.no n.targets=.ok ts→WdsOk ts):=fun ts h=>words_fit h
 have HAll:=Lib.hid hall
 generalize ruleE p n st=R9 at *
 generalize wordsE st.env p n.no n.targets=r1 at *
 generalize wordsE st.env p n.no n.inputs=r2 at *
 generalize wordsE st.env p n.no n.order=r3 at *
 obtain ⟨q0,q1,q2,q3,q4,q5,q6,q7,q8,q9⟩:=ten_cells (hB.cellsAt (b:=xb) (cs:=[.int .i64 n.kind,.int .i64 n.no,.string (txt n.op),.string (txt n.name),.string (txt n.text),.string (txt n.targets),.string (txt n.pattern),.string (txt n.inputs),.string (txt n.order),.slice ro rn rc]) (t := 79) (by simp [boxes2]))
 obtain ⟨p0,p1,_⟩:=two_cells (hB.cellsAt (b:=xb+1) (cs:=[.string (txt p),.int .i64 n.no]) (t := 33) (by simp [boxes2]))
 have HCell:Hid (∀ L W,RS w0 c L kn st W→boxN xb n (.slice ro rn rc)∈L→boxW (xb+1) p n.no∈L→W.heap[xb]? = some (.cells #[.int .i64 n.kind,.int .i64 n.no,.string (txt n.op),.string (txt n.name),.string (txt n.text),.string (txt n.targets),.string (txt n.pattern),.string (txt n.inputs),.string (txt n.order),.slice ro rn rc] 79 (0,0))∧W.heap[xb+1]? = some (.cells #[.string (txt p),.int .i64 n.no] 33 (0,0))):=fun L W hW h1 h2=>⟨hW.cellsAt h1,hW.cellsAt h2⟩
 have HB:=Lib.hid hB
 have hmm:=@run_makeMap Tryz.prog
 clear h hB hst hE hn hrec hall
 subst hxb
 go_enter Tryz.func56,Tryz.ntmps56
 go_wp2_with fail
 with_reducible refine (HW1.out _ (HRE.out _ _ HB.out)).mono ?_
 rintro e w1 (⟨f,hf,rfl,hb1⟩ | ⟨ts,o1,c1,hr1,rfl,hI1⟩)
 ·have HR9:Hid (In w0 L w1):=((HB.out.below hb1).rest).drop (l1:=[_,_])
  have HF:=Lib.hid (HE1.out f hf)
  clear hb1 HW1 HB hf
  unfold panE
  go_wp2_with fail
  exact ⟨rfl,.inl ⟨f,HF.out,rfl,HR9.out⟩⟩
 ·have hts:=HFt.out ts hr1
  have HTs:=Lib.hid hts
  have HR1:=Lib.hid hr1
  have hA1:=(HB.out.more hI1).makeSeen
  have HOn:=Lib.hid (hA1.once (v:=.slice o1 ts.length c1) (l:=ts) (by simp) (by have:=hts.1;omega) (fun x hx=>by have:=hts.2 x hx;omega))
  clear hI1 hA1 HW1 q0 q1 q2 q3 q4 q5 q6 q7 q8 q9 p0 p1 hts hr1
  go_wp2_with fail
  refine HOn.out.mono ?_
  rintro e w2 ⟨o2,c2,n2,rfl,hn2,hA2⟩
  rw [List.append_nil] at hA2
  have HA2:=Lib.hid hA2.keep1
  clear hA2 HOn hn2
  obtain ⟨b1,b2⟩:=HCell.out _ _ HA2.out (by simp [boxes2]) (by simp [boxes2])
  obtain ⟨q0,q1,q2,q3,q4,q5,q6,q7,q8,q9⟩:=ten_cells b1
  obtain ⟨p0,p1,_⟩:=two_cells b2
  clear b1 b2
  go_wp2_with fail
  with_reducible refine (HW2.out _ (HRE.out _ _ HA2.out)).mono ?_
  rintro e w3 (⟨f,hf,rfl,hb3⟩ | ⟨is,o3,c3,hr2,rfl,hI3⟩)
  ·have HR9:Hid (In w0 L w3):=((HA2.out.below hb3).rest).drop (l1:=[_,_,_])
   have HF:=Lib.hid (HE2.out ts f HR1.out hf)
   clear hb3 HW2 HA2 hf
   unfold panE
   go_wp2_with fail
   exact ⟨rfl,.inl ⟨f,HF.out,rfl,HR9.out⟩⟩
  ·have HA3:=Lib.hid (HA2.out.more (l:=[_]) hI3)
   have HR2:=Lib.hid hr2
   clear hI3 HW2 HA2 q0 q1 q2 q3 q4 q5 q6 q7 q8 q9 p0 p1 hr2
   obtain ⟨b1,b2⟩:=HCell.out _ _ HA3.out (by simp [boxes2]) (by simp [boxes2])
   obtain ⟨q0,q1,q2,q3,q4,q5,q6,q7,q8,q9⟩:=ten_cells b1
   obtain ⟨p0,p1,_⟩:=two_cells b2
   clear b1 b2
   go_wp2_with fail
   with_reducible refine (HW3.out _ (HRE.out _ _ HA3.out)).mono ?_
   rintro e w4 (⟨f,hf,rfl,hb4⟩ | ⟨os,o4,c4,hr3,rfl,hI4⟩)
   ·have HR9:Hid (In w0 L w4):=((HA3.out.below hb4).rest).drop (l1:=[_,_,_,_])
    have HF:=Lib.hid (HE3.out ts is f HR1.out HR2.out hf)
    clear hb4 HW3 HA3 hf
    unfold panE
    go_wp2_with fail
    exact ⟨rfl,.inl ⟨f,HF.out,rfl,HR9.out⟩⟩
   ·exact (HAll.out ⟨⟨ts,HR1.out⟩,⟨is,HR2.out⟩,os,hr3⟩).elim
end Go.Proofs.YtmfjolmfbdbegaaGreatDoor

namespace Go.Proofs.YtmfjolmfbdbegaaGreatDoor
open Go.RowKit Go.Shelf Go.Maps
attribute [local go_sem] Oper.semAt_some
section
variable {w0 w:World} {c:Ctx} {L:List Own} {kn:List KV} {st:St}
theorem In.first {l:List Own} {e:Own} (h:In w0 l w) (hm:e∈l):∃ r,In w0 (e :: r) w:=by
 obtain ⟨l1,l2,rfl⟩:=List.append_of_mem hm
 exact ⟨l1++l2,h.perm List.perm_middle⟩
theorem In.recIn {l:List Own} {x:NV} (h:In w0 l w) (hm:recO x∈l):RecIn w x.2 x.1.recipe:=by
 have hr:=h.rowR (E := 9) (k:=1) (enc:=encS) (v:=x.2) (l:=x.1.recipe) hm
 rcases hr.1.2 with ⟨hv,h0⟩ | ⟨g,cap,cur,hv,_,hg,h1,_,h3,h4⟩
 ·exact .inl ⟨hv,List.eq_nil_of_length_eq_zero h0⟩
 ·refine .inr ⟨g,cap,hv,(Array.getElem?_eq_some_iff.1 hg).1,h1,fun j y hj=>?_⟩
  have hjl:j < x.1.recipe.length:=(List.getElem?_eq_some_iff.1 hj).1
  have e:(x.1.recipe.flatMap encS)[j]? = some (.string (txt y)):=by rw [flat_texts,List.getElem?_map,List.getElem?_map,hj];rfl
  rw [← h4,List.getElem?_take_of_lt (by omega)] at e
  rw [Lib.cell_of_heap hg]
  simpa using e
theorem In.nodesIn {l:List Own} {y:KV} (h:In w0 (knownO y :: l) w):NodesIn w y.2.1 y.2.2:=by
 have h1:=In.unpack h
 obtain ⟨o,cc,hv,h2,h3⟩:=h1.rowShape (E := 79) (k:=10) (enc:=encN) (v:=y.2.1) (l:=y.2.2) (by simp) (fun _=>rfl)
 refine ⟨o,cc,hv,h2,fun i x hx=>?_⟩
 obtain ⟨g,hg,hl,_,hc⟩:=h3 i x hx
 exact ⟨g,hg,hl,hc,h1.recIn (by
  have:=List.mem_of_getElem? hx
  simp only [List.cons_append,List.mem_cons,List.mem_append,List.mem_map]
  exact .inr (.inl ⟨x,this,rfl⟩))⟩
theorem RS.nodes (h:RS w0 c L kn st w) {y:KV} (hy:y∈kn):NodesIn w y.2.1 y.2.2:=by
 obtain ⟨s,h1,_,h3⟩:=h
 have h4:=In.unpack (h1.pull 8 rfl)
 obtain ⟨r,h5⟩:=h4.first (e:=knownO y) (List.mem_append_left _ (List.mem_map.2 ⟨y,h3 y hy,rfl⟩))
 exact h5.nodesIn
theorem recKeeps {y:KV} (hy:y∈kn) {i:Nat} {n:Nd} {rv:Value} (hi:y.2.2[i]? = some (n,rv)):RecKeeps c kn rv n.recipe:=fun w0 L st w h=>by
 obtain ⟨o,cc,_,_,h2⟩:=h.nodes hy
 obtain ⟨_,_,_,_,hr⟩:=h2 i _ hi
 exact hr
theorem knownF_some {l:List KV} {p:BT} {v:Value} (h:knownF l p=some v):∃ y∈l,y.1=p∧y.2.1=v:=by
 unfold knownF at h
 obtain ⟨y,hy,hv⟩:=Option.map_eq_some_iff.1 h
 exact ⟨y,List.mem_of_find?_eq_some hy,by simpa using List.find?_some hy,hv⟩
theorem knownF_put {l:List KV} {p:BT} {v:Value} {nds:List NV} (h:knownF l p=none):putF (knownF l) p v=knownF ((p,v,nds) :: l):=by
 funext q
 unfold putF
 by_cases hq:q=p
 ·subst hq
  rw [if_pos rfl]
  unfold knownF
  rw [List.find?_cons_of_pos (by simp)]
  rfl
 ·rw [if_neg hq]
  unfold knownF
  rw [List.find?_cons_of_neg (by simpa using fun e:p=q=>hq e.symm)]
theorem first_file {fs:Files} {p t:BT} (h:fileOf fs p=some t):∃ i x,firstF fs p=some (.int .i64 ((i:Nat):Int))∧fs[i]? = some x∧x.2=t:=by
 unfold fileOf at h
 obtain ⟨x,hx,ht⟩:=Option.map_eq_some_iff.1 h
 obtain ⟨hp,l1,l2,he,hl⟩:=List.find?_eq_some_iff_append.1 hx
 have hi:fs.findIdx? (fun x=>decide (x.1=p))=some l1.length:=by
  rw [List.findIdx?_eq_some_iff_getElem]
  refine ⟨by rw [he];simp,by simpa [he] using hp,fun j hj=>?_⟩
  have:=hl (l1[j]) (List.getElem_mem hj)
  simpa [he,List.getElem_append_left hj] using this
 refine ⟨l1.length,x,?_,?_,ht⟩
 ·unfold firstF
  rw [hi]
 ·rw [he];simp
end
structure SvIn (c:Ctx) (s:SV) (st:St) (kn:List KV):Prop where
 rules:s.rules.map (·.1)=st.rules
 known:∀ y∈s.known,∃ t,fileOf c.fs y.1=some t∧saidE y.1 t=.ok (y.2.2.map (·.1))
 nn:s.nn+1≤st.read.length
 few:st.read.length≤1000
 kn:∀ y∈kn,y∈s.known
theorem SvIn.ok {c:Ctx} {s:SV} {st:St} {kn:List KV} (h:SvIn c s st kn):SvOk c s st:=⟨h.rules,h.known,by have:=h.nn;omega,by have:=h.nn;have:=h.few;unfold maxLen;omega⟩
def SaidPost (w0:World) (c:Ctx) (L:List Own) (kn:List KV) (st:St) (p t:BT) (e:Ending) (w':World):Prop :=
 (∃ f,saidE p t=.error f∧e=panE f∧In w0 L w')∨∃ y:KV,saidE p t=.ok (y.2.2.map (·.1))∧e=.returned y.2.1∧RS w0 c L (y :: kn) st w'
set_option maxRecDepth 100000 in
set_option maxHeartbeats 16000000 in
theorem said12_any (w0:World) (c:Ctx) (L:List Own) (kn:List KV) (s:SV) (st:St) (p t:BT) (w:World) (h:In w0 (owns c s st++L) w) (hs:SvIn c s st kn) (hf:fileOf c.fs p=some t) (hfs:FilesAt w0 c.fsV c.fs) (hfl:c.fs.length≤1000000000)
  (ht:t.length≤1000000) (hp:p.length≤1000000) :
  Calls Tryz.prog 35 #[.pointer (some ⟨c.rb,0,none⟩),.string (txt p)] w (SaidPost w0 c L kn st p t):=by
 obtain ⟨i,x,hi,hx,hxt⟩:=first_file hf
 have hM1:=h.mapAt (b:=c.fb) (n:=c.fn) (f:=firstF c.fs) (by simp [owns])
 have hM2:=h.mapAt (b:=c.nb) (n:=s.nn) (f:=knownF s.known) (by simp [owns])
 have hlook:=hM2.lookOk (t := 84) Tryz.underlying84 (z:=.slice none 0 0) (by kernel_rfl) (txt p) (by rw [txt_size];unfold maxLen;omega)
 rw [txt_data] at hlook
 obtain ⟨_,r1,r2,_⟩:=nine_cells h.rcells
 cases hk:knownF s.known p with
 | some v =>
  obtain ⟨y,hy,hyp,hyv⟩:=knownF_some hk
  have HP:Hid (SaidPost w0 c L kn st p t (.returned v) w):=.inr ⟨y,by
   obtain ⟨t2,h1,h2⟩:=hs.known y hy
   rw [hyp] at h1 h2
   rw [hf] at h1
   cases h1
   exact h2,by rw [hyv],s,h,hs.ok,fun z hz=>by
    rcases List.mem_cons.1 hz with rfl | hz
    ·exact hy
    ·exact hs.kn z hz⟩
  have hvs:∃ o n cc,v=.slice o n cc:=by
   have h4:=In.unpack (h.pull 8 rfl)
   obtain ⟨r,h5⟩:=h4.first (e:=knownO y) (List.mem_append_left _ (List.mem_map.2 ⟨y,hy,rfl⟩))
   obtain ⟨o,cc,hv,_⟩:=h5.nodesIn
   exact ⟨o,_,cc,by rw [← hyv,hv]⟩
  obtain ⟨o,n,cc,rfl⟩:=hvs
  rw [hk] at hlook
  simp only [Option.getD_some,Option.isSome_some] at hlook
  clear hM1 hM2 h hs hf hfs hx hxt hi hk hy hyp hyv
  go_enter Tryz.func35,Tryz.ntmps35
  go_wp2_with fail
  go_ret
  exact HP.out
 | none =>
  rw [hk] at hlook
  simp only [Option.getD_none,Option.isSome_none] at hlook
  have hfw:=hfs.below h.back
  obtain ⟨fo,fc,hfv,hfx⟩:=hfw
  obtain ⟨b,f0,rfl,hbl,hfc,_,hcell⟩:=hfx i x hx
  rw [hxt] at hcell
  have hil:i < c.fs.length:=(List.getElem?_eq_some_iff.1 hx).1
  have hli:=hM1.look (t := 83) Tryz.underlying83 (zeroI w) (txt p) (by rw [txt_size];unfold maxLen;omega)
  have HK:Hid (∀ W,Below w.heap.size w W→W.cell? ⟨c.rb,0,none⟩=some (.slice (some ⟨b,f0,none⟩) c.fs.length fc)∧W.cell? ⟨c.rb,1,none⟩=some (.map (some c.fb))∧(Instr.lookup 83 (.map (some c.fb)) (.string (txt p)) false).run Tryz.prog W=.ok (.int .i64 ((i:Nat):Int)) W∧W.cell? ⟨b,f0+i*2+1,none⟩=some (.string (txt t))):=fun W hb=>by
   have hI:=h.below hb
   obtain ⟨d0,d1,_⟩:=nine_cells hI.rcells
   have hM:=hI.mapAt (b:=c.fb) (n:=c.fn) (f:=firstF c.fs) (by simp [owns])
   have hl:=hM.look (t := 83) Tryz.underlying83 (zeroI W) (txt p) (by rw [txt_size];unfold maxLen;omega)
   rw [txt_data,hi] at hl
   exact ⟨by rw [d0,hfv],d1,hl,(hb.cell (p:=⟨b,f0+i*2+1,none⟩) hbl).trans hcell⟩
  have HSaid:Hid (saidE p t=if (lexOf t).2.1≠0 then .error ((lexOf t).2.1,p,((lexOf t).2.2:Nat))
   else if (parseP ((lexOf t).1.map toLine)).2.1≠0 then .error ((parseP ((lexOf t).1.map toLine)).2.1,p,(parseP ((lexOf t).1.map toLine)).2.2)
   else .ok (parseP ((lexOf t).1.map toLine)).1):=rfl
  have HSm:=Lib.hid (lex_small t)
  have HLx:Hid (∀ W,Calls Tryz.prog 16 #[.string (txt t)] W (LexPost W t)):=fun W=>by
   have:=lex_any (txt t) W (by rw [txt_size];omega)
   rwa [txt_data] at this
  unfold LexPost at HLx
  generalize lexOf t=P1 at HSaid HSm HLx
  obtain ⟨P1a,P1b,P1c⟩:=P1
  simp only at HSaid HSm HLx
  have HH:=Lib.hid h
  have HSv:=Lib.hid hs
  have HKn:=Lib.hid hk
  have HF:=Lib.hid hf
  have hin:(i:Int) < (c.fs.length:Int):=by omega
  obtain ⟨nf,hnf⟩:∃ nf,nf=c.fs.length:=⟨_,rfl⟩
  rw [← hnf] at HK hfc hin
  have hW0:=Below.refl w.heap.size w
  have hW1:=below_drew1 w
  have hpl:(txt p).size≤maxLen:=by rw [txt_size];unfold maxLen;omega
  have hnn:s.nn < maxLen:=by have:=hs.nn;have:=hs.few;unfold maxLen;omega
  clear hM1 hM2 h hs hf hfs hx hxt hi hk hfx hcell hil hli hfl hnf hfv
  go_enter Tryz.func35,Tryz.ntmps35
  go_wp2_with fail
  go_region_held3 (fun W=>W.cell? ⟨c.rb,0,none⟩=some (.slice (some ⟨b,f0,none⟩) nf fc)∧W.cell? ⟨c.rb,1,none⟩=some (.map (some c.fb))∧(Instr.lookup 83 (.map (some c.fb)) (.string (txt p)) false).run Tryz.prog W=.ok (.int .i64 ((i:Nat):Int)) W∧W.cell? ⟨b,f0+i*2+1,none⟩=some (.string (txt t)))
   (first | exact HK.out _ (by assumption))
   (first | (go_at_call 16;refine (HLx.out _).mono ?_;rintro e w2 ⟨o2,c2,rfl,hrd,hb2⟩;have hW2:Below w.heap.size w w2:=hW1.trans (hb2.mono hW1.size)))
  have HW2:=Lib.hid hW2
  have HRd:=Lib.hid hrd
  clear hW2 hrd hb2 hW0 hW1 HLx hlook r1 r2
  have HC:=check_any P1b p (P1c:Int)
  have HC:=Lib.hid HC
  go_wp2_with fail
  refine (HC.out _).mono ?_
  rintro e w3 ⟨hb3,⟨hz,rfl⟩ | ⟨hz,rfl⟩⟩
  ·have HW3:Hid (Below w.heap.size w w3):=HW2.out.trans (hb3.mono HW2.out.size)
   have hP1:saidE p t=if (parseP (P1a.map toLine)).2.1≠0 then .error ((parseP (P1a.map toLine)).2.1,p,(parseP (P1a.map toLine)).2.2) else .ok (parseP (P1a.map toLine)).1:=by rw [HSaid.out,if_neg (by simpa using hz)]
   have HSaid2:=Lib.hid hP1
   have HPa:=Lib.hid (parse_any _ (P1a.map toLine) w3 ((ReadsI.below HRd.out hb3 hb3.size).lines) (by rw [List.length_map];have:=HSm.out.1;omega) (fun x hx=>by
    obtain ⟨y,hy,rfl⟩:=List.mem_map.1 hx
    have:=HSm.out.2 y hy
    show y.2.2.length≤_
    omega))
   unfold ParsePost at HPa
   generalize parseP (P1a.map toLine)=P2 at HPa HSaid2
   obtain ⟨P2a,P2b,P2c⟩:=P2
   simp only at HPa HSaid2
   clear hb3 HSaid hP1 HRd HSm HW2 HC hz
   go_wp2_with fail
   refine HPa.out.mono ?_
   rintro e w4 ⟨o4,c4,rfl,_,hb4,nds,hnds,hI4⟩
   have HC2:=Lib.hid (check_any P2b p P2c)
   have HW4:Hid (Below w.heap.size w w4):=HW3.out.trans (hb4.mono HW3.out.size)
   have HI4:=Lib.hid hI4
   have HN:=Lib.hid hnds
   clear HPa hb4 hI4 hnds
   go_wp2_with fail
   refine (HC2.out _).mono ?_
   rintro e w5 ⟨hb5,⟨hz,rfl⟩ | ⟨hz,rfl⟩⟩
   ·have hP2:saidE p t=.ok P2a:=by rw [HSaid2.out,if_neg (by simpa using hz)]
    have hJ:In w0 (knownO (p,.slice o4 P2a.length c4,nds) :: (owns c s st++L)) w5:=by
     have h1:=In.join (HH.out.below HW3.out) (HI4.out.below hb5)
     exact In.pack (l1:=oRow 79 10 encN (.slice o4 P2a.length c4) nds :: nds.map recO) h1
    have HJ:=Lib.hid hJ
    have HE:=Lib.hid hP2
    have hM2:=hJ.mapAt (b:=c.nb) (n:=s.nn) (f:=knownF s.known) (by simp [owns])
    obtain ⟨_,_,d2,_⟩:=nine_cells (hJ.tail).rcells
    have HM2:=Lib.hid hM2
    clear hb5 HC2 hz HSaid2 hP2 hM2 hJ
    go_wp2_with (at_mapUpdate;refine wpList_store_f _ rfl _ _ _ 84 54 rfl Tryz.underlying84 c.nb s.nn (knownF s.known) rfl HM2.out hnn (txt p) hpl (.slice o4 P2a.length c4) rfl rfl ?_;intro w6 hM6 hT6;go_frame)
    rw [txt_data,knownF_put (nds:=nds) HKn.out] at hM6
    have k1:=HJ.out.pull 8 rfl
    have k2:=k1.one (e':=oMap c.nb (s.nn+1) (knownF ((p,.slice o4 P2a.length c4,nds) :: s.known))) fun X hX=>⟨X,⟨hM6,hX.2⟩,hT6.wider fun m hm=>(hX.2 m).2 hm,fun _=>.inl⟩
    have k3:=k2.push 8 (Nat.le_add_left 8 _)
    have k4:=In.unpack (k3.pull 9 rfl)
    have k5:In w0 (((p,.slice o4 P2a.length c4,nds) :: s.known).map knownO++_) w6:=k4.perm List.perm_middle
    have k6:=(In.pack k5).push 8 (Nat.le_add_left 8 _)
    have hR:RS w0 c L ((p,.slice o4 P2a.length c4,nds) :: kn) st w6:=by
     refine ⟨{ s with nn:=s.nn+1,known:=(p,.slice o4 P2a.length c4,nds) :: s.known },k6,⟨HSv.out.rules,fun y hy=>?_,HSv.out.nn,by show s.nn+1 < _;have:=HSv.out.nn;have:=HSv.out.few;unfold maxLen;omega⟩,fun y hy=>?_⟩
     ·rcases List.mem_cons.1 hy with rfl | hy
      ·exact ⟨t,HF.out,by rw [HE.out];congr 1;exact HN.out.symm⟩
      ·exact HSv.out.known y hy
     ·rcases List.mem_cons.1 hy with rfl | hy
      ·exact List.mem_cons_self
      ·exact List.mem_cons_of_mem _ (HSv.out.kn y hy)
    have HP:Hid (SaidPost w0 c L kn st p t (.returned (.slice o4 P2a.length c4)) w6):=.inr ⟨(p,.slice o4 P2a.length c4,nds),by rw [HE.out];congr 1;exact HN.out.symm,rfl,hR⟩
    clear k1 k2 k3 k4 k5 k6 hM6 hT6 hR
    go_wp2_with fail
    go_ret
    exact HP.out
   ·have hE:saidE p t=.error (P2b,p,P2c):=by rw [HSaid2.out,if_pos hz]
    have HE:=Lib.hid hE
    have HR:Hid (In w0 L w5):=(HH.out.below (HW4.out.trans (hb5.mono HW4.out.size))).drop
    clear hb5 HC2 hz HSaid2 hE
    unfold panE
    go_wp2_with fail
    exact ⟨rfl,.inl ⟨_,HE.out,rfl,HR.out⟩⟩
  ·have hE:saidE p t=.error (P1b,p,(P1c:Int)):=by rw [HSaid.out,if_pos hz]
   have HE:=Lib.hid hE
   have HR:Hid (In w0 L w3):=(HH.out.below (HW2.out.trans (hb3.mono HW2.out.size))).drop
   clear hb3 HC hz HSaid hE
   unfold panE
   go_wp2_with fail
   exact ⟨rfl,.inl ⟨_,HE.out,rfl,HR.out⟩⟩
end Go.Proofs.YtmfjolmfbdbegaaGreatDoor

namespace Go.Proofs.YtmfjolmfbdbegaaGreatDoor
open Go.RowKit Go.Shelf Go.Maps
attribute [local go_sem] Oper.semAt_some
def GG {α:Type} (al:Bool) (r:Ev α):Prop:=al=true∨∃ a,r=.ok a
section
variable {α β:Type} {al:Bool} {x:Ev α} {f:α→Ev β}
theorem GG.first (h:GG al (Eb x f)):GG al x:=h.imp id fun ⟨_,hb⟩=>let ⟨a,ha,_⟩:=Eb_is hb;⟨a,ha⟩
end
def RuleC (al:Bool):Prop:=∀ (w0:World) (c:Ctx) (L:List Own) (kn:List KV) (st:St) (n:Nd) (ro:Option Addr) (rn rc:Nat) (p:BT) (w:World),
 RS w0 c L kn st w→Std w0→EnvOk st.env 21→NdOk n→RecKeeps c kn (.slice ro rn rc) n.recipe→st.rules.length≤500000→st.phony.length≤50000000→GG al (ruleE p n st) →
  Calls Tryz.prog 56 #[.pointer (some ⟨c.rb,0,none⟩),ndV n (.slice ro rn rc),atV p n.no] w (StPost w0 c L kn (ruleE p n st))
theorem rule_all:RuleC true:=fun w0 c L kn st n ro rn rc p w h1 h2 h3 h4 h5 h6 h7 _ =>
 rrule_any w0 c L kn st n ro rn rc p w h1 h2 h3 h4 h5 h6 h7
structure FsOk (w0:World) (c:Ctx):Prop where
 at_:FilesAt w0 c.fsV c.fs
 few:c.fs.length≤1000000000
 short:∀ x∈c.fs,x.2.length≤1000000
def ReadC (al:Bool) (w0:World) (c:Ctx) (k:Nat) (j:Int):Prop:=∀ (L:List Own) (kn:List KV) (st:St) (p:BT) (w:World),
 RS w0 c L kn st w→Fits st→p.length≤4000→GG al (readE c.fs k p st) →
  Calls Tryz.prog 21 #[.pointer (some ⟨c.rb,0,none⟩),.string (txt p),.int .i64 j] w (StPost w0 c L kn (readE c.fs k p st))
section
variable {w0 w:World} {c:Ctx} {L:List Own} {kn:List KV} {st:St}
theorem RS.there (h:RS w0 c L kn st w) (p:BT) (hp:p.length≤1000000):Calls Tryz.prog 31 #[.pointer (some ⟨c.rb,0,none⟩),.string (txt p)] w fun e w'=>e=.returned (.bool (fileOf c.fs p).isSome)∧w=w':=by
 obtain ⟨s,h1,_⟩:=h
 obtain ⟨_,q1,_⟩:=nine_cells h1.rcells
 have hM:=h1.mapAt (b:=c.fb) (n:=c.fn) (f:=firstF c.fs) (by simp [owns])
 have:=there12_any c.rb c.fb c.fn (firstF c.fs) p w q1 hM hp
 rwa [firstF_is] at this
end
structure IncAt (fs:Files) (rd:BT→St→Ev St) (b:Bool) (ws:List BT) (st:St) (i:Nat) (st':St):Prop where
 told:foldE (inclOne fs rd b) ws st=foldE (inclOne fs rd b) (ws.drop i) st'
 fit:Fits st'
section
variable {fs:Files} {rd:BT→St→Ev St} {b:Bool} {ws:List BT} {st st':St} {i:Nat} {x:BT}
theorem IncAt.step (h:IncAt fs rd b ws st i st') (hx:ws[i]? = some x):foldE (inclOne fs rd b) ws st=Eb (inclOne fs rd b x st') (foldE (inclOne fs rd b) (ws.drop (i+1))):=by
 obtain ⟨h1,h2⟩:=List.getElem?_eq_some_iff.1 hx
 rw [h.told,List.drop_eq_getElem_cons h1,h2,fold_cons]
theorem IncAt.next {st2:St} (h:IncAt fs rd b ws st i st') (hx:ws[i]? = some x) (hr:RdFit rd) (h2:rd x st'=.ok st2) (hb:(b || (fileOf fs x).isSome)=true):IncAt fs rd b ws st (i+1) st2 :=
 ⟨by rw [h.step hx];unfold inclOne;rw [if_pos hb,h2];rfl,(hr x st' st2 h.fit h2).1⟩
theorem IncAt.skip (h:IncAt fs rd b ws st i st') (hx:ws[i]? = some x) (hb:(b || (fileOf fs x).isSome)=false):IncAt fs rd b ws st (i+1) st' :=
 ⟨by rw [h.step hx];unfold inclOne;rw [if_neg (by rw [hb];simp)];rfl,h.fit⟩
theorem IncAt.done (h:IncAt fs rd b ws st i st') (hi:ws.length≤i):foldE (inclOne fs rd b) ws st=.ok st':=by
 rw [h.told,List.drop_eq_nil_of_le hi];rfl
end
set_option maxRecDepth 100000 in
set_option maxHeartbeats 8000000 in
theorem include_any (al:Bool) (w0:World) (c:Ctx) (k:Nat) (j:Int) (hR:ReadC al w0 c k j) (hst:Std w0) (L:List Own) (kn:List KV) (st:St) (n:Nd) (ro:Option Addr) (rn rc:Nat) (p:BT) (w:World)
  (h:RS w0 c L kn st w) (hf:Fits st) (hn:NdOk n) (hg:GG al (inclE c.fs (readE c.fs k) p n st)) :
  Calls Tryz.prog 55 #[.pointer (some ⟨c.rb,0,none⟩),ndV n (.slice ro rn rc),atV p n.no,.int .i64 j] w (StPost w0 c L kn (inclE c.fs (readE c.fs k) p n st)):=by
 obtain ⟨xb,hxb⟩:∃ xb,xb=w.heap.size:=⟨_,rfl⟩
 have hB:=h.boxes n (.slice ro rn rc) p n.no
 rw [← hxb] at hB
 have hE:EnvOk st.env 21:=hf.fit.ok hf.done
 have HX:=Lib.hid (rexpand12_any c.rb st.env n.text p n.no _ (hB.re hst hE) (by have:=hn.text;omega))
 have hlen:=expand_len st.env n.text
 have HQ:Hid (∀ q,exE st.env p n.no n.text=.ok q→q.length≤4000):=fun q hq=>by
  unfold exE at hq
  split at hq
  ·cases hq;exact hlen
  ·cases hq
 have HV:Hid (inclE c.fs (readE c.fs k) p n st=Eb (exE st.env p n.no n.text) fun t=>foldE (inclOne c.fs (readE c.fs k) (decide (n.op=wIncl))) (wordsT t) st):=rfl
 have HG:=Lib.hid hg
 generalize inclE c.fs (readE c.fs k) p n st=R at HV HG ⊢
 generalize exE st.env p n.no n.text=r at HX HQ HV
 obtain ⟨q0,q1,q2,q3,q4,q5,q6,q7,q8,q9⟩:=ten_cells (hB.cellsAt (b:=xb) (cs:=[.int .i64 n.kind,.int .i64 n.no,.string (txt n.op),.string (txt n.name),.string (txt n.text),.string (txt n.targets),.string (txt n.pattern),.string (txt n.inputs),.string (txt n.order),.slice ro rn rc]) (t := 79) (by simp [boxes2]))
 obtain ⟨p0,p1,_⟩:=two_cells (hB.cellsAt (b:=xb+1) (cs:=[.string (txt p),.int .i64 n.no]) (t := 33) (by simp [boxes2]))
 have HB:=Lib.hid hB
 have hop:((txt n.op).toList == [105,110,99,108,117,100,101])=decide (n.op=wIncl):=by
  rw [op_eq n.op]
  rfl
 generalize decide (n.op=wIncl)=b at hop HV
 have HF:=Lib.hid hf
 have HRd:=Lib.hid hR
 have HFit:=Lib.hid (read_fit c.fs k)
 clear h hB hE hn hlen hg hf hR
 subst hxb
 go_enter Tryz.func55,Tryz.ntmps55
 go_wp2_with fail
 refine HX.out.mono ?_
 rintro e w1 ⟨hb1,⟨f,rfl,rfl⟩ | ⟨q,rfl,rfl⟩⟩
 ·have HR:Hid (In w0 L w1):=((HB.out.below hb1).rest).drop (l1:=[_,_])
  have HV2:Hid (R=.error f):=HV.out
  clear hb1 HX HV
  unfold panE
  go_wp2_with fail
  exact ⟨rfl,.inl ⟨f,HV2.out,rfl,HR.out⟩⟩
 ·have hq:=HQ.out q rfl
  have HB1:=Lib.hid (HB.out.below hb1)
  have HWd:=Lib.hid (words12_any q (by omega) w1)
  have HV2:Hid (R=foldE (inclOne c.fs (readE c.fs k) b) (wordsT q) st):=HV.out
  have HWl:Hid (∀ x∈wordsT q,x.length≤4000):=fun x hx=>Nat.le_trans (words_memT hx).2 hq
  have HWn:Hid ((wordsT q).length≤1000000):=Nat.le_trans (words_few q) (by omega)
  generalize wordsT q=ws at HWd HV2 HWl HWn
  clear hb1 HX HQ HB HV hq q0 q1 q2 q3 q4 q5 q6 q7 q8 q9 p0 p1
  go_wp2_with fail
  refine HWd.out.mono ?_
  rintro e w2 ⟨o,cc,rfl,hI⟩
  have HB2:=Lib.hid (HB1.out.more (l:=[_]) hI)
  obtain ⟨m,hm⟩:∃ m,m=ws.length:=⟨_,rfl⟩
  rw [← hm] at HB2 ⊢
  have HM:=Lib.hid hm
  have hml:m≤1000000:=by rw [hm];exact HWn.out
  clear hI HWd HB1 hm
  go_wp2_with fail
  go_loopw [21] (fun zv wr=>∃ (i:Nat) (st':St),i≤m∧zv=.int .i64 i∧Hid (IncAt c.fs (readE c.fs k) b ws st i st')∧Hid (RS w0 c (oTexts (.slice o m cc) ws :: boxes2 w.heap.size n (.slice ro rn rc) p n.no L) kn st' wr)) (fun zv _=>m - (intOf zv).toNat)
  case atStart=>exact ⟨0,st,Nat.zero_le _,rfl,⟨rfl,HF.out⟩,HB2.out⟩
  case round =>
   obtain ⟨i,st',hi,rfl,HP,HR⟩:=hrel
   clear HB2
   by_cases hlt:i < m
   ·obtain ⟨x,hx⟩:∃ x,ws[i]? = some x:=⟨_,List.getElem?_eq_getElem (by rw [← HM.out];exact hlt)⟩
    obtain ⟨g,rfl,hnc,hcell⟩:=HR.out.textAt (o:=o) (n:=m) (cc:=cc) (l:=ws) (by simp) hx
    have hxl:=HWl.out x (List.mem_of_getElem? hx)
    have hii:(i:Int) < (m:Int):=by omega
    have hStep:=HP.out.step hx
    have HTh:=Lib.hid (HR.out.there x (by omega))
    have HCall:Hid (GG al (readE c.fs k x st')→Calls Tryz.prog 21 #[.pointer (some ⟨c.rb,0,none⟩),.string (txt x),.int .i64 j] wr (StPost w0 c (oTexts (.slice (some ⟨g,0,none⟩) m cc) ws :: boxes2 w.heap.size n (.slice ro rn rc) p n.no L) kn (readE c.fs k x st'))):=fun hgr =>
     HRd.out _ _ _ _ _ HR.out HP.out.fit hxl hgr
    have HSk:Hid ((b || (fileOf c.fs x).isSome)=false→IncAt c.fs (readE c.fs k) b ws st (i+1) st'):=fun h=>HP.out.skip hx h
    have HNx:Hid ((b || (fileOf c.fs x).isSome)=true→∀ st2,readE c.fs k x st'=.ok st2→IncAt c.fs (readE c.fs k) b ws st (i+1) st2):=fun h st2 h2=>HP.out.next hx HFit.out h2 h
    have HEr:Hid ((b || (fileOf c.fs x).isSome)=true→R=Eb (readE c.fs k x st') (foldE (inclOne c.fs (readE c.fs k) b) (ws.drop (i+1)))):=fun h=>by
     rw [HV2.out,hStep]
     unfold inclOne
     rw [if_pos h]
    clear hStep hx
    generalize (fileOf c.fs x).isSome=t at HTh HSk HNx HEr
    cases b with
    | true =>
     have hE:=HEr.out (by simp)
     have hGr:GG al (readE c.fs k x st'):=GG.first (f:=foldE (inclOne c.fs (readE c.fs k) true) (ws.drop (i+1))) (by rw [← hE];exact HG.out)
     have HC:=Lib.hid (HCall.out hGr)
     have HE:=Lib.hid hE
     have HN:=Lib.hid (HNx.out (by simp))
     clear hE hGr HCall HSk HNx HEr
     generalize readE c.fs k x st'=rr at HC HE HN
     go_wp2_with fail
     refine HC.out.mono ?_
     rintro e w3 (⟨f,rfl,rfl,hI⟩ | ⟨st2,rfl,rfl,hR3⟩)
     ·have HI:Hid (In w0 L w3):=hI.drop (l1:=[_,_,_])
      have HE2:Hid (R=.error f):=HE.out
      clear hI HC HR HE
      unfold panE
      go_wp2_with fail
      exact ⟨rfl,.inl ⟨f,HE2.out,rfl,HI.out⟩⟩
     ·have HR3:=Lib.hid hR3
      have HI3:=Lib.hid (HN.out st2 rfl)
      clear hR3 HC HR HE HN HP
      go_wp2_with fail
      go_roundw
      case rel=>exact ⟨i+1,st2,by omega,by go_num,HI3,HR3⟩
      case measure=>simp [intOf];omega
    | false =>
     cases t with
     | false =>
      have HI3:=Lib.hid (HSk.out rfl)
      clear HCall HSk HNx HEr
      go_wp2_with fail
      refine HTh.out.mono ?_
      rintro e w3 ⟨rfl,rfl⟩
      go_wp2_with fail
      go_roundw
      case rel=>exact ⟨i+1,st',by omega,by go_num,HI3.out,HR⟩
      case measure=>simp [intOf];omega
     | true =>
      have hE:=HEr.out rfl
      have hGr:GG al (readE c.fs k x st'):=GG.first (f:=foldE (inclOne c.fs (readE c.fs k) false) (ws.drop (i+1))) (by rw [← hE];exact HG.out)
      have HC:=Lib.hid (HCall.out hGr)
      have HE:=Lib.hid hE
      have HN:=Lib.hid (HNx.out rfl)
      clear hE hGr HCall HSk HNx HEr
      generalize readE c.fs k x st'=rr at HC HE HN
      go_wp2_with fail
      refine HTh.out.mono ?_
      rintro e w3 ⟨rfl,rfl⟩
      go_wp2_with fail
      refine HC.out.mono ?_
      rintro e w3 (⟨f,rfl,rfl,hI⟩ | ⟨st2,rfl,rfl,hR3⟩)
      ·have HI:Hid (In w0 L w3):=hI.drop (l1:=[_,_,_])
       have HE2:Hid (R=.error f):=HE.out
       clear hI HC HR HE
       unfold panE
       go_wp2_with fail
       exact ⟨rfl,.inl ⟨f,HE2.out,rfl,HI.out⟩⟩
      ·have HR3:=Lib.hid hR3
       have HI3:=Lib.hid (HN.out st2 rfl)
       clear hR3 HC HR HE HN HP
       go_wp2_with fail
       go_roundw
       case rel=>exact ⟨i+1,st2,by omega,by go_num,HI3,HR3⟩
       case measure=>simp [intOf];omega
   ·have him:i=m:=by omega
    have HE:Hid (R=.ok st'):=by
     show R=_
     rw [HV2.out,HP.out.done (by rw [← HM.out];omega)]
    have HR9:Hid (RS w0 c L kn st' wr):=RS.less (l:=[_,_,_]) HR.out
    clear HP HR
    go_wp2_with fail
    go_end0
    exact .inr ⟨st',HE.out,rfl,HR9.out⟩
end Go.Proofs.YtmfjolmfbdbegaaGreatDoor

namespace Go.Proofs.YtmfjolmfbdbegaaGreatDoor
open Go.RowKit Go.Shelf Go.Maps
attribute [local go_sem] Oper.semAt_some
def lenOf:Value→Nat
 | .slice _ n _=>n
 | _=>0
structure DoAt (fs:Files) (rd:BT→St→Ev St) (p:BT) (v0:Value) (nds:List NV) (st:St) (i:Nat) (v:Value) (st':St):Prop where
 told:doE fs rd p (ndL nds) st=doE fs rd p (ndL (nds.drop i)) st'
 suf:SufV 10 v0 v nds.length i
 le:i≤nds.length
 fit:Fits st'
section
variable {fs:Files} {rd:BT→St→Ev St} {p:BT} {v0 v:Value} {nds:List NV} {st st':St} {i:Nat} {x:NV}
theorem DoAt.cons (h:DoAt fs rd p v0 nds st i v st') (hx:nds[i]? = some x):doE fs rd p (ndL nds) st=doE fs rd p (x.1 :: ndL (nds.drop (i+1))) st':=by
 obtain ⟨h1,h2⟩:=List.getElem?_eq_some_iff.1 hx
 rw [h.told,List.drop_eq_getElem_cons h1,h2]
 rfl
end
section
variable {fs:Files} {rd:BT→St→Ev St} {p:BT} {v0 v:Value} {nds:List NV} {st st':St} {i:Nat} {n:Nd} {rv:Value} {R:Ev St}
structure StepAt (fs:Files) (rd:BT→St→Ev St) (p:BT) (nds:List NV) (i:Nat) (n:Nd) (R:Ev St) (st':St):Prop where
 told:R=Eb (stepE fs rd p n { st' with done:=st'.done+1 }) fun x=>doE fs rd p (if x.2 then ndL (nds.drop (i+1)) else partL 0 (ndL (nds.drop (i+1)))) x.1
 fit:∀ s b,stepE fs rd p n { st' with done:=st'.done+1 }=.ok (s,b)→Fits s
theorem StepAt.run {sub:Ev St} (h:StepAt fs rd p nds i n R st') (hs:stepE fs rd p n { st' with done:=st'.done+1 }=Eb sub fun s=>.ok (s,true)) :
  (R=Eb sub fun s=>doE fs rd p (ndL (nds.drop (i+1))) s)∧∀ s,sub=.ok s→Fits s:=by
 have h1:=h.told
 have h2:=h.fit
 rw [hs] at h1 h2
 refine ⟨?_,fun s hs=>h2 s true (by rw [hs];rfl)⟩
 rw [h1]
 cases sub with
 | error e=>rfl
 | ok a=>rfl
theorem step1 (hk:n.kind=1):stepE fs rd p n st=Eb (assignE p n st) fun s=>.ok (s,true):=by unfold stepE;rw [if_pos hk]
theorem step6 (hk:n.kind=6):stepE fs rd p n st=Eb (inclE fs rd p n st) fun s=>.ok (s,true):=by unfold stepE;rw [if_neg (by omega),if_pos hk]
theorem step2 (hk:n.kind=2):stepE fs rd p n st=Eb (ruleE p n st) fun s=>.ok (s,true):=by unfold stepE;rw [if_neg (by omega),if_neg (by omega),if_pos hk]
theorem step3 (hk:n.kind=3):stepE fs rd p n st=Eb (holdsE st.env p n) fun b=>.ok (st,b):=by unfold stepE;rw [if_neg (by omega),if_neg (by omega),if_neg (by omega),if_pos hk]
theorem step0 (h1:n.kind≠1) (h6:n.kind≠6) (h2:n.kind≠2) (h3:n.kind≠3):stepE fs rd p n st=.ok (st,true):=by unfold stepE;rw [if_neg h1,if_neg h6,if_neg h2,if_neg h3]
end
set_option maxRecDepth 100000 in
set_option maxHeartbeats 32000000 in
theorem do_any (al:Bool) (w0:World) (c:Ctx) (k:Nat) (j:Int) (hRu:RuleC al) (hR:ReadC al w0 c k (j+1)) (hst:Std w0) (hj0:0≤j) (hj:j≤100) (L:List Own) (kn:List KV) (st:St) (y:KV) (hy:y∈kn) (p:BT) (w:World)
  (h:RS w0 c L kn st w) (hf:Fits st) (hn:∀ x∈y.2.2,NdOk x.1) (hl:y.2.2.length≤1000000) (hg:GG al (doE c.fs (readE c.fs k) p (ndL y.2.2) st)) :
  Calls Tryz.prog 34 #[.pointer (some ⟨c.rb,0,none⟩),y.2.1,.string (txt p),.int .i64 j] w (StPost w0 c L kn (doE c.fs (readE c.fs k) p (ndL y.2.2) st)):=by
 obtain ⟨v0,hv0⟩:∃ v0,v0=y.2.1:=⟨_,rfl⟩
 obtain ⟨nds,hnds⟩:∃ nds,nds=y.2.2:=⟨_,rfl⟩
 have HN:Hid (∀ L st w,RS w0 c L kn st w→NodesIn w v0 nds):=fun L st w hw=>by rw [hv0,hnds];exact hw.nodes hy
 have HKp:Hid (∀ {i:Nat} {n:Nd} {rv:Value},nds[i]? = some (n,rv)→RecKeeps c kn rv n.recipe):=fun {i n rv} hi=>by rw [hnds] at hi;exact recKeeps hy hi
 rw [← hv0,← hnds]
 rw [← hnds] at hn hl hg
 clear hv0 hnds hy
 have HInc:=Lib.hid (include_any al w0 c k (j+1) hR hst)
 have HFit:=Lib.hid (read_fit c.fs k)
 have HRu:=Lib.hid hRu
 have HNd:=Lib.hid hn
 have HSt:=Lib.hid hst
 have HG:=Lib.hid hg
 have H0:=Lib.hid h
 have HF:=Lib.hid hf
 have HS0:Hid (SufV 10 v0 v0 nds.length 0):=SufV.start (HN.out _ _ _ h)
 obtain ⟨R,hR0⟩:∃ R,R=doE c.fs (readE c.fs k) p (ndL nds) st:=⟨_,rfl⟩
 have HRt:=Lib.hid hR0.symm
 rw [← hR0] at HG ⊢
 clear hRu hR hst h hf hn hg hR0
 obtain ⟨nn,hnn⟩:∃ nn,nn=nds.length:=⟨_,rfl⟩
 obtain ⟨o0,c0,hv⟩:∃ o c,v0=.slice o nn c:=by obtain ⟨o,c,hv,_⟩:=HS0.out;exact ⟨o,c,by rw [hv,Nat.sub_zero,hnn]⟩
 have HS1:Hid (SufV 10 v0 (.slice o0 nn c0) nds.length 0):=by rw [← hv];exact HS0.out
 rw [← hnn] at hl
 have HNN:=Lib.hid hnn
 suffices hgo:Calls Tryz.prog 34 #[.pointer (some ⟨c.rb,0,none⟩),.slice o0 nn c0,.string (txt p),.int .i64 j] w (StPost w0 c L kn R) by rw [hv];exact hgo
 have HD0:Hid (DoAt c.fs (readE c.fs k) p v0 nds st 0 (.slice o0 nn c0) st):=⟨rfl,HS1.out,Nat.zero_le _,HF.out⟩
 clear hv hnn HS0 HF HS1
 go_enter Tryz.func34,Tryz.ntmps34
 go_wp2_with fail
 go_loopw [1] (fun zv wr=>∃ (i:Nat) (st':St) (o:Option Addr) (m cc:Nat),i≤nn∧m=nn - i∧zv=.slice o m cc∧Hid (DoAt c.fs (readE c.fs k) p v0 nds st i (.slice o m cc) st')∧Hid (RS w0 c L kn st' wr)) (fun zv _=>lenOf zv)
 case atStart=>exact ⟨0,st,o0,nn,c0,Nat.zero_le _,rfl,rfl,HD0.out,H0.out⟩
 case round =>
  obtain ⟨i,st',o,m,cc,hi,rfl,rfl,HD,HRS⟩:=hrel
  clear HD0 H0
  by_cases hlt:i < nn
  ·obtain ⟨g,⟨n,rv⟩,hx,ho,hmc,hm2,hcell,hrec⟩:=SufV.at (i:=0) (HN.out _ _ _ HRS.out) HD.out.suf (by rw [← HNN.out];exact hlt)
   clear hm2
   rw [Nat.add_zero] at hx
   subst ho
   obtain ⟨ro,rc,hrv⟩:=hrec.shape
   simp only at hrv
   subst hrv
   obtain ⟨rn,hrn⟩:∃ rn,rn=n.recipe.length:=⟨_,rfl⟩
   rw [← hrn] at hx hcell hrec
   clear hrn hrec
   obtain ⟨q0,q1,q2,q3,q4,q5,q6,q7,q8,q9⟩:=node_cells (hcell wr (Below.refl _ _))
   rw [Nat.zero_mul,Nat.add_zero] at q0 q1 q2 q3 q4 q5 q6 q7 q8 q9
   have HX:=Lib.hid hx
   have hm0:(0:Int) < ((nn - i:Nat):Int):=by omega
   have HNdn:Hid (NdOk n):=HNd.out _ (List.mem_of_getElem? hx)
   have hsl:SufV 10 v0 (sliced (some ⟨g,i*10,none⟩) 1 (nn - i) cc 10) nds.length (i+1):=HD.out.suf.slice (by rw [← HNN.out];omega)
   have HCn:=Lib.hid (HRt.out.symm.trans (HD.out.cons hx))
   have HFt:=Lib.hid HD.out.fit
   have hdone:st'.done≤1000:=HD.out.fit.done
   clear hcell hx HD
   unfold sliced at hsl
   rw [Option.map_some,Addr.add_lit,Nat.one_mul] at hsl
   obtain ⟨o2,ho2⟩:∃ o2,(if cc=1 then some (⟨g,i*10,none⟩:Addr) else some ⟨g,i*10+10,none⟩)=o2:=⟨_,rfl⟩
   rw [ho2] at hsl
   have HSl:=Lib.hid hsl
   clear hsl
   have HW1:Hid (RS w0 c L kn st' (ndB wr n (.slice ro rn rc))):=HRS.out.below ((Below.refl _ wr).alloc (Nat.le_refl _) _)
   by_cases h5:n.kind=5
   ·have e5:(n.kind == 5)=true:=beq_iff_eq.2 h5
    have HD2:Hid (DoAt c.fs (readE c.fs k) p v0 nds st (i+1) (.slice o2 (nn - i - 1) (cc - 1)) st'):=⟨HRt.out.trans (HCn.out.trans (do_end _ _ _ _ _ h5)),HSl.out,by rw [← HNN.out];omega,HFt.out⟩
    clear HCn h5 HRS
    go_wp2_with fail
    go_roundw
    case rel=>exact ⟨i+1,st',o2,nn - i - 1,cc - 1,by omega,by omega,rfl,HD2,HW1⟩
    case measure=>simp [lenOf];omega
   by_cases h4:n.kind=4
   ·have e5:(n.kind == 5)=false:=by rw [beq_eq_false_iff_ne];omega
    have e4:(n.kind == 4)=true:=beq_iff_eq.2 h4
    have HE4:Hid (R=doE c.fs (readE c.fs k) p (partL 0 (ndL (nds.drop (i+1)))) st'):=HCn.out.trans (do_else _ _ _ _ _ h4)
    have HBp:=Lib.hid (behind_any v0 nds (i+1) o2 (nn - i - 1) (cc - 1) (ndB wr n (.slice ro rn rc)) (HN.out _ _ _ HW1.out) HSl.out (by rw [← HNN.out];omega) (by rw [← HNN.out];exact hl))
    clear HCn h4 HRS h5
    go_wp2_with fail
    with_reducible refine HBp.out.mono ?_
    rintro e w3 ⟨o3,m3,c3,k3,rfl,hs3,hk3,hk4,hp3,hb3⟩
    have HD2:Hid (DoAt c.fs (readE c.fs k) p v0 nds st k3 (.slice o3 m3 c3) st'):=⟨HRt.out.trans (HE4.out.trans (by rw [hp3])),hs3,hk4,HFt.out⟩
    obtain rfl:m3=nn - k3:=by obtain ⟨_,_,hv3,_⟩:=hs3;cases hv3;rw [← HNN.out]
    have HW3:=Lib.hid (HW1.out.below hb3)
    rw [← HNN.out] at hk4
    clear hs3 hp3 hb3 HBp HE4
    go_wp2_with fail
    go_roundw
    case rel=>exact ⟨k3,st',o3,nn - k3,c3,hk4,rfl,rfl,HD2,HW3⟩
    case measure=>simp [lenOf];omega
   have e5:(n.kind == 5)=false:=by rw [beq_eq_false_iff_ne];omega
   have e4:(n.kind == 4)=false:=by rw [beq_eq_false_iff_ne];omega
   have hbx:=HRS.out.boxes n (.slice ro rn rc) p n.no
   have HCt:=Lib.hid (count_any w0 c (boxes2 wr.heap.size n (.slice ro rn rc) p n.no L) kn st' p n.no _ hbx hdone)
   have HK5:=Lib.hid h5
   have HK4:=Lib.hid h4
   clear hbx HRS HW1 h5 h4
   by_cases hd:st'.done=1000
   ·rw [if_pos hd] at HCt
    have HE:Hid (R=.error (3,p,n.no)):=HCn.out.trans (do_full _ _ _ _ _ HK5.out HK4.out hd)
    clear hd hdone HCn
    go_wp2_with fail
    with_reducible refine HCt.out.mono ?_
    intro e w2 hpost
    obtain ⟨rfl,hI⟩:=StPost.err hpost
    have HI:Hid (In w0 L w2):=hI.drop (l1:=[_,_])
    clear hI HCt hpost
    unfold panE
    go_wp2_with fail
    exact ⟨rfl,.inl ⟨_,HE.out,rfl,HI.out⟩⟩
   rw [if_neg hd] at HCt
   have HStep:Hid (StepAt c.fs (readE c.fs k) p nds i n R st'):=⟨HCn.out.trans (do_step _ _ _ _ _ HK5.out HK4.out hd),fun s b hs=>(step_fit HFit.out HNdn.out HFt.out hd hs).1⟩
   have HF9:Hid (Fits { st' with done:=st'.done+1 }):=by
    have f:=HFt.out.fit.up (Nat.le_succ st'.done)
    exact ⟨⟨f.srt,f.env,f.vars,f.rules,f.phony,f.read⟩,by show st'.done+1≤1000;omega⟩
   have HE1:Hid (EnvOk (St.env { st' with done:=st'.done+1 }) 21):=HF9.out.fit.ok HF9.out.done
   have HSz:Hid (st'.rules.length≤500000∧st'.phony.length≤50000000):=⟨by have:=HFt.out.fit.rules;have:=HFt.out.done;omega,by have:=HFt.out.fit.phony;have:=HFt.out.done;omega⟩
   clear hd hdone HCn HK5 HK4
   go_wp2_with fail
   with_reducible refine HCt.out.mono ?_
   intro e w2 hpost
   obtain ⟨rfl,hB1⟩:=StPost.ok hpost
   have HB1:=Lib.hid hB1
   clear hB1 hpost HCt q0 q1 q2 q3 q4 q5 q6 q7 q8 q9 e5 e4
   obtain ⟨q0,q1,q2,q3,q4,q5,q6,q7,q8,q9⟩:=ten_cells (HB1.out.cellsAt (b:=wr.heap.size) (cs:=[.int .i64 n.kind,.int .i64 n.no,.string (txt n.op),.string (txt n.name),.string (txt n.text),.string (txt n.targets),.string (txt n.pattern),.string (txt n.inputs),.string (txt n.order),.slice ro rn rc]) (t := 79) (by simp [boxes2]))
   obtain ⟨p0,p1,_⟩:=two_cells (HB1.out.cellsAt (b:=wr.heap.size+1) (cs:=[.string (txt p),.int .i64 n.no]) (t := 33) (by simp [boxes2]))
   by_cases h1:n.kind=1
   ·have e1:(n.kind == 1)=true:=beq_iff_eq.2 h1
    obtain ⟨hR1,hF1⟩:=HStep.out.run (step1 h1)
    have HC:=Lib.hid (rassign_any w0 c (boxes2 wr.heap.size n (.slice ro rn rc) p n.no L) kn { st' with done:=st'.done+1 } n ro rn rc p w2 HB1.out HSt.out HE1.out HNdn.out)
    have HF1:=Lib.hid hF1
    have HR1:=Lib.hid hR1
    clear hR1 hF1 HStep h1 HB1
    generalize assignE p n { st' with done:=st'.done+1 }=sub at HC HF1 HR1
    go_wp2_with fail
    with_reducible refine HC.out.mono ?_
    rintro e w3 (⟨f,rfl,rfl,hI⟩ | ⟨st2,rfl,rfl,hR3⟩)
    ·have HI:Hid (In w0 L w3):=hI.drop (l1:=[_,_])
     have HE2:Hid (R=.error f):=HR1.out
     clear hI HC HR1
     unfold panE
     go_wp2_with fail
     exact ⟨rfl,.inl ⟨f,HE2.out,rfl,HI.out⟩⟩
    ·have HR3:Hid (RS w0 c L kn st2 w3):=RS.less (l:=[_,_]) hR3
     have HD2:Hid (DoAt c.fs (readE c.fs k) p v0 nds st (i+1) (.slice o2 (nn - i - 1) (cc - 1)) st2):=⟨HRt.out.trans HR1.out,HSl.out,by rw [← HNN.out];omega,HF1.out st2 rfl⟩
     clear hR3 HC HR1 HF1
     go_wp2_with fail
     go_roundw
     case rel=>exact ⟨i+1,st2,o2,nn - i - 1,cc - 1,by omega,by omega,rfl,HD2,HR3⟩
     case measure=>simp [lenOf];omega
   by_cases h6:n.kind=6
   ·have e1:(n.kind == 1)=false:=by rw [beq_eq_false_iff_ne];omega
    have e6:(n.kind == 6)=true:=beq_iff_eq.2 h6
    obtain ⟨hR1,hF1⟩:=HStep.out.run (step6 h6)
    have hgi:GG al (inclE c.fs (readE c.fs k) p n { st' with done:=st'.done+1 }):=GG.first (by rw [← hR1];exact HG.out)
    have HC:=Lib.hid (HInc.out (boxes2 wr.heap.size n (.slice ro rn rc) p n.no L) kn { st' with done:=st'.done+1 } n ro rn rc p w2 HB1.out HF9.out HNdn.out hgi)
    clear hgi
    have HF1:=Lib.hid hF1
    have HR1:=Lib.hid hR1
    clear hR1 hF1 HStep h6 HB1
    generalize inclE c.fs (readE c.fs k) p n { st' with done:=st'.done+1 }=sub at HC HF1 HR1
    go_wp2_with fail
    with_reducible refine HC.out.mono ?_
    rintro e w3 (⟨f,rfl,rfl,hI⟩ | ⟨st2,rfl,rfl,hR3⟩)
    ·have HI:Hid (In w0 L w3):=hI.drop (l1:=[_,_])
     have HE2:Hid (R=.error f):=HR1.out
     clear hI HC HR1
     unfold panE
     go_wp2_with fail
     exact ⟨rfl,.inl ⟨f,HE2.out,rfl,HI.out⟩⟩
    ·have HR3:Hid (RS w0 c L kn st2 w3):=RS.less (l:=[_,_]) hR3
     have HD2:Hid (DoAt c.fs (readE c.fs k) p v0 nds st (i+1) (.slice o2 (nn - i - 1) (cc - 1)) st2):=⟨HRt.out.trans HR1.out,HSl.out,by rw [← HNN.out];omega,HF1.out st2 rfl⟩
     clear hR3 HC HR1 HF1
     go_wp2_with fail
     go_roundw
     case rel=>exact ⟨i+1,st2,o2,nn - i - 1,cc - 1,by omega,by omega,rfl,HD2,HR3⟩
     case measure=>simp [lenOf];omega
   by_cases h2:n.kind=2
   ·have e1:(n.kind == 1)=false:=by rw [beq_eq_false_iff_ne];omega
    have e6:(n.kind == 6)=false:=by rw [beq_eq_false_iff_ne];omega
    have e2:(n.kind == 2)=true:=beq_iff_eq.2 h2
    obtain ⟨hR1,hF1⟩:=HStep.out.run (step2 h2)
    have hgi:GG al (ruleE p n { st' with done:=st'.done+1 }):=GG.first (by rw [← hR1];exact HG.out)
    have HC:=Lib.hid (HRu.out w0 c (boxes2 wr.heap.size n (.slice ro rn rc) p n.no L) kn { st' with done:=st'.done+1 } n ro rn rc p w2 HB1.out HSt.out HE1.out HNdn.out (HKp.out HX.out) HSz.out.1 HSz.out.2 hgi)
    clear hgi
    have HF1:=Lib.hid hF1
    have HR1:=Lib.hid hR1
    clear hR1 hF1 HStep h2 HB1
    generalize ruleE p n { st' with done:=st'.done+1 }=sub at HC HF1 HR1
    go_wp2_with fail
    with_reducible refine HC.out.mono ?_
    rintro e w3 (⟨f,rfl,rfl,hI⟩ | ⟨st2,rfl,rfl,hR3⟩)
    ·have HI:Hid (In w0 L w3):=hI.drop (l1:=[_,_])
     have HE2:Hid (R=.error f):=HR1.out
     clear hI HC HR1
     unfold panE
     go_wp2_with fail
     exact ⟨rfl,.inl ⟨f,HE2.out,rfl,HI.out⟩⟩
    ·have HR3:Hid (RS w0 c L kn st2 w3):=RS.less (l:=[_,_]) hR3
     have HD2:Hid (DoAt c.fs (readE c.fs k) p v0 nds st (i+1) (.slice o2 (nn - i - 1) (cc - 1)) st2):=⟨HRt.out.trans HR1.out,HSl.out,by rw [← HNN.out];omega,HF1.out st2 rfl⟩
     clear hR3 HC HR1 HF1
     go_wp2_with fail
     go_roundw
     case rel=>exact ⟨i+1,st2,o2,nn - i - 1,cc - 1,by omega,by omega,rfl,HD2,HR3⟩
     case measure=>simp [lenOf];omega
   by_cases h3:n.kind=3
   ·have e1:(n.kind == 1)=false:=by rw [beq_eq_false_iff_ne];omega
    have e6:(n.kind == 6)=false:=by rw [beq_eq_false_iff_ne];omega
    have e2:(n.kind == 2)=false:=by rw [beq_eq_false_iff_ne];omega
    have e3:(n.kind == 3)=true:=beq_iff_eq.2 h3
    have hR1:=HStep.out.told
    rw [step3 h3] at hR1
    have HR1:=Lib.hid hR1
    have HC:=Lib.hid (holds_any c.rb st'.env n ro rn rc p w2 (HB1.out.re HSt.out HE1.out) HNdn.out)
    clear hR1 HStep h3 h2 h6 h1
    simp only at HR1
    generalize holdsE st'.env p n=sub at HC HR1
    go_wp2_with fail
    with_reducible refine HC.out.mono ?_
    rintro e w3 ⟨hb3,⟨f,rfl,rfl⟩ | ⟨b,rfl,rfl⟩⟩
    ·have HI:Hid (In w0 L w3):=(HB1.out.below hb3).rest.drop (l1:=[_,_])
     have HE2:Hid (R=.error f):=HR1.out
     clear hb3 HC HR1
     unfold panE
     go_wp2_with fail
     exact ⟨rfl,.inl ⟨f,HE2.out,rfl,HI.out⟩⟩
    ·have HW3:Hid (RS w0 c L kn { st' with done:=st'.done+1 } w3):=RS.less (l:=[_,_]) (HB1.out.below hb3)
     cases b with
     | true =>
      have HD2:Hid (DoAt c.fs (readE c.fs k) p v0 nds st (i+1) (.slice o2 (nn - i - 1) (cc - 1)) { st' with done:=st'.done+1 }):=⟨HRt.out.trans HR1.out,HSl.out,by rw [← HNN.out];omega,HF9.out⟩
      clear hb3 HC HR1 HB1
      go_wp2_with fail
      go_roundw
      case rel=>exact ⟨i+1,_,o2,nn - i - 1,cc - 1,by omega,by omega,rfl,HD2,HW3⟩
      case measure=>simp [lenOf];omega
     | false =>
      have HE4:Hid (R=doE c.fs (readE c.fs k) p (partL 0 (ndL (nds.drop (i+1)))) { st' with done:=st'.done+1 }):=HR1.out
      have HBp:=Lib.hid (behind_any v0 nds (i+1) o2 (nn - i - 1) (cc - 1) w3 (HN.out _ _ _ HW3.out) HSl.out (by rw [← HNN.out];omega) (by rw [← HNN.out];exact hl))
      clear hb3 HC HR1 HB1
      go_wp2_with fail
      with_reducible refine HBp.out.mono ?_
      rintro e w4 ⟨o3,m3,c3,k3,rfl,hs3,hk3,hk4,hp3,hb4⟩
      have HD2:Hid (DoAt c.fs (readE c.fs k) p v0 nds st k3 (.slice o3 m3 c3) { st' with done:=st'.done+1 }):=⟨HRt.out.trans (HE4.out.trans (by rw [hp3])),hs3,hk4,HF9.out⟩
      obtain rfl:m3=nn - k3:=by obtain ⟨_,_,hv3,_⟩:=hs3;cases hv3;rw [← HNN.out]
      have HW4:=Lib.hid (HW3.out.below hb4)
      rw [← HNN.out] at hk4
      clear hs3 hp3 hb4 HBp HE4
      go_wp2_with fail
      go_roundw
      case rel=>exact ⟨k3,_,o3,nn - k3,c3,hk4,rfl,rfl,HD2,HW4⟩
      case measure=>simp [lenOf];omega
   ·have e1:(n.kind == 1)=false:=by rw [beq_eq_false_iff_ne];omega
    have e6:(n.kind == 6)=false:=by rw [beq_eq_false_iff_ne];omega
    have e2:(n.kind == 2)=false:=by rw [beq_eq_false_iff_ne];omega
    have e3:(n.kind == 3)=false:=by rw [beq_eq_false_iff_ne];omega
    have hR1:=HStep.out.told
    rw [step0 h1 h6 h2 h3] at hR1
    have HD2:Hid (DoAt c.fs (readE c.fs k) p v0 nds st (i+1) (.slice o2 (nn - i - 1) (cc - 1)) { st' with done:=st'.done+1 }):=⟨HRt.out.trans hR1,HSl.out,by rw [← HNN.out];omega,HF9.out⟩
    have HW3:Hid (RS w0 c L kn { st' with done:=st'.done+1 } w2):=RS.less (l:=[_,_]) HB1.out
    clear HStep h1 h6 h2 h3 hR1 HB1
    go_wp2_with fail
    go_roundw
    case rel=>exact ⟨i+1,_,o2,nn - i - 1,cc - 1,by omega,by omega,rfl,HD2,HW3⟩
    case measure=>simp [lenOf];omega
  ·have HE:Hid (R=.ok st'):=by
    show R=_
    rw [← HRt.out,HD.out.told,List.drop_eq_nil_of_le (by rw [← HNN.out];omega)]
    exact do_nil _ _ _ _
   have hm0:¬ (0:Int) < ((nn - i:Nat):Int):=by omega
   clear HD
   go_wp2_with fail
   go_end0
   exact .inr ⟨st',HE.out,rfl,HRS.out⟩
end Go.Proofs.YtmfjolmfbdbegaaGreatDoor

namespace Go.Proofs.YtmfjolmfbdbegaaGreatDoor
open Go.RowKit Go.Shelf Go.Maps
attribute [local go_sem] Oper.semAt_some
section
variable {w0 w w':World} {c:Ctx} {L:List Own} {kn:List KV} {st:St} {y:KV} {e:Ending} {r:Ev St}
theorem RS.fewer (h:RS w0 c L (y :: kn) st w):RS w0 c L kn st w:=let ⟨s,h1,h2,h3⟩:=h;⟨s,h1,h2,fun z hz=>h3 z (List.mem_cons_of_mem _ hz)⟩
theorem StPost.fewer (h:StPost w0 c L (y :: kn) r e w'):StPost w0 c L kn r e w':=h.imp id fun ⟨st,h1,h2,h3⟩=>⟨st,h1,h2,h3.fewer⟩
end
theorem Fits.read {st:St} (h:Fits st) (hl:st.read.length≠200) (p:BT):Fits { st with read:=st.read++[p] }:=by
 have:=h.fit.read
 exact ⟨⟨h.fit.srt,h.fit.env,h.fit.vars,h.fit.rules,h.fit.phony,by simp only [List.length_append,List.length_cons,List.length_nil];omega⟩,h.done⟩
theorem readE_none {fs:Files} {k:Nat} {p:BT} {st:St} (h:fileOf fs p=none):readE fs k p st=.error (4,p,0):=by
 cases k <;> (unfold readE;rw [h])
theorem readE_deep {fs:Files} {p t:BT} {st:St} (h:fileOf fs p=some t):readE fs 0 p st=.error (15,p,0):=by unfold readE;rw [h]
theorem readE_long {fs:Files} {k:Nat} {p t:BT} {st:St} (h:fileOf fs p=some t) (hl:st.read.length=200):readE fs (k+1) p st=.error (3,p,0):=by unfold readE;rw [h];exact if_pos hl
theorem readE_ok {fs:Files} {k:Nat} {p t:BT} {st:St} (h:fileOf fs p=some t) (hl:st.read.length≠200):readE fs (k+1) p st=Eb (saidE p t) fun l=>doE fs (readE fs k) p l { st with read:=st.read++[p] }:=by unfold readE;rw [h];exact if_neg hl
theorem said_few {p t:BT} {l:List Nd} (h:saidE p t=.ok l):l.length≤300:=by
 unfold saidE at h
 split at h
 ·cases h
 split at h
 ·cases h
 ·cases h
  have h1:=parseP_few ((lexOf t).1.map toLine)
  have h2:=(lex_small t).1
  rw [List.length_map] at h1
  omega
theorem file_mem {fs:Files} {p t:BT} (h:fileOf fs p=some t):∃ x∈fs,x.2=t:=by
 unfold fileOf at h
 obtain ⟨x,hx,ht⟩:=Option.map_eq_some_iff.1 h
 exact ⟨x,List.mem_of_find?_eq_some hx,ht⟩
set_option maxRecDepth 100000 in
set_option maxHeartbeats 8000000 in
theorem read_no (al:Bool) (w0:World) (c:Ctx) (k:Nat) (j:Int) (L:List Own) (kn:List KV) (st:St) (p:BT) (w:World) (h:RS w0 c L kn st w) (hp:p.length≤4000) (hf:fileOf c.fs p=none) :
  Calls Tryz.prog 21 #[.pointer (some ⟨c.rb,0,none⟩),.string (txt p),.int .i64 j] w (StPost w0 c L kn (readE c.fs k p st)):=by
 rw [readE_none hf]
 have hB:Below w.heap.size w (plB w p 0):=(Below.refl _ w).alloc (Nat.le_refl _) _
 obtain ⟨p0,p1,_⟩:=two_cells (World.alloc_heap_new w (.cells #[.string (txt p),.int .i64 0] 33))
 have hT:=(h.below hB).there p (by omega)
 rw [hf] at hT
 have HT:=Lib.hid hT
 have HI:=Lib.hid (h.below hB).rest
 clear hT hB h hf
 go_enter Tryz.func21,Tryz.ntmps21
 go_wp2_with fail
 with_reducible refine HT.out.mono ?_
 rintro e w' ⟨rfl,rfl⟩
 go_wp2_with fail
 refine (fail_any 4 p 0 _).mono ?_
 rintro e w3 ⟨rfl,hb3⟩
 have HI3:=Lib.hid (HI.out.below hb3)
 clear hb3
 unfold panE
 go_wp2_with fail
 exact ⟨rfl,.inl ⟨_,rfl,rfl,HI3.out⟩⟩
set_option maxRecDepth 100000 in
set_option maxHeartbeats 8000000 in
theorem read_deep (al:Bool) (w0:World) (c:Ctx):ReadC al w0 c 0 20:=fun L kn st p w h hf hp _=>by
 cases hfo:fileOf c.fs p with
 | none=>exact read_no al w0 c 0 20 L kn st p w h hp hfo
 | some t =>
 rw [readE_deep hfo]
 have hB:Below w.heap.size w (plB w p 0):=(Below.refl _ w).alloc (Nat.le_refl _) _
 obtain ⟨p0,p1,_⟩:=two_cells (World.alloc_heap_new w (.cells #[.string (txt p),.int .i64 0] 33))
 have hT:=(h.below hB).there p (by omega)
 rw [hfo] at hT
 have HT:=Lib.hid hT
 have HI:=Lib.hid (h.below hB).rest
 clear hT hB h hf hfo
 go_enter Tryz.func21,Tryz.ntmps21
 go_wp2_with fail
 with_reducible refine HT.out.mono ?_
 rintro e w' ⟨rfl,rfl⟩
 go_wp2_with fail
 refine (fail_any 15 p 0 _).mono ?_
 rintro e w3 ⟨rfl,hb3⟩
 have HI3:=Lib.hid (HI.out.below hb3)
 clear hb3
 unfold panE
 go_wp2_with fail
 exact ⟨rfl,.inl ⟨_,rfl,rfl,HI3.out⟩⟩
set_option maxRecDepth 100000 in
set_option maxHeartbeats 16000000 in
theorem read_step (al:Bool) (w0:World) (c:Ctx) (hRu:RuleC al) (hst:Std w0) (hfs:FsOk w0 c) (k:Nat) (j:Int) (hj0:0≤j) (hj:j < 20) (hR:ReadC al w0 c k (j+1)):ReadC al w0 c (k+1) j:=fun L kn st p w h hf hp hg=>by
 cases hfo:fileOf c.fs p with
 | none=>exact read_no al w0 c (k+1) j L kn st p w h hp hfo
 | some t =>
 have hB:Below w.heap.size w (plB w p 0):=(Below.refl _ w).alloc (Nat.le_refl _) _
 obtain ⟨p0,p1,_⟩:=two_cells (World.alloc_heap_new w (.cells #[.string (txt p),.int .i64 0] 33))
 have h1:=h.below hB
 have hT:=h1.there p (by omega)
 rw [hfo] at hT
 have HT:=Lib.hid hT
 have hj20:(j == 20)=false:=by rw [beq_eq_false_iff_ne];omega
 obtain ⟨s,k1,k2,k3⟩:=h1
 obtain ⟨_,_,_,_,_,_,_,_,q8,qf⟩:=nine_cells k1.rcells
 obtain ⟨ow,cw,hwv⟩:=k1.textLen (v:=s.wv) (l:=st.read) (by simp [owns])
 by_cases hlen:st.read.length=200
 ·rw [readE_long hfo hlen]
  rw [hwv,hlen] at q8
  have HI:=Lib.hid (RS.rest ⟨s,k1,k2,k3⟩)
  clear hT hB h hf hfo k1 k2 k3 hg hR hfs hwv hlen
  go_enter Tryz.func21,Tryz.ntmps21
  go_wp2_with fail
  with_reducible refine HT.out.mono ?_
  rintro e w' ⟨rfl,rfl⟩
  go_wp2_with fail
  refine (fail_any 3 p 0 _).mono ?_
  rintro e w3 ⟨rfl,hb3⟩
  have HI3:=Lib.hid (HI.out.below hb3)
  clear hb3
  unfold panE
  go_wp2_with fail
  exact ⟨rfl,.inl ⟨_,rfl,rfl,HI3.out⟩⟩
 ·rw [readE_ok hfo hlen] at hg ⊢
  have hfit:=hf.read hlen p
  have hrl:=hf.fit.read
  obtain ⟨o9,c9,w9,hrun,d8,df,hI⟩:=k1.pushRead p (by omega) 28
  have df8:=df
  have hl8:((st.read.length:Int) == 200)=false:=by rw [beq_eq_false_iff_ne];omega
  have HSd:=Lib.hid (said12_any w0 c L kn _ { st with read:=st.read++[p] } p t _ hI ⟨k2.rules,k2.known,by have:=k2.nn;simp only [List.length_append,List.length_cons,List.length_nil];omega,by simp only [List.length_append,List.length_cons,List.length_nil];omega,k3⟩ hfo hfs.at_ hfs.few (by obtain ⟨x,hx,rfl⟩:=file_mem hfo;exact hfs.short x hx) (by omega))
  rw [hwv] at q8 hrun d8
  simp only [World.size_alloc] at hrun
  have HRd:=Lib.hid hR
  have HRu:=Lib.hid hRu
  have HSt:=Lib.hid hst
  have HF:=Lib.hid hfit
  generalize hRR:(Eb (saidE p t) fun l=>doE c.fs (readE c.fs k) p l { st with read:=st.read++[p] })=R at hg ⊢
  have HRR:=Lib.hid hRR
  have HG:=Lib.hid hg
  have hq8:(((plB w p 0).alloc (.cells #[.string (txt p)] 9))).cell? ⟨c.rb,8,none⟩=some (.slice ow st.read.length cw):=(((Below.refl _ (plB w p 0)).alloc (Nat.le_refl _) _).cell (p:=⟨c.rb,8,none⟩) (Array.getElem?_eq_some_iff.1 k1.rcells).1).trans q8
  clear hT hB h hf hfo k1 k2 k3 hg hR hfs hwv hlen hI hst hRu hfit hRR
  go_enter Tryz.func21,Tryz.ntmps21
  go_wp2_with fail
  with_reducible refine HT.out.mono ?_
  rintro e w' ⟨rfl,rfl⟩
  clear HT
  go_wp2_with (at_builtin;refine wpList_append_eq rfl _ _ 28 rfl _ _ _ w9 rfl rfl hrun ?_)
  with_reducible refine HSd.out.mono ?_
  rintro e w3 (⟨f,hs,rfl,hI⟩ | ⟨⟨yp,yv,ynds⟩,hs,rfl,hRS⟩)
  ·have HI:=Lib.hid hI
   have HE:Hid (R=.error f):=by
    show _=_
    rw [← HRR.out,hs];rfl
   clear hI hs HSd
   unfold panE
   go_wp2_with fail
   exact ⟨rfl,.inl ⟨f,HE.out,rfl,HI.out⟩⟩
  ·have hsm:∀ x∈ynds,NdOk x.1:=fun x hx=>said_small hs _ (List.mem_map.2 ⟨x,hx,rfl⟩)
   have hfew:ynds.length≤1000000:=by have:=said_few hs;rw [List.length_map] at this;simp only at this;omega
   obtain ⟨oy,cy,hyv,_⟩:=hRS.nodes (y:=(yp,yv,ynds)) List.mem_cons_self
   simp only at hyv hs
   subst hyv
   have hV:R=doE c.fs (readE c.fs k) p (ndL ynds) { st with read:=st.read++[p] }:=by rw [← HRR.out,hs];rfl
   have HV:=Lib.hid hV
   have HD:=Lib.hid (do_any al w0 c k j HRu.out HRd.out HSt.out hj0 (by omega) L ((yp,.slice oy ynds.length cy,ynds) :: kn) { st with read:=st.read++[p] } (yp,.slice oy ynds.length cy,ynds) List.mem_cons_self p w3 hRS HF.out hsm hfew (by have:=HG.out;rw [hV] at this;exact this))
   simp only at HD
   rw [← hV] at HD
   clear hs hRS hsm hfew HSd HF HG HV hV
   simp only
   go_wp2_with fail
   with_reducible refine HD.out.mono ?_
   intro e w4 hpost
   have hp2:=hpost.fewer
   rcases hp2 with ⟨f,rfl,rfl,hI⟩ | ⟨st2,rfl,rfl,hR4⟩
   ·have HI:=Lib.hid hI
    clear hI HD hpost
    unfold panE
    go_wp2_with fail
    exact ⟨rfl,.inl ⟨f,rfl,rfl,HI.out⟩⟩
   ·have HR4:=Lib.hid hR4
    clear hR4 HD hpost
    go_wp2_with fail
    go_end0
    exact .inr ⟨st2,rfl,rfl,HR4.out⟩
theorem read_any (al:Bool) (w0:World) (c:Ctx) (hRu:RuleC al) (hst:Std w0) (hfs:FsOk w0 c):∀ k:Nat,k≤20→ReadC al w0 c k (20 - (k:Int))
 | 0,_=>read_deep al w0 c
 | k+1,hk=>by
  have:=read_any al w0 c hRu hst hfs k (by omega)
  exact read_step al w0 c hRu hst hfs k _ (by omega) (by omega) (by have e : (20 - ((k + 1 : Nat) : Int) + 1) = 20 - (k : Int) := by omega
                                                                    rw [e]; exact this)
end Go.Proofs.YtmfjolmfbdbegaaGreatDoor
