/-
  What apply answers, if text answers as the chapter says. No condition but sizes.
  What reference answers, if text and value answer as the chapter says one level down; so all of them do. No condition but sizes.
  What Expand answers: what the chapter says, for every text and all variables up to a size. No condition but sizes.
-/
import Derived.Deep.CutRange
import Derived.Deep.DeepCutAuto
import Derived.Test.YtmfjolmfbdbegaaGreatDoorNC
import Derived.Test.YtmfjolmfbdbegaaGreatDoorGE
namespace Go.Proofs.YtmfjolmfbdbegaaGreatDoor
open Go.RowKit Go.Shelf
attribute [local go_sem] Oper.semAt_some
theorem put_snoc:∀ (l:List BT) (x:BT) (i:Nat) (env:EnvT),putT env i (l++[x])=setT (putT env i l) (decOf (i+l.length),x,true)
 | [],x,i,env=>rfl
 | a :: r,x,i,env=>by
  show putT (setT env (decOf i,a,true)) (i+1) (r++[x])=setT (putT (setT env (decOf i,a,true)) (i+1) r) _
  rw [put_snoc r x (i+1)]
  simp only [List.length_cons]
  rw [show i+1+r.length=i+(r.length+1) by omega]
theorem put_take {l:List BT} {i:Nat} {x:BT} (env:EnvT) (h:l[i]? = some x):putT env 0 (l.take (i+1))=setT (putT env 0 (l.take i)) (decOf i,x,true):=by
 obtain ⟨h1,h2⟩:=List.getElem?_eq_some_iff.1 h
 rw [List.take_succ_eq_append_getElem h1,h2,put_snoc]
 rw [List.length_take,Nat.min_eq_left (by omega),Nat.zero_add]
def Lens (env:EnvT):Prop:=∀ x∈env,x.1.length≤10000000∧x.2.1.length≤10000000
theorem put_all:∀ (l:List BT) (i:Nat) (env:EnvT),SrtT env→Lens env→(∀ x∈l,x.length≤10000000)→i+l.length≤1000→SrtT (putT env i l)∧(putT env i l).length≤env.length+l.length∧Lens (putT env i l)
 | [],i,env,hs,hl,_,_=>⟨hs,Nat.le_refl _,hl⟩
 | a :: r,i,env,hs,hl,hx,hi=>by
  simp only [List.length_cons] at hi ⊢
  have hd:=dec_len i (by omega)
  obtain ⟨h1,h2,h3⟩:=put_all r (i+1) (setT env (decOf i,a,true)) (set_srt hs) (fun y hy=>by
   rcases set_mem hy with rfl | hy
   ·exact ⟨by show (decOf i).length≤_;omega,hx a (by simp)⟩
   ·exact hl y hy) (fun x h=>hx x (by simp [h])) (by omega)
  have:=(set_len env (decOf i,a,true)).1
  exact ⟨h1,by show (putT (setT env (decOf i,a,true)) (i+1) r).length≤_;omega,h3⟩
theorem own_put {W:World} {base xb:Nat} {o:Option Addr} {n c:Nat} {a:BT} {r:List BT} (h:OwnT W base (.slice o n c) (a :: r)) (hx:xb < base) (t:BT) :
  ∃ g,o=some ⟨g,0,none⟩∧base≤g∧g < W.heap.size∧n≤c∧W.cell? ⟨g,0,none⟩=some (.string (txt a))∧W.frozen? ⟨g,0,none⟩=false∧ArgsR (W.setCell ⟨g,0,none⟩ (.string (txt t))) xb (some ⟨g,0,none⟩) c (t :: r):=by
 rcases h.2 with ⟨_,h0⟩ | ⟨g,cap,cur,hv,h1,h2,h3,h4,h5,h6⟩
 ·simp at h0
 ·cases hv
  have hgl:=(Array.getElem?_eq_some_iff.1 h2).1
  have hA:=h.args hx
  refine ⟨g,rfl,h1,hgl,h3,?_,Lib.frozen_of_heap h2 0,fun j x hj=>⟨g,0,rfl,by omega,by simpa using hgl,by simpa using h3,?_⟩⟩
  ·obtain ⟨b',f',e,_,_,_,hc⟩:=hA 0 a rfl
   cases e;exact hc
  ·rcases j with _ | j
   ·cases hj
    have hcs:0 < cur.size:=by
     simp only [List.length_cons] at h3
     omega
    simp [World.cell?,World.setCell,Array.getElem?_modify,h2,hcs]
   ·rw [World.cell?_setCell_other _ _ _ _ (by simp)]
    obtain ⟨b',f',e,_,_,_,hc⟩:=hA (j+1) x hj
    cases e;exact hc
structure AppAt (w:World) (o:Option Addr) (m c d xb n g c2 cb:Nat) (l:List BT) (q:BT) (W:World):Prop where
 back:Turned (fun b=>b=xb) (boxP w o m c d) W
 steps:StepsAt W xb n
 row:ArgsR W xb (some ⟨g,0,none⟩) c2 l
 called:∃ u b,W.heap[cb]? = some (.cells #[u,.string (txt q),.bool b] 43 (0,0))
 new:w.heap.size < cb
structure AppL (w:World) (d xb n g cb:Nat) (env:EnvT) (l:List BT) (q:BT) (i:Nat) (W:World):Prop where
 back:Turned (fun b=>b=xb) w W
 steps:StepsAt W xb n
 row:∀ j x,l[j]? = some x→W.cell? ⟨g,j,none⟩=some (.string (txt x))
 gl:g < W.heap.size
 place:∃ o m c,W.heap[w.heap.size]? = some (.cells #[.slice o m c,.int .i64 (d:Int)] 193 (0,0))∧EnvS W (fun b=>b≠xb∧b≠w.heap.size) (.slice o m c) (putT env 0 (l.take i))
 called:∃ u b,W.heap[cb]? = some (.cells #[u,.string (txt q),.bool b] 43 (0,0))
theorem AppL.below {w:World} {d xb n g cb:Nat} {env:EnvT} {l:List BT} {q:BT} {i:Nat} {W W':World} (h:AppL w d xb n g cb env l q i W) (hb:Below W.heap.size W W'):AppL w d xb n g cb env l q i W':=by
 obtain ⟨o,m,c,h1,h2⟩:=h.place
 obtain ⟨u,b,h3⟩:=h.called
 exact ⟨h.back.trans (turned_of_below' hb),(hb.block _ h.steps.lt).trans h.steps,fun j x hj=>(hb.cell (p:=⟨g,j,none⟩) h.gl).trans (h.row j x hj),Nat.lt_of_lt_of_le h.gl hb.size,
  ⟨o,m,c,(hb.block _ (Array.getElem?_eq_some_iff.1 h1).1).trans h1,h2.below hb⟩,u,b,(hb.block _ (Array.getElem?_eq_some_iff.1 h3).1).trans h3⟩
theorem AppL.put {w:World} {d xb n g cb:Nat} {env:EnvT} {l:List BT} {q x:BT} {i:Nat} {W W':World} {o:Option Addr} {m c:Nat} (h:AppL w d xb n g cb env l q i W) (hx:xb < w.heap.size) (hg:g≠w.heap.size) (hc:cb≠w.heap.size)
  (hb:Below W.heap.size W W') (hE:EnvS W' (fun b=>W.heap.size≤b) (.slice o m c) (setT (putT env 0 (l.take i)) (decOf i,x,true))) (hi:l[i]? = some x) :
  AppL w d xb n g cb env l q (i+1) ((W'.setCell ⟨w.heap.size,0,none⟩ (.slice o m c)).setCell ⟨w.heap.size,1,none⟩ (.int .i64 (d:Int))):=by
 have h':=h.below hb
 obtain ⟨o1,m1,c1,h1,_⟩:=h'.place
 obtain ⟨u,b,h3⟩:=h'.called
 have hlt:=(Array.getElem?_eq_some_iff.1 h1).1
 have hT:Turned (fun b=>b=w.heap.size) W' ((W'.setCell ⟨w.heap.size,0,none⟩ (.slice o m c)).setCell ⟨w.heap.size,1,none⟩ (.int .i64 (d:Int))) :=
  (Turned.setCell (X:=fun b=>b=w.heap.size) _ ⟨w.heap.size,0,none⟩ _ rfl).trans (Turned.setCell (X:=fun b=>b=w.heap.size) _ ⟨w.heap.size,1,none⟩ _ rfl)
 have hwW:w.heap.size < W.heap.size:=by
  obtain ⟨_,_,_,h9,_⟩:=h.place
  exact (Array.getElem?_eq_some_iff.1 h9).1
 refine ⟨h'.back.later (Y:=fun b=>b=w.heap.size) hT (fun k hk hh=>by omega),(hT.block _ h'.steps.lt (by omega)).trans h'.steps,fun j y hj=>?_,by simpa using h'.gl,⟨o,m,c,set_two h1 _ _,?_⟩,u,b,(hT.block _ (Array.getElem?_eq_some_iff.1 h3).1 hc).trans h3⟩
 ·rw [← h'.row j y hj]
  unfold World.cell?
  rw [hT.block g h'.gl hg]
 ·rw [put_take env hi]
  have hE2:=hE.wider (Q':=fun b=>b≠xb∧b≠w.heap.size) (fun b _ hb=>⟨by have:=h.steps.lt;omega,by omega⟩)
  exact hE2.turned hT (fun b hb h2=>hb.2 h2)
set_option maxRecDepth 100000 in
set_option maxHeartbeats 20000000 in
theorem apply_any (k:Nat) (hX:TextC k) (xb n d:Nat) (o:Option Addr) (m c:Nat) (env:EnvT) (ao:Option Addr) (an ac:Nat) (l:List BT) (w:World) (hd:d+k=20) (h:AtX xb n w (.slice o m c) env) (hE:EnvOk env (k+1))
  (hl:an=l.length) (hl1:1≤an) (hl9:an≤9) (hs:∀ x∈l,x.length≤10000000) (hr:ArgsR w xb ao ac l) :
  Calls Tryz.prog 184 #[.pointer (some ⟨xb,0,none⟩),.agg #[.slice o m c,.int .i64 (d:Int)],.slice ao an ac] w (ExpPost xb (applyR (textE k) env l n) w):=by
 have hx:=h.steps.lt
 have HXs:=Lib.hid ((hX.ats hd h hE.less) n ao an ac l (boxP w o m c d) (box_turned _ _ _ _ _ _) ((((Below.refl _ w).alloc (Nat.le_refl _) _).block _ hx).trans h.steps) h.few hl (by omega) hs (hr.turned (box_turned _ _ _ _ _ _)))
 have HP:Hid (∀ W,Turned (fun b=>b=xb) (boxP w o m c d) W→Turned (fun b=>b=xb) w W∧W.cell? ⟨w.heap.size,0,none⟩=some (.slice o m c)∧W.cell? ⟨w.heap.size,1,none⟩=some (.int .i64 (d:Int))):=fun W hT=>placed hx hT
 have HR:Hid (applyR (textE k) env l n=Rb (textsR (textE k env) l n) fun m l=>textE k (putT env 0 (l.set 0 (trimOf (l.getD 0 [])))) (textOf (getT env (trimOf (l.getD 0 [])))) m):=rfl
 have HSh:Hid (∀ n2 l2,textsR (textE k env) l n=.ok (n2,l2)→∃ t r,l2=t :: r∧r.length+1=an∧∀ x∈l2,x.length≤4000):=fun n2 l2 hh=>by
  have h1:=texts_len hh
  have h2:=texts_short (fun s n=>short_textE k env s n) hh
  rcases l2 with _ | ⟨t,r⟩
  ·simp at h1;omega
  ·exact ⟨t,r,rfl,by rw [hl,← h1];rfl,h2⟩
 have HG:Hid (∀ (t:BT) W,Turned (fun b=>b=xb) w W→Calls Tryz.prog 115 #[.agg #[.slice o m c],.string (txt t)] W fun e w'=>(∃ u v b1 b2,e=.returned (.tuple #[.agg #[u,v,.bool b1],.bool b2])∧v=.string (txt (textOf (getT env t)))∧u=.string (txt ((getT env t).getD ([],[],false)).1))∧Below W.heap.size W w'):=fun t W hT=>by
  have h9:=get_any (fun b=>b≠xb) (.slice o m c) env (txt t) W (h.env.turned hT fun b h1 h2=>h1 h2) (by have:=hE.2.1;omega)
  rw [txt_data] at h9
  refine h9.mono ?_
  rintro e w' ⟨rfl,hb⟩
  refine ⟨⟨_,_,_,_,rfl,?_,rfl⟩,hb⟩
  cases getT env t <;> rfl
 have hAt:=Lib.hid h
 have hEk:=Lib.hid hE
 clear h hE hs hr hl
 go_enter Tryz.func184,Tryz.ntmps184
 go_wp2_with fail
 refine HXs.out.mono ?_
 rintro e w2 ⟨o2,m2,c2,j2,rfl,hT2,hR2⟩
 have HT2:=Lib.hid hT2
 have HR2:Hid (TextsRes xb ((boxP w o m c d).heap.size+1) (textsR (textE k env) l n) o2 m2 c2 j2 w2):=hR2
 clear hT2 hR2 HXs
 obtain ⟨hTw,k0,k1⟩:=HP.out _ HT2.out
 have HT2w:=Lib.hid hTw
 by_cases hj2:j2=0
 ·subst hj2
  obtain ⟨n2,l2,hl2,hm2,ho2,hs2,hn2⟩:=HR2.out.good
  obtain ⟨t,r,rfl,hra,h4⟩:=HSh.out _ _ hl2
  have hrl:r.length+1=m2:=by rw [hm2];rfl
  have hms:m2=an:=by omega
  subst hms
  have ho2':OwnT w2 (w.heap.size+2) (.slice o2 m2 c2) (t :: r):=by
   have e:(boxP w o m c d).heap.size+1=w.heap.size+2:=by simp
   rw [e] at ho2;exact ho2
  have HO2:=Lib.hid ho2'
  obtain ⟨g,rfl,hgb,hgl,hgc,hg0,hgf,_⟩:=own_put (xb:=xb) ho2' (by omega) (trimOf t)
  have HS2:=Lib.hid hs2
  have ht4:t.length≤4000:=h4 t (by simp)
  have HTr:=Lib.hid (trim_any (txt t) (by rw [txt_size];unfold maxLen;omega))
  rw [txt_data] at HTr
  have hlt0:(0:Int) < (m2:Int):=by omega
  have hlt0':0 < m2:=by omega
  have HE:Hid (applyR (textE k) env l n=textE k (putT env 0 (trimOf t :: r)) (textOf (getT env (trimOf t))) n2):=by
   show _=_
   rw [HR.out,hl2];rfl
  have H4:=Lib.hid h4
  have HM2:=Lib.hid hm2
  clear HR HR2 HSh hl2 ho2 ho2' hs2 h4 hTw hm2 hrl hra
  go_wp2_with fail
  refine (HTr.out _).mono ?_
  rintro e w3 ⟨rfl,hb3⟩
  obtain ⟨g',hg',_,hgl3,_,hg3,hgf3,hA3⟩:=own_put (xb:=xb) (owns_below HO2.out hb3) (by omega) (trimOf t)
  cases hg'
  have HA3:=Lib.hid hA3
  have HT3:Hid (Turned (fun b=>b=xb) (boxP w o m c d) w3):=HT2.out.trans (turned_of_below' hb3)
  have HS3:Hid (StepsAt w3 xb n2):=(hb3.block _ HS2.out.lt).trans HS2.out
  clear hA3 hb3 HTr HS2 HT2
  go_wp2_with fail
  have HT4:Hid (Turned (fun b=>b=xb) (boxP w o m c d) (w3.setCell ⟨g,0,none⟩ (.string (txt (trimOf t))))):=HT3.out.later (Y:=fun b=>b=g) (Turned.setCell _ ⟨g,0,none⟩ _ rfl) (fun b hb hh=>by simp at hb;omega)
  obtain ⟨_,k2,k3⟩:=HP.out _ HT4.out
  have hg4:(w3.setCell ⟨g,0,none⟩ (.string (txt (trimOf t)))).cell? ⟨g,0,none⟩=some (.string (txt (trimOf t))):=by
   obtain ⟨b',f',e,_,_,_,h9⟩:=HA3.out 0 (trimOf t) rfl
   cases e;exact h9
  have HS4:Hid (StepsAt (w3.setCell ⟨g,0,none⟩ (.string (txt (trimOf t)))) xb n2):=(Below.heap_setCell _ _ _ _ (by show xb≠g;omega)).trans HS3.out
  have hgl4:g < (w3.setCell ⟨g,0,none⟩ (.string (txt (trimOf t)))).heap.size:=by simpa using hgl3
  clear hgf3 hg3 hgl3 HS3
  generalize (w3.setCell ⟨g,0,none⟩ (.string (txt (trimOf t))))=w4 at HT4 HA3 HS4 hg4 k2 k3 hgl4 ⊢
  have hwl4:w.heap.size < w4.heap.size:=by have:=HT4.out.size;simp at this;omega
  have HT4w:=Lib.hid (HP.out _ HT4.out).1
  go_cut [10] (fun cv wx=>∃ cb:Nat,cv=.pointer (some ⟨cb,0,none⟩)∧Hid (AppAt w o m c d xb n2 g c2 cb (trimOf t :: r) (textOf (getT env (trimOf t))) wx))
  case first =>
   have HTB:Turned (fun b=>b=xb) w w4.drew:=HT4w.out.trans (Turned.drew _ _)
   have HTA:Turned (fun b=>b=xb) w (w4.drew.alloc (.cells #[.string ⟨#[]⟩,.string ⟨#[]⟩,.bool false] 43)):=HTB.trans (turned_of_below' ((Below.refl _ _).alloc (Nat.le_refl _) _))
   have hbA:Below w4.heap.size w4 (w4.drew.alloc (.cells #[.string ⟨#[]⟩,.string ⟨#[]⟩,.bool false] 43)):=(show Below w4.heap.size w4 w4.drew from (Below.refl _ _).drew).alloc (Nat.le_refl _) _
   have HB4:=Lib.hid (And.intro HTA HTB)
   have HK4:=Lib.hid (And.intro ((hbA.cell (p:=⟨w.heap.size,0,none⟩) hwl4).trans k2) ((hbA.cell (p:=⟨g,0,none⟩) hgl4).trans hg4))
   clear HTA HTB hbA
   go_region_held3 (fun w'=>w'.cell? ⟨w.heap.size,0,none⟩=some (.slice o m c)∧w'.cell? ⟨g,0,none⟩=some (.string (txt (trimOf t))))
    (first | (go_keep;done) | (refine ⟨?_,?_⟩ <;> (refine far_cell (far_cell (far_cell (by assumption) ?_) ?_) ?_ <;> omega)))
    (first
     | (go_at_call 115;refine (HG.out (trimOf t) _ HB4.out.1).mono ?_;rintro e w5 ⟨⟨u,v,b1,b2,rfl,rfl,rfl⟩,hb5⟩;have hh5:=(hb5.block w4.heap.size (by simp)).trans (World.alloc_heap_new w4.drew (.cells #[.string ⟨#[]⟩,.string ⟨#[]⟩,.bool false] 43));have HHA:=Lib.hid hh5;have HB5:=Lib.hid hb5;obtain ⟨f0,f1,f2,f3,f4,f5⟩:=three_cells hh5;have j2:=(hb5.cell (p:=⟨w.heap.size,0,none⟩) (by simp;omega)).trans HK4.out.1;have j3:=(hb5.cell (p:=⟨g,0,none⟩) (by simp;omega)).trans HK4.out.2;clear hb5 hh5)
     | (go_at_call 115;refine (HG.out (trimOf t) _ HB4.out.2).mono ?_;rintro e w5 ⟨⟨u,v,b1,b2,rfl,rfl,rfl⟩,hb5⟩;have HB5:=Lib.hid hb5;have j2:=(hb5.cell (p:=⟨w.heap.size,0,none⟩) hwl4).trans k2;have j3:=(hb5.cell (p:=⟨g,0,none⟩) hgl4).trans hg4;have hsz5:w4.heap.size≤w5.heap.size:=hb5.size;have hwl5:w.heap.size < w5.heap.size:=(by omega);have hgl5:g < w5.heap.size:=(by omega);have jn1:=World.new_ne w5 _ j2;have jn2:=World.new_ne w5 _ j3;clear hb5))
   ·go_wp2_with fail
    go_meet
    have hb:Below w4.heap.size w4 w5:=(show Below w4.heap.size w4 w4.drew from (Below.refl _ _).drew).trans HB5.out
    have hb':=hb.alloc hb.size (.cells #[.string (txt ((getT env (trimOf t)).getD ([],[],false)).1),.string (txt (textOf (getT env (trimOf t)))),.bool b1] 43)
    have h9:=World.alloc_heap_new w5 (.cells #[.string (txt ((getT env (trimOf t)).getD ([],[],false)).1),.string (txt (textOf (getT env (trimOf t)))),.bool b1] 43)
    exact ⟨_,rfl,HT4.out.trans (turned_of_below' hb'),(hb'.block _ HS4.out.lt).trans HS4.out,HA3.out.below hb',⟨_,_,h9⟩,hwl5⟩
   ·go_wp2_with fail
    go_meet
    have hb:Below w4.heap.size w4 w5:=((show Below w4.heap.size w4 w4.drew from (Below.refl _ _).drew).alloc (Nat.le_refl _) _).trans (HB5.out.mono (by simp))
    have hb':=below_three hb (Nat.le_refl _) (.string (txt ((getT env (trimOf t)).getD ([],[],false)).1)) (.string (txt (textOf (getT env (trimOf t))))) (.bool b1)
    exact ⟨_,rfl,HT4.out.trans (turned_of_below' hb'),(hb'.block _ HS4.out.lt).trans HS4.out,HA3.out.below hb',⟨_,_,set_three HHA.out _ _ _⟩,hwl4⟩
  case rest =>
   obtain ⟨cb,rfl,HQ⟩:=hcut
   have hA0:AppL w d xb n2 g cb env (trimOf t :: r) (textOf (getT env (trimOf t))) 0 wc:=by
    have hq:=HQ.out
    obtain ⟨p1,p2,p3⟩:=placed hx hq.back
    refine ⟨p1,hq.steps,fun j x hj=>?_,?_,⟨o,m,c,?_,?_⟩,hq.called⟩
    ·obtain ⟨b',f',e,_,_,_,h9⟩:=hq.row j x hj
     cases e
     rwa [Nat.zero_add] at h9
    ·obtain ⟨b',f',e,_,h8,_,h9⟩:=hq.row 0 _ rfl
     cases e;exact h8
    ·exact (hq.back.block _ (by simp) (by omega)).trans (World.alloc_heap_new w _)
    ·have h9:=(hAt.out.env.wider (Q':=fun b=>b≠xb∧b≠w.heap.size) (fun b hb h=>⟨h,by omega⟩)).turned p1 (fun b hb h=>hb.1 h)
     exact h9
   have HA0:=Lib.hid hA0
   have hcb:cb≠w.heap.size:=by have:=HQ.out.new;omega
   have hgw:g≠w.heap.size:=by omega
   have HStd:Hid (∀ W,Turned (fun b=>b=xb) w W→Std W):=fun W hT=>hAt.out.std.turned hT (fun e=>hAt.out.far.1 e.symm) (fun e=>hAt.out.far.2 e.symm)
   have HPut:Hid (∀ i,i≤m2→SrtT (putT env 0 ((trimOf t :: r).take i))∧(putT env 0 ((trimOf t :: r).take i)).length≤900000∧Lens (putT env 0 ((trimOf t :: r).take i))∧EnvOk (putT env 0 ((trimOf t :: r).take i)) k):=fun i hi=>by
    have hq:=put_all ((trimOf t :: r).take i) 0 env hEk.out.1 hEk.out.2.2 (fun x hx=>by
     rcases List.mem_cons.1 (List.mem_of_mem_take hx) with rfl | hx
     ·have:=trim_len t;omega
     ·have:=H4.out x (by simp [hx]);omega) (by rw [List.length_take];omega)
    have hl:=hEk.out.2.1
    have hq2:=hq.2.1
    rw [List.length_take] at hq2
    exact ⟨hq.1,by omega,hq.2.2,hq.1,by omega,hq.2.2⟩
   clear hA0 HA3 HS4 HT4 HT4w HQ k0 k1 k2 k3 hg0 hgf hg4
   go_wp2_with fail
   go_loopw [41] (fun iv wr=>∃ i:Nat,i≤m2∧iv=.int .i64 i∧Hid (AppL w d xb n2 g cb env (trimOf t :: r) (textOf (getT env (trimOf t))) i wr)) (fun iv _=>m2 - (intOf iv).toNat)
   case atStart=>exact ⟨0,Nat.zero_le _,rfl,HA0⟩
   case round =>
    obtain ⟨i,hi,rfl,HA⟩:=hrel
    by_cases hlt:i < m2
    ·obtain ⟨x,hx1⟩:∃ x,(trimOf t :: r)[i]? = some x:=⟨_,List.getElem?_eq_getElem (by have:=HM2.out;simp only [List.length_cons] at this ⊢;omega)⟩
     have hcell:=HA.out.row i x hx1
     have HX1:=Lib.hid hx1
     obtain ⟨o5,m5,c5,hp5,hE5⟩:=HA.out.place
     obtain ⟨y0,y1,y2,y3⟩:=two_cells hp5
     have hil:(i:Int) < (m2:Int):=by omega
     have hi0:(0:Int)≤(i:Int):=by omega
     have HPi:=Lib.hid (HPut.out i hi)
     have HI:Hid (∀ W,Below wr.heap.size wr W→Calls Tryz.prog 195 #[.int .i64 (i:Int)] W fun e w'=>e=.returned (.string (txt (decOf i)))∧Below wr.heap.size wr w'):=fun W hb=>by
      refine (libItoa (i:Int) (by omega) (by omega) W (HStd.out W (HA.out.back.trans (turned_of_below' hb))).tab).mono ?_
      rintro e w' ⟨rfl,q,os,rfl⟩
      refine ⟨?_,hb.trans (below_grow W q os hb.size)⟩
      have e1:Lib.itoa (i:Int)=decOf i:=by
       unfold Lib.itoa
       rw [if_neg (by omega),Int.toNat_natCast]
       exact decDigits_is _ _ (Nat.le_refl _)
      rw [e1]
      rfl
     have HWi:Hid (∀ W,Below wr.heap.size wr W→Calls Tryz.prog 194 #[.agg #[.slice o5 m5 c5,.int .i64 (d:Int)],.string (txt (decOf i)),.string (txt x)] W fun e w'=>∃ o m c,e=.returned (.agg #[.slice o m c,.int .i64 (d:Int)])∧EnvS w' (fun b=>wr.heap.size≤b) (.slice o m c) (setT (putT env 0 ((trimOf t :: r).take i)) (decOf i,x,true))∧Below wr.heap.size wr w'):=fun W hb=>by
      refine (with_any _ o5 m5 c5 d _ (decOf i) x W (hE5.below hb) (by have:=HPi.out.2.1;omega) HPi.out.1).mono ?_
      rintro e w' ⟨o,m,c,rfl,h1,h2⟩
      exact ⟨o,m,c,rfl,h1.wider (fun b _ h=>Nat.le_trans hb.size h),hb.trans (h2.mono hb.size)⟩
     have HP5:=Lib.hid hp5
     have hb0:Below wr.heap.size wr wr:=Below.refl _ _
     have HB0:=Lib.hid hb0
     have hwlt:w.heap.size < wr.heap.size:=(Array.getElem?_eq_some_iff.1 hp5).1
     clear hE5 hp5 hb0 HPut HStd hx1
     go_wp2_with fail
     go_region_with (first
      | (go_at_call 195;(first | refine (HI.out _ HB0.out.drew.drew).mono ?_ | refine (HI.out _ HB0.out.drew).mono ?_ | refine (HI.out _ HB0.out).mono ?_);rintro e w5 ⟨rfl,hb5⟩;have HB5:=Lib.hid hb5;have hq0:=(hb5.cell (p:=⟨w.heap.size,0,none⟩) hwlt).trans y0;have hq1:=(hb5.cell (p:=⟨w.heap.size,1,none⟩) hwlt).trans y1;clear hb5)
      | (go_at_call 194;(first | refine (HWi.out _ HB5.out.drew.drew).mono ?_ | refine (HWi.out _ HB5.out.drew).mono ?_ | refine (HWi.out _ HB5.out).mono ?_);rintro e w6 ⟨o6,m6,c6,rfl,hE6,hb6⟩;have HB6:=Lib.hid hb6;have HE6:=Lib.hid hE6;have hq2:=(hb6.block _ hwlt).trans HP5.out;obtain ⟨v0,v1,v2,v3⟩:=two_cells hq2;clear hb6 hE6 hq2))
     all_goals
      have HN:=Lib.hid (HA.out.put hx hgw hcb HB6.out HE6.out HX1.out)
      generalize ((w6.setCell ⟨w.heap.size,0,none⟩ (.slice o6 m6 c6)).setCell ⟨w.heap.size,1,none⟩ (.int .i64 (d:Int)))=w7 at HN ⊢
      go_wp2_with fail
      go_roundw
      case rel=>exact ⟨i+1,by omega,by go_num,HN⟩
      case measure=>simp [intOf];omega
    ·have hie:i=m2:=by omega
     subst hie
     obtain ⟨o5,m5,c5,hp5,hE5⟩:=HA.out.place
     obtain ⟨u5,v5,hc5⟩:=HA.out.called
     obtain ⟨y0,y1,_,_⟩:=two_cells hp5
     obtain ⟨z0,z1,z2,_⟩:=three_cells hc5
     have hil:¬ (i:Int) < (i:Int):=by omega
     have HPi:=Lib.hid (HPut.out i (Nat.le_refl _))
     have htk:(trimOf t :: r).take i=trimOf t :: r:=List.take_of_length_le (by have:=HM2.out;simp only [List.length_cons] at this ⊢;omega)
     rw [htk] at HPi hE5
     have hql:(textOf (getT env (trimOf t))).length≤10000000:=by
      cases hg:getT env (trimOf t) with
      | none=>exact Nat.zero_le _
      | some y=>exact (hEk.out.2.2 y (get_mem hg)).2
     have HTx:=Lib.hid ((hX xb n2 d o5 m5 c5 _ (textOf (getT env (trimOf t))) wr hd ⟨HStd.out wr HA.out.back,hAt.out.far,HA.out.steps,hn2,hE5.wider (fun b _ h=>h.1)⟩ HPi.out.2.2.2 hql).mono fun _ _ h=>exp_two h)
     clear hE5 hp5 hc5 HPut HStd
     go_wp2_with fail
     refine HTx.out.mono ?_
     rintro e w6 ⟨u6,c6,rfl,hT6,hR6⟩
     have HT6:=Lib.hid hT6
     have HR6:=Lib.hid hR6
     clear hT6 hR6
     go_wp2_with fail
     go_ret2
     exact HR6.out.post HE.out (HA.out.back.trans HT6.out)
 ·have e5:(j2 != 0)=true:=by rw [bne_iff_ne];exact hj2
  have HE:Hid (applyR (textE k) env l n=.error j2):=by
   show _=_
   rw [HR.out,HR2.out.bad hj2];rfl
  clear HR hTw
  go_wp2_with fail
  go_ret2
  exact ⟨HT2w.out,.inl ⟨j2,HE.out,hj2,rfl⟩⟩
end Go.Proofs.YtmfjolmfbdbegaaGreatDoor

namespace Go.Proofs.YtmfjolmfbdbegaaGreatDoor
open Go.RowKit Go.Shelf
attribute [local go_sem] Oper.semAt_some
theorem call_bad {N:BT} {x:List BT} (h:(callT N x).2≠0):(callT N x).1=[]:=by
 unfold callT at h ⊢
 split
 ·rfl
 ·rename_i h0
  rw [if_neg h0] at h
  split
  ·rename_i h1
   rw [if_pos h1] at h
   cases ha:ansT N x with
   | none=>rfl
   | some y =>
    rw [ha] at h
    simp only [finT] at h ⊢
    by_cases h2:y.length≤4000
    ·rw [if_pos h2] at h
     exact absurd rfl h
    ·rw [if_neg h2]
  ·rfl
theorem funRest_len (c:BT):(funRest c).length≤c.length:=by
 unfold funRest
 split
 ·exact Nat.le_trans (cutL_len _) (List.dropWhile_suffix _).length_le
 ·simp
theorem many_is (w:BT):manyOf w=0∨manyOf w=1∨manyOf w=2∨manyOf w=3:=by
 unfold manyOf
 repeat' split
 all_goals simp
theorem most_is {w:BT} (h:mostT w≠0):∃ M:Nat,mostT w=(M:Int)+1∧M≤8:=by
 unfold mostT at h ⊢
 split
 ·exact ⟨2,rfl,by omega⟩
 ·split
  ·exact ⟨2,rfl,by omega⟩
  ·split
   ·exact ⟨8,rfl,by omega⟩
   ·rename_i h1 h2 h3
    rw [if_neg h1,if_neg h2,if_neg h3] at h
    rcases many_is w with h4 | h4 | h4 | h4
    ·exact absurd h4 h
    ·exact ⟨0,by rw [h4];rfl,by omega⟩
    ·exact ⟨1,by rw [h4];rfl,by omega⟩
    ·exact ⟨2,by rw [h4];rfl,by omega⟩
def BelowV (k:Nat):Prop:=∀ j,k=j+1→ValC j
def BegRes (k xb n d:Nat) (o:Option Addr) (m c:Nat) (env:EnvT) (s:BT) (o':Option Addr) (m' c':Nat) (d' j:Int) (w:World):Prop :=
 (j≠0∧refE k env s n=.error j)∨(j=0∧o'=o∧m'=m∧c'=c∧d'=((d+1:Nat):Int)∧∃ q,k=q+1∧StepsAt w xb (n+1)∧n+1≤2000∧refE k env s n=refB (textE q) (valE q) env s (n+1))
theorem BegRes.bad {k xb n d:Nat} {o:Option Addr} {m c:Nat} {env:EnvT} {s:BT} {o':Option Addr} {m' c':Nat} {d' j:Int} {w:World} (h:BegRes k xb n d o m c env s o' m' c' d' j w) (hj:j≠0):refE k env s n=.error j:=by
 rcases h with h | h
 ·exact h.2
 ·exact absurd h.1 hj
theorem BegRes.good {k xb n d:Nat} {o:Option Addr} {m c:Nat} {env:EnvT} {s:BT} {o':Option Addr} {m' c':Nat} {d':Int} {w:World} (h:BegRes k xb n d o m c env s o' m' c' d' 0 w) :
  o'=o∧m'=m∧c'=c∧d'=((d+1:Nat):Int)∧∃ q,k=q+1∧StepsAt w xb (n+1)∧n+1≤2000∧refE k env s n=refB (textE q) (valE q) env s (n+1):=by
 rcases h with h | h
 ·exact absurd rfl h.1
 ·exact h.2
theorem begin_two (k xb n d:Nat) (o:Option Addr) (m c:Nat) (env:EnvT) (s:BT) (w:World) (h:StepsAt w xb n) (hn:n≤2000) (hd:d+k=20) :
  Calls Tryz.prog 177 #[.pointer (some ⟨xb,0,none⟩),.agg #[.slice o m c,.int .i64 (d:Int)]] w fun e w'=>∃ o' m' c' d' j,e=.returned (.tuple #[.agg #[.slice o' m' c',.int .i64 d'],.int .i64 j])∧Turned (fun b=>b=xb) w w'∧BegRes k xb n d o m c env s o' m' c' d' j w':=by
 refine (begin_any xb n d o m c w h hn (by omega)).mono ?_
 rintro e w' ⟨hT,(⟨h1,rfl⟩ | ⟨h1,h2,rfl⟩ | ⟨h1,h2,rfl,hs⟩)⟩
 ·obtain rfl:k=0:=by omega
  exact ⟨_,_,_,_,_,rfl,hT,.inl ⟨by decide,rfl⟩⟩
 ·obtain ⟨q,rfl⟩:∃ q,k=q+1:=⟨k - 1,by omega⟩
  refine ⟨_,_,_,_,_,rfl,hT,.inl ⟨by decide,?_⟩⟩
  rw [ref_succ];unfold stepR;rw [if_pos (by omega)]
 ·obtain ⟨q,rfl⟩:∃ q,k=q+1:=⟨k - 1,by omega⟩
  refine ⟨_,_,_,_,_,rfl,hT,.inr ⟨rfl,rfl,rfl,rfl,by push_cast;rfl,q,rfl,hs,by omega,?_⟩⟩
  rw [ref_succ];unfold stepR;rw [if_neg (by omega)]
set_option maxRecDepth 100000 in
set_option maxHeartbeats 4000000 in
theorem reference_any (k:Nat) (hX:BelowC k) (hV:BelowV k):RefC k:=by
 intro xb n d o m c env s w hd h hE hs
 have hx:=h.steps.lt
 have hT0:=box_turned w o m c d xb
 have hS0:StepsAt (boxP w o m c d) xb n:=(((Below.refl _ w).alloc (Nat.le_refl _) _).block _ hx).trans h.steps
 have HBg:=Lib.hid (begin_two k xb n d o m c env s (boxP w o m c d) hS0 h.few hd)
 have HT0:=Lib.hid hT0
 have HF:Hid (∀ W,Calls Tryz.prog 178 #[.string (txt s)] W fun e w'=>e=.returned (.tuple #[.string (txt (funW s)),.string (txt (funRest s))])∧Below W.heap.size W w'):=fun W=>function_any s hs W
 have HAr:Hid (∀ W,Calls Tryz.prog 179 #[.string (txt (funW s))] W fun e w'=>e=.returned (.tuple #[.int .i64 (leastT (funW s)),.int .i64 (mostT (funW s))])∧W=w'):=fun W=>arity_any (funW s) W
 have hfr:(funRest s).length≤10000000:=Nat.le_trans (funRest_len s) hs
 have hAt:=Lib.hid h
 have hEk:=Lib.hid hE
 have HX:=Lib.hid hX
 have HV:=Lib.hid hV
 have q1:=name_eq (funW s) nIf
 have q2:=name_eq (funW s) nForeach
 have q3:=name_eq (funW s) nCallW
 unfold nIf at q1
 unfold nForeach at q2
 unfold nCallW at q3
 clear h hE hT0 hS0 hX hV
 go_enter Tryz.func176,Tryz.ntmps176
 go_wp2_with fail
 refine HBg.out.mono ?_
 rintro e w1 ⟨o1,m1,c1,d1,j1,rfl,hT1,hR1⟩
 have HT1w:Hid (Turned (fun b=>b=xb) w w1):=HT0.out.trans hT1
 have HR1:=Lib.hid hR1
 clear hT1 hR1 HBg HT0
 by_cases hj1:j1=0
 ·subst hj1
  obtain ⟨rfl,rfl,rfl,hd1,q,rfl,hS1,hn1,hRe⟩:=HR1.out.good
  obtain ⟨D,hD⟩:∃ D,D=d+1:=⟨_,rfl⟩
  rw [← hD] at hd1
  subst hd1
  have hdq:D+q=20:=by omega
  have hd19:d≤19:=by omega
  clear hD hd
  have HRe:=Lib.hid hRe
  have hx1:=hS1.lt
  have hb2:=(Below.refl w1.heap.size w1).alloc (Nat.le_refl _) (.cells #[.slice o1 m1 c1,.int .i64 (D:Int)] 193)
  have HS2:Hid (StepsAt (boxP w1 o1 m1 c1 D) xb (n+1)):=(hb2.block _ hx1).trans hS1
  have HP:Hid (∀ W,Turned (fun b=>b=xb) (boxP w1 o1 m1 c1 D) W→Turned (fun b=>b=xb) w W∧W.cell? ⟨w1.heap.size,0,none⟩=some (.slice o1 m1 c1)∧W.cell? ⟨w1.heap.size,1,none⟩=some (.int .i64 (D:Int))):=fun W hT=>by
   obtain ⟨p1,p2,p3⟩:=placed hx1 hT
   exact ⟨HT1w.out.trans p1,p2,p3⟩
  clear hRe hS1 hb2 HR1
  go_wp2_with fail
  refine (HF.out _).mono ?_
  rintro e w3 ⟨rfl,hb3⟩
  have HT3:Hid (Turned (fun b=>b=xb) (boxP w1 o1 m1 c1 D) w3):=turned_of_below' hb3
  have HS3:Hid (StepsAt w3 xb (n+1)):=(hb3.block _ HS2.out.lt).trans HS2.out
  clear hb3 HF HS2
  go_wp2_with fail
  refine (HAr.out _).mono ?_
  rintro e _ ⟨rfl,rfl⟩
  obtain ⟨p0,p1,p2⟩:=HP.out _ HT3.out
  have HT3w:=Lib.hid p0
  have HA3:Hid (AtX xb (n+1) w3 (.slice o1 m1 c1) env):=hAt.out.turned p0 HS3.out hn1
  clear p0 HAr
  by_cases hm0:mostT (funW s)=0
  ·have e5:(mostT (funW s) == 0)=true:=by rw [hm0];rfl
   have HR:Hid (refE (q+1) env s n=varB (textE q) (valE q) env s (n+1)):=by
    show _=_
    rw [HRe.out];unfold refB;rw [if_pos hm0]
   have HV1:=Lib.hid ((variable_any q (HX.out q rfl) (HV.out q rfl) xb (n+1) D o1 m1 c1 env s w3 hdq HA3.out hEk.out.less hs).mono fun _ _ h=>exp_two h)
   clear HRe q1 q2 q3
   go_wp2_with fail
   refine HV1.out.mono ?_
   rintro e w4 ⟨u4,c4,rfl,hT4,hR4⟩
   have HT4:=Lib.hid hT4
   have HR4:=Lib.hid hR4
   clear hT4 hR4
   go_wp2_with fail
   go_ret2
   exact HR4.out.post HR.out (HT3w.out.trans HT4.out)
  ·have e5:(mostT (funW s) == 0)=false:=by rw [beq_eq_false_iff_ne];exact hm0
   obtain ⟨M,hM,hM8⟩:=most_is hm0
   have HAg:Hid (Calls Tryz.prog 181 #[.string (txt (funRest s)),.int .i64 ((M:Int)+1)] w3 fun e w'=>∃ o n c,e=.returned (.slice o n c)∧n=(argsT M (funRest s)).length∧OwnT w' w3.heap.size (.slice o n c) (argsT M (funRest s))∧Below w3.heap.size w3 w'):=arguments_any (funRest s) M hfr (by omega) w3
   have HR:Hid (refE (q+1) env s n=if ((argsT M (funRest s)).length:Int) < leastT (funW s) then .error 1 else funB (textE q) env (funW s) (argsT M (funRest s)) (n+1)):=by
    show _=_
    rw [HRe.out];unfold refB;rw [if_neg hm0,hM,show ((M:Int)+1).toNat - 1=M by omega]
   have hMl:=argsT_len M (funRest s)
   have HMs:Hid (∀ x∈argsT M (funRest s),x.length≤10000000):=fun x hx=>Nat.le_trans (argsT_short M _ x hx) hfr
   generalize argsT M (funRest s)=l at HAg HR hMl HMs
   clear HRe
   go_wp2_with fail
   refine HAg.out.mono ?_
   rintro e w5 ⟨o5,n5,c5,rfl,hn5,ho5,hb5⟩
   have hlt5:=HS3.out.lt
   have HT5w:Hid (Turned (fun b=>b=xb) w w5):=HT3w.out.trans (turned_of_below' hb5)
   have HA5:Hid (AtX xb (n+1) w5 (.slice o1 m1 c1) env):=HA3.out.below hb5
   have HAr5:Hid (ArgsR w5 xb o5 c5 l):=ho5.args hlt5
   have HT5:Hid (Turned (fun b=>b=xb) (boxP w1 o1 m1 c1 D) w5):=HT3.out.trans (turned_of_below' hb5)
   obtain ⟨_,r1,r2⟩:=HP.out _ HT5.out
   have HN5:=Lib.hid hn5
   clear hb5 ho5 HAg hn5
   by_cases hlt:(n5:Int) < leastT (funW s)
   ·have HE:Hid (refE (q+1) env s n=.error 1):=by
     show _=_
     rw [HR.out,if_pos (by rw [← HN5.out];exact hlt)]
    clear HR
    go_wp2_with fail
    go_ret2
    exact ⟨HT5w.out,.inl ⟨1,HE.out,by decide,rfl⟩⟩
   ·have HE:Hid (refE (q+1) env s n=funB (textE q) env (funW s) l (n+1)):=by
     show _=_
     rw [HR.out,if_neg (by rw [← HN5.out];exact hlt)]
    clear HR
    by_cases h1:funW s=nIf
    ·have hM2:M=2:=by
      have:mostT (funW s)=3:=by unfold mostT;rw [if_pos h1]
      omega
     have hL2:leastT (funW s)=2:=by unfold leastT;rw [if_pos h1]
     have h25:2≤n5:=by omega
     have HC:=Lib.hid ((choose_any q (HX.out q rfl) xb (n+1) D o1 m1 c1 env o5 n5 c5 l w5 hdq HA5.out hEk.out.less HN5.out h25 HMs.out HAr5.out).mono fun _ _ h=>exp_two h)
     have HE2:Hid (refE (q+1) env s n=chooseR (textE q env) l (n+1)):=by
      show _=_
      rw [HE.out];unfold funB;rw [if_pos h1]
     rw [decide_eq_true (show funW s=[105,102] from h1)] at q1
     clear HE h1 q2 q3 hM2
     go_wp2_with fail
     refine HC.out.mono ?_
     rintro e w6 ⟨u6,c6,rfl,hT6,hR6⟩
     have HT6:=Lib.hid hT6
     have HR6:=Lib.hid hR6
     clear hT6 hR6
     go_wp2_with fail
     go_ret2
     exact HR6.out.post HE2.out (HT5w.out.trans HT6.out)
    by_cases h2:funW s=nForeach
    ·have hM2:M=2:=by
      have:mostT (funW s)=3:=by unfold mostT;rw [if_neg h1,if_pos h2]
      omega
     have hL2:leastT (funW s)=3:=by unfold leastT;rw [if_neg h1,if_pos h2]
     have hl3:l.length=3:=by have:=HN5.out;omega
     obtain ⟨a0,a1,a2,rfl⟩:∃ a0 a1 a2,l=[a0,a1,a2]:=by
      rcases l with _ | ⟨a0,_ | ⟨a1,_ | ⟨a2,_ | ⟨a3,l⟩⟩⟩⟩
      ·simp at hl3
      ·simp at hl3
      ·simp at hl3
      ·exact ⟨_,_,_,rfl⟩
      ·simp at hl3
     have hn5:n5=3:=by have:=HN5.out;omega
     subst hn5
     have HC:=Lib.hid ((forEach_any q (HX.out q rfl) xb (n+1) D o1 m1 c1 env o5 c5 a0 a1 a2 w5 hdq HA5.out hEk.out HMs.out HAr5.out).mono fun _ _ h=>exp_two h)
     have HE2:Hid (refE (q+1) env s n=forR (textE q) env [a0,a1,a2] (n+1)):=by
      show _=_
      rw [HE.out];unfold funB;rw [if_neg h1,if_pos h2]
     rw [decide_eq_false (show ¬ funW s=[105,102] from h1)] at q1
     rw [decide_eq_true (show funW s=[102,111,114,101,97,99,104] from h2)] at q2
     have hlt3:¬ (3:Int) < leastT (funW s):=by omega
     clear HE h1 h2 q3 hM2 hl3
     go_wp2_with fail
     refine HC.out.mono ?_
     rintro e w6 ⟨u6,c6,rfl,hT6,hR6⟩
     have HT6:=Lib.hid hT6
     have HR6:=Lib.hid hR6
     clear hT6 hR6
     go_wp2_with fail
     go_ret2
     exact HR6.out.post HE2.out (HT5w.out.trans HT6.out)
    by_cases h3:funW s=nCallW
    ·have hM2:M=8:=by
      have:mostT (funW s)=9:=by unfold mostT;rw [if_neg h1,if_neg h2,if_pos h3]
      omega
     have h15:1≤n5:=by have:=HN5.out;omega
     have h95:n5≤9:=by have:=HN5.out;omega
     have HC:=Lib.hid ((apply_any q (HX.out q rfl) xb (n+1) D o1 m1 c1 env o5 n5 c5 l w5 hdq HA5.out hEk.out HN5.out h15 h95 HMs.out HAr5.out).mono fun _ _ h=>exp_two h)
     have HE2:Hid (refE (q+1) env s n=applyR (textE q) env l (n+1)):=by
      show _=_
      rw [HE.out];unfold funB;rw [if_neg h1,if_neg h2,if_pos h3]
     rw [decide_eq_false (show ¬ funW s=[105,102] from h1)] at q1
     rw [decide_eq_false (show ¬ funW s=[102,111,114,101,97,99,104] from h2)] at q2
     rw [decide_eq_true (show funW s=[99,97,108,108] from h3)] at q3
     clear HE h1 h2 h3 hM2
     go_wp2_with fail
     refine HC.out.mono ?_
     rintro e w6 ⟨u6,c6,rfl,hT6,hR6⟩
     have HT6:=Lib.hid hT6
     have HR6:=Lib.hid hR6
     clear hT6 hR6
     go_wp2_with fail
     go_ret2
     exact HR6.out.post HE2.out (HT5w.out.trans HT6.out)
    ·have HTs:=Lib.hid (((HX.out q rfl).ats hdq HA5.out hEk.out.less) (n+1) o5 n5 c5 l w5 (Turned.refl _ _) HA5.out.steps hn1 HN5.out (by omega) HMs.out HAr5.out)
     have HE2:Hid (refE (q+1) env s n=Rb (textsR (textE q env) l (n+1)) fun m l=>callR m (callT (funW s) l)):=by
      show _=_
      rw [HE.out];unfold funB;rw [if_neg h1,if_neg h2,if_neg h3]
     rw [decide_eq_false (show ¬ funW s=[105,102] from h1)] at q1
     rw [decide_eq_false (show ¬ funW s=[102,111,114,101,97,99,104] from h2)] at q2
     rw [decide_eq_false (show ¬ funW s=[99,97,108,108] from h3)] at q3
     clear HE h1 h2 h3
     go_wp2_with fail
     refine HTs.out.mono ?_
     rintro e w6 ⟨o6,m6,c6,j6,rfl,hT6,hR6⟩
     have HT6:=Lib.hid hT6
     have HR6:=Lib.hid hR6
     clear hT6 hR6
     by_cases hj6:j6=0
     ·subst hj6
      obtain ⟨n7,l7,hl7,hm7,ho7,hs7,hn7⟩:=HR6.out.good
      have hshort:=texts_short (fun s n=>short_textE q env s n) hl7
      have hStd:Std w6:=(HA5.out.turned HT6.out hs7 hn7).std
      have hrd:ReadsO w6 w6.heap.size (.slice o6 m6 c6) (l7.map txt):=ArgsR.src (ho7.args (xb:=xb) (by have:=HA5.out.steps.lt;omega)) hm7
      have hCl:=call_any (txt (funW s)) (.slice o6 m6 c6) (l7.map txt) (fun y hy=>by
       obtain ⟨z,hz,rfl⟩:=List.mem_map.1 hy
       rw [txt_size]
       have:=hshort z hz
       omega) w6 hStd hrd
      have e7:(l7.map txt).map (fun x=>x.data.toList)=l7:=by
       rw [List.map_map]
       conv=>rhs;rw [← List.map_id l7]
       exact List.map_congr_left fun x _=>txt_data x
      rw [txt_data,e7] at hCl
      have HCl:Hid (Calls Tryz.prog 186 #[.string (txt (funW s)),.slice o6 m6 c6] w6 fun e w'=>e=.returned (.tuple #[.string (txt (callT (funW s) l7).1),.int .i64 (callT (funW s) l7).2])∧Below w6.heap.size w6 w'):=hCl
      have HE7:Hid (refE (q+1) env s n=callR n7 (callT (funW s) l7)):=by
       show _=_
       rw [HE2.out,hl7];rfl
      have HB7:Hid ((callT (funW s) l7).2≠0→(callT (funW s) l7).1=[]):=call_bad
      have HS7:=Lib.hid hs7
      generalize callT (funW s) l7=C at HCl HE7 HB7
      clear hCl e7 hrd hStd hshort hl7 ho7 hs7 hm7 HE2 HR6 HTs
      go_wp2_with fail
      refine HCl.out.mono ?_
      rintro e w8 ⟨rfl,hb8⟩
      have HB8:=Lib.hid hb8
      clear hb8
      go_wp2_with fail
      go_ret2
      have hTT:Turned (fun b=>b=xb) w w8:=HT5w.out.trans (HT6.out.trans (turned_of_below' HB8.out))
      have hE8:=HE7.out
      unfold callR at hE8
      by_cases hC:C.2=0
      ·rw [if_pos hC] at hE8
       rw [hC]
       exact ⟨hTT,.inr ⟨n7,C.1,hE8,rfl,(HB8.out.block _ HS7.out.lt).trans HS7.out,hn7⟩⟩
      ·rw [if_neg hC] at hE8
       rw [HB7.out hC]
       exact ⟨hTT,.inl ⟨C.2,hE8,hC,rfl⟩⟩
     ·have e6:(j6 != 0)=true:=by rw [bne_iff_ne];exact hj6
      have HE7:Hid (refE (q+1) env s n=.error j6):=by
       show _=_
       rw [HE2.out,HR6.out.bad hj6];rfl
      clear HE2
      go_wp2_with fail
      go_ret2
      exact ⟨HT5w.out.trans HT6.out,.inl ⟨j6,HE7.out,hj6,rfl⟩⟩
 ·have e5:(j1 != 0)=true:=by rw [bne_iff_ne];exact hj1
  have HE:Hid (refE k env s n=.error j1):=HR1.out.bad hj1
  go_wp2_with fail
  go_ret2
  exact ⟨HT1w.out.trans (turned_of_below' ((Below.refl _ _).alloc (Nat.le_refl _) _)),.inl ⟨j1,HE.out,hj1,rfl⟩⟩
end Go.Proofs.YtmfjolmfbdbegaaGreatDoor

namespace Go.Proofs.YtmfjolmfbdbegaaGreatDoor
open Go.RowKit Go.Shelf
attribute [local go_sem] Oper.semAt_some
theorem lev_any:∀ k:Nat,RefC k∧ValC k∧TextC k
 | 0=>by
  have h1:RefC 0:=reference_any 0 (fun j h=>by omega) (fun j h=>by omega)
  have h2:ValC 0:=value_any 0 (fun j h=>by omega)
  exact ⟨h1,h2,text_any 0 h1 h2⟩
 | k+1=>by
  have ih:=lev_any k
  have h1:RefC (k+1):=reference_any (k+1) (fun j h=>by cases h;exact ih.2.2) (fun j h=>by cases h;exact ih.2.1)
  have h2:ValC (k+1):=value_any (k+1) (fun j h=>by cases h;exact ih.2.2)
  exact ⟨h1,h2,text_any (k+1) h1 h2⟩
def ExpandPost (env:EnvT) (s:BT) (w:World) (e:Ending) (w':World):Prop :=
 e=.returned (.tuple #[.string (txt (expandT env s).1),.int .i64 (expandT env s).2])∧Below w.heap.size w w'
set_option maxRecDepth 100000 in
set_option maxHeartbeats 10000000 in
theorem expand_any (Q:Nat→Prop) (o:Option Addr) (m c:Nat) (env:EnvT) (s:BT) (w:World) (hst:Std w) (h:EnvS w Q (.slice o m c) env) (hE:EnvOk env 20) (hs:s.length≤10000000) :
  Calls Tryz.prog 116 #[.agg #[.slice o m c],.string (txt s)] w (ExpandPost env s w):=by
 have hb:=below_two w (.cells #[.slice o m c] 26) (.cells #[.int .i64 0] 190)
 have h1:=heap_first w (.cells #[.slice o m c] 26) (.cells #[.int .i64 0] 190)
 have h2:=heap_second w (.cells #[.slice o m c] 26) (.cells #[.int .i64 0] 190)
 have hA:AtX (w.heap.size+1) 0 ((w.alloc (.cells #[.slice o m c] 26)).alloc (.cells #[.int .i64 0] 190)) (.slice o m c) env:=by
  have t1:=hst.tl
  have t2:=hst.ml
  exact ⟨hst.below hb,⟨by omega,by omega⟩,h2,by omega,(h.wider (Q':=fun b=>b≠w.heap.size+1) (fun b hb _=>by omega)).below hb⟩
 have hX:=(lev_any 20).2.2 (w.heap.size+1) 0 0 o m c env s _ rfl hA hE hs
 have HX:Hid (Calls Tryz.prog 147 #[.pointer (some ⟨w.heap.size+1,0,none⟩),.agg #[.slice o m c,.int .i64 0],.string (txt s)] ((w.alloc (.cells #[.slice o m c] 26)).alloc (.cells #[.int .i64 0] 190)) (ExpandPost env s w)):=by
  refine hX.mono ?_
  rintro e w' ⟨hT,hr⟩
  have hbb:Below w.heap.size w w':=hb.trans (hT.below (by simp;omega) (fun k hk=>by omega))
  unfold ExpandPost expandT
  rcases hr with ⟨cc,hr,hc,rfl⟩ | ⟨n,t,hr,rfl,_,_⟩
  ·rw [hr];exact ⟨rfl,hbb⟩
  ·rw [hr];exact ⟨rfl,hbb⟩
 clear hX hA hb h2 hst h hE
 obtain ⟨q1,_⟩:=one_cell h1
 clear h1
 go_enter Tryz.func116,Tryz.ntmps116
 go_wp2_with fail
 refine HX.out.mono ?_
 rintro e w1 ⟨rfl,hb1⟩
 have HB1:=Lib.hid hb1
 clear hb1 HX
 go_wp2_with fail
 go_ret2
 exact ⟨rfl,HB1.out⟩
end Go.Proofs.YtmfjolmfbdbegaaGreatDoor
