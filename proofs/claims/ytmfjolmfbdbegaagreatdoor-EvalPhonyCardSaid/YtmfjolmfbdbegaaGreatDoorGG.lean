/-
  A box of one cell that is stored into. No condition.
  What longer and Assign answer. No condition but sizes.
-/
import Derived.Test.YtmfjolmfbdbegaaGreatDoorGF
import Derived.Test.YtmfjolmfbdbegaaGreatDoorVNm
namespace Go.Proofs.YtmfjolmfbdbegaaGreatDoor
open Go.RowKit Go.Shelf
attribute [local go_sem] Oper.semAt_some
theorem set_one {W:World} {b:Nat} {a0:Value} {T:TypeId} (h:W.heap[b]? = some (.cells #[a0] T (0,0))) (x:Value):(W.setCell ⟨b,0,none⟩ x).heap[b]? = some (.cells #[x] T (0,0)):=by simp [World.setCell,Array.getElem?_modify,h]
theorem add_txt (a b:BT):txt a++txt b=txt (a++b):=by
 apply ByteArray.ext
 show (txt a++txt b).data=_
 rw [ByteArray.data_append]
 simp [txt]
end Go.Proofs.YtmfjolmfbdbegaaGreatDoor

namespace Go.Proofs.YtmfjolmfbdbegaaGreatDoor
open Go.RowKit Go.Shelf
attribute [local go_sem] Oper.semAt_some
def moreT (env:EnvT) (y:VarT) (s:BT):BT × Int :=
 if y.2.2=true then (if (expandT env s).2=0 then (y.2.1++32 :: (expandT env s).1,0) else ([],(expandT env s).2)) else (y.2.1++32 :: s,0)
theorem blank_txt:(⟨#[32]⟩:ByteArray)=txt [32]:=rfl
theorem expand_len (env:EnvT) (s:BT):(expandT env s).1.length≤4000:=by
 unfold expandT
 cases h:textE 20 env s 0 with
 | error e=>simp
 | ok y=>exact short_textE _ _ _ _ _ _ (show textE 20 env s 0=.ok (y.1,y.2) from h)
set_option maxRecDepth 100000 in
set_option maxHeartbeats 10000000 in
theorem longer_any (Q:Nat→Prop) (o:Option Addr) (m c:Nat) (env:EnvT) (y:VarT) (s:BT) (w:World) (hst:Std w) (h:EnvS w Q (.slice o m c) env) (hE:EnvOk env 20) (hs:s.length≤10000000) (hyl:y.2.1.length≤10000000) :
  Calls Tryz.prog 117 #[.agg #[.slice o m c],.agg #[.string (txt y.1),.string (txt y.2.1),.bool y.2.2],.string (txt s)] w fun e w'=>e=.returned (.tuple #[.string (txt (moreT env y s).1),.int .i64 (moreT env y s).2])∧Below w.heap.size w w':=by
 have hb:=below_two w (.cells #[.slice o m c] 26) (.cells #[.string (txt y.1),.string (txt y.2.1),.bool y.2.2] 43)
 have h1:=heap_first w (.cells #[.slice o m c] 26) (.cells #[.string (txt y.1),.string (txt y.2.1),.bool y.2.2] 43)
 have h2:=heap_second w (.cells #[.slice o m c] 26) (.cells #[.string (txt y.1),.string (txt y.2.1),.bool y.2.2] 43)
 have HX:=Lib.hid (expand_any Q o m c env s _ (hst.below hb) (h.below hb) hE hs)
 have HB:=Lib.hid hb
 have HV:Hid (moreT env y s=if y.2.2=true then (if (expandT env s).2=0 then (y.2.1++32 :: (expandT env s).1,0) else ([],(expandT env s).2)) else (y.2.1++32 :: s,0)):=rfl
 obtain ⟨q0,_⟩:=one_cell h1
 obtain ⟨r0,r1,r2,_⟩:=three_cells h2
 have H2:=Lib.hid h2
 clear hb h1 h2 hst h hE
 have a1:=add_txt y.2.1 [32]
 have a2:=add_txt (y.2.1++[32]) s
 rw [← blank_txt] at a1
 cases hy:y.2.2 with
 | false =>
  have HE:Hid (moreT env y s=(y.2.1++32 :: s,0)):=by
   show _=_
   rw [HV.out,if_neg (by simp [hy])]
  rw [hy] at r2 HB
  simp only [hy] at r0 r1 r2
  clear HV HX H2
  go_enter Tryz.func117,Tryz.ntmps117
  go_wp2_with fail
  go_ret2
  exact ⟨by rw [HE.out];rfl,HB.out⟩
 | true =>
  rw [hy] at r2 HB H2 HX
  simp only [hy] at r0 r1 r2 q0
  have HE:Hid (moreT env y s=if (expandT env s).2=0 then (y.2.1++32 :: (expandT env s).1,0) else ([],(expandT env s).2)):=by
   show _=_
   rw [HV.out,if_pos hy]
  have a3:=add_txt (y.2.1++[32]) (expandT env s).1
  obtain ⟨P,hP⟩:∃ P,P=expandT env s:=⟨_,rfl⟩
  have hPl:P.1.length≤4000:=by rw [hP];exact expand_len env s
  unfold ExpandPost at HX
  rw [← hP] at HX HE a3
  clear HV a2 hP
  go_enter Tryz.func117,Tryz.ntmps117
  go_wp2_with fail
  refine HX.out.mono ?_
  rintro e w1 ⟨rfl,hb1⟩
  have HB1:Hid (Below w.heap.size w w1):=HB.out.trans (hb1.mono HB.out.size)
  obtain ⟨s0,s1,s2,_⟩:=three_cells ((hb1.block _ (Array.getElem?_eq_some_iff.1 H2.out).1).trans H2.out)
  clear hb1 HX
  by_cases hj:P.2=0
  ·have hE2:=HE.out
   rw [if_pos hj] at hE2
   have HE2:=Lib.hid hE2
   have e6:(P.2 != 0)=false:=by rw [hj];rfl
   clear HE hE2
   go_wp2_with fail
   go_ret2
   exact ⟨by rw [HE2.out];rfl,HB1.out⟩
  ·have hE2:=HE.out
   rw [if_neg hj] at hE2
   have HE2:=Lib.hid hE2
   have e6:(P.2 != 0)=true:=by rw [bne_iff_ne];exact hj
   clear HE hE2
   go_wp2_with fail
   go_ret2
   exact ⟨by rw [HE2.out];rfl,HB1.out⟩
def opNow:BT:=[58,61]
def opLate:BT:=[61]
def opFew:BT:=[63,61]
def opMore:BT:=[43,61]
def assignT (env:EnvT) (n op s:BT):Except Int EnvT :=
 if nameB n=false then .error 1
 else if op=opNow then (if (expandT env s).2=0 then .ok (setT env (n,(expandT env s).1,true)) else .error (expandT env s).2)
 else if op=opLate∨(getT env n=none∧(op=opFew∨op=opMore)) then .ok (setT env (n,s,false))
 else if op=opMore then (match getT env n with
  | none=>.error 1
  | some y=>if (moreT env y s).2=0 then .ok (setT env (y.1,(moreT env y s).1,y.2.2)) else .error (moreT env y s).2)
 else if op=opFew then (match getT env n with
  | none=>.error 1
  | some y=>.ok (setT env y))
 else .error 1
def AssPost (r:Except Int EnvT) (w:World) (e:Ending) (w':World):Prop :=
 ∃ o m c j,e=.returned (.tuple #[.agg #[.slice o m c],.int .i64 j])∧Below w.heap.size w w' ∧
  ((r=.error j∧j≠0∧o=none∧m=0∧c=0)∨(j=0∧∃ env,r=.ok env∧EnvS w' (fun b=>w.heap.size≤b) (.slice o m c) env))
abbrev ass2 (w:World) (o:Option Addr) (m c:Nat):World:=(w.alloc (.cells #[.slice o m c] 26)).alloc (.cells #[.slice none 0 0] 26)
theorem op_eq (op:BT) (l:List UInt8):((txt op).toList == l)=decide (op=l):=name_eq op l
structure AssAt (w:World) (o:Option Addr) (m c xk:Nat) (env:EnvT) (y:VarT) (W:World):Prop where
 back:Below w.heap.size w W
 bx:W.heap[w.heap.size]? = some (.cells #[.slice o m c] 26 (0,0))
 r:W.heap[w.heap.size+1]? = some (.cells #[.slice none 0 0] 26 (0,0))
 x:W.heap[xk]? = some (.cells #[.string (txt y.1),.string (txt y.2.1),.bool y.2.2] 43 (0,0))
 new:w.heap.size+2≤xk
 std:Std W
 env:EnvS W (fun b=>b < w.heap.size) (.slice o m c) env
theorem AssAt.below {w:World} {o:Option Addr} {m c xk:Nat} {env:EnvT} {y:VarT} {W W':World} (h:AssAt w o m c xk env y W) (hb:Below W.heap.size W W'):AssAt w o m c xk env y W' :=
 ⟨h.back.trans (hb.mono h.back.size),(hb.block _ (Array.getElem?_eq_some_iff.1 h.bx).1).trans h.bx,(hb.block _ (Array.getElem?_eq_some_iff.1 h.r).1).trans h.r,(hb.block _ (Array.getElem?_eq_some_iff.1 h.x).1).trans h.x,h.new,h.std.below hb,h.env.below hb⟩
theorem AssAt.kept {w:World} {o:Option Addr} {m c xk:Nat} {env:EnvT} {y z:VarT} {W W':World} (h:AssAt w o m c xk env y W) (hT:Turned (fun b=>b=xk) W W') (hx:W'.heap[xk]? = some (.cells #[.string (txt z.1),.string (txt z.2.1),.bool z.2.2] 43 (0,0)))
  (hw:Std w):AssAt w o m c xk env z W':=by
 have hn:=h.new
 have hb:Below w.heap.size w W':=h.back.trans (hT.below h.back.size (fun k hk=>by omega))
 exact ⟨hb,(hT.block _ (Array.getElem?_eq_some_iff.1 h.bx).1 (by omega)).trans h.bx,(hT.block _ (Array.getElem?_eq_some_iff.1 h.r).1 (by omega)).trans h.r,hx,h.new,hw.below hb,h.env.turned hT (fun b hb h=>by omega)⟩
theorem AssAt.puts {w:World} {o:Option Addr} {m c xk:Nat} {env:EnvT} {a:BT} {t:BT} {b:Bool} {W:World} (h:AssAt w o m c xk env (a,t,b) W) (hw:Std w) (t':BT) :
  AssAt w o m c xk env (a,t',b) (W.setCell ⟨xk,1,none⟩ (.string (txt t'))) :=
 h.kept (Turned.setCell (X:=fun b=>b=xk) _ ⟨xk,1,none⟩ _ rfl) (by have:=h.x;simp [World.setCell,Array.getElem?_modify,this]) hw
theorem AssAt.last {w:World} {o:Option Addr} {m c xk:Nat} {env env':EnvT} {y:VarT} {W W':World} {o':Option Addr} {m' c':Nat} (h:AssAt w o m c xk env y W) (hb:Below W.heap.size W W') (hE:EnvS W' (fun b=>W.heap.size≤b) (.slice o' m' c') env') :
  (W'.setCell ⟨w.heap.size+1,0,none⟩ (.slice o' m' c')).heap[w.heap.size+1]? = some (.cells #[.slice o' m' c'] 26 (0,0)) ∧
  Below w.heap.size w (W'.setCell ⟨w.heap.size+1,0,none⟩ (.slice o' m' c'))∧EnvS (W'.setCell ⟨w.heap.size+1,0,none⟩ (.slice o' m' c')) (fun b=>w.heap.size≤b) (.slice o' m' c') env':=by
 have h':=h.below hb
 have hr:=h'.r
 have hlt:=(Array.getElem?_eq_some_iff.1 h.x).1
 have hn:=h.new
 refine ⟨set_one hr _,h'.back.setCell (p:=⟨w.heap.size+1,0,none⟩) (by show w.heap.size≤w.heap.size+1;omega) _,?_⟩
 exact (hE.turned (X:=fun b=>b=w.heap.size+1) (Turned.setCell (X:=fun b=>b=w.heap.size+1) _ ⟨w.heap.size+1,0,none⟩ _ rfl) (fun b hb h=>by omega)).wider (fun b _ hb=>by omega)
def GetV (env:EnvT) (n:BT) (o:Option Addr) (m c:Nat) (w:World) (e:Ending) (W:World):Prop :=
 ∃ b,e=.returned (.tuple #[.agg #[.string (txt ((getT env n).getD ([],[],false)).1),.string (txt ((getT env n).getD ([],[],false)).2.1),.bool ((getT env n).getD ([],[],false)).2.2],.bool b])∧b=(getT env n).isSome∧w.heap.size+2≤W.heap.size ∧
  ∀ y:VarT,AssAt w o m c W.heap.size env y (W.alloc (.cells #[.string (txt y.1),.string (txt y.2.1),.bool y.2.2] 43))
theorem ass_get (o:Option Addr) (m c:Nat) (env:EnvT) (n:BT) (w:World) (hst:Std w) (h:EnvS w (fun _=>True) (.slice o m c) env) (hE:EnvOk env 21) :
  Calls Tryz.prog 115 #[.agg #[.slice o m c],.string (txt n)] (ass2 w o m c) (GetV env n o m c w):=by
 have hb:=below_two w (.cells #[.slice o m c] 26) (.cells #[.slice none 0 0] 26)
 have h1:=heap_first w (.cells #[.slice o m c] 26) (.cells #[.slice none 0 0] 26)
 have h2:=heap_second w (.cells #[.slice o m c] 26) (.cells #[.slice none 0 0] 26)
 have hG:=get_any (fun _=>True) (.slice o m c) env (txt n) _ (h.below hb) (by have:=hE.2.1;omega)
 rw [txt_data] at hG
 refine hG.mono ?_
 rintro e W ⟨rfl,hb2⟩
 have hsz:=hb2.size
 simp only [World.size_alloc] at hsz
 refine ⟨_,rfl,rfl,by omega,fun y=>?_⟩
 have hb3:=hb2.alloc hb2.size (.cells #[.string (txt y.1),.string (txt y.2.1),.bool y.2.2] 43)
 have hb4:=hb.trans (hb3.mono hb.size)
 exact ⟨hb4,(hb3.block _ (by simp;omega)).trans h1,(hb3.block _ (by simp)).trans h2,World.alloc_heap_new _ _,by omega,hst.below hb4,(h.wider (fun b hb _=>hb)).below hb4⟩
theorem name_len {n:BT} (h:nameB n=true):n.length≤40:=by
 unfold nameB at h
 simp only [Bool.and_eq_true,decide_eq_true_eq] at h
 exact h.2
set_option maxRecDepth 100000 in
set_option maxHeartbeats 20000000 in
theorem ass_now (o:Option Addr) (m c:Nat) (env:EnvT) (n op s:BT) (w:World) (hst:Std w) (h:EnvS w (fun _=>True) (.slice o m c) env) (hE:EnvOk env 21) (hs:s.length≤10000000) (hn:nameB n=true) (ho:op=opNow) :
  Calls Tryz.prog 75 #[.agg #[.slice o m c],.string (txt n),.string (txt op),.string (txt s)] w (AssPost (assignT env n op s) w):=by
 have hnl:n.length≤40:=name_len hn
 have HN:Hid (∀ W,Calls Tryz.prog 50 #[.string (txt n)] W fun e w'=>e=.returned (.bool true)∧W=w'):=fun W=>by
  have:=name_any (txt n) (by rw [txt_size];unfold maxLen;omega) W
  rw [txt_data,hn] at this
  exact this
 have HG:=Lib.hid (ass_get o m c env n w hst h hE)
 obtain ⟨p0,_⟩:=one_cell (heap_first w (.cells #[.slice o m c] 26) (.cells #[.slice none 0 0] 26))
 have hE20:EnvOk env 20:=hE.less
 have HE:=Lib.hid hE20
 have HSt:=Lib.hid hst
 have hfit:=hE.fits
 have HSr:=Lib.hid hE.1
 have onow:((txt op).toList == [58,61])=true:=by rw [op_eq];simp [ho,opNow]
 have HV:Hid (assignT env n op s=if (expandT env s).2=0 then .ok (setT env (n,(expandT env s).1,true)) else .error (expandT env s).2):=by
  show _=_
  unfold assignT
  rw [if_neg (by simp [hn]),if_pos ho]
 clear ho
 clear h hE hE20 hst hn
 go_enter Tryz.func75,Tryz.ntmps75
 go_wp2_with fail
 refine (HN.out _).mono ?_
 rintro e _ ⟨rfl,rfl⟩
 go_wp2_with fail
 refine HG.out.mono ?_
 rintro e w1 ⟨b,rfl,hb1,hsz1,hA1⟩
 have HA1:=Lib.hid hA1
 clear hA1 HG
 obtain ⟨xk,hxk⟩:∃ xk,xk=w1.heap.size:=⟨_,rfl⟩
 have ha:AssAt w o m c w1.heap.size env (n,[],true) (w1.alloc (.cells #[.string (txt n),.string ⟨#[]⟩,.bool true] 43)):=HA1.out (n,[],true)
 obtain ⟨q0,_⟩:=one_cell ha.bx
 have HX:=Lib.hid (expand_any _ o m c env s _ ha.std ha.env HE.out hs)
 unfold ExpandPost at HX
 have hPl:=expand_len env s
 obtain ⟨P,hP⟩:∃ P,P=expandT env s:=⟨_,rfl⟩
 rw [← hP] at HX HV hPl
 have HA2:=Lib.hid ha
 clear ha hP HA1
 go_wp2_with fail
 refine HX.out.mono ?_
 rintro e w2 ⟨rfl,hb2⟩
 have HA3:=Lib.hid (HA2.out.below hb2)
 have HAz:=Lib.hid (HA3.out.puts HSt.out P.1)
 obtain ⟨_,_,_,f0,f1,f2⟩:=three_cells HA3.out.x
 clear hb2 HX HA2
 by_cases hj:P.2=0
 ·have hR:=HV.out
  rw [if_pos hj] at hR
  have HR:=Lib.hid hR
  have e6:(P.2 != 0)=false:=by rw [hj];rfl
  clear HV hR
  obtain ⟨y0,_⟩:=one_cell HAz.out.bx
  obtain ⟨z0,z1,z2,g0,g1,g2⟩:=three_cells HAz.out.x
  obtain ⟨_,v0⟩:=one_cell HAz.out.r
  have HSet:=Lib.hid (set_any _ (.slice o m c) env (n,P.1,true) (w2.setCell ⟨w1.heap.size,1,none⟩ (.string (txt P.1))) HAz.out.env hfit HSr.out)
  unfold SetPost aggV at HSet
  go_wp2_with fail
  refine HSet.out.mono ?_
  rintro e w8 ⟨v8,rfl,hE8,hb8⟩
  obtain ⟨o8,m8,c8,rfl⟩:=hE8.slice
  obtain ⟨x0,x1⟩:=one_cell (HAz.out.below hb8).r
  have HL:=Lib.hid (HAz.out.last hb8 hE8)
  clear hE8 hb8 HSet
  go_wp2_with fail
  obtain ⟨hh,hbL,hEL⟩:=HL.out
  generalize (w8.setCell ⟨w.heap.size+1,0,none⟩ (.slice o8 m8 c8))=w9 at hh hbL hEL ⊢
  obtain ⟨u0,_⟩:=one_cell hh
  exact bodyPost_ret (v:=.tuple #[.agg #[.slice o8 m8 c8],.int .i64 0]) (by simp [results,Tryz.results75,go_sem,u0]) rfl ⟨_,_,_,_,rfl,hbL,.inr ⟨rfl,_,HR.out,hEL⟩⟩
 ·have hR:=HV.out
  rw [if_neg hj] at hR
  have HR:=Lib.hid hR
  have e6:(P.2 != 0)=true:=by rw [bne_iff_ne];exact hj
  clear HV hR
  obtain ⟨x0,x1⟩:=one_cell HAz.out.r
  have hh:((w2.setCell ⟨w1.heap.size,1,none⟩ (.string (txt P.1))).setCell ⟨w.heap.size+1,0,none⟩ (.slice none 0 0)).heap[w.heap.size+1]? = some (.cells #[.slice none 0 0] 26 (0,0)):=set_one HAz.out.r _
  have hbL:Below w.heap.size w ((w2.setCell ⟨w1.heap.size,1,none⟩ (.string (txt P.1))).setCell ⟨w.heap.size+1,0,none⟩ (.slice none 0 0)):=HAz.out.back.setCell (p:=⟨w.heap.size+1,0,none⟩) (by show w.heap.size≤w.heap.size+1;omega) _
  have HL:=Lib.hid (And.intro hh hbL)
  clear hh hbL
  go_wp2_with fail
  obtain ⟨hh,hbL⟩:=HL.out
  generalize ((w2.setCell ⟨w1.heap.size,1,none⟩ (.string (txt P.1))).setCell ⟨w.heap.size+1,0,none⟩ (.slice none 0 0))=w9 at hh hbL ⊢
  obtain ⟨u0,_⟩:=one_cell hh
  exact bodyPost_ret (v:=.tuple #[.agg #[.slice none 0 0],.int .i64 P.2]) (by simp [results,Tryz.results75,go_sem,u0]) rfl ⟨_,_,_,_,rfl,hbL,.inl ⟨HR.out,‹_›,rfl,rfl,rfl⟩⟩
set_option maxRecDepth 100000 in
set_option maxHeartbeats 20000000 in
theorem ass_late (o:Option Addr) (m c:Nat) (env:EnvT) (n op s:BT) (w:World) (hst:Std w) (h:EnvS w (fun _=>True) (.slice o m c) env) (hE:EnvOk env 21) (_hs:s.length≤10000000) (hn:nameB n=true) (ho:op=opLate) :
  Calls Tryz.prog 75 #[.agg #[.slice o m c],.string (txt n),.string (txt op),.string (txt s)] w (AssPost (assignT env n op s) w):=by
 have hnl:n.length≤40:=name_len hn
 have HN:Hid (∀ W,Calls Tryz.prog 50 #[.string (txt n)] W fun e w'=>e=.returned (.bool true)∧W=w'):=fun W=>by
  have:=name_any (txt n) (by rw [txt_size];unfold maxLen;omega) W
  rw [txt_data,hn] at this
  exact this
 have HG:=Lib.hid (ass_get o m c env n w hst h hE)
 obtain ⟨p0,_⟩:=one_cell (heap_first w (.cells #[.slice o m c] 26) (.cells #[.slice none 0 0] 26))
 have hE20:EnvOk env 20:=hE.less
 have HE:=Lib.hid hE20
 have HSt:=Lib.hid hst
 have hfit:=hE.fits
 have HSr:=Lib.hid hE.1
 have onow:((txt op).toList == [58,61])=false:=by rw [op_eq,ho];rfl
 have olate:((txt op).toList == [61])=true:=by rw [op_eq,ho];rfl
 have ofew:((txt op).toList == [63,61])=false:=by rw [op_eq,ho];rfl
 have omore:((txt op).toList == [43,61])=false:=by rw [op_eq,ho];rfl
 have HV:Hid (assignT env n op s=.ok (setT env (n,s,false))):=by
  show _=_
  unfold assignT
  rw [if_neg (by simp [hn]),if_neg (by rw [ho];decide),if_pos (.inl ho)]
 clear ho
 clear h hE hE20 hst hn
 go_enter Tryz.func75,Tryz.ntmps75
 go_wp2_with fail
 refine (HN.out _).mono ?_
 rintro e _ ⟨rfl,rfl⟩
 go_wp2_with fail
 refine HG.out.mono ?_
 rintro e w1 ⟨b,rfl,hb1,hsz1,hA1⟩
 have HA1:=Lib.hid hA1
 clear hA1 HG
 obtain ⟨xk,hxk⟩:∃ xk,xk=w1.heap.size:=⟨_,rfl⟩
 have ha:AssAt w o m c w1.heap.size env (n,s,false) (w1.alloc (.cells #[.string (txt n),.string (txt s),.bool false] 43)):=HA1.out (n,s,false)
 have HAz:=Lib.hid ha
 clear ha HA1 hxk hb1
 obtain ⟨y0,_⟩:=one_cell HAz.out.bx
 obtain ⟨z0,z1,z2,g0,g1,g2⟩:=three_cells HAz.out.x
 obtain ⟨_,v0⟩:=one_cell HAz.out.r
 have HSet:=Lib.hid (set_any _ (.slice o m c) env (n,s,false) (w1.alloc (.cells #[.string (txt n),.string (txt s),.bool false] 43)) HAz.out.env hfit HSr.out)
 unfold SetPost aggV at HSet
 go_wp2_with fail
 refine HSet.out.mono ?_
 rintro e w8 ⟨v8,rfl,hE8,hb8⟩
 obtain ⟨o8,m8,c8,rfl⟩:=hE8.slice
 obtain ⟨x0,x1⟩:=one_cell (HAz.out.below hb8).r
 have HL:=Lib.hid (HAz.out.last hb8 hE8)
 clear hE8 hb8 HSet
 go_wp2_with fail
 obtain ⟨hh,hbL,hEL⟩:=HL.out
 generalize (w8.setCell ⟨w.heap.size+1,0,none⟩ (.slice o8 m8 c8))=w9 at hh hbL hEL ⊢
 obtain ⟨u0,_⟩:=one_cell hh
 exact bodyPost_ret (v:=.tuple #[.agg #[.slice o8 m8 c8],.int .i64 0]) (by simp [results,Tryz.results75,go_sem,u0]) rfl ⟨_,_,_,_,rfl,hbL,.inr ⟨rfl,_,HV.out,hEL⟩⟩
set_option maxRecDepth 100000 in
set_option maxHeartbeats 20000000 in
theorem ass_few (o:Option Addr) (m c:Nat) (env:EnvT) (n op s:BT) (w:World) (hst:Std w) (h:EnvS w (fun _=>True) (.slice o m c) env) (hE:EnvOk env 21) (_hs:s.length≤10000000) (hn:nameB n=true) (ho:op=opFew) (hg:getT env n=none) :
  Calls Tryz.prog 75 #[.agg #[.slice o m c],.string (txt n),.string (txt op),.string (txt s)] w (AssPost (assignT env n op s) w):=by
 have hnl:n.length≤40:=name_len hn
 have HN:Hid (∀ W,Calls Tryz.prog 50 #[.string (txt n)] W fun e w'=>e=.returned (.bool true)∧W=w'):=fun W=>by
  have:=name_any (txt n) (by rw [txt_size];unfold maxLen;omega) W
  rw [txt_data,hn] at this
  exact this
 have HG:=Lib.hid (ass_get o m c env n w hst h hE)
 obtain ⟨p0,_⟩:=one_cell (heap_first w (.cells #[.slice o m c] 26) (.cells #[.slice none 0 0] 26))
 have hE20:EnvOk env 20:=hE.less
 have HE:=Lib.hid hE20
 have HSt:=Lib.hid hst
 have hfit:=hE.fits
 have HSr:=Lib.hid hE.1
 have onow:((txt op).toList == [58,61])=false:=by rw [op_eq,ho];rfl
 have olate:((txt op).toList == [61])=false:=by rw [op_eq,ho];rfl
 have ofew:((txt op).toList == [63,61])=true:=by rw [op_eq,ho];rfl
 have omore:((txt op).toList == [43,61])=false:=by rw [op_eq,ho];rfl
 have HV:Hid (assignT env n op s=.ok (setT env (n,s,false))):=by
  show _=_
  unfold assignT
  rw [if_neg (by simp [hn]),if_neg (by rw [ho];decide),if_pos (by simp [ho,hg])]
 clear ho
 unfold GetV at HG
 rw [hg] at HG
 clear hg
 clear h hE hE20 hst hn
 go_enter Tryz.func75,Tryz.ntmps75
 go_wp2_with fail
 refine (HN.out _).mono ?_
 rintro e _ ⟨rfl,rfl⟩
 go_wp2_with fail
 refine HG.out.mono ?_
 rintro e w1 ⟨b,rfl,hb1,hsz1,hA1⟩
 have HA1:=Lib.hid hA1
 clear hA1 HG
 obtain ⟨xk,hxk⟩:∃ xk,xk=w1.heap.size:=⟨_,rfl⟩
 have ha:AssAt w o m c w1.heap.size env (n,s,false) (w1.alloc (.cells #[.string (txt n),.string (txt s),.bool false] 43)):=HA1.out (n,s,false)
 have HAz:=Lib.hid ha
 have hb0:b=false:=hb1
 subst hb0
 clear ha HA1 hxk hb1
 obtain ⟨y0,_⟩:=one_cell HAz.out.bx
 obtain ⟨z0,z1,z2,g0,g1,g2⟩:=three_cells HAz.out.x
 obtain ⟨_,v0⟩:=one_cell HAz.out.r
 have HSet:=Lib.hid (set_any _ (.slice o m c) env (n,s,false) (w1.alloc (.cells #[.string (txt n),.string (txt s),.bool false] 43)) HAz.out.env hfit HSr.out)
 unfold SetPost aggV at HSet
 go_wp2_with fail
 refine HSet.out.mono ?_
 rintro e w8 ⟨v8,rfl,hE8,hb8⟩
 obtain ⟨o8,m8,c8,rfl⟩:=hE8.slice
 obtain ⟨x0,x1⟩:=one_cell (HAz.out.below hb8).r
 have HL:=Lib.hid (HAz.out.last hb8 hE8)
 clear hE8 hb8 HSet
 go_wp2_with fail
 obtain ⟨hh,hbL,hEL⟩:=HL.out
 generalize (w8.setCell ⟨w.heap.size+1,0,none⟩ (.slice o8 m8 c8))=w9 at hh hbL hEL ⊢
 obtain ⟨u0,_⟩:=one_cell hh
 exact bodyPost_ret (v:=.tuple #[.agg #[.slice o8 m8 c8],.int .i64 0]) (by simp [results,Tryz.results75,go_sem,u0]) rfl ⟨_,_,_,_,rfl,hbL,.inr ⟨rfl,_,HV.out,hEL⟩⟩
set_option maxRecDepth 100000 in
set_option maxHeartbeats 20000000 in
theorem ass_new (o:Option Addr) (m c:Nat) (env:EnvT) (n op s:BT) (w:World) (hst:Std w) (h:EnvS w (fun _=>True) (.slice o m c) env) (hE:EnvOk env 21) (_hs:s.length≤10000000) (hn:nameB n=true) (ho:op=opMore) (hg:getT env n=none) :
  Calls Tryz.prog 75 #[.agg #[.slice o m c],.string (txt n),.string (txt op),.string (txt s)] w (AssPost (assignT env n op s) w):=by
 have hnl:n.length≤40:=name_len hn
 have HN:Hid (∀ W,Calls Tryz.prog 50 #[.string (txt n)] W fun e w'=>e=.returned (.bool true)∧W=w'):=fun W=>by
  have:=name_any (txt n) (by rw [txt_size];unfold maxLen;omega) W
  rw [txt_data,hn] at this
  exact this
 have HG:=Lib.hid (ass_get o m c env n w hst h hE)
 obtain ⟨p0,_⟩:=one_cell (heap_first w (.cells #[.slice o m c] 26) (.cells #[.slice none 0 0] 26))
 have hE20:EnvOk env 20:=hE.less
 have HE:=Lib.hid hE20
 have HSt:=Lib.hid hst
 have hfit:=hE.fits
 have HSr:=Lib.hid hE.1
 have onow:((txt op).toList == [58,61])=false:=by rw [op_eq,ho];rfl
 have olate:((txt op).toList == [61])=false:=by rw [op_eq,ho];rfl
 have ofew:((txt op).toList == [63,61])=false:=by rw [op_eq,ho];rfl
 have omore:((txt op).toList == [43,61])=true:=by rw [op_eq,ho];rfl
 have HV:Hid (assignT env n op s=.ok (setT env (n,s,false))):=by
  show _=_
  unfold assignT
  rw [if_neg (by simp [hn]),if_neg (by rw [ho];decide),if_pos (by simp [ho,hg])]
 clear ho
 unfold GetV at HG
 rw [hg] at HG
 clear hg
 clear h hE hE20 hst hn
 go_enter Tryz.func75,Tryz.ntmps75
 go_wp2_with fail
 refine (HN.out _).mono ?_
 rintro e _ ⟨rfl,rfl⟩
 go_wp2_with fail
 refine HG.out.mono ?_
 rintro e w1 ⟨b,rfl,hb1,hsz1,hA1⟩
 have HA1:=Lib.hid hA1
 clear hA1 HG
 obtain ⟨xk,hxk⟩:∃ xk,xk=w1.heap.size:=⟨_,rfl⟩
 have ha:AssAt w o m c w1.heap.size env (n,s,false) (w1.alloc (.cells #[.string (txt n),.string (txt s),.bool false] 43)):=HA1.out (n,s,false)
 have HAz:=Lib.hid ha
 have hb0:b=false:=hb1
 subst hb0
 clear ha HA1 hxk hb1
 obtain ⟨y0,_⟩:=one_cell HAz.out.bx
 obtain ⟨z0,z1,z2,g0,g1,g2⟩:=three_cells HAz.out.x
 obtain ⟨_,v0⟩:=one_cell HAz.out.r
 have HSet:=Lib.hid (set_any _ (.slice o m c) env (n,s,false) (w1.alloc (.cells #[.string (txt n),.string (txt s),.bool false] 43)) HAz.out.env hfit HSr.out)
 unfold SetPost aggV at HSet
 go_wp2_with fail
 refine HSet.out.mono ?_
 rintro e w8 ⟨v8,rfl,hE8,hb8⟩
 obtain ⟨o8,m8,c8,rfl⟩:=hE8.slice
 obtain ⟨x0,x1⟩:=one_cell (HAz.out.below hb8).r
 have HL:=Lib.hid (HAz.out.last hb8 hE8)
 clear hE8 hb8 HSet
 go_wp2_with fail
 obtain ⟨hh,hbL,hEL⟩:=HL.out
 generalize (w8.setCell ⟨w.heap.size+1,0,none⟩ (.slice o8 m8 c8))=w9 at hh hbL hEL ⊢
 obtain ⟨u0,_⟩:=one_cell hh
 exact bodyPost_ret (v:=.tuple #[.agg #[.slice o8 m8 c8],.int .i64 0]) (by simp [results,Tryz.results75,go_sem,u0]) rfl ⟨_,_,_,_,rfl,hbL,.inr ⟨rfl,_,HV.out,hEL⟩⟩
set_option maxRecDepth 100000 in
set_option maxHeartbeats 20000000 in
theorem ass_keep (o:Option Addr) (m c:Nat) (env:EnvT) (n op s:BT) (w:World) (hst:Std w) (h:EnvS w (fun _=>True) (.slice o m c) env) (hE:EnvOk env 21) (_hs:s.length≤10000000) (hn:nameB n=true) (ho:op=opFew) (y:VarT) (hg:getT env n=some y) :
  Calls Tryz.prog 75 #[.agg #[.slice o m c],.string (txt n),.string (txt op),.string (txt s)] w (AssPost (assignT env n op s) w):=by
 have hnl:n.length≤40:=name_len hn
 have HN:Hid (∀ W,Calls Tryz.prog 50 #[.string (txt n)] W fun e w'=>e=.returned (.bool true)∧W=w'):=fun W=>by
  have:=name_any (txt n) (by rw [txt_size];unfold maxLen;omega) W
  rw [txt_data,hn] at this
  exact this
 have HG:=Lib.hid (ass_get o m c env n w hst h hE)
 obtain ⟨p0,_⟩:=one_cell (heap_first w (.cells #[.slice o m c] 26) (.cells #[.slice none 0 0] 26))
 have hE20:EnvOk env 20:=hE.less
 have HE:=Lib.hid hE20
 have HSt:=Lib.hid hst
 have hfit:=hE.fits
 have HSr:=Lib.hid hE.1
 have onow:((txt op).toList == [58,61])=false:=by rw [op_eq,ho];rfl
 have olate:((txt op).toList == [61])=false:=by rw [op_eq,ho];rfl
 have ofew:((txt op).toList == [63,61])=true:=by rw [op_eq,ho];rfl
 have omore:((txt op).toList == [43,61])=false:=by rw [op_eq,ho];rfl
 have HV:Hid (assignT env n op s=.ok (setT env y)):=by
  show _=_
  unfold assignT
  rw [if_neg (by simp [hn]),if_neg (by rw [ho];decide),if_neg (by rw [ho,hg];simp [opFew,opLate]),if_neg (by rw [ho];decide),if_pos ho,hg]
 clear ho
 unfold GetV at HG
 rw [hg] at HG
 simp only [Option.getD_some,Option.isSome_some] at HG
 clear hg
 clear h hE hE20 hst hn
 go_enter Tryz.func75,Tryz.ntmps75
 go_wp2_with fail
 refine (HN.out _).mono ?_
 rintro e _ ⟨rfl,rfl⟩
 go_wp2_with fail
 refine HG.out.mono ?_
 rintro e w1 ⟨b,rfl,hb1,hsz1,hA1⟩
 have HA1:=Lib.hid hA1
 clear hA1 HG
 obtain ⟨xk,hxk⟩:∃ xk,xk=w1.heap.size:=⟨_,rfl⟩
 have ha:=HA1.out y
 have HAz:=Lib.hid ha
 subst hb1
 clear ha HA1 hxk
 obtain ⟨y0,_⟩:=one_cell HAz.out.bx
 obtain ⟨z0,z1,z2,g0,g1,g2⟩:=three_cells HAz.out.x
 obtain ⟨_,v0⟩:=one_cell HAz.out.r
 have HSet:=Lib.hid (set_any _ (.slice o m c) env y (w1.alloc (.cells #[.string (txt y.1),.string (txt y.2.1),.bool y.2.2] 43)) HAz.out.env hfit HSr.out)
 unfold SetPost aggV at HSet
 go_wp2_with fail
 refine HSet.out.mono ?_
 rintro e w8 ⟨v8,rfl,hE8,hb8⟩
 obtain ⟨o8,m8,c8,rfl⟩:=hE8.slice
 obtain ⟨x0,x1⟩:=one_cell (HAz.out.below hb8).r
 have HL:=Lib.hid (HAz.out.last hb8 hE8)
 clear hE8 hb8 HSet
 go_wp2_with fail
 obtain ⟨hh,hbL,hEL⟩:=HL.out
 generalize (w8.setCell ⟨w.heap.size+1,0,none⟩ (.slice o8 m8 c8))=w9 at hh hbL hEL ⊢
 obtain ⟨u0,_⟩:=one_cell hh
 exact bodyPost_ret (v:=.tuple #[.agg #[.slice o8 m8 c8],.int .i64 0]) (by simp [results,Tryz.results75,go_sem,u0]) rfl ⟨_,_,_,_,rfl,hbL,.inr ⟨rfl,_,HV.out,hEL⟩⟩
set_option maxRecDepth 100000 in
set_option maxHeartbeats 20000000 in
theorem ass_more (o:Option Addr) (m c:Nat) (env:EnvT) (n op s:BT) (w:World) (hst:Std w) (h:EnvS w (fun _=>True) (.slice o m c) env) (hE:EnvOk env 21) (hs:s.length≤10000000) (hn:nameB n=true) (ho:op=opMore) (y:VarT) (hg:getT env n=some y) :
  Calls Tryz.prog 75 #[.agg #[.slice o m c],.string (txt n),.string (txt op),.string (txt s)] w (AssPost (assignT env n op s) w):=by
 have hnl:n.length≤40:=name_len hn
 have HN:Hid (∀ W,Calls Tryz.prog 50 #[.string (txt n)] W fun e w'=>e=.returned (.bool true)∧W=w'):=fun W=>by
  have:=name_any (txt n) (by rw [txt_size];unfold maxLen;omega) W
  rw [txt_data,hn] at this
  exact this
 have HG:=Lib.hid (ass_get o m c env n w hst h hE)
 obtain ⟨p0,_⟩:=one_cell (heap_first w (.cells #[.slice o m c] 26) (.cells #[.slice none 0 0] 26))
 have hE20:EnvOk env 20:=hE.less
 have HE:=Lib.hid hE20
 have HSt:=Lib.hid hst
 have hfit:=hE.fits
 have HSr:=Lib.hid hE.1
 have onow:((txt op).toList == [58,61])=false:=by rw [op_eq,ho];rfl
 have olate:((txt op).toList == [61])=false:=by rw [op_eq,ho];rfl
 have ofew:((txt op).toList == [63,61])=false:=by rw [op_eq,ho];rfl
 have omore:((txt op).toList == [43,61])=true:=by rw [op_eq,ho];rfl
 have HV:Hid (assignT env n op s=if (moreT env y s).2=0 then .ok (setT env (y.1,(moreT env y s).1,y.2.2)) else .error (moreT env y s).2):=by
  show _=_
  unfold assignT
  rw [if_neg (by simp [hn]),if_neg (by rw [ho];decide),if_neg (by rw [ho,hg];simp [opMore,opLate]),if_pos ho,hg]
 clear ho
 have hyl:y.2.1.length≤10000000:=(hE.2.2 y (get_mem hg)).2
 unfold GetV at HG
 rw [hg] at HG
 simp only [Option.getD_some,Option.isSome_some] at HG
 clear hg
 clear h hE hE20 hst hn
 go_enter Tryz.func75,Tryz.ntmps75
 go_wp2_with fail
 refine (HN.out _).mono ?_
 rintro e _ ⟨rfl,rfl⟩
 go_wp2_with fail
 refine HG.out.mono ?_
 rintro e w1 ⟨b,rfl,hb1,hsz1,hA1⟩
 have HA1:=Lib.hid hA1
 clear hA1 HG
 obtain ⟨xk,hxk⟩:∃ xk,xk=w1.heap.size:=⟨_,rfl⟩
 have ha:=HA1.out y
 obtain ⟨q0,_⟩:=one_cell ha.bx
 obtain ⟨t0,t1,t2,_⟩:=three_cells ha.x
 have HX:=Lib.hid (longer_any _ o m c env y s _ ha.std ha.env HE.out hs hyl)
 obtain ⟨P,hP⟩:∃ P,P=moreT env y s:=⟨_,rfl⟩
 rw [← hP] at HX HV
 have HA2:=Lib.hid ha
 subst hb1
 clear ha hP HA1 hxk
 go_wp2_with fail
 refine HX.out.mono ?_
 rintro e w2 ⟨rfl,hb2⟩
 have HA3:=Lib.hid (HA2.out.below hb2)
 have HAz:=Lib.hid (AssAt.puts (a:=y.1) (t:=y.2.1) (b:=y.2.2) HA3.out HSt.out P.1)
 obtain ⟨_,_,_,f0,f1,f2⟩:=three_cells HA3.out.x
 clear hb2 HX HA2
 by_cases hj:P.2=0
 ·have hR:=HV.out
  rw [if_pos hj] at hR
  have HR:=Lib.hid hR
  have e6:(P.2 != 0)=false:=by rw [hj];rfl
  clear HV hR
  obtain ⟨y0,_⟩:=one_cell HAz.out.bx
  obtain ⟨z0,z1,z2,g0,g1,g2⟩:=three_cells HAz.out.x
  obtain ⟨_,v0⟩:=one_cell HAz.out.r
  have HSet:=Lib.hid (set_any _ (.slice o m c) env (y.1,P.1,y.2.2) (w2.setCell ⟨w1.heap.size,1,none⟩ (.string (txt P.1))) HAz.out.env hfit HSr.out)
  unfold SetPost aggV at HSet
  go_wp2_with fail
  refine HSet.out.mono ?_
  rintro e w8 ⟨v8,rfl,hE8,hb8⟩
  obtain ⟨o8,m8,c8,rfl⟩:=hE8.slice
  obtain ⟨x0,x1⟩:=one_cell (HAz.out.below hb8).r
  have HL:=Lib.hid (HAz.out.last hb8 hE8)
  clear hE8 hb8 HSet
  go_wp2_with fail
  obtain ⟨hh,hbL,hEL⟩:=HL.out
  generalize (w8.setCell ⟨w.heap.size+1,0,none⟩ (.slice o8 m8 c8))=w9 at hh hbL hEL ⊢
  obtain ⟨u0,_⟩:=one_cell hh
  exact bodyPost_ret (v:=.tuple #[.agg #[.slice o8 m8 c8],.int .i64 0]) (by simp [results,Tryz.results75,go_sem,u0]) rfl ⟨_,_,_,_,rfl,hbL,.inr ⟨rfl,_,HR.out,hEL⟩⟩
 ·have hR:=HV.out
  rw [if_neg hj] at hR
  have HR:=Lib.hid hR
  have e6:(P.2 != 0)=true:=by rw [bne_iff_ne];exact hj
  clear HV hR
  obtain ⟨x0,x1⟩:=one_cell HAz.out.r
  have hh:((w2.setCell ⟨w1.heap.size,1,none⟩ (.string (txt P.1))).setCell ⟨w.heap.size+1,0,none⟩ (.slice none 0 0)).heap[w.heap.size+1]? = some (.cells #[.slice none 0 0] 26 (0,0)):=set_one HAz.out.r _
  have hbL:Below w.heap.size w ((w2.setCell ⟨w1.heap.size,1,none⟩ (.string (txt P.1))).setCell ⟨w.heap.size+1,0,none⟩ (.slice none 0 0)):=HAz.out.back.setCell (p:=⟨w.heap.size+1,0,none⟩) (by show w.heap.size≤w.heap.size+1;omega) _
  have HL:=Lib.hid (And.intro hh hbL)
  clear hh hbL
  go_wp2_with fail
  obtain ⟨hh,hbL⟩:=HL.out
  generalize ((w2.setCell ⟨w1.heap.size,1,none⟩ (.string (txt P.1))).setCell ⟨w.heap.size+1,0,none⟩ (.slice none 0 0))=w9 at hh hbL ⊢
  obtain ⟨u0,_⟩:=one_cell hh
  exact bodyPost_ret (v:=.tuple #[.agg #[.slice none 0 0],.int .i64 P.2]) (by simp [results,Tryz.results75,go_sem,u0]) rfl ⟨_,_,_,_,rfl,hbL,.inl ⟨HR.out,‹_›,rfl,rfl,rfl⟩⟩
set_option maxRecDepth 100000 in
set_option maxHeartbeats 20000000 in
theorem ass_bad (o:Option Addr) (m c:Nat) (env:EnvT) (n op s:BT) (w:World) (hst:Std w) (h:EnvS w (fun _=>True) (.slice o m c) env) (hE:EnvOk env 21) (_hs:s.length≤10000000) (hn:nameB n=true) (h1:op≠opNow) (h2:op≠opLate) (h3:op≠opFew) (h4:op≠opMore) :
  Calls Tryz.prog 75 #[.agg #[.slice o m c],.string (txt n),.string (txt op),.string (txt s)] w (AssPost (assignT env n op s) w):=by
 have hnl:n.length≤40:=name_len hn
 have HN:Hid (∀ W,Calls Tryz.prog 50 #[.string (txt n)] W fun e w'=>e=.returned (.bool true)∧W=w'):=fun W=>by
  have:=name_any (txt n) (by rw [txt_size];unfold maxLen;omega) W
  rw [txt_data,hn] at this
  exact this
 have HG:=Lib.hid (ass_get o m c env n w hst h hE)
 obtain ⟨p0,_⟩:=one_cell (heap_first w (.cells #[.slice o m c] 26) (.cells #[.slice none 0 0] 26))
 have hE20:EnvOk env 20:=hE.less
 have HE:=Lib.hid hE20
 have HSt:=Lib.hid hst
 have hfit:=hE.fits
 have HSr:=Lib.hid hE.1
 have onow:((txt op).toList == [58,61])=false:=by rw [op_eq];exact decide_eq_false h1
 have olate:((txt op).toList == [61])=false:=by rw [op_eq];exact decide_eq_false h2
 have ofew:((txt op).toList == [63,61])=false:=by rw [op_eq];exact decide_eq_false h3
 have omore:((txt op).toList == [43,61])=false:=by rw [op_eq];exact decide_eq_false h4
 have HV:Hid (assignT env n op s=.error 1):=by
  show _=_
  unfold assignT
  rw [if_neg (by simp [hn]),if_neg h1,if_neg (by rintro (h | ⟨_,h | h⟩) <;> contradiction),if_neg h4,if_neg h3]
 have h10:(1:Int)≠0:=by decide
 clear h1 h2 h3 h4
 unfold GetV at HG
 generalize (getT env n).getD ([],[],false)=y at HG
 clear h hE hE20 hst hn
 go_enter Tryz.func75,Tryz.ntmps75
 go_wp2_with fail
 refine (HN.out _).mono ?_
 rintro e _ ⟨rfl,rfl⟩
 go_wp2_with fail
 refine HG.out.mono ?_
 rintro e w1 ⟨b,rfl,hb1,hsz1,hA1⟩
 have HA1:=Lib.hid hA1
 clear hA1 HG
 obtain ⟨xk,hxk⟩:∃ xk,xk=w1.heap.size:=⟨_,rfl⟩
 have ha:=HA1.out y
 have HAz:=Lib.hid ha
 clear ha HA1 hxk hb1
 cases b with
 | true =>
  obtain ⟨x0,x1⟩:=one_cell HAz.out.r
  have hh:((w1.alloc (.cells #[.string (txt y.1),.string (txt y.2.1),.bool y.2.2] 43)).setCell ⟨w.heap.size+1,0,none⟩ (.slice none 0 0)).heap[w.heap.size+1]? = some (.cells #[.slice none 0 0] 26 (0,0)):=set_one HAz.out.r _
  have hbL:Below w.heap.size w ((w1.alloc (.cells #[.string (txt y.1),.string (txt y.2.1),.bool y.2.2] 43)).setCell ⟨w.heap.size+1,0,none⟩ (.slice none 0 0)):=HAz.out.back.setCell (p:=⟨w.heap.size+1,0,none⟩) (by show w.heap.size≤w.heap.size+1;omega) _
  have HL:=Lib.hid (And.intro hh hbL)
  clear hh hbL
  go_wp2_with fail
  obtain ⟨hh,hbL⟩:=HL.out
  generalize ((w1.alloc (.cells #[.string (txt y.1),.string (txt y.2.1),.bool y.2.2] 43)).setCell ⟨w.heap.size+1,0,none⟩ (.slice none 0 0))=w9 at hh hbL ⊢
  obtain ⟨u0,_⟩:=one_cell hh
  exact bodyPost_ret (v:=.tuple #[.agg #[.slice none 0 0],.int .i64 1]) (by simp [results,Tryz.results75,go_sem,u0]) rfl ⟨_,_,_,_,rfl,hbL,.inl ⟨HV.out,‹_›,rfl,rfl,rfl⟩⟩
 | false =>
  obtain ⟨x0,x1⟩:=one_cell HAz.out.r
  have hh:((w1.alloc (.cells #[.string (txt y.1),.string (txt y.2.1),.bool y.2.2] 43)).setCell ⟨w.heap.size+1,0,none⟩ (.slice none 0 0)).heap[w.heap.size+1]? = some (.cells #[.slice none 0 0] 26 (0,0)):=set_one HAz.out.r _
  have hbL:Below w.heap.size w ((w1.alloc (.cells #[.string (txt y.1),.string (txt y.2.1),.bool y.2.2] 43)).setCell ⟨w.heap.size+1,0,none⟩ (.slice none 0 0)):=HAz.out.back.setCell (p:=⟨w.heap.size+1,0,none⟩) (by show w.heap.size≤w.heap.size+1;omega) _
  have HL:=Lib.hid (And.intro hh hbL)
  clear hh hbL
  go_wp2_with fail
  obtain ⟨hh,hbL⟩:=HL.out
  generalize ((w1.alloc (.cells #[.string (txt y.1),.string (txt y.2.1),.bool y.2.2] 43)).setCell ⟨w.heap.size+1,0,none⟩ (.slice none 0 0))=w9 at hh hbL ⊢
  obtain ⟨u0,_⟩:=one_cell hh
  exact bodyPost_ret (v:=.tuple #[.agg #[.slice none 0 0],.int .i64 1]) (by simp [results,Tryz.results75,go_sem,u0]) rfl ⟨_,_,_,_,rfl,hbL,.inl ⟨HV.out,‹_›,rfl,rfl,rfl⟩⟩
set_option maxRecDepth 100000 in
set_option maxHeartbeats 20000000 in
theorem ass_name (o:Option Addr) (m c:Nat) (env:EnvT) (n op s:BT) (w:World) (hnm:n.length≤maxLen) (hn:nameB n=false) :
  Calls Tryz.prog 75 #[.agg #[.slice o m c],.string (txt n),.string (txt op),.string (txt s)] w (AssPost (assignT env n op s) w):=by
 have HN:Hid (∀ W,Calls Tryz.prog 50 #[.string (txt n)] W fun e w'=>e=.returned (.bool false)∧W=w'):=fun W=>by
  have:=name_any (txt n) (by rw [txt_size];exact hnm) W
  rw [txt_data,hn] at this
  exact this
 have HV:Hid (assignT env n op s=.error 1):=by
  show _=_
  unfold assignT
  rw [if_pos hn]
 have hr:=heap_second w (.cells #[.slice o m c] 26) (.cells #[.slice none 0 0] 26)
 have hb:=below_two w (.cells #[.slice o m c] 26) (.cells #[.slice none 0 0] 26)
 have HL:=Lib.hid (And.intro hr hb)
 clear hn hr hb
 go_enter Tryz.func75,Tryz.ntmps75
 go_wp2_with fail
 refine (HN.out _).mono ?_
 rintro e _ ⟨rfl,rfl⟩
 go_wp2_with fail
 obtain ⟨hh,hbL⟩:=HL.out
 generalize ((w.alloc (.cells #[.slice o m c] 26)).alloc (.cells #[.slice none 0 0] 26))=w9 at hh hbL ⊢
 obtain ⟨u0,_⟩:=one_cell hh
 exact bodyPost_ret (v:=.tuple #[.agg #[.slice none 0 0],.int .i64 1]) (by simp [results,Tryz.results75,go_sem,u0]) rfl ⟨_,_,_,_,rfl,hbL,.inl ⟨HV.out,by decide,rfl,rfl,rfl⟩⟩
theorem assign_big (o:Option Addr) (m c:Nat) (env:EnvT) (n op s:BT) (w:World) (hst:Std w) (h:EnvS w (fun _=>True) (.slice o m c) env) (hE:EnvOk env 21) (hs:s.length≤10000000) (hnm:n.length≤maxLen) :
  Calls Tryz.prog 75 #[.agg #[.slice o m c],.string (txt n),.string (txt op),.string (txt s)] w (AssPost (assignT env n op s) w):=by
 cases hn:nameB n with
 | false=>exact ass_name o m c env n op s w hnm hn
 | true =>
  by_cases h1:op=opNow
  ·exact ass_now o m c env n op s w hst h hE hs hn h1
  by_cases h2:op=opLate
  ·exact ass_late o m c env n op s w hst h hE hs hn h2
  cases hg:getT env n with
  | none =>
   by_cases h3:op=opFew
   ·exact ass_few o m c env n op s w hst h hE hs hn h3 hg
   by_cases h4:op=opMore
   ·exact ass_new o m c env n op s w hst h hE hs hn h4 hg
   exact ass_bad o m c env n op s w hst h hE hs hn h1 h2 h3 h4
  | some y =>
   by_cases h3:op=opFew
   ·exact ass_keep o m c env n op s w hst h hE hs hn h3 y hg
   by_cases h4:op=opMore
   ·exact ass_more o m c env n op s w hst h hE hs hn h4 y hg
   exact ass_bad o m c env n op s w hst h hE hs hn h1 h2 h3 h4
theorem assign_any (o:Option Addr) (m c:Nat) (env:EnvT) (n op s:BT) (w:World) (hst:Std w) (h:EnvS w (fun _=>True) (.slice o m c) env) (hE:EnvOk env 21) (hs:s.length≤10000000) (hnm:n.length≤8000000000000) :
  Calls Tryz.prog 75 #[.agg #[.slice o m c],.string (txt n),.string (txt op),.string (txt s)] w (AssPost (assignT env n op s) w) :=
 assign_big o m c env n op s w hst h hE hs (by unfold maxLen;omega)
end Go.Proofs.YtmfjolmfbdbegaaGreatDoor
