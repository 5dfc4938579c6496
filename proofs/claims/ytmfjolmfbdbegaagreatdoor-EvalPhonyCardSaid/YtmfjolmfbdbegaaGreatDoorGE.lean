/-
  What each answers: what a function makes of each word of a text, put together. No condition but sizes.
  What turned answers: the ends of the words of a text. No condition but sizes.
  What a place with one more variable is; what choose answers, if text answers as the chapter says. No condition but sizes.
  What forEach answers, if text answers as the chapter says. No condition but sizes.
  What variable answers, if text and value answer as the chapter says. No condition but sizes.
-/
import Derived.Test.YtmfjolmfbdbegaaGreatDoorNM1
import Derived.Test.YtmfjolmfbdbegaaGreatDoorGD
import Derived.Test.YtmfjolmfbdbegaaGreatDoorHB
namespace Go.Proofs.YtmfjolmfbdbegaaGreatDoor
open Go.RowKit Go.Shelf
attribute [local go_sem] Oper.semAt_some
def WordC (g:Nat) (lb:Array Value) (xb:Nat) (f:BT→Nat→R) (l:List BT) (w:World):Prop :=
 ∀ (t:BT) (n:Nat) (W:World),t∈l→Turned (fun b=>b=xb) w W→StepsAt W xb n→n≤2000→Calls Tryz.prog g (#[.string (txt t)]++lb) W (ExpPost xb (f t n) W)
theorem own_slice {W:World} {base:Nat} {v:Value} {l:List BT} (h:OwnT W base v l):∃ o c,v=.slice o l.length c:=by
 rcases h.2 with ⟨hv,h0⟩ | ⟨g,cap,cur,hv,_⟩
 ·exact ⟨none,0,by rw [hv,h0]⟩
 ·exact ⟨_,_,hv⟩
theorem words_told (s:BT) (hs:s.length≤10000000) (w:World):Calls Tryz.prog 68 #[.string (txt s)] w fun e w'=>∃ o n c,e=.returned (.slice o n c)∧n=(wordsT s).length∧OwnT w' w.heap.size (.slice o n c) (wordsT s)∧Below w.heap.size w w':=by
 refine (words_own (txt s) (by rw [txt_size];omega) w).mono ?_
 rintro e w' ⟨v,rfl,h,hb⟩
 rw [txt_data] at h
 obtain ⟨o,c,rfl⟩:=own_slice (l:=wordsT s) h
 exact ⟨o,_,c,rfl,rfl,h,hb⟩
theorem join_size:∀ (l:List BT) (k:Nat),(∀ x∈l,x.length≤k)→(joinT l).length≤l.length*(k+1)
 | [],k,_=>by simp [joinT,Lib.join]
 | a :: r,k,h=>by
  have h2:∀ (r:List BT),(∀ x∈r,x.length≤k)→(Lib.joinTail [32] r).length≤r.length*(k+1):=fun r=>by
   induction r with
   | nil=>intro _;simp [Lib.joinTail]
   | cons b r ih =>
    intro h
    have h1:=ih fun x hx=>h x (by simp [hx])
    have h3:=h b (by simp)
    unfold Lib.joinTail at h1 ⊢
    simp only [List.map_cons,List.flatten_cons,List.length_append,List.length_cons,List.length_nil]
    rw [Nat.add_mul]
    omega
  unfold joinT
  rw [Lib.join_cons,List.length_append,List.length_cons,Nat.add_mul]
  have h1:=h2 r fun x hx=>h x (by simp [hx])
  have h3:=h a (by simp)
  omega
theorem words_len (s:BT):(wordsT s).length≤s.length+1:=by
 have:=wordsOf_len s
 rwa [wordsT_of,List.length_map] at this
theorem words_short {s x:BT} (h:x∈wordsT s):x.length≤s.length:=(words_memT h).2
theorem texts_size' {f:BT→Nat→R} {k:Nat} {q:Nat} (hf:∀ s,s.length≤q→∀ n m t,f s n=.ok (m,t)→t.length≤k):∀ {l:List BT} {n m:Nat} {r:List BT},(∀ x∈l,x.length≤q)→textsR f l n=.ok (m,r)→∀ x∈r,x.length≤k
 | [],n,m,r,_,h,x,hx=>by cases h;simp at hx
 | s :: l,n,m,r,hl,h,x,hx=>by
  obtain ⟨j,t,h1,h2⟩:=Rb_is h
  obtain ⟨j2,u,h3,h4⟩:=Rb_is h2
  cases h4
  rcases List.mem_cons.1 hx with rfl | hx
  ·exact hf _ (hl _ (by simp)) _ _ _ h1
  ·exact texts_size' hf (fun y hy=>hl y (by simp [hy])) h3 x hx
set_option maxRecDepth 100000 in
set_option maxHeartbeats 4000000 in
theorem each_any (g:Nat) (lb:Array Value) (eg:∀ args w,(callFunc g args).run Tryz.prog w=.ok (.enter g args) w) (f:BT→Nat→R) (s:BT) (xb n:Nat) (w:World) (hs:s.length≤4000) (hf:∀ t n m u,t.length≤4000→f t n=.ok (m,u)→u.length≤100000)
  (hS0:StepsAt w xb n) (hn:n≤2000) (hC:WordC g lb xb f (wordsT s) w) :
  Calls Tryz.prog 192 #[.string (txt s),.func (.func g) #[] lb] w (ExpPost xb (eachR f s n) w):=by
 have hx:=hS0.lt
 have HW:=Lib.hid (words_told s (by omega) w)
 have HWl:Hid ((wordsT s).length≤4001):=by show _≤_;have:=words_len s;omega
 have HC:Hid (WordC g lb xb f (wordsT s) w):=hC
 have HF:Hid (∀ m r,textsR f (wordsT s) n=.ok (m,r)→(joinT r).length≤1000000000):=fun m r h=>by
  have h1:=join_size r 100000 (texts_size' (fun x hx n m t e=>hf x n m t hx e) (fun x hx=>Nat.le_trans (words_short hx) hs) h)
  rw [texts_len h] at h1
  have h2:=words_len s
  have h3:(wordsT s).length*(100000+1)≤4001*(100000+1):=Nat.mul_le_mul_right _ (by omega)
  omega
 have HS:=Lib.hid hS0
 unfold eachR
 obtain ⟨l,hl⟩:∃ l,l=wordsT s:=⟨_,rfl⟩
 rw [← hl] at HW HWl HC HF ⊢
 clear hC hS0 hf hs hl
 go_enter Tryz.func192,Tryz.ntmps192
 go_wp2_with fail
 refine HW.out.mono ?_
 rintro e w1 ⟨o,an,c,rfl,hn1,ho,hb1⟩
 have HL:=Lib.hid hn1
 have hs1:=hb1.size
 have HA:Hid (ArgsR w1 xb o c l):=ho.args hx
 have HT1:Hid (Turned (fun b=>b=xb) w w1):=turned_of_below' hb1
 have HS1:Hid (StepsAt w1 xb n):=(hb1.block _ hx).trans HS.out
 have hal:an≤4001:=by rw [hn1];exact HWl.out
 clear hn1 ho hb1 HW HS HWl
 go_wp2_with fail
 go_loopw [6,14] (fun vv iv wr=>∃ (i n':Nat) (acc:List BT) (q:Option Addr) (z cz:Nat),i≤an∧iv=.int .i64 i∧vv=.slice q z cz∧acc.length=i∧Hid (OwnT wr w1.heap.size (.slice q z cz) acc) ∧
  Hid (Turned (fun b=>b=xb) w1 wr)∧Hid (StepsAt wr xb n')∧n'≤2000 ∧
  Hid (textsR f l n=Rb (textsR f (l.drop i) n') fun j u=>.ok (j,acc++u))) (fun _ iv _=>an - (intOf iv).toNat)
 case atStart=>exact ⟨0,n,[],none,0,0,Nat.zero_le _,rfl,rfl,rfl,OwnT.nil _ _,Turned.refl _ _,HS1.out,hn,(Rb_self _).symm⟩
 case round =>
  obtain ⟨i,n',acc,q,z,cz,hi,rfl,rfl,hacc,HO,HT,HS,hn',HB⟩:=hrel
  have hha:=Lib.hid hacc
  clear hacc
  by_cases hlt:i < an
  ·obtain ⟨s,hs⟩:∃ s,l[i]? = some s:=⟨_,List.getElem?_eq_getElem (by rw [← HL.out];exact hlt)⟩
   obtain ⟨b,ff,rfl,hbx,hbl,hnc,hcell⟩:=(HA.out.turned HT.out) i s hs
   rw [← HL.out] at hnc
   have HTx:=Lib.hid (HC.out s n' wr (List.mem_of_getElem? hs) (HT1.out.trans HT.out) HS.out hn')
   have HB2:Hid (textsR f l n=Rb (f s n') fun j u=>Rb (textsR f (l.drop (i+1)) j) fun j2 u2=>.ok (j2,acc++u :: u2)):=by
    show _=_
    rw [HB.out]
    obtain ⟨hl1,hl2⟩:=List.getElem?_eq_some_iff.1 hs
    rw [List.drop_eq_getElem_cons hl1,hl2]
    show Rb (Rb _ _) _=_
    rw [Rb_assoc]
    congr 1
    funext j u
    rw [Rb_assoc]
    rfl
   have hil:(i:Int) < (an:Int):=by omega
   clear HB hs hbl hbx
   go_wp2_with fail
   refine HTx.out.mono ?_
   rintro e w2 ⟨hT2,hr2⟩
   have HT2:Hid (Turned (fun b=>b=xb) w1 w2):=HT.out.trans hT2
   have HO2:Hid (OwnT w2 w1.heap.size (.slice q z cz) acc):=hT2.ownsRow HO.out (fun r hr hh=>by have:=(HO.out.lt r hr).1;omega)
   clear hT2 HTx HO HT HS
   rcases hr2 with ⟨cc,hr,hc,rfl⟩ | ⟨n2,t,hr,rfl,hs3,hn2⟩
   ·have HE:Hid (Rb (textsR f l n) (fun m l=>finR m (joinT l))=.error cc):=by
     show _=_
     rw [HB2.out,hr];rfl
    have e5:(cc != 0)=true:=by rw [bne_iff_ne];exact hc
    clear HB2 hr
    go_wp2_with fail
    go_ret2
    exact ⟨HT1.out.trans HT2.out,.inl ⟨cc,HE.out,hc,rfl⟩⟩
   ·have HB3:Hid (textsR f l n=Rb (textsR f (l.drop (i+1)) n2) fun j u=>.ok (j,acc++[t]++u)):=by
     show _=_
     rw [HB2.out,hr,Rb_ok]
     congr 1
     funext j u
     simp
    have hs2:=HT2.out.size
    obtain ⟨q3,z3,c3,w3,hrun,hown3,hb3⟩:=run_append_told w1.heap.size (.slice q z cz) acc t HO2.out (by have:=hha.out;omega) hs2 28
    have HO3:=Lib.hid hown3
    have HT3:Hid (Turned (fun b=>b=xb) w1 w3):=HT2.out.later (Y:=fun b=>w1.heap.size≤b) ⟨hb3.os,hb3.tape,hb3.output,hb3.size,fun k hk hh=>hb3.block k (by omega)⟩ (fun k hk hh=>by omega)
    have HS3:Hid (StepsAt w3 xb n2):=(hb3.block _ (by omega)).trans hs3
    clear hown3 hb3 hs3 HB2 hr HO2 HT2
    go_wp2_with (at_builtin;refine wpList_append_eq rfl _ _ 28 rfl _ _ _ w3 rfl rfl hrun ?_)
    go_roundw
    case rel=>exact ⟨i+1,n2,acc++[t],q3,z3,c3,by omega,by go_num,rfl,by rw [List.length_append,hha.out];rfl,HO3,HT3,HS3,hn2,HB3⟩
    case measure=>simp [intOf];omega
  ·have HB4:Hid (textsR f l n=.ok (n',acc)):=by
    show _=_
    rw [HB.out,List.drop_eq_nil_of_le (by rw [← HL.out];omega)]
    show Except.ok (n',acc++[])=_
    rw [List.append_nil]
   have hz:z=acc.length:=by
    obtain ⟨_,_,hv⟩:=own_slice HO.out
    cases hv;rfl
   have hjl:=HF.out _ _ HB4.out
   have hrd:ReadsO wr wr.heap.size (.slice q z cz) (acc.map txt):=(ArgsR.src (HO.out.args (xb:=xb) (by omega)) hz)
   have HJ:=Lib.hid (textJoin_any (.slice q z cz) (acc.map txt) wr hrd (by rw [List.length_map];have:=hha.out;omega) (by rw [joinOf_isT];omega))
   rw [joinOf_isT] at HJ
   have HSh:=Lib.hid (short_any' (joinT acc) · hjl)
   have HE:Hid (Rb (textsR f l n) (fun m l=>finR m (joinT l))=finR n' (joinT acc)):=by
    show _=_
    rw [HB4.out];rfl
   clear HB HB4 hjl hrd hz HO
   go_wp2_with fail
   refine HJ.out.mono ?_
   rintro e w5 ⟨rfl,hb5⟩
   have HT5:Hid (Turned (fun b=>b=xb) w w5):=HT1.out.trans (HT.out.trans (turned_of_below' hb5))
   have HS5:Hid (StepsAt w5 xb n'):=(hb5.block _ HS.out.lt).trans HS.out
   clear hb5 HJ
   go_wp2_with fail
   refine (HSh.out _).mono ?_
   rintro e w6 ⟨rfl,hr6⟩
   rcases hr6 with ⟨hlong,rfl⟩ | ⟨hshort,rfl⟩
   ·go_wp2_with fail
    go_ret2
    exact ⟨HT5.out,.inl ⟨3,by rw [HE.out];exact fin_err _ hlong,by decide,rfl⟩⟩
   ·go_wp2_with fail
    go_ret2
    exact ⟨HT5.out,.inr ⟨n',joinT acc,by rw [HE.out];exact fin_ok _ hshort,rfl,HS5.out,hn'⟩⟩
end Go.Proofs.YtmfjolmfbdbegaaGreatDoor

namespace Go.Proofs.YtmfjolmfbdbegaaGreatDoor
open Go.RowKit Go.Shelf
attribute [local go_sem] Oper.semAt_some
theorem pct_app (p:BT):(⟨#[37]⟩:ByteArray)++txt p=txt (37 :: p):=by
 show (⟨#[37]⟩:ByteArray)++⟨p.toArray⟩=⟨(37 :: p).toArray⟩
 apply ByteArray.ext
 simp [ByteArray.data_append]
def BoxT (W:World) (b:Nat) (p:BT):Prop:=W.heap[b]? = some (.cells #[.string (txt p)] 9 (0,0))
theorem BoxT.kept {W W':World} {b:Nat} {p:BT} {X:Nat→Prop} (h:BoxT W b p) (hT:Turned X W W') (hx:¬ X b):BoxT W' b p:=(hT.block b (Array.getElem?_eq_some_iff.1 h).1 hx).trans h
set_option maxRecDepth 100000 in
set_option maxHeartbeats 10000000 in
theorem turned1_any (b1 b2:Nat) (p q t:BT) (xb n:Nat) (W:World) (h1:BoxT W b1 p) (h2:BoxT W b2 q) (hp:p.length≤10000000) (hq:q.length≤10000000) (ht:t.length≤10000000) (hS:StepsAt W xb n) (hn:n≤2000) :
  Calls Tryz.prog 203 #[.string (txt t),.pointer (some ⟨b1,0,none⟩),.pointer (some ⟨b2,0,none⟩)] W (ExpPost xb (.ok (n,substL p q t)) W):=by
 obtain ⟨c1,_⟩:=one_cell h1
 obtain ⟨c2,_⟩:=one_cell h2
 have hs0:∀ w,Calls Tryz.prog 204 #[.string (txt p),.string (txt q),.string (txt t)] w (FillPost (substL p q t) w):=fun w=>by
  have:=subst_any (txt p) (txt q) (txt t) (by rw [txt_size];omega) (by rw [txt_size];omega) (by rw [txt_size];omega) w
  rw [txt_data,txt_data,txt_data] at this
  exact this
 have HS0:=Lib.hid hs0
 clear hs0 h1 h2
 go_enter Tryz.func203,Tryz.ntmps203
 go_wp2_with fail
 refine (HS0.out _).mono ?_
 rintro e w' ⟨rfl,m,rfl⟩
 go_wp2_with fail
 go_ret2
 exact ⟨turned_of_below' ⟨rfl,rfl,rfl,Nat.le_refl _,fun _ _=>rfl⟩,.inr ⟨n,_,rfl,rfl,hS,hn⟩⟩
set_option maxRecDepth 100000 in
set_option maxHeartbeats 10000000 in
theorem turned_any (s p q:BT) (xb n:Nat) (w:World) (hs:s.length≤4000) (hp:p.length≤10000) (hq:q.length≤10000) (hS:StepsAt w xb n) (hn:n≤2000) :
  Calls Tryz.prog 191 #[.string (txt s),.string (txt p),.string (txt q)] w (ExpPost xb (turnedR s p q n) w):=by
 have hx:=hS.lt
 have hb0:Below w.heap.size w ((w.alloc (.cells #[.string (txt p)] 9)).alloc (.cells #[.string (txt q)] 9)):=below_two _ _ _
 have c1:BoxT ((w.alloc (.cells #[.string (txt p)] 9)).alloc (.cells #[.string (txt q)] 9)) w.heap.size p:=heap_first _ _ _
 have c2:BoxT ((w.alloc (.cells #[.string (txt p)] 9)).alloc (.cells #[.string (txt q)] 9)) (w.heap.size+1) q:=heap_second _ _ _
 have HO:Hid (∀ W,Calls Tryz.prog 80 #[.string (txt p)] W fun e w'=>e=.returned (.bool (openB p))∧w'=W):=fun W=>by
  have:=open_any (txt p) W
  rw [txt_data] at this
  exact this
 have HE:Hid (∀ (P Q:BT) (W:World),P.length≤10001→Q.length≤10001→(P,Q)=turnP p q→Below w.heap.size w W→BoxT W w.heap.size P→BoxT W (w.heap.size+1) Q →
   Calls Tryz.prog 192 #[.string (txt s),.func (.func 203) #[] #[.pointer (some ⟨w.heap.size,0,none⟩),.pointer (some ⟨w.heap.size+1,0,none⟩)]] W fun e w'=>ExpPost xb (turnedR s p q n) w e w'):=fun P Q W hP hQ hPQ hb h1 h2=>by
  have e1:P=(turnP p q).1:=congrArg Prod.fst hPQ
  have e2:Q=(turnP p q).2:=congrArg Prod.snd hPQ
  refine (each_any 203 #[.pointer (some ⟨w.heap.size,0,none⟩),.pointer (some ⟨w.heap.size+1,0,none⟩)] (enters_of Tryz.func203 (by kernel_rfl) rfl) (fun t k=>.ok (k,substL P Q t)) s xb n W hs (fun t n m u ht h=>by
    cases h
    have:=subst_len P Q t
    omega) ((hb.block _ hx).trans hS) hn (fun t n W2 ht hT2 hS2 hn2=>turned1_any _ _ P Q t xb n W2 (h1.kept hT2 (by omega)) (h2.kept hT2 (by omega)) (by omega) (by omega) (by have:=words_short ht;omega) hS2 hn2)).mono ?_
  rintro e w' ⟨hT,hr⟩
  subst e1 e2
  exact ⟨(turned_of_below' hb).trans hT,hr⟩
 have hpct:=pct_app p
 have hqct:=pct_app q
 obtain ⟨d1,f1⟩:=one_cell c1
 obtain ⟨d2,f2⟩:=one_cell c2
 cases ho:openB p with
 | true =>
  have HE1:=Lib.hid (HE.out p q _ (by omega) (by omega) (by unfold turnP;rw [if_pos ho]) hb0 c1 c2)
  rw [ho] at HO
  clear HE hpct hqct hb0 c1 c2 hS f1 f2 d2
  go_enter Tryz.func191,Tryz.ntmps191
  go_wp2_with fail
  refine (HO.out _).mono ?_
  rintro e w' ⟨rfl,rfl⟩
  go_wp2_with fail
  refine HE1.out.mono ?_
  rintro e w2 ⟨hT,hr⟩
  have HT:=Lib.hid hT
  clear hT HE1
  rcases hr with ⟨cc,hr,hc,rfl⟩ | ⟨n2,t,hr,rfl,hs5,hn5⟩
  ·have HR:=Lib.hid hr
   clear hr
   go_wp2_with fail
   go_ret2
   exact ⟨HT.out,.inl ⟨cc,HR.out,hc,rfl⟩⟩
  ·have HR:=Lib.hid hr
   have HS5:=Lib.hid hs5
   clear hr hs5
   go_wp2_with fail
   go_ret2
   exact ⟨HT.out,.inr ⟨n2,t,HR.out,rfl,HS5.out,hn5⟩⟩
 | false =>
  have HC1:=Lib.hid c1
  have HC2:=Lib.hid c2
  have HB0:=Lib.hid hb0
  rw [ho] at HO
  have HE1:Hid (∀ W,Below w.heap.size w W→BoxT W w.heap.size (37 :: p)→BoxT W (w.heap.size+1) (37 :: q)→_):=fun W a b c=>HE.out (37 :: p) (37 :: q) W (by simp;omega) (by simp;omega) (by unfold turnP;rw [if_neg (by simp [ho])]) a b c
  clear HE hb0 c1 c2 hS
  go_enter Tryz.func191,Tryz.ntmps191
  go_wp2_with fail
  refine (HO.out _).mono ?_
  rintro e w' ⟨rfl,rfl⟩
  go_wp2_with fail
  go_region
  have HE2:=Lib.hid (HE1.out ((w.alloc (.cells #[.string (txt (37 :: p))] 9)).alloc (.cells #[.string (txt (37 :: q))] 9)).drew (below_two w _ _).drew (heap_first w _ _) (heap_second w _ _))
  clear HE1
  go_wp2_with fail
  refine HE2.out.mono ?_
  rintro e w2 ⟨hT,hr⟩
  have HT:=Lib.hid hT
  clear hT HE2
  rcases hr with ⟨cc,hr,hc,rfl⟩ | ⟨n2,t,hr,rfl,hs5,hn5⟩
  ·have HR:=Lib.hid hr
   clear hr
   go_wp2_with fail
   go_ret2
   exact ⟨HT.out,.inl ⟨cc,HR.out,hc,rfl⟩⟩
  ·have HR:=Lib.hid hr
   have HS5:=Lib.hid hs5
   clear hr hs5
   go_wp2_with fail
   go_ret2
   exact ⟨HT.out,.inr ⟨n2,t,HR.out,rfl,HS5.out,hn5⟩⟩
end Go.Proofs.YtmfjolmfbdbegaaGreatDoor

namespace Go.Proofs.YtmfjolmfbdbegaaGreatDoor
open Go.RowKit Go.Shelf
attribute [local go_sem] Oper.semAt_some
def WithPost (env:EnvT) (x:VarT) (d:Nat) (w:World) (e:Ending) (w':World):Prop :=
 ∃ o m c,e=.returned (.agg #[.slice o m c,.int .i64 (d:Int)])∧EnvS w' (fun b=>w.heap.size≤b) (.slice o m c) (setT env x)∧Below w.heap.size w w'
theorem EnvS.slice {W:World} {Q:Nat→Prop} {v:Value} {l:EnvT} (h:EnvS W Q v l):∃ o m c,v=.slice o m c:=by
 rcases h with ⟨rfl,_⟩ | ⟨b,c,rfl,_⟩
 ·exact ⟨_,_,_,rfl⟩
 ·exact ⟨_,_,_,rfl⟩
set_option maxRecDepth 100000 in
set_option maxHeartbeats 10000000 in
theorem with_any (Q:Nat→Prop) (o:Option Addr) (m c d:Nat) (env:EnvT) (a b:BT) (w:World) (h:EnvS w Q (.slice o m c) env) (hl:env.length≤999999) (hs:SrtT env) :
  Calls Tryz.prog 194 #[.agg #[.slice o m c,.int .i64 (d:Int)],.string (txt a),.string (txt b)] w (WithPost env (a,b,true) d w):=by
 have hb0:=below_two w (.cells #[.slice o m c,.int .i64 (d:Int)] 193) (.cells #[.slice none 0 0,.int .i64 0] 193)
 have h1:=heap_first w (.cells #[.slice o m c,.int .i64 (d:Int)] 193) (.cells #[.slice none 0 0,.int .i64 0] 193)
 have h2:=heap_second w (.cells #[.slice o m c,.int .i64 (d:Int)] 193) (.cells #[.slice none 0 0,.int .i64 0] 193)
 have hS:=set_any _ (.slice o m c) env (a,b,true) _ (h.below hb0) hl hs
 have HS:Hid (Calls Tryz.prog 118 #[.agg #[.slice o m c],.agg #[.string (txt a),.string (txt b),.bool true]] ((w.alloc (.cells #[.slice o m c,.int .i64 (d:Int)] 193)).alloc (.cells #[.slice none 0 0,.int .i64 0] 193))
   fun e w'=>∃ o' m' c',e=.returned (.agg #[.slice o' m' c'])∧EnvS w' (fun b=>w.heap.size+2≤b) (.slice o' m' c') (setT env (a,b,true))∧Below w.heap.size w w'∧w'.heap[w.heap.size]? = some (.cells #[.slice o m c,.int .i64 (d:Int)] 193 (0,0))∧w'.heap[w.heap.size+1]? = some (.cells #[.slice none 0 0,.int .i64 0] 193 (0,0))∧w.heap.size+2≤w'.heap.size):=by
  refine hS.mono ?_
  rintro e w' ⟨v',rfl,hE,hb⟩
  obtain ⟨o',m',c',rfl⟩:=hE.slice
  have hsz:=hb.size
  simp only [World.size_alloc] at hsz
  exact ⟨o',m',c',rfl,hE.wider (fun b _ hh=>by simpa using hh),hb0.trans (hb.mono hb0.size),(hb.block _ (by simp;omega)).trans h1,(hb.block _ (by simp)).trans h2,by omega⟩
 clear hb0 h1 h2 hS h
 go_enter Tryz.func194,Tryz.ntmps194
 go_wp2_with fail
 refine HS.out.mono ?_
 rintro e w2 ⟨o',m',c',rfl,hE,hb,hc,hr,hsz⟩
 obtain ⟨c0,c1,f0,f1⟩:=two_cells hc
 have hc3:(w2.setCell ⟨w.heap.size,0,none⟩ (.slice o' m' c')).heap[w.heap.size]? = some (.cells #[.slice o' m' c',.int .i64 (d:Int)] 193 (0,0)):=by simp [World.setCell,Array.getElem?_modify,hc]
 have hr3:(w2.setCell ⟨w.heap.size,0,none⟩ (.slice o' m' c')).heap[w.heap.size+1]? = some (.cells #[.slice none 0 0,.int .i64 0] 193 (0,0)):=(Below.heap_setCell _ _ _ _ (by show w.heap.size+1≠w.heap.size;omega)).trans hr
 have hb3:Below w.heap.size w (w2.setCell ⟨w.heap.size,0,none⟩ (.slice o' m' c')):=hb.setCell (p:=⟨w.heap.size,0,none⟩) (Nat.le_refl _) _
 have hE3:EnvS (w2.setCell ⟨w.heap.size,0,none⟩ (.slice o' m' c')) (fun b=>w.heap.size+2≤b) (.slice o' m' c') (setT env (a,b,true)):=hE.turned (X:=fun b=>b=w.heap.size) (Turned.setCell _ _ _ rfl) (fun b hh h2=>by omega)
 obtain ⟨x0,x1,_,_⟩:=two_cells hc3
 obtain ⟨r0,r1,g0,g1⟩:=two_cells hr3
 have HK:Hid (((w2.setCell ⟨w.heap.size,0,none⟩ (.slice o' m' c')).setCell ⟨w.heap.size+1,0,none⟩ (.slice o' m' c')).setCell ⟨w.heap.size+1,1,none⟩ (.int .i64 (d:Int))=((w2.setCell ⟨w.heap.size,0,none⟩ (.slice o' m' c')).setCell ⟨w.heap.size+1,0,none⟩ (.slice o' m' c')).setCell ⟨w.heap.size+1,1,none⟩ (.int .i64 (d:Int))):=rfl
 have HR3:=Lib.hid hr3
 have HB3:=Lib.hid hb3
 have HE3:=Lib.hid hE3
 clear hE hb hc hr hc3 hr3 hb3 hE3 HS
 go_wp2_with fail
 have hh:=set_two HR3.out (.slice o' m' c') (.int .i64 (d:Int))
 have hb4:Below w.heap.size w (((w2.setCell ⟨w.heap.size,0,none⟩ (.slice o' m' c')).setCell ⟨w.heap.size+1,0,none⟩ (.slice o' m' c')).setCell ⟨w.heap.size+1,1,none⟩ (.int .i64 (d:Int))) :=
  (HB3.out.setCell (p:=⟨w.heap.size+1,0,none⟩) (by show w.heap.size≤w.heap.size+1;omega) _).setCell (p:=⟨w.heap.size+1,1,none⟩) (by show w.heap.size≤w.heap.size+1;omega) _
 have hE4:EnvS (((w2.setCell ⟨w.heap.size,0,none⟩ (.slice o' m' c')).setCell ⟨w.heap.size+1,0,none⟩ (.slice o' m' c')).setCell ⟨w.heap.size+1,1,none⟩ (.int .i64 (d:Int))) (fun b=>w.heap.size≤b) (.slice o' m' c') (setT env (a,b,true)) :=
  (HE3.out.turned (X:=fun b=>b=w.heap.size+1) ((Turned.setCell (X:=fun b=>b=w.heap.size+1) _ ⟨w.heap.size+1,0,none⟩ _ rfl).trans (Turned.setCell (X:=fun b=>b=w.heap.size+1) _ ⟨w.heap.size+1,1,none⟩ _ rfl)) (fun b hh h2=>by omega)).wider (fun b _ hh=>by omega)
 generalize (((w2.setCell ⟨w.heap.size,0,none⟩ (.slice o' m' c')).setCell ⟨w.heap.size+1,0,none⟩ (.slice o' m' c')).setCell ⟨w.heap.size+1,1,none⟩ (.int .i64 (d:Int)))=w4 at hh hb4 hE4 ⊢
 obtain ⟨q0,q1,_⟩:=two_cells hh
 exact bodyPost_ret (v:=.agg #[.slice o' m' c',.int .i64 (d:Int)]) (by simp [results,Tryz.results194,go_sem,q0,q1]) rfl ⟨_,_,_,rfl,hE4,hb4⟩
theorem AtX.env' {xb n n':Nat} {w W:World} {v v':Value} {env env':EnvT} (h:AtX xb n w v env) (hT:Turned (fun b=>b=xb) w W) (hs:StepsAt W xb n') (hn:n'≤2000) (hE:EnvS W (fun b=>w.heap.size≤b) v' env'):AtX xb n' W v' env' :=
 ⟨h.std.turned hT (fun e=>h.far.1 e.symm) (fun e=>h.far.2 e.symm),h.far,hs,hn,hE.wider (fun b _ hh=>by have:=h.steps.lt;omega)⟩
def ExpRes (xb:Nat) (r:R) (u:ByteArray) (e:Int) (w:World):Prop :=
 (r=.error e∧e≠0∧u=⟨#[]⟩)∨∃ n t,r=.ok (n,t)∧u=txt t∧e=0∧StepsAt w xb n∧n≤2000
theorem exp_two {xb:Nat} {r:R} {w w':World} {e:Ending} (h:ExpPost xb r w e w'):∃ u c,e=.returned (.tuple #[.string u,.int .i64 c])∧Turned (fun b=>b=xb) w w'∧ExpRes xb r u c w':=by
 obtain ⟨hT,(⟨c,hr,hc,rfl⟩ | ⟨n,t,hr,rfl,hs,hn⟩)⟩:=h
 ·exact ⟨_,c,rfl,hT,.inl ⟨hr,hc,rfl⟩⟩
 ·exact ⟨_,0,rfl,hT,.inr ⟨n,t,hr,rfl,rfl,hs,hn⟩⟩
theorem ExpRes.post {xb:Nat} {r r':R} {u:ByteArray} {c:Int} {w w':World} (h:ExpRes xb r u c w') (he:r'=r) (hT:Turned (fun b=>b=xb) w w'):ExpPost xb r' w (.returned (.tuple #[.string u,.int .i64 c])) w':=by
 subst he
 rcases h with ⟨hr,hc,rfl⟩ | ⟨n,t,hr,rfl,rfl,hs,hn⟩
 ·exact ⟨hT,.inl ⟨c,hr,hc,rfl⟩⟩
 ·exact ⟨hT,.inr ⟨n,t,hr,rfl,hs,hn⟩⟩
theorem ExpRes.bad {xb:Nat} {r:R} {u:ByteArray} {c:Int} {w:World} (h:ExpRes xb r u c w) (hc:c≠0):r=.error c:=by
 rcases h with ⟨hr,_,_⟩ | ⟨_,_,_,_,h0,_⟩
 ·exact hr
 ·exact absurd h0 hc
theorem ExpRes.good {xb:Nat} {r:R} {u:ByteArray} {w:World} (h:ExpRes xb r u 0 w):∃ n t,r=.ok (n,t)∧u=txt t∧StepsAt w xb n∧n≤2000:=by
 rcases h with ⟨_,h0,_⟩ | ⟨n,t,hr,hu,_,hs,hn⟩
 ·exact absurd rfl h0
 ·exact ⟨n,t,hr,hu,hs,hn⟩
abbrev boxP (w:World) (o:Option Addr) (m c d:Nat):World:=w.alloc (.cells #[.slice o m c,.int .i64 (d:Int)] 193)
theorem box_turned (w:World) (o:Option Addr) (m c d xb:Nat):Turned (fun b=>b=xb) w (boxP w o m c d):=turned_of_below' ((Below.refl _ w).alloc (Nat.le_refl _) _)
theorem placed {w W:World} {o:Option Addr} {m c d xb:Nat} (hx:xb < w.heap.size) (hT:Turned (fun b=>b=xb) (boxP w o m c d) W) :
  Turned (fun b=>b=xb) w W∧W.cell? ⟨w.heap.size,0,none⟩=some (.slice o m c)∧W.cell? ⟨w.heap.size,1,none⟩=some (.int .i64 (d:Int)):=by
 have h1:W.heap[w.heap.size]? = some (.cells #[.slice o m c,.int .i64 (d:Int)] 193 (0,0)) :=
  (hT.block _ (by simp) (by omega)).trans (World.alloc_heap_new w _)
 obtain ⟨h2,h3,_⟩:=two_cells h1
 exact ⟨(box_turned w o m c d xb).trans hT,h2,h3⟩
def TextAtC (k xb d:Nat) (o:Option Addr) (m c:Nat) (env:EnvT) (w:World):Prop :=
 ∀ (n:Nat) (s:BT) (W:World),Turned (fun b=>b=xb) w W→StepsAt W xb n→n≤2000→s.length≤10000000 →
  Calls Tryz.prog 147 #[.pointer (some ⟨xb,0,none⟩),.agg #[.slice o m c,.int .i64 (d:Int)],.string (txt s)] W (fun e w'=>∃ u c,e=.returned (.tuple #[.string u,.int .i64 c])∧Turned (fun b=>b=xb) W w'∧ExpRes xb (textE k env s n) u c w')
theorem TextC.at {k xb n d:Nat} {o:Option Addr} {m c:Nat} {env:EnvT} {w:World} (hX:TextC k) (hd:d+k=20) (h:AtX xb n w (.slice o m c) env) (hE:EnvOk env k):TextAtC k xb d o m c env w :=
 fun n' s W hT hS hn hs=>(hX xb n' d o m c env s W hd (h.turned hT hS hn) hE hs).mono fun _ _ h=>exp_two h
set_option maxRecDepth 100000 in
set_option maxHeartbeats 4000000 in
theorem choose_any (k:Nat) (hX:TextC k) (xb n d:Nat) (o:Option Addr) (m c:Nat) (env:EnvT) (ao:Option Addr) (an ac:Nat) (l:List BT) (w:World) (hd:d+k=20) (h:AtX xb n w (.slice o m c) env) (hE:EnvOk env k)
  (hl:an=l.length) (hl2:2≤an) (hs:∀ x∈l,x.length≤10000000) (hr:ArgsR w xb ao ac l) :
  Calls Tryz.prog 182 #[.pointer (some ⟨xb,0,none⟩),.agg #[.slice o m c,.int .i64 (d:Int)],.slice ao an ac] w (ExpPost xb (chooseR (textE k env) l n) w):=by
 have hx:=h.steps.lt
 have HX:Hid (TextAtC k xb d o m c env w):=hX.at hd h hE
 have H0:Hid (Turned (fun b=>b=xb) w (boxP w o m c d)∧StepsAt (boxP w o m c d) xb n∧n≤2000):=⟨box_turned _ _ _ _ _ _,(((Below.refl _ w).alloc (Nat.le_refl _) _).block _ hx).trans h.steps,h.few⟩
 obtain ⟨a0,a1,r,rfl⟩:∃ a0 a1 r,l=a0 :: a1 :: r:=by
  rcases l with _ | ⟨a0,_ | ⟨a1,r⟩⟩
  ·simp at hl;omega
  ·simp at hl;omega
  ·exact ⟨_,_,_,rfl⟩
 obtain ⟨b,f,rfl,hbx,hbl,hnc,_⟩:=hr 0 a0 rfl
 have HA:Hid (∀ W,Turned (fun b=>b=xb) w W→W.cell? ⟨b,f,none⟩=some (.string (txt a0))∧W.cell? ⟨b,f+1,none⟩=some (.string (txt a1))∧∀ a2,r[0]? = some a2→W.cell? ⟨b,f+2,none⟩=some (.string (txt a2))):=fun W hT=>by
  have h9:=hr.turned hT
  refine ⟨?_,?_,fun a2 h2=>?_⟩
  ·obtain ⟨b',f',e,_,_,_,hc⟩:=h9 0 a0 rfl
   cases e;exact hc
  ·obtain ⟨b',f',e,_,_,_,hc⟩:=h9 1 a1 rfl
   cases e;exact hc
  ·obtain ⟨b',f',e,_,_,_,hc⟩:=h9 2 a2 h2
   cases e;exact hc
 have HP:Hid (∀ W,Turned (fun b=>b=xb) (boxP w o m c d) W→Turned (fun b=>b=xb) w W∧W.cell? ⟨w.heap.size,0,none⟩=some (.slice o m c)∧W.cell? ⟨w.heap.size,1,none⟩=some (.int .i64 (d:Int))∧W.cell? ⟨b,f,none⟩=some (.string (txt a0))∧W.cell? ⟨b,f+1,none⟩=some (.string (txt a1))∧∀ a2,r[0]? = some a2→W.cell? ⟨b,f+2,none⟩=some (.string (txt a2))):=fun W hT=>by
  obtain ⟨p1,p2,p3⟩:=placed hx hT
  exact ⟨p1,p2,p3,HA.out W p1⟩
 rw [← hl] at hnc
 have hs0:a0.length≤10000000:=hs _ (by simp)
 have hs1:a1.length≤10000000:=hs _ (by simp)
 have hlt0':0 < an:=by omega
 have hlt1':1 < an:=by omega
 have hlt0:(0:Int) < (an:Int):=by omega
 have hlt1:(1:Int) < (an:Int):=by omega
 have HSz:=Lib.hid hs
 have HL:=Lib.hid hl
 obtain ⟨_,y0,y1,z0,_⟩:=HP.out _ (Turned.refl _ _)
 have HT0:Hid (∀ t m,textE k env a0 n=.ok (m,t)→t.length≤4000):=fun t m h=>short_textE _ _ _ _ m t h
 have HC:Hid (chooseR (textE k env) (a0 :: a1 :: r) n=Rb (textE k env a0 n) fun m t=>if trimOf t≠[] then textE k env a1 m else if (a0 :: a1 :: r).length < 3 then .ok (m,[]) else textE k env (r.getD 0 []) m):=rfl
 clear h hE hr hs hX hd hl HA
 go_enter Tryz.func182,Tryz.ntmps182
 go_wp2_with fail
 go_region_held3 (fun w'=>w'.cell? ⟨w.heap.size,0,none⟩=some (.slice o m c)∧w'.cell? ⟨w.heap.size,1,none⟩=some (.int .i64 (d:Int))∧w'.cell? ⟨b,f,none⟩=some (.string (txt a0)))
  (first | (go_keep;done))
  (first | (go_at_call 147;(first | refine (HX.out n a0 _ (H0.out.1.trans (Turned.drew _ _)) H0.out.2.1 H0.out.2.2 hs0).mono ?_ | refine (HX.out n a0 _ H0.out.1 H0.out.2.1 H0.out.2.2 hs0).mono ?_);rintro e w2 ⟨u2,c2,rfl,hT2,hR2⟩;have HT2:Hid (Turned (fun b=>b=xb) (boxP w o m c d) w2):=(by first | exact (Turned.drew _ _).trans hT2 | exact hT2);have HR2:=Lib.hid hR2;clear hT2 hR2;obtain ⟨_,k0,k1,k2,_⟩:=HP.out _ HT2.out))
 by_cases hc2:c2=0
 ·subst hc2
  obtain ⟨n2,t2,hr2,hu2,hs2,hn2⟩:=HR2.out.good
  subst hu2
  have HR:=Lib.hid hr2
  have HS2:=Lib.hid hs2
  have hts:=HT0.out _ _ hr2
  have HTr:=Lib.hid (trim_any (txt t2) (by rw [txt_size];unfold maxLen;omega))
  rw [txt_data] at HTr
  clear HR2 hr2 hs2
  go_wp2_with fail
  refine (HTr.out _).mono ?_
  rintro e w3 ⟨rfl,hb3⟩
  have HT3:Hid (Turned (fun b=>b=xb) (boxP w o m c d) w3):=HT2.out.trans (turned_of_below' hb3)
  have HS3:Hid (StepsAt w3 xb n2):=(hb3.block _ HS2.out.lt).trans HS2.out
  obtain ⟨_,j0,j1,j2,j3,j4⟩:=HP.out _ HT3.out
  have HJ4:=Lib.hid j4
  have HT3w:Hid (Turned (fun b=>b=xb) w w3):=(HP.out _ HT3.out).1
  clear hb3 HTr HT2 HS2 j4 k0 k1 k2
  by_cases ht:trimOf t2=[]
  ·have e5:(txt ([]:BT)).toList.isEmpty=true:=by rw [txt_toL];rfl
   by_cases h3:an < 3
   ·have h3i:(an:Int) < 3:=by omega
    have HE:Hid (chooseR (textE k env) (a0 :: a1 :: r) n=.ok (n2,[])):=by
     show _=_
     rw [HC.out,HR.out,Rb_ok,if_neg (by simp [ht]),if_pos (by rw [← HL.out];exact h3)]
    clear HC HR
    go_wp2_with fail
    go_ret2
    exact ⟨HT3w.out,.inr ⟨n2,[],HE.out,rfl,HS3.out,hn2⟩⟩
   ·have h3i:¬ (an:Int) < 3:=by omega
    have hlt2:2 < an:=by omega
    have hlt2i:(2:Int) < (an:Int):=by omega
    obtain ⟨a2,ha2⟩:∃ a2,r[0]? = some a2:=by
     rcases r with _ | ⟨a2,r⟩
     ·have:=HL.out;simp at this;omega
     ·exact ⟨a2,rfl⟩
    have q2:=HJ4.out a2 ha2
    have hs2:a2.length≤10000000:=HSz.out _ (by simp [List.mem_of_getElem? ha2])
    have HE:Hid (chooseR (textE k env) (a0 :: a1 :: r) n=textE k env a2 n2):=by
     show _=_
     rw [HC.out,HR.out,Rb_ok,if_neg (by simp [ht]),if_neg (by rw [← HL.out];exact h3)]
     simp [List.getD,ha2]
    clear HC HR HJ4
    go_wp2_with fail
    go_region_held3 (fun w'=>w'.cell? ⟨w.heap.size,0,none⟩=some (.slice o m c)∧w'.cell? ⟨w.heap.size,1,none⟩=some (.int .i64 (d:Int))∧w'.cell? ⟨b,f+2,none⟩=some (.string (txt a2)))
     (first | (go_keep;done))
     (first | (go_at_call 147;(first | refine (HX.out n2 a2 _ (HT3w.out.trans (Turned.drew _ _)) HS3.out hn2 hs2).mono ?_ | refine (HX.out n2 a2 _ HT3w.out HS3.out hn2 hs2).mono ?_);rintro e w4 ⟨u4,c4,rfl,hT4,hR4⟩;have HT4:Hid (Turned (fun b=>b=xb) w3 w4):=(by first | exact (Turned.drew _ _).trans hT4 | exact hT4);have HR4:=Lib.hid hR4;clear hT4 hR4;obtain ⟨_,k0,k1,k2,k3,k4⟩:=HP.out _ (HT3.out.trans HT4.out);have k5:=k4 a2 ha2))
    go_wp2_with fail
    go_ret2
    exact HR4.out.post HE.out (HT3w.out.trans HT4.out)
  ·have e5:(txt (trimOf t2)).toList.isEmpty=false:=by rw [txt_toL];simpa using ht
   have HE:Hid (chooseR (textE k env) (a0 :: a1 :: r) n=textE k env a1 n2):=by
    show _=_
    rw [HC.out,HR.out,Rb_ok,if_pos ht]
   have HJ4':=HJ4.out
   clear HC HR HJ4 HJ4'
   go_wp2_with fail
   go_region_held3 (fun w'=>w'.cell? ⟨w.heap.size,0,none⟩=some (.slice o m c)∧w'.cell? ⟨w.heap.size,1,none⟩=some (.int .i64 (d:Int))∧w'.cell? ⟨b,f+1,none⟩=some (.string (txt a1)))
    (first | (go_keep;done))
    (first | (go_at_call 147;(first | refine (HX.out n2 a1 _ (HT3w.out.trans (Turned.drew _ _)) HS3.out hn2 hs1).mono ?_ | refine (HX.out n2 a1 _ HT3w.out HS3.out hn2 hs1).mono ?_);rintro e w4 ⟨u4,c4,rfl,hT4,hR4⟩;have HT4:Hid (Turned (fun b=>b=xb) w3 w4):=(by first | exact (Turned.drew _ _).trans hT4 | exact hT4);have HR4:=Lib.hid hR4;clear hT4 hR4;obtain ⟨_,k0,k1,k2,k3,k4⟩:=HP.out _ (HT3.out.trans HT4.out)))
   go_wp2_with fail
   go_ret2
   exact HR4.out.post HE.out (HT3w.out.trans HT4.out)
 ·have e5:(c2 != 0)=true:=by rw [bne_iff_ne];exact hc2
  have HE:Hid (chooseR (textE k env) (a0 :: a1 :: r) n=.error c2):=by
   show _=_
   rw [HC.out,HR2.out.bad hc2];rfl
  clear HC
  go_wp2_with fail
  go_ret2
  exact ⟨(HP.out _ HT2.out).1,.inl ⟨c2,HE.out,hc2,rfl⟩⟩
end Go.Proofs.YtmfjolmfbdbegaaGreatDoor

namespace Go.Proofs.YtmfjolmfbdbegaaGreatDoor
open Go.RowKit Go.Shelf
attribute [local go_sem] Oper.semAt_some
theorem EnvOk.put {env:EnvT} {k:Nat} {x:VarT} (h:EnvOk env (k+1)) (h1:x.1.length≤10000000) (h2:x.2.1.length≤10000000):EnvOk (setT env x) k:=by
 obtain ⟨hs,hl,hm⟩:=h
 refine ⟨set_srt hs,by have:=(set_len env x).1;omega,fun y hy=>?_⟩
 rcases set_mem hy with rfl | hy
 ·exact ⟨h1,h2⟩
 ·exact hm y hy
theorem EnvOk.fits {env:EnvT} {k:Nat} (h:EnvOk env k):env.length≤999999:=by have:=h.2.1;omega
structure ForAt (xb d:Nat) (o:Option Addr) (m c:Nat) (b1 b2 b3 b4:Nat) (name:BT) (ab af an ac:Nat) (a2:BT) (W:World):Prop where
 x:W.heap[b1]? = some (.cells #[.pointer (some ⟨xb,0,none⟩)] 206 (0,0))
 p:W.heap[b2]? = some (.cells #[.slice o m c,.int .i64 (d:Int)] 193 (0,0))
 n:BoxT W b3 name
 l:W.heap[b4]? = some (.cells #[.slice (some ⟨ab,af,none⟩) an ac] 28 (0,0))
 a:W.cell? ⟨ab,af+2,none⟩=some (.string (txt a2))
 far:b1≠xb∧b2≠xb∧b3≠xb∧b4≠xb∧ab≠xb
 lt:ab < W.heap.size
theorem ForAt.turned {xb d:Nat} {o:Option Addr} {m c:Nat} {b1 b2 b3 b4:Nat} {name:BT} {ab af an ac:Nat} {a2:BT} {W W':World} (h:ForAt xb d o m c b1 b2 b3 b4 name ab af an ac a2 W) (hT:Turned (fun b=>b=xb) W W'):ForAt xb d o m c b1 b2 b3 b4 name ab af an ac a2 W':=by
 obtain ⟨f1,f2,f3,f4,f5⟩:=h.far
 refine ⟨(hT.block _ (Array.getElem?_eq_some_iff.1 h.x).1 f1).trans h.x,(hT.block _ (Array.getElem?_eq_some_iff.1 h.p).1 f2).trans h.p,h.n.kept hT f3,(hT.block _ (Array.getElem?_eq_some_iff.1 h.l).1 f4).trans h.l,?_,h.far,Nat.lt_of_lt_of_le h.lt hT.size⟩
 have:=h.a
 unfold World.cell? at this ⊢
 rw [hT.block ab h.lt f5]
 exact this
theorem ForAt.cells {xb d:Nat} {o:Option Addr} {m c:Nat} {b1 b2 b3 b4:Nat} {name:BT} {ab af an ac:Nat} {a2:BT} {W:World} (h:ForAt xb d o m c b1 b2 b3 b4 name ab af an ac a2 W) :
  W.cell? ⟨b1,0,none⟩=some (.pointer (some ⟨xb,0,none⟩))∧W.cell? ⟨b2,0,none⟩=some (.slice o m c)∧W.cell? ⟨b2,1,none⟩=some (.int .i64 (d:Int))∧W.cell? ⟨b3,0,none⟩=some (.string (txt name))∧W.cell? ⟨b4,0,none⟩=some (.slice (some ⟨ab,af,none⟩) an ac)∧W.cell? ⟨ab,af+2,none⟩=some (.string (txt a2)) :=
 ⟨(one_cell h.x).1,(two_cells h.p).1,(two_cells h.p).2.1,(one_cell h.n).1,(one_cell h.l).1,h.a⟩
set_option maxRecDepth 100000 in
set_option maxHeartbeats 4000000 in
theorem forEach1_any (k:Nat) (hX:TextC k) (xb n d:Nat) (o:Option Addr) (m c:Nat) (env:EnvT) (b1 b2 b3 b4:Nat) (name:BT) (ab af an ac:Nat) (a2 t:BT) (W:World) (hd:d+k=20) (h:AtX xb n W (.slice o m c) env) (hE:EnvOk env (k+1))
  (hF:ForAt xb d o m c b1 b2 b3 b4 name ab af an ac a2 W) (han:2 < an) (hn:name.length≤10000000) (ht:t.length≤10000000) (ha:a2.length≤10000000) :
  Calls Tryz.prog 193 #[.string (txt t),.pointer (some ⟨b1,0,none⟩),.pointer (some ⟨b2,0,none⟩),.pointer (some ⟨b3,0,none⟩),.pointer (some ⟨b4,0,none⟩)] W (ExpPost xb (stepR n fun k'=>textE k (setT env (name,t,true)) a2 k') W):=by
 have HS:=Lib.hid (step_any xb n h.few W h.steps)
 have HX:Hid (∀ (n':Nat) (V V':World) (o':Option Addr) (m' c':Nat),n'≤2000→StepsAt V xb n'→Turned (fun b=>b=xb) W V→EnvS V' (fun b=>V.heap.size≤b) (.slice o' m' c') (setT env (name,t,true))→Below V.heap.size V V' →
   Calls Tryz.prog 147 #[.pointer (some ⟨xb,0,none⟩),.agg #[.slice o' m' c',.int .i64 (d:Int)],.string (txt a2)] V' (fun e w'=>∃ u c,e=.returned (.tuple #[.string u,.int .i64 c])∧Turned (fun b=>b=xb) V' w'∧ExpRes xb (textE k (setT env (name,t,true)) a2 n') u c w')):=fun n' V V' o' m' c' hn' hs' hT hEn hb=>by
  have hA:AtX xb n' V (.slice o m c) env:=h.turned hT hs' hn'
  have hA2:=hA.env' (turned_of_below' hb) ((hb.block _ hs'.lt).trans hs') hn' hEn
  exact (hX xb n' d o' m' c' _ a2 V' hd hA2 (hE.put hn ht) ha).mono fun _ _ h=>exp_two h
 have HW:Hid (∀ V,Turned (fun b=>b=xb) W V→Calls Tryz.prog 194 #[.agg #[.slice o m c,.int .i64 (d:Int)],.string (txt name),.string (txt t)] V (WithPost env (name,t,true) d V)):=fun V hT =>
  with_any (fun b=>b≠xb) o m c d env name t V (h.env.turned hT fun b h1 h2=>h1 h2) hE.fits hE.1
 have HF:=Lib.hid hF
 obtain ⟨q1,q2,q3,q4,q5,q6⟩:=hF.cells
 have hlt2i:(2:Int) < (an:Int):=by omega
 have hfew:=h.few
 have HSt:=Lib.hid h.steps
 clear h hX hE hF
 go_enter Tryz.func193,Tryz.ntmps193
 go_wp2_with fail
 refine HS.out.mono ?_
 rintro e w1 (⟨rfl,rfl,rfl⟩ | ⟨hn1,rfl,rfl⟩)
 ·clear HX HW HF q1 q2 q3 q4 q5 q6 HS
  go_wp2_with fail
  go_ret2
  exact ⟨Turned.refl _ _,.inl ⟨12,by unfold stepR;rw [if_pos (Nat.le_refl _)],by decide,rfl⟩⟩
 ·have HT1:Hid (Turned (fun b=>b=xb) W (W.setCell ⟨xb,0,none⟩ (.int .i64 ((n+1:Nat):Int)))):=Turned.setCell _ _ _ rfl
  have HS1:Hid (StepsAt (W.setCell ⟨xb,0,none⟩ (.int .i64 ((n+1:Nat):Int))) xb (n+1)):=HSt.out.put _
  have HR:Hid ((stepR n fun k'=>textE k (setT env (name,t,true)) a2 k')=textE k (setT env (name,t,true)) a2 (n+1)):=by
   show _=_
   unfold stepR;rw [if_neg (by omega)]
  generalize W.setCell ⟨xb,0,none⟩ (.int .i64 ((n+1:Nat):Int))=V at HT1 HS1 ⊢
  have HF1:=Lib.hid (HF.out.turned HT1.out)
  obtain ⟨p1,p2,p3,p4,p5,p6⟩:=HF1.out.cells
  clear HS HSt q1 q2 q3 q4 q5 q6
  go_wp2_with fail
  go_region_held3 (fun w'=>w'.cell? ⟨b1,0,none⟩=some (.pointer (some ⟨xb,0,none⟩))∧w'.cell? ⟨b2,0,none⟩=some (.slice o m c)∧w'.cell? ⟨b2,1,none⟩=some (.int .i64 (d:Int))∧w'.cell? ⟨b3,0,none⟩=some (.string (txt name))∧w'.cell? ⟨b4,0,none⟩=some (.slice (some ⟨ab,af,none⟩) an ac)∧w'.cell? ⟨ab,af+2,none⟩=some (.string (txt a2)))
   (first | (go_keep;done))
   (first
    | (go_at_call 194;(first | refine (HW.out _ (HT1.out.trans (Turned.drew _ _))).mono ?_ | refine (HW.out _ HT1.out).mono ?_);rintro e w2 ⟨o2,m2,c2,rfl,hE2,hb2⟩;have HB2:Hid (Below V.heap.size V w2):=(by first | exact (show Below V.heap.size V V.drew from (Below.refl _ _).drew).trans hb2 | exact hb2);have HE2:Hid (EnvS w2 (fun b=>V.heap.size≤b) (.slice o2 m2 c2) (setT env (name,t,true))):=hE2;clear hE2 hb2;obtain ⟨j1,j2,j3,j4,j5,j6⟩:=(HF1.out.turned (turned_of_below' HB2.out)).cells)
    | (go_at_call 147;(first | refine (HX.out (n+1) V _ _ _ _ hn1 HS1.out HT1.out (show EnvS (World.drew _) _ _ _ from HE2.out) HB2.out.drew).mono ?_ | refine (HX.out (n+1) V _ _ _ _ hn1 HS1.out HT1.out HE2.out HB2.out).mono ?_);rintro e w3 ⟨u3,c3,rfl,hT3,hR3⟩;have HT3:Hid (Turned (fun b=>b=xb) w2 w3):=(by first | exact (Turned.drew _ _).trans hT3 | exact hT3);have HR3:=Lib.hid hR3;clear hT3 hR3;obtain ⟨i1,i2,i3,i4,i5,i6⟩:=((HF1.out.turned (turned_of_below' HB2.out)).turned HT3.out).cells))
  go_wp2_with fail
  go_ret2
  exact HR3.out.post HR.out (HT1.out.trans ((turned_of_below' HB2.out).trans HT3.out))
def TextsRes (xb base:Nat) (r:Rs (List BT)) (o:Option Addr) (m c:Nat) (e:Int) (w:World):Prop :=
 (r=.error e∧e≠0)∨∃ n l,r=.ok (n,l)∧m=l.length∧OwnT w base (.slice o m c) l∧StepsAt w xb n∧n≤2000∧e=0
theorem texts_two {xb base:Nat} {r:Rs (List BT)} {w w':World} {e:Ending} (h:TextsPost xb base r w e w'):∃ o m c j,e=.returned (.tuple #[.slice o m c,.int .i64 j])∧Turned (fun b=>b=xb) w w'∧TextsRes xb base r o m c j w':=by
 obtain ⟨hT,(⟨c,hr,hc,rfl⟩ | ⟨n,l,o,m,c,hr,hm,rfl,ho,hs,hn⟩)⟩:=h
 ·exact ⟨_,_,_,c,rfl,hT,.inl ⟨hr,hc⟩⟩
 ·exact ⟨_,_,_,0,rfl,hT,.inr ⟨n,l,hr,hm,ho,hs,hn,rfl⟩⟩
theorem TextsRes.bad {xb base:Nat} {r:Rs (List BT)} {o:Option Addr} {m c:Nat} {e:Int} {w:World} (h:TextsRes xb base r o m c e w) (he:e≠0):r=.error e:=by
 rcases h with ⟨hr,_⟩ | ⟨_,_,_,_,_,_,_,h0⟩
 ·exact hr
 ·exact absurd h0 he
theorem TextsRes.good {xb base:Nat} {r:Rs (List BT)} {o:Option Addr} {m c:Nat} {w:World} (h:TextsRes xb base r o m c 0 w):∃ n l,r=.ok (n,l)∧m=l.length∧OwnT w base (.slice o m c) l∧StepsAt w xb n∧n≤2000:=by
 rcases h with ⟨_,h0⟩ | ⟨n,l,h1,h2,h3,h4,h5,_⟩
 ·exact absurd rfl h0
 ·exact ⟨n,l,h1,h2,h3,h4,h5⟩
abbrev boxF (w:World) (xb:Nat) (o:Option Addr) (m c d:Nat) (b f an ac:Nat):World :=
 ((w.alloc (.cells #[.pointer (some ⟨xb,0,none⟩)] 206)).alloc (.cells #[.slice o m c,.int .i64 (d:Int)] 193)).alloc (.cells #[.slice (some ⟨b,f,none⟩) an ac] 28)
theorem boxF_below (w:World) (xb:Nat) (o:Option Addr) (m c d:Nat) (b f an ac:Nat):Below w.heap.size w (boxF w xb o m c d b f an ac):=(below_two _ _ _).alloc (by simp;omega) _
theorem boxF_at {w W:World} {xb:Nat} {o:Option Addr} {m c d:Nat} {b f an ac:Nat} (hx:xb < w.heap.size) (hT:Turned (fun b=>b=xb) (boxF w xb o m c d b f an ac) W) :
  W.heap[w.heap.size]? = some (.cells #[.pointer (some ⟨xb,0,none⟩)] 206 (0,0))∧W.heap[w.heap.size+1]? = some (.cells #[.slice o m c,.int .i64 (d:Int)] 193 (0,0))∧W.heap[w.heap.size+1+1]? = some (.cells #[.slice (some ⟨b,f,none⟩) an ac] 28 (0,0)):=by
 refine ⟨?_,?_,?_⟩
 ·refine (hT.block _ (by simp;omega) (by omega)).trans ?_
  exact (Below.heap_alloc _ _ _ (by simp;omega)).trans (heap_first _ _ _)
 ·refine (hT.block _ (by simp) (by omega)).trans ?_
  exact (Below.heap_alloc _ _ _ (by simp)).trans (heap_second _ _ _)
 ·refine (hT.block _ (by simp) (by omega)).trans ?_
  have:=World.alloc_heap_new ((w.alloc (.cells #[.pointer (some ⟨xb,0,none⟩)] 206)).alloc (.cells #[.slice o m c,.int .i64 (d:Int)] 193)) (.cells #[.slice (some ⟨b,f,none⟩) an ac] 28)
  simpa using this
set_option maxRecDepth 100000 in
set_option maxHeartbeats 10000000 in
theorem forEach_any (k:Nat) (hX:TextC k) (xb n d:Nat) (o:Option Addr) (m c:Nat) (env:EnvT) (ao:Option Addr) (ac:Nat) (a0 a1 a2:BT) (w:World) (hd:d+k=20) (h:AtX xb n w (.slice o m c) env) (hE:EnvOk env (k+1))
  (hs:∀ x∈[a0,a1,a2],x.length≤10000000) (hr:ArgsR w xb ao ac [a0,a1,a2]) :
  Calls Tryz.prog 183 #[.pointer (some ⟨xb,0,none⟩),.agg #[.slice o m c,.int .i64 (d:Int)],.slice ao 3 ac] w (ExpPost xb (forR (textE k) env [a0,a1,a2] n) w):=by
 have hx:=h.steps.lt
 obtain ⟨b,f,rfl,hbx,hbl,hnc,_⟩:=hr 0 a0 rfl
 simp only [List.length_cons,List.length_nil,Nat.zero_add,Nat.reduceAdd] at hnc
 have hc2:(2:Int)≤(ac:Int):=by omega
 have HP:Hid (∀ W,Turned (fun b=>b=xb) (boxF w xb o m c d b f 3 ac) W→Turned (fun b=>b=xb) w W∧W.cell? ⟨w.heap.size,0,none⟩=some (.pointer (some ⟨xb,0,none⟩))∧W.cell? ⟨w.heap.size+1,0,none⟩=some (.slice o m c)∧W.cell? ⟨w.heap.size+1,1,none⟩=some (.int .i64 (d:Int))∧W.cell? ⟨w.heap.size+1+1,0,none⟩=some (.slice (some ⟨b,f,none⟩) 3 ac)):=fun W hT=>by
  obtain ⟨h1,h2,h3⟩:=boxF_at hx hT
  exact ⟨(turned_of_below' (boxF_below _ _ _ _ _ _ _ _ _ _)).trans hT,(one_cell h1).1,(two_cells h2).1,(two_cells h2).2.1,(one_cell h3).1⟩
 have HT:Hid (∀ W,Turned (fun b=>b=xb) w W→StepsAt W xb n→Calls Tryz.prog 185 #[.pointer (some ⟨xb,0,none⟩),.agg #[.slice o m c,.int .i64 (d:Int)],.slice (some ⟨b,f,none⟩) 2 ac] W fun e w'=>∃ o m c j,e=.returned (.tuple #[.slice o m c,.int .i64 j])∧Turned (fun b=>b=xb) W w'∧TextsRes xb (W.heap.size+1) (textsR (textE k env) [a0,a1] n) o m c j w'):=fun W hT hS =>
  (texts_any k hX xb n d o m c env (some ⟨b,f,none⟩) 2 ac [a0,a1] W hd (h.turned hT hS h.few) hE.less rfl (by simp) (fun x hx=>hs x (by simp at hx ⊢;rcases hx with h | h <;> simp [h])) (fun j x hj=>by
   have:[a0,a1,a2][j]? = some x:=by
    rcases j with _ | _ | j
    ·exact hj
    ·exact hj
    ·simp at hj
   obtain ⟨b',f',e,h1,h2,h3,h4⟩:=hr.turned hT j x this
   exact ⟨b',f',e,h1,h2,by simp at h3 ⊢;omega,h4⟩)).mono fun _ _ h=>texts_two h
 have HS0:Hid (StepsAt (boxF w xb o m c d b f 3 ac) xb n):=((boxF_below _ _ _ _ _ _ _ _ _ _).block _ hx).trans h.steps
 have HEv:Hid (∀ (n2:Nat) (t0 t1:BT) (W V:World) (b3:Nat),n2≤2000→StepsAt V xb n2→t0.length≤4000→t1.length≤4000→Turned (fun b=>b=xb) (boxF w xb o m c d b f 3 ac) V→BoxT V b3 (trimOf t0)→b3≠xb →
   Calls Tryz.prog 192 #[.string (txt t1),.func (.func 193) #[] #[.pointer (some ⟨w.heap.size,0,none⟩),.pointer (some ⟨w.heap.size+1,0,none⟩),.pointer (some ⟨b3,0,none⟩),.pointer (some ⟨w.heap.size+1+1,0,none⟩)]] V fun e w'=>∃ u c,e=.returned (.tuple #[.string u,.int .i64 c])∧Turned (fun b=>b=xb) V w' ∧
    ExpRes xb (eachR (fun w k'=>stepR k' fun k''=>textE k (setT env (trimOf t0,w,true)) a2 k'') t1 n2) u c w'):=fun n2 t0 t1 W V b3 hn2 hS ht0 ht1 hT h3 h3x=>by
  obtain ⟨p1,p2,p3⟩:=boxF_at hx hT
  have hTw:Turned (fun b=>b=xb) w V:=(HP.out V hT).1
  have hA:AtX xb n2 V (.slice o m c) env:=h.turned hTw hS hn2
  have hFor:ForAt xb d o m c w.heap.size (w.heap.size+1) b3 (w.heap.size+1+1) (trimOf t0) b f 3 ac a2 V:=by
   refine ⟨p1,p2,h3,p3,?_,⟨by omega,by omega,h3x,by omega,hbx⟩,Nat.lt_of_lt_of_le hbl hTw.size⟩
   obtain ⟨b',f',e,_,_,_,h4⟩:=hr.turned hTw 2 a2 rfl
   cases e;exact h4
  have htr:(trimOf t0).length≤t0.length:=trim_len t0
  have hC:WordC 193 #[.pointer (some ⟨w.heap.size,0,none⟩),.pointer (some ⟨w.heap.size+1,0,none⟩),.pointer (some ⟨b3,0,none⟩),.pointer (some ⟨w.heap.size+1+1,0,none⟩)] xb (fun w k'=>stepR k' fun k''=>textE k (setT env (trimOf t0,w,true)) a2 k'') (wordsT t1) V:=by
   intro t n W2 ht hT2 hS2 hn2
   have hl:=words_short ht
   have h9:=forEach1_any k hX xb n d o m c env w.heap.size (w.heap.size+1) b3 (w.heap.size+1+1) (trimOf t0) b f 3 ac a2 t W2 hd (hA.turned hT2 hS2 hn2) hE (hFor.turned hT2) (by omega) (by omega) (by omega) (hs a2 (by simp))
   exact h9
  have h8:=each_any 193 #[.pointer (some ⟨w.heap.size,0,none⟩),.pointer (some ⟨w.heap.size+1,0,none⟩),.pointer (some ⟨b3,0,none⟩),.pointer (some ⟨w.heap.size+1+1,0,none⟩)] (enters_of Tryz.func193 (by kernel_rfl) rfl) (fun w k'=>stepR k' fun k''=>textE k (setT env (trimOf t0,w,true)) a2 k'') t1 xb n2 V ht1
   (fun t n m u _ hh=>by have:=short_step (fun _=>short_textE k _ _ _) m u hh;omega) hS hn2 hC
  exact h8.mono fun _ _ h=>exp_two h
 have HSh:Hid (∀ n2 l,textsR (textE k env) [a0,a1] n=.ok (n2,l)→∃ t0 t1,l=[t0,t1]∧t0.length≤4000∧t1.length≤4000):=fun n2 l hh=>by
  have h1:=texts_len hh
  have h2:=texts_short (fun s n=>short_textE k env s n) hh
  rcases l with _ | ⟨t0,_ | ⟨t1,_ | ⟨t2,l⟩⟩⟩
  ·simp at h1
  ·simp at h1
  ·exact ⟨t0,t1,rfl,h2 _ (by simp),h2 _ (by simp)⟩
  ·simp at h1
 have HR:Hid (forR (textE k) env [a0,a1,a2] n=Rb (textsR (textE k env) [a0,a1] n) fun m l=>eachR (fun w k'=>stepR k' fun k''=>textE k (setT env (trimOf (l.getD 0 []),w,true)) a2 k'') (l.getD 1 []) m):=rfl
 obtain ⟨_,y0,y1,y2,y3⟩:=HP.out _ (Turned.refl _ _)
 have HB0:Hid (Turned (fun b=>b=xb) w (boxF w xb o m c d b f 3 ac)):=turned_of_below' (boxF_below _ _ _ _ _ _ _ _ _ _)
 clear h hE hX hs hr
 go_enter Tryz.func183,Tryz.ntmps183
 go_wp2_with fail
 go_region_held3 (fun w'=>w'.cell? ⟨w.heap.size,0,none⟩=some (.pointer (some ⟨xb,0,none⟩))∧w'.cell? ⟨w.heap.size+1,0,none⟩=some (.slice o m c)∧w'.cell? ⟨w.heap.size+1,1,none⟩=some (.int .i64 (d:Int))∧w'.cell? ⟨w.heap.size+1+1,0,none⟩=some (.slice (some ⟨b,f,none⟩) 3 ac))
  (first | (go_keep;done))
  (first | (go_at_call 185;(first | refine (HT.out _ (HB0.out.trans (Turned.drew _ _)) HS0.out).mono ?_ | refine (HT.out _ HB0.out HS0.out).mono ?_);rintro e w2 ⟨o2,m2,c2,j2,rfl,hT2,hR2⟩;have HT2:Hid (Turned (fun b=>b=xb) (boxF w xb o m c d b f 3 ac) w2):=(by first | exact (Turned.drew _ _).trans hT2 | exact hT2);have HR2:Hid (TextsRes xb ((boxF w xb o m c d b f 3 ac).heap.size+1) (textsR (textE k env) [a0,a1] n) o2 m2 c2 j2 w2):=hR2;clear hT2 hR2;obtain ⟨_,k0,k1,k2,k3⟩:=HP.out _ HT2.out))
 by_cases hj2:j2=0
 ·subst hj2
  obtain ⟨n2,l,hl,hm2,ho2,hs2,hn2⟩:=HR2.out.good
  obtain ⟨t0,t1,rfl,ht0,ht1⟩:=HSh.out _ _ hl
  simp only [List.length_cons,List.length_nil,Nat.zero_add,Nat.reduceAdd] at hm2
  subst hm2
  have hA2:ArgsR w2 xb o2 c2 [t0,t1]:=ho2.args (by simp;omega)
  obtain ⟨g,q,rfl,hgx,hgl,hgc,hg0⟩:=hA2 0 t0 rfl
  have HA2:=Lib.hid hA2
  have hg0':w2.cell? ⟨g,q,none⟩=some (.string (txt t0)):=hg0
  have hg1:w2.cell? ⟨g,q+1,none⟩=some (.string (txt t1)):=by
   obtain ⟨b',f',e,_,_,_,h4⟩:=hA2 1 t1 rfl
   cases e;exact h4
  have HE:Hid (forR (textE k) env [a0,a1,a2] n=eachR (fun w k'=>stepR k' fun k''=>textE k (setT env (trimOf t0,w,true)) a2 k'') t1 n2):=by
   show _=_
   rw [HR.out,hl];rfl
  have HS2:=Lib.hid hs2
  have HTr:=Lib.hid (trim_any (txt t0) (by rw [txt_size];unfold maxLen;omega))
  rw [txt_data] at HTr
  simp only [List.length_cons,List.length_nil,Nat.zero_add,Nat.reduceAdd] at hgc
  clear HR2 hl ho2 hs2 hA2 HT HR HSh
  go_wp2_with fail
  refine (HTr.out _).mono ?_
  rintro e w3 ⟨rfl,hb3⟩
  have HT3:Hid (Turned (fun b=>b=xb) (boxF w xb o m c d b f 3 ac) w3):=HT2.out.trans (turned_of_below' hb3)
  have HS3:Hid (StepsAt w3 xb n2):=(hb3.block _ HS2.out.lt).trans HS2.out
  have hg3:w3.cell? ⟨g,q+1,none⟩=some (.string (txt t1)):=(hb3.cell (p:=⟨g,q+1,none⟩) hgl).trans hg1
  have hgl3:g < w3.heap.size:=Nat.lt_of_lt_of_le hgl hb3.size
  clear HTr hb3 HT2 HS2 HA2
  have HBx:Hid (∀ X,X=w3.alloc (.cells #[.string (txt (trimOf t0))] 9)→Calls Tryz.prog 192 #[.string (txt t1),.func (.func 193) #[] #[.pointer (some ⟨w.heap.size,0,none⟩),.pointer (some ⟨w.heap.size+1,0,none⟩),.pointer (some ⟨w3.heap.size,0,none⟩),.pointer (some ⟨w.heap.size+1+1,0,none⟩)]] X fun e w'=>∃ u c,e=.returned (.tuple #[.string u,.int .i64 c])∧Turned (fun b=>b=xb) w w' ∧
    ExpRes xb (eachR (fun w k'=>stepR k' fun k''=>textE k (setT env (trimOf t0,w,true)) a2 k'') t1 n2) u c w'):=fun X hX=>by
   subst hX
   have hb:Below w3.heap.size w3 (w3.alloc (.cells #[.string (txt (trimOf t0))] 9)):=(Below.refl _ _).alloc (Nat.le_refl _) _
   have hTT:=HT3.out.trans (turned_of_below' (X:=fun b=>b=xb) hb)
   refine (HEv.out n2 t0 t1 w _ w3.heap.size hn2 ((hb.block _ HS3.out.lt).trans HS3.out) ht0 ht1 hTT (World.alloc_heap_new _ _) (by have:=HS3.out.lt;omega)).mono ?_
   rintro e w' ⟨u,c,rfl,hT,hR⟩
   exact ⟨u,c,rfl,(HP.out _ hTT).1.trans hT,hR⟩
  go_wp2_with fail
  refine (HBx.out _ rfl).mono ?_
  rintro e w5 ⟨u5,c5,rfl,hT5,hR5⟩
  have HT5:=Lib.hid hT5
  have HR5:=Lib.hid hR5
  clear hT5 hR5
  go_wp2_with fail
  go_ret2
  exact HR5.out.post HE.out HT5.out
 ·have e5:(j2 != 0)=true:=by rw [bne_iff_ne];exact hj2
  have HE:Hid (forR (textE k) env [a0,a1,a2] n=.error j2):=by
   show _=_
   rw [HR.out,HR2.out.bad hj2];rfl
  clear HR
  go_wp2_with fail
  go_ret2
  exact ⟨(HP.out _ HT2.out).1,.inl ⟨j2,HE.out,hj2,rfl⟩⟩
end Go.Proofs.YtmfjolmfbdbegaaGreatDoor

namespace Go.Proofs.YtmfjolmfbdbegaaGreatDoor
open Go.RowKit Go.Shelf
attribute [local go_sem] Oper.semAt_some
def ValAtC (k xb d:Nat) (o:Option Addr) (m c:Nat) (env:EnvT) (w:World):Prop :=
 ∀ (n:Nat) (s:BT) (W:World),Turned (fun b=>b=xb) w W→StepsAt W xb n→n≤2000→s.length≤10000000 →
  Calls Tryz.prog 175 #[.pointer (some ⟨xb,0,none⟩),.agg #[.slice o m c,.int .i64 (d:Int)],.string (txt s)] W (fun e w'=>∃ u c,e=.returned (.tuple #[.string u,.int .i64 c])∧Turned (fun b=>b=xb) W w'∧ExpRes xb (valE k env s n) u c w')
theorem ValC.at {k xb n d:Nat} {o:Option Addr} {m c:Nat} {env:EnvT} {w:World} (hX:ValC k) (hd:d+k=20) (h:AtX xb n w (.slice o m c) env) (hE:EnvOk env k):ValAtC k xb d o m c env w :=
 fun n' s W hT hS hn hs=>(hX xb n' d o m c env s W hd (h.turned hT hS hn) hE hs).mono fun _ _ h=>exp_two h
def TextsAtC (k xb d:Nat) (o:Option Addr) (m c:Nat) (env:EnvT) (w:World):Prop :=
 ∀ (n:Nat) (ao:Option Addr) (an ac:Nat) (l:List BT) (W:World),Turned (fun b=>b=xb) w W→StepsAt W xb n→n≤2000→an=l.length→l.length≤1000→(∀ x∈l,x.length≤10000000)→ArgsR W xb ao ac l →
  Calls Tryz.prog 185 #[.pointer (some ⟨xb,0,none⟩),.agg #[.slice o m c,.int .i64 (d:Int)],.slice ao an ac] W fun e w'=>∃ o m c j,e=.returned (.tuple #[.slice o m c,.int .i64 j])∧Turned (fun b=>b=xb) W w'∧TextsRes xb (W.heap.size+1) (textsR (textE k env) l n) o m c j w'
theorem TextC.ats {k xb n d:Nat} {o:Option Addr} {m c:Nat} {env:EnvT} {w:World} (hX:TextC k) (hd:d+k=20) (h:AtX xb n w (.slice o m c) env) (hE:EnvOk env k):TextsAtC k xb d o m c env w :=
 fun n' ao an ac l W hT hS hn hl hl2 hs hr=>(texts_any k hX xb n' d o m c env ao an ac l W hd (h.turned hT hS hn) hE hl hl2 hs hr).mono fun _ _ h=>texts_two h
theorem args_three (W:World) (xb:Nat) (a b c:BT) (hx:xb < W.heap.size):ArgsR (W.alloc (.cells #[.string (txt a),.string (txt b),.string (txt c)] 9)) xb (some ⟨W.heap.size,0,none⟩) 3 [a,b,c]:=fun j x hj=>by
 have h:=World.alloc_heap_new W (.cells #[.string (txt a),.string (txt b),.string (txt c)] 9)
 refine ⟨W.heap.size,0,rfl,by omega,by simp,by simp,?_⟩
 rw [Lib.cell_of_heap h]
 rcases j with _ | _ | _ | j
 ·cases hj;rfl
 ·cases hj;rfl
 ·cases hj;rfl
 ·simp at hj
set_option maxRecDepth 100000 in
set_option maxHeartbeats 20000000 in
theorem variable_any (k:Nat) (hX:TextC k) (hV:ValC k) (xb n d:Nat) (o:Option Addr) (m c:Nat) (env:EnvT) (s:BT) (w:World) (hd:d+k=20) (h:AtX xb n w (.slice o m c) env) (hE:EnvOk env k) (hs:s.length≤10000000) :
  Calls Tryz.prog 180 #[.pointer (some ⟨xb,0,none⟩),.agg #[.slice o m c,.int .i64 (d:Int)],.string (txt s)] w (ExpPost xb (varB (textE k) (valE k) env s n) w):=by
 have hx:=h.steps.lt
 have HX:Hid (TextAtC k xb d o m c env w):=hX.at hd h hE
 have HXs:Hid (TextsAtC k xb d o m c env w):=hX.ats hd h hE
 have HV:Hid (ValAtC k xb d o m c env w):=hV.at hd h hE
 have HP:Hid (∀ W,Turned (fun b=>b=xb) (boxP w o m c d) W→Turned (fun b=>b=xb) w W∧W.cell? ⟨w.heap.size,0,none⟩=some (.slice o m c)∧W.cell? ⟨w.heap.size,1,none⟩=some (.int .i64 (d:Int))):=fun W hT=>placed hx hT
 have HS0:Hid (StepsAt (boxP w o m c d) xb n):=(((Below.refl _ w).alloc (Nat.le_refl _) _).block _ hx).trans h.steps
 obtain ⟨K1,hK1⟩:∃ K,K=cutOf [[58]] s:=⟨_,rfl⟩
 obtain ⟨K2,hK2⟩:∃ K,K=cutOf [[61]] K1.2.2:=⟨_,rfl⟩
 have s1:=cut_short [[58]] s
 have s1':=cut_short1 [[58]] s
 rw [← hK1] at s1 s1'
 have s2:=cut_short [[61]] K1.2.2
 have s2':=cut_short1 [[61]] K1.2.2
 rw [← hK2] at s2 s2'
 have HC1:Hid (Calls Tryz.prog 72 #[.string (txt s),.slice (some ⟨w.heap.size+1,0,none⟩) 1 1] ((boxP w o m c d).alloc (.cells #[.string ⟨#[58]⟩] 9)) fun e w'=>e=.returned (.tuple #[.string (txt K1.1),.string (txt K1.2.1),.string (txt K1.2.2)])∧Below (boxP w o m c d).heap.size (boxP w o m c d) w'):=by
  have h9:=cut_one (boxP w o m c d) s [58] hs (by decide)
  rw [← hK1] at h9
  have e9:(boxP w o m c d).heap.size=w.heap.size+1:=by simp
  rw [e9] at h9 ⊢
  exact h9
 have HC2:Hid (∀ W,Calls Tryz.prog 72 #[.string (txt K1.2.2),.slice (some ⟨W.heap.size,0,none⟩) 1 1] (W.alloc (.cells #[.string ⟨#[61]⟩] 9)) fun e w'=>e=.returned (.tuple #[.string (txt K2.1),.string (txt K2.2.1),.string (txt K2.2.2)])∧Below W.heap.size W w'):=fun W=>by
  rw [hK2];exact cut_one W K1.2.2 [61] (by omega) (by decide)
 have HVar:Hid (varB (textE k) (valE k) env s n=if K2.2.1=[] then Rb (textE k env s n) fun m x=>valE k env x m else Rb (textsR (textE k env) [K1.1,K2.1,K2.2.2] n) fun m l=>Rb (valE k env (l.getD 0 []) m) fun m' s=>turnedR s (l.getD 1 []) (l.getD 2 []) m'):=by
  show _=_
  unfold varB
  rw [hK2,hK1]
 have HSh:Hid (∀ n2 l,textsR (textE k env) [K1.1,K2.1,K2.2.2] n=.ok (n2,l)→∃ t0 t1 t2,l=[t0,t1,t2]∧t0.length≤4000∧t1.length≤4000∧t2.length≤4000):=fun n2 l hh=>by
  have h1:=texts_len hh
  have h2:=texts_short (fun s n=>short_textE k env s n) hh
  rcases l with _ | ⟨t0,_ | ⟨t1,_ | ⟨t2,_ | ⟨t3,l⟩⟩⟩⟩
  ·simp at h1
  ·simp at h1
  ·simp at h1
  ·exact ⟨t0,t1,t2,rfl,h2 _ (by simp),h2 _ (by simp),h2 _ (by simp)⟩
  ·simp at h1
 have hfew:=h.few
 clear h hE hX hV hK1 hK2
 go_enter Tryz.func180,Tryz.ntmps180
 go_wp2_with fail
 refine HC1.out.mono ?_
 rintro e w1 ⟨rfl,hb1⟩
 have HB1:=Lib.hid hb1
 clear hb1
 go_wp2_with fail
 refine (HC2.out w1).mono ?_
 rintro e w2 ⟨rfl,hb2⟩
 have HT2:Hid (Turned (fun b=>b=xb) (boxP w o m c d) w2):=(turned_of_below' HB1.out).trans (turned_of_below' hb2)
 have HS2:Hid (StepsAt w2 xb n):=(hb2.block _ (Nat.lt_of_lt_of_le HS0.out.lt HB1.out.size)).trans ((HB1.out.block _ HS0.out.lt).trans HS0.out)
 clear hb2 HB1 HC1 HC2
 obtain ⟨p0,p1,p2⟩:=HP.out _ HT2.out
 have HT2w:=Lib.hid p0
 have h0:=HS2.out.lt
 by_cases hk:K2.2.1=[]
 ·have e5:(txt K2.2.1).toList.isEmpty=true:=by rw [hk,txt_toL];rfl
  have HR:=HVar.out
  rw [if_pos hk] at HR
  have HR:=Lib.hid HR
  have HXx:=Lib.hid (HX.out n s w2 HT2w.out HS2.out hfew hs)
  clear HVar HSh hk p0 HX HXs
  go_wp2_with fail
  refine HXx.out.mono ?_
  rintro e w3 ⟨u3,c3,rfl,hT3,hR3⟩
  have HT3:Hid (Turned (fun b=>b=xb) (boxP w o m c d) w3):=HT2.out.trans hT3
  have HR3:=Lib.hid hR3
  clear hT3 hR3
  obtain ⟨r0,r1,r2⟩:=HP.out _ HT3.out
  have HT3w:=Lib.hid r0
  by_cases hc3:c3=0
  ·subst hc3
   obtain ⟨n4,t4,hr4,hu4,hs4,hn4⟩:=HR3.out.good
   subst hu4
   have hts:t4.length≤4000:=short_textE _ _ _ _ _ _ hr4
   have HE:Hid (varB (textE k) (valE k) env s n=valE k env t4 n4):=by
    show _=_
    rw [HR.out,hr4];rfl
   have HV4:=Lib.hid (HV.out n4 t4 w3 HT3w.out hs4 hn4 (by omega))
   clear HR HR3 hr4 hs4 r0 HV
   go_wp2_with fail
   refine HV4.out.mono ?_
   rintro e w5 ⟨u5,c5,rfl,hT5,hR5⟩
   have HT5:=Lib.hid hT5
   have HR5:=Lib.hid hR5
   clear hT5 hR5
   go_wp2_with fail
   go_ret2
   exact HR5.out.post HE.out (HT3w.out.trans HT5.out)
  ·have e6:(c3 != 0)=true:=by rw [bne_iff_ne];exact hc3
   have HE:Hid (varB (textE k) (valE k) env s n=.error c3):=by
    show _=_
    rw [HR.out,HR3.out.bad hc3];rfl
   clear HR r0
   go_wp2_with fail
   go_ret2
   exact ⟨HT3w.out,.inl ⟨c3,HE.out,hc3,rfl⟩⟩
 ·have e5:(txt K2.2.1).toList.isEmpty=false:=by rw [txt_toL];simpa using hk
  have HR:=HVar.out
  rw [if_neg hk] at HR
  have HR:=Lib.hid HR
  have hb9:Below w2.heap.size w2 (w2.alloc (.cells #[.string (txt K1.1),.string (txt K2.1),.string (txt K2.2.2)] 9)):=(Below.refl _ _).alloc (Nat.le_refl _) _
  have HXx:=Lib.hid (HXs.out n (some ⟨w2.heap.size,0,none⟩) 3 3 [K1.1,K2.1,K2.2.2] (w2.alloc (.cells #[.string (txt K1.1),.string (txt K2.1),.string (txt K2.2.2)] 9)) (HT2w.out.trans (turned_of_below' hb9)) ((hb9.block _ h0).trans HS2.out) hfew rfl (by simp)
   (fun x hx=>by
    simp only [List.mem_cons,List.not_mem_nil,or_false] at hx
    rcases hx with rfl | rfl | rfl <;> omega) (args_three w2 xb _ _ _ h0))
  have HT9:Hid (Turned (fun b=>b=xb) (boxP w o m c d) (w2.alloc (.cells #[.string (txt K1.1),.string (txt K2.1),.string (txt K2.2.2)] 9))):=HT2.out.trans (turned_of_below' hb9)
  clear HVar hk p0 HX HXs hb9
  go_wp2_with fail
  refine HXx.out.mono ?_
  rintro e w3 ⟨o3,m3,c3,j3,rfl,hT3,hR3⟩
  have HT3:Hid (Turned (fun b=>b=xb) (boxP w o m c d) w3):=HT9.out.trans hT3
  have HR3:=Lib.hid hR3
  clear hT3 hR3 HXx
  obtain ⟨r0,r1,r2⟩:=HP.out _ HT3.out
  have HT3w:=Lib.hid r0
  by_cases hj3:j3=0
  ·subst hj3
   obtain ⟨n4,l,hl,hm4,ho4,hs4,hn4⟩:=HR3.out.good
   obtain ⟨t0,t1,t2,rfl,ht0,ht1,ht2⟩:=HSh.out _ _ hl
   simp only [List.length_cons,List.length_nil,Nat.zero_add,Nat.reduceAdd] at hm4
   subst hm4
   have hA:ArgsR w3 xb o3 c3 [t0,t1,t2]:=ho4.args (by simp;omega)
   obtain ⟨g,q,rfl,hgx,hgl,hgc,hg0⟩:=hA 0 t0 rfl
   have hg0':w3.cell? ⟨g,q,none⟩=some (.string (txt t0)):=hg0
   have HG:Hid (∀ W,Turned (fun b=>b=xb) w3 W→W.cell? ⟨g,q,none⟩=some (.string (txt t0))∧W.cell? ⟨g,q+1,none⟩=some (.string (txt t1))∧W.cell? ⟨g,q+2,none⟩=some (.string (txt t2))):=fun W hT=>by
    have h9:=hA.turned hT
    refine ⟨?_,?_,?_⟩
    ·obtain ⟨b',f',e,_,_,_,hc⟩:=h9 0 t0 rfl
     cases e;exact hc
    ·obtain ⟨b',f',e,_,_,_,hc⟩:=h9 1 t1 rfl
     cases e;exact hc
    ·obtain ⟨b',f',e,_,_,_,hc⟩:=h9 2 t2 rfl
     cases e;exact hc
   simp only [List.length_cons,List.length_nil,Nat.zero_add,Nat.reduceAdd] at hgc
   have HE:Hid (varB (textE k) (valE k) env s n=Rb (valE k env t0 n4) fun m' s=>turnedR s t1 t2 m'):=by
    show _=_
    rw [HR.out,hl];rfl
   have HSv:Hid (∀ n5 t5,valE k env t0 n4=.ok (n5,t5)→t5.length≤4000):=fun n5 t5 hh=>short_valE _ _ _ _ _ _ hh
   have HS4:=Lib.hid hs4
   have ht0':t0.length≤10000000:=by omega
   clear HR HR3 hl hs4 r0 ho4 hA hg0 HSh
   go_wp2_with fail
   go_region_held3 (fun w'=>w'.cell? ⟨w.heap.size,0,none⟩=some (.slice o m c)∧w'.cell? ⟨w.heap.size,1,none⟩=some (.int .i64 (d:Int))∧w'.cell? ⟨g,q,none⟩=some (.string (txt t0)))
    (first | (go_keep;done))
    (first | (go_at_call 175;(first | refine (HV.out n4 t0 _ (HT3w.out.trans (Turned.drew _ _)) HS4.out hn4 ht0').mono ?_ | refine (HV.out n4 t0 _ HT3w.out HS4.out hn4 ht0').mono ?_);rintro e w5 ⟨u5,c5,rfl,hT5,hR5⟩;have HT5:Hid (Turned (fun b=>b=xb) w3 w5):=(by first | exact (Turned.drew _ _).trans hT5 | exact hT5);have HR5:=Lib.hid hR5;clear hT5 hR5;obtain ⟨_,k0,k1⟩:=HP.out _ (HT3.out.trans HT5.out);obtain ⟨g0,g1,g2⟩:=HG.out _ HT5.out))
   by_cases hc5:c5=0
   ·subst hc5
    obtain ⟨n6,t6,hr6,hu6,hs6,hn6⟩:=HR5.out.good
    subst hu6
    have ht6:=HSv.out _ _ hr6
    have HE6:Hid (varB (textE k) (valE k) env s n=turnedR t6 t1 t2 n6):=by
     show _=_
     rw [HE.out,hr6];rfl
    have HTu:Hid (∀ W,Turned (fun b=>b=xb) w5 W→StepsAt W xb n6→Calls Tryz.prog 191 #[.string (txt t6),.string (txt t1),.string (txt t2)] W fun e w'=>∃ u c,e=.returned (.tuple #[.string u,.int .i64 c])∧Turned (fun b=>b=xb) W w'∧ExpRes xb (turnedR t6 t1 t2 n6) u c w'):=fun W hT hS =>
     (turned_any t6 t1 t2 xb n6 W ht6 (by omega) (by omega) hS hn6).mono fun _ _ h=>exp_two h
    have HS6:=Lib.hid hs6
    clear HE hr6 hs6 HR5
    go_wp2_with fail
    go_region_held3 (fun w'=>w'.cell? ⟨g,q+1,none⟩=some (.string (txt t1))∧w'.cell? ⟨g,q+2,none⟩=some (.string (txt t2)))
     (first | (go_keep;done))
     (first | (go_at_call 191;(first | refine (HTu.out _ (Turned.drew _ _) HS6.out).mono ?_ | refine (HTu.out _ (Turned.refl _ _) HS6.out).mono ?_);rintro e w7 ⟨u7,c7,rfl,hT7,hR7⟩;have HT7:Hid (Turned (fun b=>b=xb) w5 w7):=(by first | exact (Turned.drew _ _).trans hT7 | exact hT7);have HR7:=Lib.hid hR7;clear hT7 hR7;obtain ⟨_,l1,l2⟩:=HG.out _ (HT5.out.trans HT7.out)))
    go_wp2_with fail
    go_ret2
    exact HR7.out.post HE6.out ((HT3w.out.trans HT5.out).trans HT7.out)
   ·have e6:(c5 != 0)=true:=by rw [bne_iff_ne];exact hc5
    have HE6:Hid (varB (textE k) (valE k) env s n=.error c5):=by
     show _=_
     rw [HE.out,HR5.out.bad hc5];rfl
    clear HE
    go_wp2_with fail
    go_ret2
    exact ⟨HT3w.out.trans HT5.out,.inl ⟨c5,HE6.out,hc5,rfl⟩⟩
  ·have e6:(j3 != 0)=true:=by rw [bne_iff_ne];exact hj3
   have HE:Hid (varB (textE k) (valE k) env s n=.error j3):=by
    show _=_
    rw [HR.out,HR3.out.bad hj3];rfl
   clear HR r0
   go_wp2_with fail
   go_ret2
   exact ⟨HT3w.out,.inl ⟨j3,HE.out,hj3,rfl⟩⟩
end Go.Proofs.YtmfjolmfbdbegaaGreatDoor
