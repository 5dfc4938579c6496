/-
  Nodes that are read, a part of them left out: what behindPart answers; what isThere answers. No condition.
  What words, areOne, holds and count answer. No condition but sizes.
  What is kept, changed: nodes counted, a variable set. No condition but sizes.
  What the library's slices.Equal and slices.Clone answer at rows of texts. No condition but sizes.
  A rule more, names more that are phony, a file more that was read: what is kept then. No condition but sizes.
-/
import Derived.Deep.RegionHeld3
import Derived.Deep.RegionLaw
import Derived.Test.YtmfjolmfbdbegaaGreatDoorY1
namespace Go.Proofs.YtmfjolmfbdbegaaGreatDoor
open Go.RowKit Go.Shelf Go.Maps
attribute [local go_sem] Oper.semAt_some
def SufV (sz:Nat) (v0 v:Value) (n k:Nat):Prop :=
 ∃ o c,v=.slice o (n - k) c∧(n - k)≤c∧(k < n→∃ g c0,v0=.slice (some ⟨g,0,none⟩) n c0∧o=some ⟨g,k*sz,none⟩)
def RecIn (w:World) (v:Value) (l:List BT):Prop :=
 (v=.slice none 0 0∧l=[])∨∃ g c,v=.slice (some ⟨g,0,none⟩) l.length c∧g < w.heap.size∧l.length≤c∧∀ (j:Nat) x,l[j]? = some x→w.cell? ⟨g,j,none⟩=some (.string (txt x))
theorem RecIn.below {w w':World} {v:Value} {l:List BT} (h:RecIn w v l) (hb:Below w.heap.size w w'):RecIn w' v l:=by
 rcases h with h | ⟨g,c,h1,h2,h3,h4⟩
 ·exact .inl h
 ·exact .inr ⟨g,c,h1,Nat.lt_of_lt_of_le h2 hb.size,h3,fun j x hx=>(hb.cell (p:=⟨g,j,none⟩) h2).trans (h4 j x hx)⟩
theorem RecIn.shape {w:World} {v:Value} {l:List BT} (h:RecIn w v l):∃ o c,v=.slice o l.length c:=by
 rcases h with ⟨h,rfl⟩ | ⟨g,c,h,_⟩
 ·exact ⟨_,_,h⟩
 ·exact ⟨_,_,h⟩
def NodesIn (w:World) (v:Value) (nds:List NV):Prop :=
 ∃ o c,v=.slice o nds.length c∧nds.length≤c∧∀ i x,nds[i]? = some x→∃ g,o=some ⟨g,0,none⟩∧g < w.heap.size∧(∀ j,j < 10→w.cell? ⟨g,i*10+j,none⟩=(encN x)[j]?)∧RecIn w x.2 x.1.recipe
theorem SufV.start {w:World} {v:Value} {nds:List NV} (h:NodesIn w v nds):SufV 10 v v nds.length 0:=by
 obtain ⟨o,c,hv,h1,h2⟩:=h
 refine ⟨o,c,hv,h1,fun hk=>?_⟩
 obtain ⟨g,rfl,_⟩:=h2 0 nds[0] (List.getElem?_eq_getElem hk)
 exact ⟨g,c,hv,by simp⟩
theorem SufV.at {w:World} {v0:Value} {nds:List NV} {o:Option Addr} {m c k i:Nat} (h:NodesIn w v0 nds) (hs:SufV 10 v0 (.slice o m c) nds.length k) (hk:k+i < nds.length) :
  ∃ g x,nds[k+i]? = some x∧o=some ⟨g,k*10,none⟩∧m≤c∧m=nds.length - k∧(∀ W,Below w.heap.size w W→∀ j,j < 10→W.cell? ⟨g,k*10+i*10+j,none⟩=(encN x)[j]?)∧RecIn w x.2 x.1.recipe:=by
 obtain ⟨o1,c1,hv1,h1,h2⟩:=hs
 cases hv1
 obtain ⟨g,c0,hv0,rfl⟩:=h2 (by omega)
 obtain ⟨o2,c2,hv2,h3,h4⟩:=h
 obtain ⟨g2,hg2,hl,hc,hr⟩:=h4 (k+i) nds[k+i] (List.getElem?_eq_getElem hk)
 rw [hv0] at hv2
 simp only [Value.slice.injEq] at hv2
 have hgg:g2=g:=by
  have:=hv2.1.trans hg2
  simp only [Option.some.injEq,Addr.mk.injEq,and_true] at this
  exact this.symm
 subst hgg
 refine ⟨g2,_,List.getElem?_eq_getElem hk,rfl,h1,rfl,fun W hb j hj=>?_,hr⟩
 have:=(hb.cell (p:=⟨g2,(k+i)*10+j,none⟩) hl).trans (hc j hj)
 rw [Nat.add_mul] at this
 exact this
theorem SufV.slice {v0:Value} {o:Option Addr} {n m c k i:Nat} (hs:SufV 10 v0 (.slice o m c) n k) (hi:i≤n - k) :
  SufV 10 v0 (sliced o i m c 10) n (k+i):=by
 obtain ⟨o1,c1,hv1,h1,h2⟩:=hs
 cases hv1
 unfold sliced
 refine ⟨_,_,by rw [Nat.sub_sub],by omega,fun hk=>?_⟩
 obtain ⟨g,c0,hv0,rfl⟩:=h2 (by omega)
 refine ⟨g,c0,hv0,?_⟩
 rw [if_neg (by omega),Option.map_some,Addr.add_lit,Nat.add_mul]
theorem sufNil {v0:Value} {n:Nat}:SufV 10 v0 (.slice none 0 0) n n:=⟨none,0,by rw [Nat.sub_self],by omega,fun h=>absurd h (Nat.lt_irrefl _)⟩
structure BehAt (l:List Nd) (i:Nat) (o:Int):Prop where
 told:partL 0 l=partL o (l.drop i)
 lo:-(i:Int)≤o
 hi:o≤i
theorem BehAt.start (l:List Nd):BehAt l 0 0:=⟨rfl,by omega,by omega⟩
theorem BehAt.drop {l:List Nd} {i:Nat} {n:Nd} (hn:l[i]? = some n):l.drop i=n :: l.drop (i+1):=by
 obtain ⟨h1,h2⟩:=List.getElem?_eq_some_iff.1 hn
 rw [List.drop_eq_getElem_cons h1,h2]
theorem BehAt.hit {l:List Nd} {i:Nat} {o:Int} {n:Nd} (h:BehAt l i o) (hn:l[i]? = some n) (hk:(n.kind=4∨n.kind=5)∧o=0):partL 0 l=l.drop (i+1):=by
 rw [h.told,BehAt.drop hn]
 conv=>lhs;unfold partL
 rw [if_pos hk]
theorem BehAt.up {l:List Nd} {i:Nat} {o:Int} {n:Nd} (h:BehAt l i o) (hn:l[i]? = some n) (hk:¬ ((n.kind=4∨n.kind=5)∧o=0)) (h3:n.kind=3):BehAt l (i+1) (o+1):=by
 refine ⟨?_,by have:=h.lo;omega,by have:=h.hi;omega⟩
 rw [h.told,BehAt.drop hn]
 conv=>lhs;unfold partL
 rw [if_neg hk,if_pos h3]
theorem BehAt.down {l:List Nd} {i:Nat} {o:Int} {n:Nd} (h:BehAt l i o) (hn:l[i]? = some n) (hk:¬ ((n.kind=4∨n.kind=5)∧o=0)) (h5:n.kind=5):BehAt l (i+1) (o - 1):=by
 refine ⟨?_,by have:=h.lo;omega,by have:=h.hi;omega⟩
 rw [h.told,BehAt.drop hn]
 conv=>lhs;unfold partL
 rw [if_neg hk,if_neg (by omega),if_pos h5]
theorem BehAt.on {l:List Nd} {i:Nat} {o:Int} {n:Nd} (h:BehAt l i o) (hn:l[i]? = some n) (hk:¬ ((n.kind=4∨n.kind=5)∧o=0)) (h3:n.kind≠3) (h5:n.kind≠5):BehAt l (i+1) o:=by
 refine ⟨?_,by have:=h.lo;omega,by have:=h.hi;omega⟩
 rw [h.told,BehAt.drop hn]
 conv=>lhs;unfold partL
 rw [if_neg hk,if_neg h3,if_neg h5]
theorem BehAt.end {l:List Nd} {i:Nat} {o:Int} (h:BehAt l i o) (hi:l.length≤i):partL 0 l=[]:=by
 rw [h.told,List.drop_eq_nil_of_le hi]
 unfold partL;rfl
abbrev ndL (nds:List NV):List Nd:=nds.map (·.1)
theorem node_cells {W:World} {g a:Nat} {n:Nd} {rv:Value} (h:∀ j,j < 10→W.cell? ⟨g,a+j,none⟩=(encN (n,rv))[j]?) :
  W.cell? ⟨g,a,none⟩=some (.int .i64 n.kind)∧W.cell? ⟨g,a+1,none⟩=some (.int .i64 n.no)∧W.cell? ⟨g,a+2,none⟩=some (.string (txt n.op))∧W.cell? ⟨g,a+3,none⟩=some (.string (txt n.name))∧W.cell? ⟨g,a+4,none⟩=some (.string (txt n.text)) ∧
  W.cell? ⟨g,a+5,none⟩=some (.string (txt n.targets))∧W.cell? ⟨g,a+6,none⟩=some (.string (txt n.pattern))∧W.cell? ⟨g,a+7,none⟩=some (.string (txt n.inputs))∧W.cell? ⟨g,a+8,none⟩=some (.string (txt n.order))∧W.cell? ⟨g,a+9,none⟩=some rv :=
 ⟨h 0 (by omega),h 1 (by omega),h 2 (by omega),h 3 (by omega),h 4 (by omega),h 5 (by omega),h 6 (by omega),h 7 (by omega),h 8 (by omega),h 9 (by omega)⟩
def BehPost (v0:Value) (nds:List NV) (k:Nat) (w:World) (e:Ending) (w':World):Prop :=
 ∃ o m c k',e=.returned (.slice o m c)∧SufV 10 v0 (.slice o m c) nds.length k'∧k≤k'∧k'≤nds.length∧ndL (nds.drop k')=partL 0 (ndL (nds.drop k))∧Below w.heap.size w w'
set_option maxRecDepth 100000 in
set_option maxHeartbeats 4000000 in
theorem behind_any (v0:Value) (nds:List NV) (k:Nat) (o:Option Addr) (m c:Nat) (w:World) (h:NodesIn w v0 nds) (hs:SufV 10 v0 (.slice o m c) nds.length k) (hk:k≤nds.length) (hn:nds.length≤1000000) :
  Calls Tryz.prog 52 #[.slice o m c] w (BehPost v0 nds k w):=by
 have hm:m=nds.length - k:=by obtain ⟨_,_,hv,_⟩:=hs;cases hv;rfl
 have HS:=Lib.hid hs
 have HN:=Lib.hid h
 have HL:Hid ((ndL (nds.drop k)).length=m):=by show _=_;rw [List.length_map,List.length_drop,hm]
 have hmk:k+m=nds.length:=by omega
 clear hs h hm
 go_enter Tryz.func52,Tryz.ntmps52
 go_wp2_with fail
 go_loopw [3,9] (fun ov iv wr=>∃ (i:Nat) (op:Int),i≤m∧iv=.int .i64 i∧ov=.int .i64 op∧Hid (BehAt (ndL (nds.drop k)) i op)∧Hid (Below w.heap.size w wr)) (fun _ iv _=>m - (intOf iv).toNat)
 case atStart=>exact ⟨0,0,Nat.zero_le _,rfl,rfl,BehAt.start _,Below.refl _ _⟩
 case round =>
  obtain ⟨i,op,hi,rfl,rfl,HA,HB⟩:=hrel
  by_cases hlt:i < m
  ·obtain ⟨g,⟨nd,rv⟩,hx,rfl,hmc,hm9,hcell,hro⟩:=HS.out.at (i:=i) HN.out (by omega)
   clear hm9
   obtain ⟨ro,rc,hrv⟩:=hro.shape
   simp only at hrv
   subst hrv
   clear hro
   obtain ⟨rn,hrn⟩:∃ rn,rn=nd.recipe.length:=⟨_,rfl⟩
   rw [← hrn] at hx hcell
   clear hrn
   obtain ⟨q0,q1,q2,q3,q4,q5,q6,q7,q8,q9⟩:=node_cells (hcell wr HB.out)
   have hnd:(ndL (nds.drop k))[i]? = some nd:=by rw [List.getElem?_map,List.getElem?_drop,hx];rfl
   have HB9:Hid (Below w.heap.size w (wr.alloc (.cells #[.int .i64 nd.kind,.int .i64 nd.no,.string (txt nd.op),.string (txt nd.name),.string (txt nd.text),.string (txt nd.targets),.string (txt nd.pattern),.string (txt nd.inputs),.string (txt nd.order),.slice ro rn rc] 79))):=HB.out.alloc HB.out.size _
   have hil:(i:Int) < (m:Int):=by omega
   have HSf:Hid (SufV 10 v0 (sliced (some ⟨g,k*10,none⟩) (i+1) m c 10) nds.length (k+(i+1))):=HS.out.slice (by omega)
   have hlo:=HA.out.lo
   have hhi:=HA.out.hi
   by_cases h4:nd.kind=4
   ·by_cases h0:op=0
    ·have e4:(nd.kind == 4)=true:=beq_iff_eq.2 h4
     have e0:(op == 0)=true:=beq_iff_eq.2 h0
     have HR:Hid (ndL (nds.drop (k+(i+1)))=partL 0 (ndL (nds.drop k))):=by
      show _=_
      rw [HA.out.hit hnd ⟨(.inl h4),h0⟩,← List.map_drop,List.drop_drop]
     clear HA HB hnd hx h4 h0
     by_cases hci:c=i+1
     ·have hsf:=HSf.out
      unfold sliced at hsf
      rw [if_pos hci] at hsf
      have HS9:=Lib.hid hsf
      clear hsf
      go_wp2_with fail
      go_ret
      exact ⟨_,_,_,k+(i+1),rfl,by simpa [hci] using HS9.out,by omega,by omega,HR.out,HB9.out⟩
     ·have hsf:=HSf.out
      unfold sliced at hsf
      rw [if_neg hci,Option.map_some,Addr.add_lit] at hsf
      have HS9:=Lib.hid hsf
      clear hsf
      go_wp2_with fail
      go_ret
      exact ⟨_,_,_,k+(i+1),rfl,HS9.out,by omega,by omega,HR.out,HB9.out⟩
    ·have e4:(nd.kind == 4)=true:=beq_iff_eq.2 h4
     have e5:(nd.kind == 5)=false:=by rw [beq_eq_false_iff_ne];omega
     have e3:(nd.kind == 3)=false:=by rw [beq_eq_false_iff_ne];omega
     have e0:(op == 0)=false:=by rw [beq_eq_false_iff_ne];exact h0
     have HN:=Lib.hid (HA.out.on hnd (by omega) (by omega) (by omega))
     clear HA HB hnd hx h4 h0
     go_wp2_with fail
     go_roundw
     case rel=>exact ⟨i+1,op,by omega,by go_num,rfl,HN,HB9⟩
     case measure=>simp [intOf];omega
   by_cases h5:nd.kind=5
   ·by_cases h0:op=0
    ·have e4:(nd.kind == 4)=false:=by rw [beq_eq_false_iff_ne];omega
     have e5:(nd.kind == 5)=true:=beq_iff_eq.2 h5
     have e0:(op == 0)=true:=beq_iff_eq.2 h0
     have HR:Hid (ndL (nds.drop (k+(i+1)))=partL 0 (ndL (nds.drop k))):=by
      show _=_
      rw [HA.out.hit hnd ⟨(.inr h5),h0⟩,← List.map_drop,List.drop_drop]
     clear HA HB hnd hx h5 h4 h0
     by_cases hci:c=i+1
     ·have hsf:=HSf.out
      unfold sliced at hsf
      rw [if_pos hci] at hsf
      have HS9:=Lib.hid hsf
      clear hsf
      go_wp2_with fail
      go_ret
      exact ⟨_,_,_,k+(i+1),rfl,by simpa [hci] using HS9.out,by omega,by omega,HR.out,HB9.out⟩
     ·have hsf:=HSf.out
      unfold sliced at hsf
      rw [if_neg hci,Option.map_some,Addr.add_lit] at hsf
      have HS9:=Lib.hid hsf
      clear hsf
      go_wp2_with fail
      go_ret
      exact ⟨_,_,_,k+(i+1),rfl,HS9.out,by omega,by omega,HR.out,HB9.out⟩
    ·have e4:(nd.kind == 4)=false:=by rw [beq_eq_false_iff_ne];omega
     have e5:(nd.kind == 5)=true:=beq_iff_eq.2 h5
     have e3:(nd.kind == 3)=false:=by rw [beq_eq_false_iff_ne];omega
     have e0:(op == 0)=false:=by rw [beq_eq_false_iff_ne];exact h0
     have HN:=Lib.hid (HA.out.down hnd (by omega) h5)
     clear HA HB hnd hx h5 h4 h0
     go_wp2_with fail
     go_roundw
     case rel=>exact ⟨i+1,op - 1,by omega,by go_num,rfl,HN,HB9⟩
     case measure=>simp [intOf];omega
   by_cases h3:nd.kind=3
   ·have e4:(nd.kind == 4)=false:=by rw [beq_eq_false_iff_ne];omega
    have e5:(nd.kind == 5)=false:=by rw [beq_eq_false_iff_ne];omega
    have e3:(nd.kind == 3)=true:=beq_iff_eq.2 h3
    have HN:=Lib.hid (HA.out.up hnd (by omega) h3)
    clear HA HB hnd hx h3 h5 h4
    go_wp2_with fail
    go_roundw
    case rel=>exact ⟨i+1,op+1,by omega,by go_num,rfl,HN,HB9⟩
    case measure=>simp [intOf];omega
   ·have e4:(nd.kind == 4)=false:=by rw [beq_eq_false_iff_ne];omega
    have e5:(nd.kind == 5)=false:=by rw [beq_eq_false_iff_ne];omega
    have e3:(nd.kind == 3)=false:=by rw [beq_eq_false_iff_ne];omega
    have HN:=Lib.hid (HA.out.on hnd (by omega) h3 h5)
    clear HA HB hnd hx h3 h5 h4
    go_wp2_with fail
    go_roundw
    case rel=>exact ⟨i+1,op,by omega,by go_num,rfl,HN,HB9⟩
    case measure=>simp [intOf];omega
  ·have HP:Hid (BehPost v0 nds k w (.returned (.slice none 0 0)) wr):=⟨none,0,0,nds.length,rfl,sufNil,hk,Nat.le_refl _,by rw [HA.out.end (by rw [HL.out];omega),List.drop_eq_nil_of_le (Nat.le_refl _)];rfl,HB.out⟩
   clear HA HB
   go_wp2_with fail
   go_ret
   exact HP.out
end Go.Proofs.YtmfjolmfbdbegaaGreatDoor

namespace Go.Proofs.YtmfjolmfbdbegaaGreatDoor
open Go.RowKit Go.Shelf Go.Maps
attribute [local go_sem] Oper.semAt_some
theorem flat_texts:∀ l:List BT,l.flatMap encS=(l.map txt).map Value.string
 | []=>rfl
 | x :: r=>by rw [List.flatMap_cons,flat_texts r];rfl
theorem In.ofOwns {w w':World} {base:Nat} {v:Value} {l:List BT} (hb:Below w.heap.size w w') (hbase:w.heap.size≤base) (h:w'.ownsRow base 9 1 v l.length ((l.map txt).map Value.string)):In w [oTexts v l] w':=by
 refine In.add (X:=fun m=>v.ownBlock=some m) (In.nil (Below.refl _ w)) hb ?_ (fun m hm=>?_)
 ·refine ⟨⟨by rw [flat_texts];exact h.1,?_⟩,fun g hg=>hg,fun m hm=>(h.lt m hm).2⟩
  rw [flat_texts]
  rcases h.2 with hn | ⟨g,cap,cur,h1,_,h3⟩
  ·exact .inl hn
  ·exact .inr ⟨g,cap,cur,h1,Nat.zero_le _,h3⟩
 ·exact Nat.le_trans hbase (h.lt m hm).1
set_option maxHeartbeats 1000000 in
theorem words12_any (s:BT) (hs:s.length≤1000000) (w:World) :
  Calls Tryz.prog 68 #[.string (txt s)] w fun e W'=>∃ o c,e=.returned (.slice o (wordsT s).length c)∧In w [oTexts (.slice o (wordsT s).length c) (wordsT s)] W':=by
 have hz:(txt s).size≤maxLen:=by rw [txt_size];unfold maxLen;omega
 have hl:=wordsOf_len s
 have bS:=Boxed.new w 9 (.string (txt s))
 have hG:=gather_any 143 #[.pointer (some ⟨w.heap.size,0,none⟩)] (enters_of Tryz.func143 (by kernel_rfl) rfl) (fun j=>j=w.heap.size) (wordsOf s) (w.alloc (.cells #[.string (txt s)] 9)) w.heap.size (by simp)
  (fun n=>by have:=words1_tells n (txt s) hz w.heap.size _ bS;rwa [txt_data] at this) (by rintro k rfl;simp) (by omega)
 have HG:=Lib.hid hG
 clear hG hl hz
 go_enter Tryz.func68,Tryz.ntmps68
 go_wp2_with fail
 refine (words0_any (txt s) w).mono ?_
 rintro e w' ⟨rfl,rfl⟩
 go_wp2_with fail
 refine HG.out.mono ?_
 rintro e w' ⟨v,rfl,hr,hb⟩
 have hI:In w [oTexts v (wordsT s)] w':=by
  refine In.ofOwns (((Below.refl _ w).alloc (Nat.le_refl _) _).trans hb) (base:=w.heap.size+1) (by omega) ?_
  rw [wordsT_of,List.length_map,World.size_alloc] at hr
  exact hr
 obtain ⟨o,c,rfl⟩:=hI.textLen (List.mem_singleton.2 rfl)
 have HI:=Lib.hid hI
 clear hI hr hb HG
 go_wp2_with fail
 go_ret
 exact ⟨o,c,rfl,HI.out⟩
def WdPost (r:Ev (List BT)) (w:World) (e:Ending) (w':World):Prop :=
 (∃ f,r=.error f∧e=panE f∧Below w.heap.size w w')∨∃ l o c,r=.ok l∧e=.returned (.slice o l.length c)∧In w [oTexts (.slice o l.length c) l] w'
theorem In.back1 {w0 w w':World} {l:List Own} (hb:Below w0.heap.size w0 w) (h:In w l w'):In w0 l w':=by
 have:=In.join (In.nil hb) h
 rwa [List.append_nil] at this
set_option maxHeartbeats 2000000 in
theorem rwords12_any (rb:Nat) (env:EnvT) (s p:BT) (no:Int) (w:World) (h:RE w rb env) (hs:s.length≤1000000) :
  Calls Tryz.prog 78 #[.pointer (some ⟨rb,0,none⟩),.string (txt s),atV p no] w (WdPost (wordsE env p no s) w):=by
 have hb0:Below w.heap.size w (w.alloc (.cells #[.string (txt p),.int .i64 no] 33)):=(Below.refl _ w).alloc (Nat.le_refl _) _
 have HX:=Lib.hid (rexpand12_any rb env s p no _ (h.below hb0) hs)
 have HB0:=Lib.hid hb0
 have H1:=Lib.hid (World.alloc_heap_new w (.cells #[.string (txt p),.int .i64 no] 33))
 obtain ⟨p0,p1,_⟩:=two_cells H1.out
 have hlen:=expand_len env s
 have HV:Hid (∀ t,exE env p no s=.ok t→t.length≤4000∧wordsE env p no s=if 200 < (wordsT t).length then .error (3,p,no) else .ok (wordsT t)):=fun t ht=>by
  refine ⟨?_,by unfold wordsE;rw [ht];rfl⟩
  unfold exE at ht
  split at ht
  ·cases ht;exact hlen
  ·cases ht
 have HV2:Hid (∀ f,exE env p no s=.error f→wordsE env p no s=.error f):=fun f hf=>by unfold wordsE;rw [hf];rfl
 generalize exE env p no s=r at HX HV HV2
 clear hb0 h hlen
 go_enter Tryz.func78,Tryz.ntmps78
 go_wp2_with fail
 refine HX.out.mono ?_
 rintro e w1 ⟨hb1,⟨f,rfl,rfl⟩ | ⟨t,rfl,rfl⟩⟩
 ·have HB1:Hid (Below w.heap.size w w1):=HB0.out.trans (hb1.mono HB0.out.size)
  have HE:=Lib.hid (HV2.out f rfl)
  clear hb1 HV HV2 HX
  unfold panE
  go_wp2_with fail
  exact ⟨rfl,.inl ⟨f,HE.out,rfl,HB1.out⟩⟩
 ·have HB1:Hid (Below w.heap.size w w1):=HB0.out.trans (hb1.mono HB0.out.size)
  obtain ⟨htl,hE⟩:=HV.out t rfl
  have HE:=Lib.hid hE
  have HW:=Lib.hid (words12_any t (by omega) w1)
  have H2:Hid (w1.heap[w.heap.size]? = some (.cells #[.string (txt p),.int .i64 no] 33 (0,0))):=(hb1.block _ (by simp)).trans H1.out
  clear hb1 hE HV HV2 HX p0 p1
  go_wp2_with fail
  refine HW.out.mono ?_
  rintro e w2 ⟨o,c,rfl,hI⟩
  have HI:Hid (In w [oTexts (.slice o (wordsT t).length c) (wordsT t)] w2):=hI.back1 HB1.out
  obtain ⟨p0,p1,_⟩:=two_cells ((hI.back.block _ (Array.getElem?_eq_some_iff.1 H2.out).1).trans H2.out)
  clear hI HW H2
  obtain ⟨m,hm⟩:∃ m,m=(wordsT t).length:=⟨_,rfl⟩
  rw [← hm] at HI HE ⊢
  have HM:=Lib.hid hm
  clear hm
  by_cases hbig:200 < m
  ·have hE:=HE.out
   rw [if_pos hbig] at hE
   have HE2:=Lib.hid hE
   have hbz:(200:Int) < (m:Int):=by omega
   clear hE HE
   go_wp2_with fail
   refine (fail_any 3 p no _).mono ?_
   rintro e w3 ⟨rfl,hb3⟩
   have HB3:Hid (Below w.heap.size w w3):=HI.out.back.trans (hb3.mono HI.out.back.size)
   clear hb3
   unfold panE
   go_wp2_with fail
   exact ⟨rfl,.inl ⟨_,HE2.out,rfl,HB3.out⟩⟩
  ·have hE:=HE.out
   rw [if_neg hbig] at hE
   have HE2:=Lib.hid hE
   have hbz:¬ (200:Int) < (m:Int):=by omega
   clear hE HE
   go_wp2_with fail
   go_ret
   exact .inr ⟨_,o,c,HE2.out,by rw [← HM.out];rfl,by rw [← HM.out];exact HI.out⟩
abbrev ndV (n:Nd) (rv:Value):Value:=.agg #[.int .i64 n.kind,.int .i64 n.no,.string (txt n.op),.string (txt n.name),.string (txt n.text),.string (txt n.targets),.string (txt n.pattern),.string (txt n.inputs),.string (txt n.order),rv]
abbrev ndB (w:World) (n:Nd) (rv:Value):World:=w.alloc (.cells #[.int .i64 n.kind,.int .i64 n.no,.string (txt n.op),.string (txt n.name),.string (txt n.text),.string (txt n.targets),.string (txt n.pattern),.string (txt n.inputs),.string (txt n.order),rv] 79)
abbrev plB (w:World) (p:BT) (no:Int):World:=w.alloc (.cells #[.string (txt p),.int .i64 no] 33)
theorem boxes_at (w:World) (n:Nd) (rv:Value) (p:BT) (no:Int):Below w.heap.size w (plB (ndB w n rv) p no)∧∀ W,Below (w.heap.size+2) (plB (ndB w n rv) p no) W →
  (∀ j,j < 10→W.cell? ⟨w.heap.size,0+j,none⟩=(encN (n,rv))[j]?)∧W.cell? ⟨w.heap.size+1,0,none⟩=some (.string (txt p))∧W.cell? ⟨w.heap.size+1,1,none⟩=some (.int .i64 no)∧w.heap.size+2≤W.heap.size:=by
 have hb:=below_two w (.cells #[.int .i64 n.kind,.int .i64 n.no,.string (txt n.op),.string (txt n.name),.string (txt n.text),.string (txt n.targets),.string (txt n.pattern),.string (txt n.inputs),.string (txt n.order),rv] 79) (.cells #[.string (txt p),.int .i64 no] 33)
 refine ⟨hb,fun W hW=>?_⟩
 have h1:=heap_first w (.cells #[.int .i64 n.kind,.int .i64 n.no,.string (txt n.op),.string (txt n.name),.string (txt n.text),.string (txt n.targets),.string (txt n.pattern),.string (txt n.inputs),.string (txt n.order),rv] 79) (.cells #[.string (txt p),.int .i64 no] 33)
 have h2:=heap_second w (.cells #[.int .i64 n.kind,.int .i64 n.no,.string (txt n.op),.string (txt n.name),.string (txt n.text),.string (txt n.targets),.string (txt n.pattern),.string (txt n.inputs),.string (txt n.order),rv] 79) (.cells #[.string (txt p),.int .i64 no] 33)
 have k1:=(hW.block w.heap.size (by omega)).trans h1
 have k2:=(hW.block (w.heap.size+1) (by omega)).trans h2
 obtain ⟨c0,c1,_⟩:=two_cells k2
 refine ⟨fun j hj=>?_,c0,c1,by have:=hW.size;simp at this;omega⟩
 rw [Nat.zero_add,Lib.cell_of_heap k1,List.getElem?_toArray]
structure BoxAt (w:World) (n:Nd) (rv:Value) (p:BT) (no:Int) (W:World):Prop where
 back:Below w.heap.size w W
 cells:∀ j,j < 10→W.cell? ⟨w.heap.size,0+j,none⟩=(encN (n,rv))[j]?
 path:W.cell? ⟨w.heap.size+1,0,none⟩=some (.string (txt p))
 num:W.cell? ⟨w.heap.size+1,1,none⟩=some (.int .i64 no)
 size:w.heap.size+2≤W.heap.size
theorem BoxAt.start (w:World) (n:Nd) (rv:Value) (p:BT) (no:Int):BoxAt w n rv p no (plB (ndB w n rv) p no):=by
 obtain ⟨hb,h⟩:=boxes_at w n rv p no
 obtain ⟨h1,h2,h3,h4⟩:=h _ (Below.refl _ _)
 exact ⟨hb,h1,h2,h3,h4⟩
theorem BoxAt.below {w:World} {n:Nd} {rv:Value} {p:BT} {no:Int} {W W':World} (h:BoxAt w n rv p no W) (hb:Below W.heap.size W W'):BoxAt w n rv p no W':=by
 have:=h.size
 exact ⟨h.back.trans (hb.mono h.back.size),fun j hj=>(hb.cell (p:=⟨w.heap.size,0+j,none⟩) (by show w.heap.size < _;omega)).trans (h.cells j hj),(hb.cell (p:=⟨w.heap.size+1,0,none⟩) (by show w.heap.size+1 < _;omega)).trans h.path,(hb.cell (p:=⟨w.heap.size+1,1,none⟩) (by show w.heap.size+1 < _;omega)).trans h.num,Nat.le_trans h.size hb.size⟩
theorem node_cells0 {W:World} {g:Nat} {n:Nd} {rv:Value} (h:∀ j,j < 10→W.cell? ⟨g,0+j,none⟩=(encN (n,rv))[j]?) :
  W.cell? ⟨g,0,none⟩=some (.int .i64 n.kind)∧W.cell? ⟨g,1,none⟩=some (.int .i64 n.no)∧W.cell? ⟨g,2,none⟩=some (.string (txt n.op))∧W.cell? ⟨g,3,none⟩=some (.string (txt n.name))∧W.cell? ⟨g,4,none⟩=some (.string (txt n.text)) ∧
  W.cell? ⟨g,5,none⟩=some (.string (txt n.targets))∧W.cell? ⟨g,6,none⟩=some (.string (txt n.pattern))∧W.cell? ⟨g,7,none⟩=some (.string (txt n.inputs))∧W.cell? ⟨g,8,none⟩=some (.string (txt n.order))∧W.cell? ⟨g,9,none⟩=some rv :=
 ⟨h 0 (by omega),h 1 (by omega),h 2 (by omega),h 3 (by omega),h 4 (by omega),h 5 (by omega),h 6 (by omega),h 7 (by omega),h 8 (by omega),h 9 (by omega)⟩
theorem txt_same (a b:BT):((txt a).toList == (txt b).toList)=decide (a=b):=by
 rw [Lib.toList_data,Lib.toList_data,txt_data,txt_data,Bool.eq_iff_iff,beq_iff_eq,decide_eq_true_iff]
set_option maxHeartbeats 4000000 in
theorem areOne_any (rb:Nat) (env:EnvT) (n:Nd) (ro:Option Addr) (rn rc:Nat) (p:BT) (w:World) (h:RE w rb env) (hn:NdOk n) :
  Calls Tryz.prog 84 #[.pointer (some ⟨rb,0,none⟩),ndV n (.slice ro rn rc),atV p n.no] w (ExPost (oneE env p n) (fun b=>.bool b) w):=by
 have B0:=BoxAt.start w n (.slice ro rn rc) p n.no
 have hR:=h.below B0.back
 have HX:=Lib.hid (rexpand12_any rb env n.name p n.no _ hR (by have:=hn.name;omega))
 have HX2:Hid (∀ W,Below (plB (ndB w n (.slice ro rn rc)) p n.no).heap.size (plB (ndB w n (.slice ro rn rc)) p n.no) W→Calls Tryz.prog 76 #[.pointer (some ⟨rb,0,none⟩),.string (txt n.text),atV p n.no] W (ExPost (exE env p n.no n.text) (fun t=>.string (txt t)) W)) :=
  fun W hb=>rexpand12_any rb env n.text p n.no _ (hR.below hb) (by have:=hn.text;omega)
 have HV1:Hid (∀ f,exE env p n.no n.name=.error f→oneE env p n=.error f):=fun f hf=>by unfold oneE;rw [hf];rfl
 have HV2:Hid (∀ a f,exE env p n.no n.name=.ok a→exE env p n.no n.text=.error f→oneE env p n=.error f):=fun a f ha hf=>by unfold oneE;rw [ha,hf];rfl
 have HV3:Hid (∀ a b,exE env p n.no n.name=.ok a→exE env p n.no n.text=.ok b→oneE env p n=.ok (decide (a=b))):=fun a b ha hb=>by unfold oneE;rw [ha,hb];rfl
 generalize exE env p n.no n.name=r1 at HX HV1 HV2 HV3
 generalize exE env p n.no n.text=r2 at HX2 HV2 HV3
 have HB0:=Lib.hid B0
 obtain ⟨q0,q1,q2,q3,q4,q5,q6,q7,q8,q9⟩:=node_cells0 B0.cells
 have p0:=B0.path
 have p1:=B0.num
 clear B0 hR h hn
 go_enter Tryz.func84,Tryz.ntmps84
 go_wp2_with fail
 refine HX.out.mono ?_
 rintro e w1 ⟨hb1,⟨f,rfl,rfl⟩ | ⟨a,rfl,rfl⟩⟩
 ·have HB1:=Lib.hid (HB0.out.below hb1)
  have HE:=Lib.hid (HV1.out f rfl)
  clear hb1 HV1 HV2 HV3 HX HX2
  unfold panE
  go_wp2_with fail
  exact ⟨rfl,HB1.out.back,.inl ⟨f,HE.out,rfl⟩⟩
 ·have HB1:=Lib.hid (HB0.out.below hb1)
  have HX3:=Lib.hid (HX2.out w1 hb1)
  clear hb1 HV1 HX HX2 q0 q1 q2 q3 q4 q5 q6 q7 q8 q9 p0 p1
  obtain ⟨q0,q1,q2,q3,q4,q5,q6,q7,q8,q9⟩:=node_cells0 HB1.out.cells
  have p0:=HB1.out.path
  have p1:=HB1.out.num
  go_wp2_with fail
  refine HX3.out.mono ?_
  rintro e w2 ⟨hb2,⟨f,rfl,rfl⟩ | ⟨b,rfl,rfl⟩⟩
  ·have HB2:=Lib.hid (HB1.out.below hb2)
   have HE:=Lib.hid (HV2.out a f rfl rfl)
   clear hb2 HV2 HV3 HX3
   unfold panE
   go_wp2_with fail
   exact ⟨rfl,HB2.out.back,.inl ⟨f,HE.out,rfl⟩⟩
  ·have HB2:=Lib.hid (HB1.out.below hb2)
   have HE:=Lib.hid (HV3.out a b rfl rfl)
   have hsame:=txt_same a b
   clear hb2 HV2 HV3 HX3
   go_wp2_with fail
   go_ret
   exact ⟨HB2.out.back,.inr ⟨_,HE.out,by simp [hsame]⟩⟩
set_option maxHeartbeats 4000000 in
theorem holds_any (rb:Nat) (env:EnvT) (n:Nd) (ro:Option Addr) (rn rc:Nat) (p:BT) (w:World) (h:RE w rb env) (hn:NdOk n) :
  Calls Tryz.prog 57 #[.pointer (some ⟨rb,0,none⟩),ndV n (.slice ro rn rc),atV p n.no] w (ExPost (holdsE env p n) (fun b=>.bool b) w):=by
 have B0:=BoxAt.start w n (.slice ro rn rc) p n.no
 have hR:=h.below B0.back
 have HA:=Lib.hid (areOne_any rb env n ro rn rc p _ hR hn)
 have HT:=Lib.hid (hasText_any rb env n.name _ hR)
 have HB0:=Lib.hid B0
 obtain ⟨q0,q1,q2,q3,q4,q5,q6,q7,q8,q9⟩:=node_cells0 B0.cells
 have p0:=B0.path
 have p1:=B0.num
 have oq:=op_eq n.op
 clear B0 hR h hn
 by_cases h1:n.op=wIfeq
 ·have e1:((txt n.op).toList == [105,102,101,113])=true:=by rw [oq,h1];rfl
  have HV:Hid (holdsE env p n=oneE env p n):=by unfold holdsE;rw [if_pos h1];exact rfl
  clear oq h1 HT
  generalize oneE env p n=r at HA HV
  go_enter Tryz.func57,Tryz.ntmps57
  go_wp2_with fail
  refine HA.out.mono ?_
  rintro e w1 ⟨hb1,⟨f,rfl,rfl⟩ | ⟨b,rfl,rfl⟩⟩
  ·have HB1:=Lib.hid (HB0.out.below hb1)
   clear hb1 HA
   unfold panE
   go_wp2_with fail
   exact ⟨rfl,HB1.out.back,.inl ⟨f,HV.out,rfl⟩⟩
  ·have HB1:=Lib.hid (HB0.out.below hb1)
   clear hb1 HA
   go_wp2_with fail
   go_ret
   exact ⟨HB1.out.back,.inr ⟨_,HV.out,rfl⟩⟩
 have e1:((txt n.op).toList == [105,102,101,113])=false:=by rw [oq];exact decide_eq_false h1
 by_cases h2:n.op=wIfneq
 ·have e2:((txt n.op).toList == [105,102,110,101,113])=true:=by rw [oq,h2];rfl
  have HV:Hid (holdsE env p n=Eb (oneE env p n) fun b=>.ok !b):=by unfold holdsE;rw [if_neg h1,if_pos h2];exact rfl
  clear oq h1 h2 HT
  generalize oneE env p n=r at HA HV
  go_enter Tryz.func57,Tryz.ntmps57
  go_wp2_with fail
  refine HA.out.mono ?_
  rintro e w1 ⟨hb1,⟨f,rfl,rfl⟩ | ⟨b,rfl,rfl⟩⟩
  ·have HB1:=Lib.hid (HB0.out.below hb1)
   clear hb1 HA
   unfold panE
   go_wp2_with fail
   exact ⟨rfl,HB1.out.back,.inl ⟨f,HV.out,rfl⟩⟩
  ·have HB1:=Lib.hid (HB0.out.below hb1)
   clear hb1 HA
   go_wp2_with fail
   go_ret
   exact ⟨HB1.out.back,.inr ⟨_,HV.out,rfl⟩⟩
 have e2:((txt n.op).toList == [105,102,110,101,113])=false:=by rw [oq];exact decide_eq_false h2
 by_cases h3:n.op=wIfdef
 ·have e3:((txt n.op).toList == [105,102,100,101,102])=true:=by rw [oq,h3];rfl
  have HV:Hid (holdsE env p n=.ok (hasB env n.name)):=by unfold holdsE;rw [if_neg h1,if_neg h2,if_pos h3];exact rfl
  clear oq h1 h2 h3 HA
  generalize hasB env n.name=r at HT HV
  go_enter Tryz.func57,Tryz.ntmps57
  go_wp2_with fail
  refine HT.out.mono ?_
  rintro e w1 ⟨rfl,hb1⟩
  have HB1:=Lib.hid (HB0.out.below hb1)
  clear hb1 HT
  go_wp2_with fail
  go_ret
  exact ⟨HB1.out.back,.inr ⟨_,HV.out,rfl⟩⟩
 ·have e3:((txt n.op).toList == [105,102,100,101,102])=false:=by rw [oq];exact decide_eq_false h3
  have HV:Hid (holdsE env p n=.ok !(hasB env n.name)):=by unfold holdsE;rw [if_neg h1,if_neg h2,if_neg h3];exact rfl
  clear oq h1 h2 h3 HA
  generalize hasB env n.name=r at HT HV
  go_enter Tryz.func57,Tryz.ntmps57
  go_wp2_with fail
  refine HT.out.mono ?_
  rintro e w1 ⟨rfl,hb1⟩
  have HB1:=Lib.hid (HB0.out.below hb1)
  clear hb1 HT
  go_wp2_with fail
  go_ret
  exact ⟨HB1.out.back,.inr ⟨_,HV.out,rfl⟩⟩
end Go.Proofs.YtmfjolmfbdbegaaGreatDoor

namespace Go.Proofs.YtmfjolmfbdbegaaGreatDoor
open Go.RowKit Go.Shelf Go.Maps
attribute [local go_sem] Oper.semAt_some
theorem below_drew1 (w:World):Below w.heap.size w w.drew:=⟨rfl,rfl,rfl,Nat.le_refl _,fun _ _=>rfl⟩
theorem box_behind {W w2:World} {v:Value} {T:TypeId} (hb:Below (W.alloc (.cells #[v] T)).drew.heap.size (W.alloc (.cells #[v] T)).drew w2):w2.cell? ⟨W.heap.size,0,none⟩=some v∧w2.frozen? ⟨W.heap.size,0,none⟩=false:=by
 have h:w2.heap[W.heap.size]? = some (.cells #[v] T (0,0)):=(hb.block W.heap.size (by simp)).trans (World.alloc_heap_new W _)
 exact ⟨by rw [Lib.cell_of_heap h];rfl,Lib.frozen_of_heap h 0⟩
theorem below_drewB {B:Nat} {a w:World} (h:Below B a w):Below B a w.drew:=⟨h.os,h.tape,h.output,h.size,h.block⟩
def StPost (w0:World) (c:Ctx) (L:List Own) (kn:List KV) (r:Ev St) (e:Ending) (w':World):Prop :=
 (∃ f,r=.error f∧e=panE f∧In w0 L w')∨∃ st,r=.ok st∧e=.returned (.tuple #[])∧RS w0 c L kn st w'
structure AsgAt (W1:World) (r:Except Int EnvT) (o2:Option Addr) (m2 c2:Nat) (j2:Int) (bx:Nat) (W5:World):Prop where
 back:Below W1.heap.size W1 W5
 box:W5.heap[bx]? = some (.cells #[.slice o2 m2 c2] 26 (0,0))
 told:(r=.error j2∧j2≠0)∨(j2=0∧∃ env,r=.ok env∧EnvS W5 (fun b=>W1.heap.size≤b) (.slice o2 m2 c2) env)
theorem AsgAt.below {W1:World} {r:Except Int EnvT} {o2:Option Addr} {m2 c2:Nat} {j2:Int} {bx:Nat} {W5 W6:World} (h:AsgAt W1 r o2 m2 c2 j2 bx W5) (hb:Below W5.heap.size W5 W6):AsgAt W1 r o2 m2 c2 j2 bx W6 :=
 ⟨h.back.trans (hb.mono h.back.size),(hb.block _ (Array.getElem?_eq_some_iff.1 h.box).1).trans h.box,h.told.imp id fun ⟨a,env,b,e⟩=>⟨a,env,b,e.below hb⟩⟩
theorem asg_new {W1 W w2:World} {r:Except Int EnvT} {o2:Option Addr} {m2 c2:Nat} {j2:Int} (h:Below W1.heap.size W1 w2) (hW:W1.heap.size≤W.heap.size)
  (hor:(r=.error j2∧j2≠0∧o2=none∧m2=0∧c2=0)∨(j2=0∧∃ env,r=.ok env∧EnvS w2 (fun b=>W.heap.size≤b) (.slice o2 m2 c2) env)) :
  AsgAt W1 r o2 m2 c2 j2 w2.heap.size (w2.alloc (.cells #[.slice o2 m2 c2] 26)):=by
 refine ⟨h.alloc h.size _,World.alloc_heap_new _ _,?_⟩
 rcases hor with ⟨h1,h2,_⟩ | ⟨h1,env,h2,h3⟩
 ·exact .inl ⟨h1,h2⟩
 ·exact .inr ⟨h1,env,h2,(h3.wider fun b _ hb=>Nat.le_trans hW hb).below ((Below.refl _ w2).alloc (Nat.le_refl _) _)⟩
theorem asg_old {W1 w2:World} {r:Except Int EnvT} {o2:Option Addr} {m2 c2:Nat} {j2:Int} (h:Below W1.heap.size W1 w2)
  (hb:Below (W1.alloc (.cells #[.slice none 0 0] 26)).drew.heap.size (W1.alloc (.cells #[.slice none 0 0] 26)).drew w2)
  (hor:(r=.error j2∧j2≠0∧o2=none∧m2=0∧c2=0)∨(j2=0∧∃ env,r=.ok env∧EnvS w2 (fun b=>(W1.alloc (.cells #[.slice none 0 0] 26)).drew.heap.size≤b) (.slice o2 m2 c2) env)) :
  AsgAt W1 r o2 m2 c2 j2 W1.heap.size (w2.setCell ⟨W1.heap.size,0,none⟩ (.slice o2 m2 c2)):=by
 have h0:w2.heap[W1.heap.size]? = some (.cells #[.slice none 0 0] 26 (0,0)):=(hb.block W1.heap.size (by simp)).trans (World.alloc_heap_new W1 _)
 refine ⟨h.setCell (p:=⟨W1.heap.size,0,none⟩) (Nat.le_refl _) _,set_one h0 _,?_⟩
 rcases hor with ⟨h1,h2,_⟩ | ⟨h1,env,h2,h3⟩
 ·exact .inl ⟨h1,h2⟩
 ·refine .inr ⟨h1,env,h2,?_⟩
  have h4:=h3.turned (Turned.setCell (X:=fun b=>b=W1.heap.size) w2 ⟨W1.heap.size,0,none⟩ (.slice o2 m2 c2) rfl) (fun b hb hx=>by simp at hb;omega)
  exact h4.wider fun b _ hb=>by simp at hb;omega
section
variable {w0 w w':World} {c:Ctx} {L:List Own} {kn:List KV} {st:St}
theorem In.re {s:SV} (h:In w0 (owns c s st++L) w) (hst:Std w0) (hE:EnvOk st.env 21):RE w c.rb st.env:=by
 have hh:=h.rcells
 obtain ⟨_,_,_,_,h4,_⟩:=nine_cells hh
 obtain ⟨X,hX,_⟩:=h.get (e:=oEnv s.ev st.env) (List.mem_append_left _ (by simp [owns]))
 obtain ⟨o,m,cc,hv⟩:=hX.1.slice
 exact ⟨hst.below h.back,⟨o,m,cc,by rw [h4,hv],by rw [← hv];exact hX.1.wider fun _ _ _=>trivial⟩,hE,(Array.getElem?_eq_some_iff.1 hh).1⟩
theorem RS.re (h:RS w0 c L kn st w) (hst:Std w0) (hE:EnvOk st.env 21):RE w c.rb st.env:=let ⟨_,h1,_⟩:=h;h1.re hst hE
theorem RS.setDone (h:RS w0 c L kn st w):RS w0 c L kn { st with done:=st.done+1 } (w.setCell ⟨c.rb,3,none⟩ (.int .i64 ((st.done:Int)+1))):=by
 obtain ⟨s,h1,h2,h3⟩:=h
 refine ⟨s,?_,⟨h2.rules,h2.known,h2.nn,h2.few⟩,h3⟩
 have:=In.set h1 3 (.int .i64 ((st.done:Int)+1))
 exact this
theorem In.setEnv {s:SV} {v:Value} {env:EnvT} (h:In w0 (owns c s st++L) w) (hb:Below w.heap.size w w') (hE:EnvS w' (fun b=>w.heap.size≤b) v env) :
  In w0 (owns c { s with ev:=v } { st with env:=env }++L) (w'.setCell ⟨c.rb,4,none⟩ v):=by
 have h2:In w0 (oEnv v env :: (owns c s st++L)) w':=by
  refine In.add (X:=fun m=>w.heap.size≤m∧m < w'.heap.size) h hb ⟨hE.wider (fun b hl hq=>⟨hq,hl⟩),fun m hm=>hm.2⟩ (fun m hm=>hm.1)
 have h3:=In.set h2.swap 4 v
 have h4:=h3.third
 exact ((h4.perm (.cons _ (.swap _ _ _))).tail).perm (.swap _ _ _)
end
set_option maxHeartbeats 2000000 in
theorem count_any (w0:World) (c:Ctx) (L:List Own) (kn:List KV) (st:St) (p:BT) (no:Int) (w:World) (h:RS w0 c L kn st w) (hd:st.done≤1000) :
  Calls Tryz.prog 53 #[.pointer (some ⟨c.rb,0,none⟩),atV p no] w (StPost w0 c L kn (if st.done=1000 then .error (3,p,no) else .ok { st with done:=st.done+1 })):=by
 have hb0:Below w.heap.size w (plB w p no):=(Below.refl _ w).alloc (Nat.le_refl _) _
 have h1:=h.below hb0
 obtain ⟨p0,p1,_⟩:=two_cells (World.alloc_heap_new w (.cells #[.string (txt p),.int .i64 no] 33))
 have hq:(plB w p no).cell? ⟨c.rb,3,none⟩=some (.int .i64 (st.done:Int))∧(plB w p no).frozen? ⟨c.rb,3,none⟩=false:=by
  obtain ⟨s,k1,_⟩:=h1
  obtain ⟨_,_,_,c3,_,_,_,_,_,fz⟩:=nine_cells k1.rcells
  exact ⟨c3,fz 3⟩
 obtain ⟨c3,fz⟩:=hq
 by_cases hk:st.done=1000
 ·have e1:((st.done:Int) == 1000)=true:=by rw [hk];rfl
  have HR:=Lib.hid h1.rest
  rw [if_pos hk]
  clear h1 h hb0 hk
  go_enter Tryz.func53,Tryz.ntmps53
  go_wp2_with fail
  refine (fail_any 3 p no _).mono ?_
  rintro e w3 ⟨rfl,hb3⟩
  have HR3:=Lib.hid (HR.out.below hb3)
  clear hb3
  unfold panE
  go_wp2_with fail
  exact ⟨rfl,.inl ⟨_,rfl,rfl,HR3.out⟩⟩
 ·have e1:((st.done:Int) == 1000)=false:=by rw [beq_eq_false_iff_ne];omega
  have HR:=Lib.hid h1.setDone
  rw [if_neg hk]
  clear h1 h hb0 hk
  go_enter Tryz.func53,Tryz.ntmps53
  go_wp2_with fail
  go_end0
  exact .inr ⟨_,rfl,rfl,HR.out⟩
set_option maxHeartbeats 8000000 in
theorem rassign_any (w0:World) (c:Ctx) (L:List Own) (kn:List KV) (st:St) (n:Nd) (ro:Option Addr) (rn rc:Nat) (p:BT) (w:World) (h:RS w0 c L kn st w) (hst:Std w0) (hE:EnvOk st.env 21) (hn:NdOk n) :
  Calls Tryz.prog 54 #[.pointer (some ⟨c.rb,0,none⟩),ndV n (.slice ro rn rc),atV p n.no] w (StPost w0 c L kn (assignE p n st)):=by
 have B0:=BoxAt.start w n (.slice ro rn rc) p n.no
 have h1:=h.below B0.back
 obtain ⟨s,k1,k2,k3⟩:=h1
 have hR:=k1.re hst hE
 obtain ⟨o,m,cc,hc,hEnv⟩:=hR.cell
 have HB0:=Lib.hid B0
 have HI:=Lib.hid k1
 have HX:Hid (∀ W,Below (plB (ndB w n (.slice ro rn rc)) p n.no).heap.size (plB (ndB w n (.slice ro rn rc)) p n.no) W→Calls Tryz.prog 75 #[.agg #[.slice o m cc],.string (txt n.name),.string (txt n.op),.string (txt n.text)] W (AssPost (assignT st.env n.name n.op n.text) W)):=fun W hb =>
  assign_any o m cc st.env n.name n.op n.text W (hR.std.below hb) (hEnv.below hb) hE (by have:=hn.text;omega) (by have:=hn.name;omega)
 have HV1:Hid (∀ e,assignT st.env n.name n.op n.text=.error e→assignE p n st=.error (e,p,n.no)):=fun e he=>by unfold assignE;rw [he]
 have HV2:Hid (∀ v,assignT st.env n.name n.op n.text=.ok v→assignE p n st=.ok { st with env:=v }):=fun v hv=>by unfold assignE;rw [hv]
 generalize assignT st.env n.name n.op n.text=r at HX HV1 HV2
 obtain ⟨q0,q1,q2,q3,q4,q5,q6,q7,q8,q9⟩:=node_cells0 B0.cells
 have p0:=B0.path
 have p1:=B0.num
 have HS:Hid (SvOk c s st∧∀ y∈kn,y∈s.known):=⟨k2,k3⟩
 have HK:Hid (∀ W,Below (plB (ndB w n (.slice ro rn rc)) p n.no).heap.size (plB (ndB w n (.slice ro rn rc)) p n.no) W→W.cell? ⟨c.rb,4,none⟩=some (.slice o m cc)∧W.cell? ⟨w.heap.size,2,none⟩=some (.string (txt n.op))∧W.cell? ⟨w.heap.size,3,none⟩=some (.string (txt n.name))∧W.cell? ⟨w.heap.size,4,none⟩=some (.string (txt n.text))):=fun W hb=>by
  have hlt:=hR.lt
  have hsz:=B0.size
  exact ⟨(hb.cell (p:=⟨c.rb,4,none⟩) hlt).trans hc,(hb.cell (p:=⟨w.heap.size,2,none⟩) (by show w.heap.size < _;omega)).trans q2,(hb.cell (p:=⟨w.heap.size,3,none⟩) (by show w.heap.size < _;omega)).trans q3,(hb.cell (p:=⟨w.heap.size,4,none⟩) (by show w.heap.size < _;omega)).trans q4⟩
 have hW0:=Below.refl (plB (ndB w n (.slice ro rn rc)) p n.no).heap.size (plB (ndB w n (.slice ro rn rc)) p n.no)
 have hW1:=below_drew1 (plB (ndB w n (.slice ro rn rc)) p n.no)
 have hW3:Below (plB (ndB w n (.slice ro rn rc)) p n.no).heap.size (plB (ndB w n (.slice ro rn rc)) p n.no) ((plB (ndB w n (.slice ro rn rc)) p n.no).alloc (.cells #[.slice none 0 0] 26)).drew:=below_drewB (hW0.alloc (Nat.le_refl _) _)
 have hW4:=hW3.size
 simp only [World.size_alloc] at hW4
 clear B0 k1 hR hEnv h hn k2 k3
 go_enter Tryz.func54,Tryz.ntmps54
 go_wp2_with fail
 go_region_held3 (fun W=>W.cell? ⟨c.rb,4,none⟩=some (.slice o m cc)∧W.cell? ⟨w.heap.size,2,none⟩=some (.string (txt n.op))∧W.cell? ⟨w.heap.size,3,none⟩=some (.string (txt n.name))∧W.cell? ⟨w.heap.size,4,none⟩=some (.string (txt n.text)))
  (first | exact HK.out _ (by assumption) | exact HK.out _ (hW2.alloc hW2.size _) | exact HK.out _ hW3 | exact HK.out _ (hW2.setCell (p:=⟨w.heap.size+1+1,0,none⟩) (by simp) _) | (go_keep;done))
  (first | (go_at_call 75;refine (HX.out _ (by first | assumption | exact hW3)).mono ?_;rintro e w2 ⟨o2,m2,c2,j2,rfl,hb2,hor⟩;have HB2:Hid (Below (plB (ndB w n (.slice ro rn rc)) p n.no).heap.size (plB (ndB w n (.slice ro rn rc)) p n.no) w2):=(by first | exact hb2 | exact hW1.trans (hb2.mono hW1.size) | exact hW3.trans (hb2.mono hW3.size));have hW2:=HB2.out;(try (obtain ⟨j0,j1⟩:=box_behind hb2;simp only [World.size_alloc] at j0 j1));have HBx:=Lib.hid hb2;have HOr:=Lib.hid hor;clear hb2 hor))
 ·have HAsg:=Lib.hid (asg_new (W:=plB (ndB w n (.slice ro rn rc)) p n.no) HB2.out (Nat.le_refl _) HOr.out)
  generalize w2.alloc (.cells #[.slice o2 m2 c2] 26)=W5 at HAsg ⊢
  generalize w2.heap.size=bx at HAsg ⊢
  generalize plB (ndB w n (.slice ro rn rc)) p n.no=W1 at HB0 HI HX HAsg hc
  clear HOr HBx HB2 hW2 HX hc HK hW0 hW1 hW3 hW4 q0 q1 q2 q3 q4 q5 q6 q7 q8 q9 p0 p1
  rename_i hheld
  clear hheld
  have B5:=HB0.out.below HAsg.out.back
  have p0:=B5.path
  have p1:=B5.num
  have HC:=Lib.hid (check_any j2 p n.no W5)
  have HB5:=Lib.hid B5
  obtain ⟨b0,b1⟩:=one_cell HAsg.out.box
  clear B5
  go_wp2_with fail
  refine HC.out.mono ?_
  rintro e w6 ⟨hb6,⟨hz,rfl⟩ | ⟨hz,rfl⟩⟩
  ·have HA6:=Lib.hid (HAsg.out.below hb6)
   rcases HA6.out.told with ⟨_,h0⟩ | ⟨_,env,hr,hE2⟩
   ·exact absurd hz h0
   have HV:=Lib.hid (HV2.out env hr)
   have hI:=HI.out.setEnv HA6.out.back hE2
   have hI0:=HI.out.below HA6.out.back
   obtain ⟨_,_,_,_,d4,_,_,_,_,df⟩:=nine_cells hI0.rcells
   have df4:=df 4
   have HI2:=Lib.hid hI
   obtain ⟨b0,b1⟩:=one_cell HA6.out.box
   clear hI hI0 hb6 HC HAsg hr hE2 hz df
   go_wp2_with fail
   go_end0
   exact .inr ⟨_,HV.out,rfl,_,HI2.out,⟨HS.out.1.rules,HS.out.1.known,HS.out.1.nn,HS.out.1.few⟩,HS.out.2⟩
  ·rcases HAsg.out.told with ⟨hr,_⟩ | ⟨h0,_⟩
   ·have HV:=Lib.hid (HV1.out j2 hr)
    have HR:=Lib.hid ((HI.out.below (HAsg.out.back.trans (hb6.mono HAsg.out.back.size))).drop)
    clear hb6 HC HAsg hr hz
    unfold panE
    go_wp2_with fail
    exact ⟨rfl,.inl ⟨_,HV.out,rfl,HR.out⟩⟩
   ·exact absurd h0 hz
 ·have HAsg:=Lib.hid (asg_old HB2.out HBx.out HOr.out)
  simp only [World.size_alloc] at HAsg
  generalize w2.setCell ⟨w.heap.size+1+1,0,none⟩ (.slice o2 m2 c2)=W5 at HAsg ⊢
  generalize w.heap.size+1+1=bx at HAsg ⊢
  generalize plB (ndB w n (.slice ro rn rc)) p n.no=W1 at HB0 HI HX HAsg hc
  clear HOr HBx HB2 hW2 HX hc HK hW0 hW1 hW3 hW4 q0 q1 q2 q3 q4 q5 q6 q7 q8 q9 p0 p1
  rename_i hheld
  clear hheld
  have B5:=HB0.out.below HAsg.out.back
  have p0:=B5.path
  have p1:=B5.num
  have HC:=Lib.hid (check_any j2 p n.no W5)
  have HB5:=Lib.hid B5
  obtain ⟨b0,b1⟩:=one_cell HAsg.out.box
  clear B5
  go_wp2_with fail
  refine HC.out.mono ?_
  rintro e w6 ⟨hb6,⟨hz,rfl⟩ | ⟨hz,rfl⟩⟩
  ·have HA6:=Lib.hid (HAsg.out.below hb6)
   rcases HA6.out.told with ⟨_,h0⟩ | ⟨_,env,hr,hE2⟩
   ·exact absurd hz h0
   have HV:=Lib.hid (HV2.out env hr)
   have hI:=HI.out.setEnv HA6.out.back hE2
   have hI0:=HI.out.below HA6.out.back
   obtain ⟨_,_,_,_,d4,_,_,_,_,df⟩:=nine_cells hI0.rcells
   have df4:=df 4
   have HI2:=Lib.hid hI
   obtain ⟨b0,b1⟩:=one_cell HA6.out.box
   clear hI hI0 hb6 HC HAsg hr hE2 hz df
   go_wp2_with fail
   go_end0
   exact .inr ⟨_,HV.out,rfl,_,HI2.out,⟨HS.out.1.rules,HS.out.1.known,HS.out.1.nn,HS.out.1.few⟩,HS.out.2⟩
  ·rcases HAsg.out.told with ⟨hr,_⟩ | ⟨h0,_⟩
   ·have HV:=Lib.hid (HV1.out j2 hr)
    have HR:=Lib.hid ((HI.out.below (HAsg.out.back.trans (hb6.mono HAsg.out.back.size))).drop)
    clear hb6 HC HAsg hr hz
    unfold panE
    go_wp2_with fail
    exact ⟨rfl,.inl ⟨_,HV.out,rfl,HR.out⟩⟩
   ·exact absurd h0 hz
end Go.Proofs.YtmfjolmfbdbegaaGreatDoor

namespace Go.Proofs.YtmfjolmfbdbegaaGreatDoor
open Go.RowKit Go.Shelf Go.Maps
attribute [local go_sem] Oper.semAt_some
theorem same_step {l1 l2:List BT} {k:Nat} {x y:BT} (h1:l1[k]? = some x) (h2:l2[k]? = some y) (ht:l1.take k=l2.take k):(x=y→l1.take (k+1)=l2.take (k+1))∧(x≠y→l1≠l2):=by
 refine ⟨fun e=>?_,fun hne e=>?_⟩
 ·obtain ⟨a1,a2⟩:=List.getElem?_eq_some_iff.1 h1
  obtain ⟨b1,b2⟩:=List.getElem?_eq_some_iff.1 h2
  rw [List.take_succ_eq_append_getElem a1,List.take_succ_eq_append_getElem b1,a2,b2,ht,e]
 ·rw [e,h2] at h1
  exact hne (Option.some.inj h1).symm
set_option maxRecDepth 100000 in
set_option maxHeartbeats 4000000 in
theorem equal12_any (v1 v2:Value) (l1 l2:List BT) (w:World) (h1:ReadsO w w.heap.size v1 (l1.map txt)) (h2:ReadsO w w.heap.size v2 (l2.map txt)) (hl:l1.length≤1000000) :
  Calls Tryz.prog 123 #[v1,v2] w fun e w'=>e=.returned (.bool (decide (l1=l2)))∧Below w.heap.size w w':=by
 obtain ⟨o1,c1,rfl,hx1⟩:=h1
 obtain ⟨o2,c2,rfl,hx2⟩:=h2
 rw [List.length_map] at hx1 hx2 ⊢
 rw [List.length_map]
 by_cases hlen:l1.length=l2.length
 ·obtain ⟨n,hn⟩:∃ n,n=l1.length:=⟨_,rfl⟩
  rw [← hlen,← hn] at hx2 ⊢
  rw [← hn] at hx1 hl
  have HX:Hid (∀ k,k < n→∃ x y b1 f1 b2 f2,l1[k]? = some x∧l2[k]? = some y∧o1=some ⟨b1,f1,none⟩∧o2=some ⟨b2,f2,none⟩∧n≤c1∧n≤c2∧∀ W,Below w.heap.size w W→W.cell? ⟨b1,f1+k,none⟩=some (.string (txt x))∧W.cell? ⟨b2,f2+k,none⟩=some (.string (txt y))):=fun k hk=>by
   have k1:l1[k]? = some l1[k]:=List.getElem?_eq_getElem (by omega)
   have k2:l2[k]? = some l2[k]:=List.getElem?_eq_getElem (by omega)
   obtain ⟨b1,f1,p1,p2,p3,p4⟩:=hx1 k (txt l1[k]) (by rw [List.getElem?_map,k1];rfl)
   obtain ⟨b2,f2,q1,q2,q3,q4⟩:=hx2 k (txt l2[k]) (by rw [List.getElem?_map,k2];rfl)
   exact ⟨_,_,b1,f1,b2,f2,k1,k2,p1,q1,p3,q3,fun W hb=>⟨(hb.cell (p:=⟨b1,f1+k,none⟩) p2).trans p4,(hb.cell (p:=⟨b2,f2+k,none⟩) q2).trans q4⟩⟩
  have HN:=Lib.hid hn
  have HN2:Hid (n=l2.length):=hn.trans hlen
  clear hx1 hx2 hn hlen
  go_enter Tryz.func123,Tryz.ntmps123
  go_wp2
  go_loopw [13] (fun i wr=>∃ k:Nat,k≤n∧i=.int .i64 k∧Hid (l1.take k=l2.take k)∧Below w.heap.size w wr) (fun i _=>n - (intOf i).toNat)
  case atStart=>exact ⟨0,Nat.zero_le _,rfl,rfl,Below.refl _ _⟩
  case round =>
   obtain ⟨k,hk,rfl,HT,hb⟩:=hrel
   by_cases hkn:k < n
   ·obtain ⟨x,y,b1,f1,b2,f2,g1,g2,rfl,rfl,hc1,hc2,hc⟩:=HX.out k hkn
    obtain ⟨p,q⟩:=hc wr hb
    have hb9:=Lib.hid (fun m=>hb.trans (drewN_below _ wr m))
    obtain ⟨s1,s2⟩:=same_step g1 g2 HT.out
    have ht:=txt_same x y
    have hki:(k:Int) < (n:Int):=by omega
    clear hc hb g1 g2
    by_cases hxy:x=y
    ·have HT2:=Lib.hid (s1 hxy)
     have e1:(!((txt x).toList == (txt y).toList))=false:=by rw [ht];simp [hxy]
     clear s1 s2 ht hxy HT
     go_wp2
     go_quiet (fail)
     go_wp2
     go_roundw
     case rel=>exact ⟨k+1,hkn,by go_num,HT2,hb9.out _⟩
     case measure=>simp [intOf];omega
    ·have HNe:=Lib.hid (s2 hxy)
     have e1:(!((txt x).toList == (txt y).toList))=true:=by rw [ht];simp [hxy]
     clear s1 s2 ht hxy HT
     go_wp2
     go_quiet (fail)
     go_wp2
     go_ret
     exact ⟨by rw [decide_eq_false HNe.out];rfl,hb9.out _⟩
   ·have HB:=Lib.hid hb
    have HE:Hid (l1=l2):=by
     have:=HT.out
     rwa [List.take_of_length_le (by rw [← HN.out];omega),List.take_of_length_le (by rw [← HN2.out];omega)] at this
    clear hb HT
    go_wp2
    go_ret
    exact ⟨by rw [decide_eq_true HE.out];rfl,HB.out⟩
 ·have hne:l1≠l2:=fun e=>hlen (by rw [e])
  rw [decide_eq_false hne]
  have e1:((l1.length:Int) != (l2.length:Int))=true:=by rw [bne_iff_ne];omega
  have HB:=Lib.hid (Below.refl w.heap.size w)
  clear hx1 hx2 hlen hne
  generalize l1.length=n1 at *
  generalize l2.length=n2 at *
  go_enter Tryz.func123,Tryz.ntmps123
  go_wp2
  go_ret
  exact ⟨rfl,HB.out⟩
set_option maxRecDepth 100000 in
theorem eql_nil (w:World):(binOp BinOp.eql 28 (.slice none 0 0) (.slice none 0 0)).run Tryz.prog w=.ok (.bool true) w:=by first | rfl | kernel_rfl
set_option maxRecDepth 100000 in
theorem eql_some (a:Addr) (n c:Nat) (w:World):(binOp BinOp.eql 28 (.slice (some a) n c) (.slice none 0 0)).run Tryz.prog w=.ok (.bool false) w:=by first | rfl | kernel_rfl
set_option maxRecDepth 100000 in
set_option maxHeartbeats 4000000 in
theorem clone12_any (v:Value) (l:List BT) (w:World) (h:RecIn w v l) (hl:l.length≤1000000) :
  Calls Tryz.prog 124 #[v] w fun e w'=>∃ o c,e=.returned (.slice o l.length c)∧In w [oTexts (.slice o l.length c) l] w':=by
 rcases h with ⟨rfl,rfl⟩ | ⟨g,c,rfl,hg,hc,hx⟩
 ·have HI:Hid (In w [oTexts (.slice none 0 0) []] w):=(In.nil (Below.refl _ w)).rowNil _ _ _
  have hq1:=eql_nil
  have hq2:=eql_some
  go_enter Tryz.func124,Tryz.ntmps124
  go_wp2
  go_ret
  exact ⟨none,0,rfl,HI.out⟩
 ·have hb0:Below w.heap.size w (w.alloc (.cells #[] 9)):=(Below.refl _ w).alloc (Nat.le_refl _) _
  obtain ⟨i0,hi,hz0,hz1,hz2⟩:=info_parts infoStrV
  have h0:(w.alloc (.cells #[] 9)).ownsRow w.heap.size 9 1 (.slice (some ⟨w.heap.size,0,none⟩) 0 0) 0 []:=⟨rfl,.inr ⟨w.heap.size,0,#[],rfl,Nat.le_refl _,World.alloc_heap_new w _,Nat.le_refl _,Nat.zero_le _,rfl,rfl⟩⟩
  obtain ⟨v',w',hrun,h2,h3,h4,h5⟩:=run_append_own_at (P:=Tryz.prog) (w:=w.alloc (.cells #[] 9)) w.heap.size 28 28 9 i0 _ 1 16 Tryz.underlying28 hi hz0 hz1 hz2 rfl (by decide) (.slice (some ⟨w.heap.size,0,none⟩) 0 0) 0 [] h0 ⟨g,0,none⟩ l.length c ((l.map txt).map Value.string) (by simp)
   (fun j u hj=>by
    rw [List.getElem?_map,List.getElem?_map] at hj
    obtain ⟨y,hy,rfl⟩:=Option.map_eq_some_iff.1 hj
    obtain ⟨x,hx',rfl⟩:=Option.map_eq_some_iff.1 hy
    rw [Addr.add_lit,Nat.zero_add]
    exact (hb0.cell (p:=⟨g,j,none⟩) hg).trans (hx j x hx'))
   (fun u hu=>by
    obtain ⟨y,_,rfl⟩:=List.mem_map.1 hu
    rfl) (by unfold maxLen;omega) (by omega) (by simp)
  rw [Nat.zero_add,List.nil_append] at h2
  have hI:In w [oTexts v' l] w':=In.ofOwns (hb0.grown h3 (by simp) (fun k hk=>by simp [Value.ownBlock] at hk;omega)) (Nat.le_refl _) h2
  obtain ⟨o2,c2,rfl⟩:=hI.textLen (List.mem_singleton.2 rfl)
  have HI:=Lib.hid hI
  clear hI h2 h3 h4 h5 h0 hb0 hx hz0 hz1 hz2 hi
  generalize l.length=n at *
  have hq1:=eql_nil
  have hq2:=eql_some
  go_enter Tryz.func124,Tryz.ntmps124
  go_wp2_with (at_builtin;refine wpList_append_eq rfl _ _ 28 rfl _ _ _ w' rfl rfl hrun ?_)
  go_ret
  exact ⟨_,_,rfl,HI.out⟩
end Go.Proofs.YtmfjolmfbdbegaaGreatDoor

namespace Go.Proofs.YtmfjolmfbdbegaaGreatDoor
open Go.RowKit Go.Shelf Go.Maps
theorem erase_perm:∀ (l:List Own) (i:Nat) (h:i < l.length),(l[i] :: l.eraseIdx i).Perm l
 | _ :: _,0,_=>.refl _
 | _ :: r,i+1,h=>(List.Perm.swap _ _ _).trans ((erase_perm r i (by simpa using h)).cons _)
section
variable {w0 w w':World} {l L:List Own} {e:Own} {c:Ctx} {s:SV} {st:St}
theorem In.pull (i:Nat) (h:In w0 l w) (he:l[i]? = some e):In w0 (e :: l.eraseIdx i) w:=by
 obtain ⟨hi,rfl⟩:=List.getElem?_eq_some_iff.1 he
 exact h.perm (erase_perm l i hi).symm
theorem In.push (i:Nat) (h:In w0 (e :: l) w) (hi:i≤l.length):In w0 (l.insertIdx i e) w:=h.perm (List.perm_insertIdx e l hi).symm
theorem rowRules:RowW 27 41 6 :=
 rowW_of (.agg #[.slice none 0 0,.bool false,.string ⟨#[]⟩,.slice none 0 0,.slice none 0 0,.slice none 0 0]) 120 Tryz.underlying27 (by kernel_rfl) (by decide) rfl (by decide)
abbrev aggR (x:RuleM) (tv iv ov rv:Value):Value:=.agg #[tv,.bool x.isOpen,.string (txt x.stem),iv,ov,rv]
theorem In.pushRule {x:RuleM} {tv iv ov rv:Value} (h:In w0 (owns c s st++(oTexts tv x.targets :: oTexts iv x.inputs :: oTexts ov x.order :: oTexts rv x.recipe :: L)) w) (h1:∀ u∈encR (x,tv,iv,ov,rv),u.oneCell'=true) (hl:s.rules.length < 1073741824) (ty:TypeId) :
  ∃ o cc w',(Builtin.append_ #[27,27] ty #[s.rv,.slice (some ⟨w.heap.size,0,none⟩) 1 1]).run Tryz.prog (w.alloc (.cells #[tv,.bool x.isOpen,.string (txt x.stem),iv,ov,rv] 41))=.ok (.slice o (s.rules.length+1) cc) w' ∧
   w'.cell? ⟨c.rb,5,none⟩=some s.rv∧w'.frozen? ⟨c.rb,5,none⟩=false ∧
   In w0 (owns c { s with rv:=.slice o (s.rules.length+1) cc,rules:=s.rules++[(x,tv,iv,ov,rv)] } { st with rules:=st.rules++[x] }++L) (w'.setCell ⟨c.rb,5,none⟩ (.slice o (s.rules.length+1) cc)):=by
 have k1:=h.pull 2 rfl
 obtain ⟨o,cc,w',hrun,k2⟩:=In.rowPush (enc:=encR) (v:=s.rv) (l:=s.rules) rowRules k1 (x,tv,iv,ov,rv) rfl h1 hl ty
 have k3:=k2.push 2 (by simp [owns])
 have hc:=k3.cells (b:=c.rb) (cs:=rCells c s st.done) (t := 86) (by simp [owns])
 obtain ⟨_,_,_,_,_,q5,_,_,_,qf⟩:=nine_cells hc
 refine ⟨o,cc,w',hrun,q5,qf 5,?_⟩
 have k4:=In.set k3 5 (.slice o (s.rules.length+1) cc)
 have k5:=k4.pull 12 rfl
 have k6:=k5.pull 12 rfl
 have k7:=k6.pull 12 rfl
 have k8:=k7.pull 12 rfl
 have k10:=In.pack (l1:=[oTexts tv x.targets,oTexts iv x.inputs,oTexts ov x.order,oTexts rv x.recipe]) k8
 have k11:=k10.pull 4 rfl
 have k12:=In.unpack k11
 have k13:=k12.perm (l':=(s.rules.map ruleO++[ruleO (x,tv,iv,ov,rv)])++_) (by rw [List.append_assoc];exact List.Perm.refl _)
 have k14:=In.pack k13
 have k15:=k14.push 3 (Nat.le_add_left 3 _)
 have e1:(s.rules++[(x,tv,iv,ov,rv)]).map ruleO=s.rules.map ruleO++[ruleO (x,tv,iv,ov,rv)]:=by simp
 show In w0 (([oCells c.rb _ _,_,_,oAll ((s.rules++[(x,tv,iv,ov,rv)]).map ruleO),_,_,_,_,_]:List Own)++L) _
 rw [e1]
 exact k15
theorem In.pushPhony {iv:Value} {is:List BT} (h:In w0 (owns c s st++L) w) (hm:oTexts iv is∈L) (hl:st.phony.length+is.length < 1073741824) (ty:TypeId) :
  ∃ o n cc w',(Builtin.append_ #[28,28] ty #[s.pv,iv]).run Tryz.prog w=.ok (.slice o n cc) w' ∧
   w'.cell? ⟨c.rb,6,none⟩=some s.pv∧w'.frozen? ⟨c.rb,6,none⟩=false ∧
   In w0 (owns c { s with pv:=.slice o n cc } { st with phony:=st.phony++is }++L) (w'.setCell ⟨c.rb,6,none⟩ (.slice o n cc)):=by
 have k1:=h.pull 4 rfl
 obtain ⟨o,n,cc,w',hrun,k2⟩:=In.rowAppend (enc:=encS) (v:=s.pv) (u:=iv) (l:=st.phony) (ys:=is) rowStrings.wide k1 (by
  show oTexts iv is∈([_,_,_,_,_,_,_,_]:List Own)++L
  exact List.mem_append_right _ hm) (fun _=>rfl) (fun x cc hcc=>by rw [List.mem_singleton.1 hcc];rfl) hl ty
 have k3:=k2.push 4 (Nat.le_add_left 4 _)
 have hc:=k3.cells (b:=c.rb) (cs:=rCells c s st.done) (t := 86) (by simp [owns])
 obtain ⟨_,_,_,_,_,_,q6,_,_,qf⟩:=nine_cells hc
 exact ⟨o,n,cc,w',hrun,q6,qf 6,In.set k3 6 (.slice o n cc)⟩
theorem In.pushRead (h:In w0 (owns c s st++L) w) (x:BT) (hl:st.read.length < 1073741824) (ty:TypeId) :
  ∃ o cc w',(Builtin.append_ #[28,28] ty #[s.wv,.slice (some ⟨w.heap.size,0,none⟩) 1 1]).run Tryz.prog (w.alloc (.cells #[.string (txt x)] 9))=.ok (.slice o (st.read.length+1) cc) w' ∧
   w'.cell? ⟨c.rb,8,none⟩=some s.wv∧w'.frozen? ⟨c.rb,8,none⟩=false ∧
   In w0 (owns c { s with wv:=.slice o (st.read.length+1) cc } { st with read:=st.read++[x] }++L) (w'.setCell ⟨c.rb,8,none⟩ (.slice o (st.read.length+1) cc)):=by
 have k1:=h.pull 5 rfl
 obtain ⟨o,cc,w',hrun,k2⟩:=k1.textPush x hl ty
 have k3:=k2.push 5 (Nat.le_add_left 5 _)
 have hc:=k3.cells (b:=c.rb) (cs:=rCells c s st.done) (t := 86) (by simp [owns])
 obtain ⟨_,_,_,_,_,_,_,_,q8,qf⟩:=nine_cells hc
 exact ⟨o,cc,w',hrun,q8,qf 8,In.set k3 8 (.slice o (st.read.length+1) cc)⟩
end
end Go.Proofs.YtmfjolmfbdbegaaGreatDoor
