/-
  The library's contracts for strings.Builder, at this program's numbers.
  Rows of structs that lie anywhere: read, made longer by one; which blocks turn. No condition but that a row stays below 2^40 elements.
  A strings.Builder that lies anywhere: what WriteString and String do to it; which blocks turn. No condition but that the text stays below 2^40 bytes.
-/
import Derived.Shelf.Strings.BuilderF
import Derived.Maps.AppendAt
import Derived.KernelRfl
import Derived.Lib.Builder
import Derived.Test.YtmfjolmfbdbegaaGreatDoorProg
import Derived.Test.YtmfjolmfbdbegaaGreatDoorIter
import Derived.Test.YtmfjolmfbdbegaaGreatDoorHG
import Derived.Test.YtmfjolmfbdbegaaGreatDoorHX
namespace Go.Proofs.YtmfjolmfbdbegaaGreatDoor
open Go.RowKit Go.Shelf
def lays169_ren:Go.Shelf.Ren:=⟨fun | 169 => 134 | n=>n,fun | 0 => 0 | 3 => 3 | 5 => 5 | 9 => 9 | 37 => 154 | 70 => 174 | 72 => 176 | 127 => 202 | n=>n,fun | n=>n⟩
theorem lays169:Go.Proofs.Lays.n169 Tryz.prog lays169_ren:={
 mixed:=by kernel_rfl
 f169:=Tryz.func134.trans (congrArg some (by kernel_rfl))
 t0:=Tryz.underlying0
 a0:=Tryz.isAgg0
 z0:=Tryz.sizeOf0
 v0:=Tryz.zeroValue0
 t3:=Tryz.underlying3
 a3:=Tryz.isAgg3
 z3:=Tryz.sizeOf3
 v3:=Tryz.zeroValue3
 t9:=Tryz.underlying9
 a9:=Tryz.isAgg9
 z9:=Tryz.sizeOf9
 v9:=Tryz.zeroValue9
 t37:=Tryz.underlying154
 a37:=Tryz.isAgg154
 z37:=Tryz.sizeOf154
 v37:=Tryz.zeroValue154
 t70:=Tryz.underlying174
 a70:=Tryz.isAgg174
 z70:=Tryz.sizeOf174
 v70:=Tryz.zeroValue174
 t72:=Tryz.underlying176
 a72:=Tryz.isAgg176
 z72:=Tryz.sizeOf176
 v72:=Tryz.zeroValue176
 t127:=Tryz.underlying202
 a127:=Tryz.isAgg202
 z127:=Tryz.sizeOf202
 v127:=Tryz.zeroValue202 }
theorem extra169:Builder.Extra Tryz.prog lays169_ren:={
 sizeBuilder:=by kernel_rfl
 liesBuilder:=by kernel_rfl
 t5:=Tryz.underlying5
 a5:=Tryz.isAgg5
 z5:=Tryz.sizeOf5
 v5:=Tryz.zeroValue5
 infoByte:=by kernel_rfl
 cellsByte:=by kernel_rfl
 sizeByte:=by kernel_rfl
 neB5:=by decide }
def lays166_ren:Go.Shelf.Ren:=⟨fun | 166 => 133 | 240 => 158 | 276 => 171 | n=>n,fun | 0 => 0 | 3 => 3 | 4 => 4 | 5 => 5 | 9 => 9 | 20 => 20 | 37 => 154 | 70 => 174 | 72 => 176 | 75 => 179 | 80 => 182 | 164 => 213 | n=>n,fun | n=>n⟩
theorem lays166:Go.Proofs.Lays.n166 Tryz.prog lays166_ren:={
 mixed:=by kernel_rfl
 f166:=Tryz.func133.trans (congrArg some (by kernel_rfl))
 f240:=Tryz.func158.trans (congrArg some (by kernel_rfl))
 f276:=Tryz.func171.trans (congrArg some (by kernel_rfl))
 t0:=Tryz.underlying0
 a0:=Tryz.isAgg0
 z0:=Tryz.sizeOf0
 v0:=Tryz.zeroValue0
 t3:=Tryz.underlying3
 a3:=Tryz.isAgg3
 z3:=Tryz.sizeOf3
 v3:=Tryz.zeroValue3
 t4:=Tryz.underlying4
 a4:=Tryz.isAgg4
 z4:=Tryz.sizeOf4
 v4:=Tryz.zeroValue4
 t9:=Tryz.underlying9
 a9:=Tryz.isAgg9
 z9:=Tryz.sizeOf9
 v9:=Tryz.zeroValue9
 t20:=Tryz.underlying20
 a20:=Tryz.isAgg20
 z20:=Tryz.sizeOf20
 v20:=Tryz.zeroValue20
 t37:=Tryz.underlying154
 a37:=Tryz.isAgg154
 z37:=Tryz.sizeOf154
 v37:=Tryz.zeroValue154
 t70:=Tryz.underlying174
 a70:=Tryz.isAgg174
 z70:=Tryz.sizeOf174
 v70:=Tryz.zeroValue174
 t72:=Tryz.underlying176
 a72:=Tryz.isAgg176
 z72:=Tryz.sizeOf176
 v72:=Tryz.zeroValue176
 t75:=Tryz.underlying179
 a75:=Tryz.isAgg179
 z75:=Tryz.sizeOf179
 v75:=Tryz.zeroValue179
 t164:=Tryz.underlying213
 a164:=Tryz.isAgg213
 z164:=Tryz.sizeOf213
 v164:=Tryz.zeroValue213 }
theorem extra166:Builder.Extra Tryz.prog lays166_ren:={
 sizeBuilder:=by kernel_rfl
 liesBuilder:=by kernel_rfl
 t5:=Tryz.underlying5
 a5:=Tryz.isAgg5
 z5:=Tryz.sizeOf5
 v5:=Tryz.zeroValue5
 infoByte:=by kernel_rfl
 cellsByte:=by kernel_rfl
 sizeByte:=by kernel_rfl
 neB5:=by decide }
end Go.Proofs.YtmfjolmfbdbegaaGreatDoor

namespace Go.Proofs.YtmfjolmfbdbegaaGreatDoor
open Go.RowKit
theorem turned_grown {X:Nat→Prop} {a b:World} {row:Option Nat} (h:a.grownBy b row) (hr:∀ g,row=some g→X g):Turned X a b :=
 ⟨h.os,h.tape,h.output,h.size,fun k hk hx=>h.block k hk (fun e=>hx (hr k e.symm))⟩
structure RowT (t E:TypeId) (k:Nat):Prop where
 under:Tryz.prog.underlying t=some (.slice E)
 pos:0 < k
 info:∃ i z bytes,Tryz.prog.info? E=some i∧i.zero=some z∧i.size=k∧i.bytes=bytes∧z.cells.size=k∧bytes≤64
theorem rowT_of {t E:TypeId} {k:Nat} (z:Value) (bytes:Nat) (hu:Tryz.prog.underlying t=some (.slice E)) (hi:(Tryz.prog.info? E).map (fun i=>(i.zero,i.size,i.bytes))=some (some z,k,bytes)) (hk:0 < k) (hz:z.cells.size=k) (hb:bytes≤64):RowT t E k:=by
 obtain ⟨i,h1,h2,h3,h4⟩:=info_parts hi
 exact ⟨hu,hk,i,z,bytes,h1,h2,h3,h4,hz,hb⟩
variable {α:Type}
def RowR (E:TypeId) (k:Nat) (enc:α→List Value) (w:World) (P:Nat→Prop) (v:Value) (l:List α):Prop :=
 w.ownsRow 0 E k v l.length (l.flatMap enc)∧∀ g,v.ownBlock=some g→P g
theorem RowR.nil (E:TypeId) (k:Nat) (enc:α→List Value) (w:World) (P:Nat→Prop):RowR E k enc w P (.slice none 0 0) []:=⟨⟨by simp,.inl ⟨rfl,rfl⟩⟩,by simp [Value.ownBlock]⟩
theorem RowR.kept {E:TypeId} {k:Nat} {enc:α→List Value} {w w':World} {P X:Nat→Prop} {v:Value} {l:List α} (h:RowR E k enc w P v l) (hT:Turned X w w') (hd:∀ n,P n→¬ X n):RowR E k enc w' P v l :=
 ⟨hT.ownsRow h.1 (fun r hr=>hd r (h.2 r hr)),h.2⟩
theorem RowR.wider {E:TypeId} {k:Nat} {enc:α→List Value} {w:World} {P Q:Nat→Prop} {v:Value} {l:List α} (h:RowR E k enc w P v l) (hPQ:∀ n,P n→Q n):RowR E k enc w Q v l:=⟨h.1,fun g hg=>hPQ g (h.2 g hg)⟩
theorem RowR.lt {E:TypeId} {k:Nat} {enc:α→List Value} {w:World} {P:Nat→Prop} {v:Value} {l:List α} (h:RowR E k enc w P v l):∀ g,v.ownBlock=some g→g < w.heap.size:=fun g hg=>by
 rcases h.1.2 with ⟨rfl,_⟩ | ⟨g',cap,cur,rfl,_,hgg,_⟩
 ·simp [Value.ownBlock] at hg
 ·simp [Value.ownBlock] at hg
  subst hg
  exact (Array.getElem?_eq_some_iff.1 hgg).1
theorem RowR.tight {E:TypeId} {k:Nat} {enc:α→List Value} {w:World} {P:Nat→Prop} {v:Value} {l:List α} (h:RowR E k enc w P v l):RowR E k enc w (fun n=>P n∧n < w.heap.size) v l:=⟨h.1,fun g hg=>⟨h.2 g hg,h.lt g hg⟩⟩
theorem flatMap_get {enc:α→List Value} {k:Nat} (hk:∀ x,(enc x).length=k):∀ (l:List α) (i j:Nat) (x:α),l[i]? = some x→j < k→(l.flatMap enc)[i*k+j]? = (enc x)[j]?
 | [],i,j,x,h,_=>by simp at h
 | y :: r,0,j,x,h,hj=>by
  simp at h;subst h
  rw [List.flatMap_cons,List.getElem?_append_left (by rw [hk];omega)];simp
 | y :: r,i+1,j,x,h,hj=>by
  rw [List.flatMap_cons,List.getElem?_append_right (by rw [hk,Nat.add_mul];omega),hk,← flatMap_get hk r i j x (by simpa using h) hj]
  congr 1
  rw [Nat.add_mul];omega
theorem RowR.shape {E:TypeId} {k:Nat} {enc:α→List Value} {w:World} {P:Nat→Prop} {v:Value} {l:List α} (h:RowR E k enc w P v l) (hk:∀ x,(enc x).length=k) :
  ∃ o c,v=.slice o l.length c∧l.length≤c∧c≤maxLen∧(∀ a,o=some a→∃ g,a=⟨g,0,none⟩∧P g)∧∀ i x,l[i]? = some x→∃ g,o=some ⟨g,0,none⟩∧∀ j,j < k→w.cell? ⟨g,i*k+j,none⟩=(enc x)[j]?:=by
 rcases h.1.2 with ⟨rfl,h0⟩ | ⟨g,cap,cur,rfl,hb,hg,h1,h2,h3,h4⟩
 ·have:l=[]:=List.eq_nil_of_length_eq_zero h0
  subst this
  exact ⟨none,0,rfl,Nat.le_refl _,by simp [maxLen],by simp,by simp⟩
 ·refine ⟨some ⟨g,0,none⟩,cap,rfl,h1,h2,fun a ha=>⟨g,(Option.some.inj ha).symm,h.2 g (by simp [Value.ownBlock])⟩,fun i x hx=>⟨g,rfl,fun j hj=>?_⟩⟩
  have hi:i < l.length:=(List.getElem?_eq_some_iff.1 hx).1
  rw [← flatMap_get hk l i j x hx hj,← h4,List.getElem?_take_of_lt ?_]
  ·simp [World.cell?,hg]
  ·calc i*k+j < (i+1)*k:=by rw [Nat.add_mul];omega
    _≤l.length*k:=Nat.mul_le_mul_right _ hi
theorem RowR.push {t E:TypeId} {k:Nat} {enc:α→List Value} {w:World} {P:Nat→Prop} {v:Value} {l:List α} (hT:RowT t E k) (h:RowR E k enc w P v l) (x:α) (hk:(enc x).length=k) (h1:∀ u∈enc x,u.oneCell'=true) (nb c:Nat) (fz:Nat × Nat)
  (hnb:w.heap[nb]? = some (.cells (enc x).toArray E fz)) (hl:l.length < 1099511627776) (ty:TypeId) :
  ∃ v' w',(Builtin.append_ #[t,t] ty #[v,.slice (some ⟨nb,0,none⟩) 1 c]).run Tryz.prog w=.ok v' w'∧RowR E k enc w' (fun n=>P n∨n=w.heap.size) v' (l++[x])∧Turned P w w'∧∃ o c',v'=.slice o (l.length+1) c':=by
 obtain ⟨i,z,bytes,hi,hz,hs,hby,hzs,hb64⟩:=hT.info
 obtain ⟨v',w',hr,h2,h3,h4,h5⟩:=run_append_own_at (P:=Tryz.prog) (w:=w) 0 t ty E i z k bytes hT.under hi hz hs hby hzs hT.pos v l.length _ h.1 ⟨nb,0,none⟩ 1 c (enc x) (by rw [hk,Nat.one_mul]) (fun j u hu=>by
   rw [Addr.add_lit,Nat.zero_add]
   rw [Lib.cell_of_heap hnb]
   simpa using hu) h1 (by unfold maxLen;omega) (by
    calc (l.length+1)*bytes≤1099511627776*64:=Nat.mul_le_mul (by omega) hb64
     _≤140737488355328:=by omega) (Nat.zero_le _)
 refine ⟨v',w',hr,⟨by rw [List.length_append,List.flatMap_append];simpa using h2,fun g hg=>?_⟩,turned_grown h3 h.2,?_⟩
 ·rcases h5 with h5 | h5
  ·exact .inl (h.2 g (h5 ▸ hg))
  ·exact .inr (Option.some.inj (hg.symm.trans h5))
 ·rcases h2.2 with ⟨rfl,h0⟩ | ⟨g,cap,cur,rfl,_⟩
  ·omega
  ·exact ⟨_,_,rfl⟩
theorem turned_below {w w':World} (h:Below w.heap.size w w'):Turned (fun _=>False) w w':=⟨h.os,h.tape,h.output,h.size,fun k hk _=>h.block k hk⟩
abbrev encS (x:BT):List Value:=[.string (txt x)]
theorem rowStrings:RowT 28 9 1 :=
 rowT_of (.string ⟨#[]⟩) 16 Tryz.underlying28 (by kernel_rfl) (by decide) rfl (by decide)
def RowS (w0 w:World) (v:Value) (l:List BT):Prop:=RowR 9 1 encS w (fun n=>w0.heap.size≤n∧n < w.heap.size) v l∧Below w0.heap.size w0 w
section
variable {w0 w w':World} {v:Value} {l:List BT}
theorem RowS.start (h:Below w0.heap.size w0 w):RowS w0 w (.slice none 0 0) []:=⟨RowR.nil _ _ _ _ _,h⟩
theorem RowS.below (h:RowS w0 w v l) (hb:Below w.heap.size w w'):RowS w0 w' v l :=
 ⟨(h.1.kept (turned_below hb) (fun _ _ h=>h)).wider (fun _ hn=>⟨hn.1,Nat.lt_of_lt_of_le hn.2 hb.size⟩),h.2.trans (hb.mono h.2.size)⟩
theorem RowS.reads (h:RowS w0 w v l):ReadsO w w.heap.size v (l.map txt):=by
 obtain ⟨o,c,hv,q1,q2,q3,q4⟩:=h.1.shape (fun _=>rfl)
 refine ⟨o,c,by rw [List.length_map];exact hv,fun j x hj=>?_⟩
 rw [List.getElem?_map] at hj
 obtain ⟨y,hy,rfl⟩:=Option.map_eq_some_iff.1 hj
 obtain ⟨g,hg,hx⟩:=q4 j y hy
 have h0:=hx 0 (by omega)
 rw [Nat.mul_one,Nat.add_zero] at h0
 exact ⟨g,0,hg,h.1.lt g (by rw [hv,hg];rfl),by rw [List.length_map];exact q1,by rw [Nat.zero_add];exact h0⟩
theorem RowS.slice (h:RowS w0 w v l):∃ o c,v=.slice o l.length c∧RowS w0 w (.slice o l.length c) l:=by
 obtain ⟨o,c,hv,_⟩:=h.1.shape (fun _=>rfl)
 exact ⟨o,c,hv,hv ▸ h⟩
theorem RowS.push (h:RowS w0 w v l) (x:BT) (hl:l.length < 1099511627776) (ty:TypeId) :
  ∃ o c w',(Builtin.append_ #[28,28] ty #[v,.slice (some ⟨w.heap.size,0,none⟩) 1 1]).run Tryz.prog (w.alloc (.cells #[.string (txt x)] 9))=.ok (.slice o (l.length+1) c) w'∧RowS w0 w' (.slice o (l.length+1) c) (l++[x]):=by
 have hba:Below w.heap.size w (w.alloc (.cells #[.string (txt x)] 9)):=(Below.refl _ w).alloc (Nat.le_refl _) _
 have h9:=h.below hba
 have hx9:=World.alloc_heap_new w (.cells #[.string (txt x)] 9)
 obtain ⟨v',w',hrun,hR,hT,o,c,rfl⟩:=RowR.push rowStrings h9.1 x rfl (by simp [Value.oneCell']) w.heap.size 1 (0,0) hx9 hl ty
 refine ⟨o,c,w',hrun,hR.tight.wider (fun n hn=>⟨?_,hn.2⟩),h9.2.trans (hT.below (by exact h9.2.size) fun n hn=>hn.1)⟩
 rcases hn.1 with hn | hn
 ·exact hn.1
 ·rw [hn];exact h9.2.size
end
theorem joinOf_isT (P:List BT):joinOf (P.map txt)=joinT P:=by
 unfold joinOf joinT
 rw [List.map_map]
 congr 1
 conv=>rhs;rw [← List.map_id P]
 exact List.map_congr_left fun x _=>txt_data x
theorem wpList_append_eq {P:Program} {w:World} {ops:Array Oper} {rest:List Oper} {o:Oper} {a:Act} {Q:Exit→Act→World→Prop} (hg:o.guard=none) (s x:Operand) (t:TypeId)
  (hop:o.op=Op.call { callee:=Callee.builtin Builtin.append,args:=#[s,x],argTypes:=#[t,t] }) (v u v':Value) (w':World) (hs:a.eval s=v) (hx:a.eval x=u)
  (hrun:(Builtin.append_ #[t,t] o.type #[v,u]).run P w=.ok v' w') (h:wpList P ops Q rest (a.put o.dst v') w'):wpList P ops Q (o :: rest) a w:=by
 refine wpList_plain hg fun K hK=>?_
 unfold Oper.wp
 simp [execOp,hop,resolve,invoke,builtin,hs,hx,hrun,Result.andThen]
 exact hK _ _ h
end Go.Proofs.YtmfjolmfbdbegaaGreatDoor

namespace Go.Proofs.YtmfjolmfbdbegaaGreatDoor
open Go.RowKit Go.Shelf
def BuiltP (w:World) (Y:Nat→Prop) (b:Nat) (p:Value) (l:List UInt8):Prop :=
 ∃ v,w.heap[b]? = some (.cells #[p,v] 176 (0,0))∧w.ownsRowF 0 5 1 v l.length (Lib.byteCells l)∧(l=[]→v=.slice none 0 0)∧Y b∧∀ g,v.ownBlock=some g→Y g
def BuiltIn (w:World) (Y:Nat→Prop) (b:Nat) (l:List UInt8):Prop:=BuiltP w Y b (.pointer (some ⟨b,0,none⟩)) l
theorem BuiltP.lt {w:World} {Y:Nat→Prop} {b:Nat} {p:Value} {l:List UInt8} (h:BuiltP w Y b p l):b < w.heap.size:=by
 obtain ⟨v,hb,_⟩:=h
 exact (Array.getElem?_eq_some_iff.1 hb).1
theorem BuiltP.kept {w w':World} {Y Z X:Nat→Prop} {b:Nat} {p:Value} {l:List UInt8} (h:BuiltP w Y b p l) (hT:Turned X w w') (hd:∀ n,Y n→¬ X n) (hZ:∀ n,Y n→n < w.heap.size→Z n):BuiltP w' Z b p l:=by
 have hlt:=h.lt
 obtain ⟨v,hb,hown,hnl,hyb,hyg⟩:=h
 refine ⟨v,(hT.block b hlt (hd b hyb)).trans hb,⟨hown.1,?_⟩,hnl,hZ b hyb hlt,fun g hg=>hZ g (hyg g hg) (hown.lt g hg).2⟩
 rcases hown.2 with hn | ⟨g,cap,cur,fz,rfl,h1,hgg,rest⟩
 ·exact .inl hn
 ·have hg:=hyg g (by simp [Value.ownBlock])
  exact .inr ⟨g,cap,cur,fz,rfl,h1,(hT.block g (Array.getElem?_eq_some_iff.1 hgg).1 (hd g hg)).trans hgg,rest⟩
theorem BuiltP.fresh (w:World):BuiltP (w.alloc (.cells #[.pointer none,.slice none 0 0] 176 (0,0))) (fun n=>n=w.heap.size) w.heap.size (.pointer none) [] :=
 ⟨.slice none 0 0,World.alloc_heap_new w _,World.ownsRowF_nil _ _ _ _,fun _=>rfl,rfl,by simp [Value.ownBlock]⟩
theorem strCells_bytes (s:ByteArray):Lib.strCells s=Lib.byteCells s.data.toList:=rfl
set_option maxRecDepth 100000 in
set_option maxHeartbeats 1000000 in
theorem copyCheck_any (b:Nat) (Y:Nat→Prop) (p:Value) (hp:p=.pointer none∨p=.pointer (some ⟨b,0,none⟩)) (l:List UInt8) (w:World) (h:BuiltP w Y b p l) :
  Calls Tryz.prog 158 #[.pointer (some ⟨b,0,none⟩)] w fun e w'=>e=.returned (.tuple #[])∧BuiltIn w' Y b l∧Turned Y w w'∧w'.heap.size=w.heap.size:=by
 have h0:=h
 obtain ⟨v,hb,hown,hnl,hyb,hyg⟩:=h
 rcases hp with rfl | rfl
 ·refine (Any.Builder_copyCheck_fresh (ρ:=lays166_ren) { lays166 with } extra166.toX72 b w (by rw [Lib.cell_of_heap hb];rfl) (by simp [World.shape?,hb];rfl) (Lib.frozen_of_heap hb 0)).mono ?_
  rintro e w' ⟨rfl,rfl⟩
  have hne:=Lib.ownBlock_neF hown hb (by decide)
  refine ⟨rfl,⟨v,by simp [World.setCell,Array.getElem?_modify,hb],hown.kept (row:=some b) ⟨rfl,rfl,rfl,by simp [World.setCell],fun k _ hk=>Below.heap_setCell _ _ _ _ (fun e=>hk (by simp [e]))⟩ (Or.inr hne),hnl,hyb,hyg⟩,Turned.setCell _ _ _ hyb,by simp⟩
 ·refine (Any.Builder_copyCheck_used (ρ:=lays166_ren) { lays166 with } extra166.toX72 b w (by rw [Lib.cell_of_heap hb];rfl)).mono ?_
  rintro e w' ⟨rfl,rfl⟩
  exact ⟨rfl,h0,Turned.refl _ _,rfl⟩
theorem run_append_place {P:Program} (w:World) (t u ty e:TypeId) (i:TypeInfo) (ht:P.underlying t=some (.slice e)) (hu:P.underlying u=some .string) (hi:P.info? e=some i) (hz:i.zero=some (.int .u8 0))
  (hsize:i.size=1) (hby:i.bytes=1) (v:Value) (n:Nat) (xs:List Value) (hown:w.ownsRowF 0 e 1 v n xs) (s:ByteArray) (h63:n+s.size≤maxLen) (hbytes:n+s.size≤140737488355328) :
  ∃ v' w',(Builtin.append_ #[t,u] ty #[v,.string s]).run P w=.ok v' w'∧w'.ownsRowF 0 e 1 v' (n+s.size) (xs++Lib.strCells s)∧w.grownBy w' v.ownBlock∧(v'=.slice none 0 0↔v=.slice none 0 0∧s.size=0)∧∀ g,v'.ownBlock=some g→v.ownBlock=some g∨w.heap.size≤g:=by
 obtain ⟨v',w',h1,h2,h3,h4⟩:=Lib.run_append_own_stringF (P:=P) w 0 t u ty e i ht hu hi hz hsize hby v n xs hown s h63 hbytes (Nat.zero_le _)
 rcases hown.2 with ⟨rfl,rfl⟩ | ⟨g,cap,cur,fz,rfl,hbg,hg,hfz,hnc,hcm,hcs,htake⟩
 ·obtain ⟨v1,w1,k1,k2,k3,_⟩:=Lib.run_append_own_stringF (P:=P) w w.heap.size t u ty e i ht hu hi hz hsize hby (.slice none 0 0) 0 xs ⟨hown.1,.inl ⟨rfl,rfl⟩⟩ s h63 hbytes (Nat.le_refl _)
  rw [k1] at h1
  cases h1
  exact ⟨_,_,k1,h2,h3,h4,fun g hg=>.inr (k2.lt g hg).1⟩
 ·refine ⟨v',w',h1,h2,h3,h4,fun g' hg'=>?_⟩
  have hxl:xs.length=n:=by simpa using hown.1
  by_cases hroom:n+s.size≤cap
  ·have hcs':cur.size=cap:=by simpa using hcs
   have hr:=Lib.run_append_room_stringF (P:=P) w t u ty e i ht hu hi hsize g n cap cur fz hg (by simpa using hfz) s hroom (by omega)
   rw [hr] at h1
   cases h1
   exact .inl hg'
  ·have hr:=Lib.run_append_grow_string (P:=P) w t u ty e i (.int .u8 0) ht hu hi hz ⟨g,0,none⟩ n cap xs (by rw [hsize];simpa using hxl) (hown.cells (g:=g) rfl) s (by omega) (by unfold maxLen at h63;omega) (by rw [hby];exact growslice_fits (by unfold maxLen at h63;omega) (by omega))
   rw [hr] at h1
   cases h1
   simp only [Value.ownBlock,Option.some.injEq] at hg'
   omega
theorem wpList_append_place {P:Program} (w:World) {ops:Array Oper} {rest:List Oper} {o:Oper} {a:Act} {Q:Exit→Act→World→Prop} (hgd:o.guard=none) (sl x:Operand) (t u:TypeId)
  (ho:o.op=.call { callee:=.builtin .append,args:=#[sl,x],argTypes:=#[t,u] }) (e:TypeId) (i:TypeInfo) (ht:P.underlying t=some (.slice e)) (hu:P.underlying u=some .string) (hi:P.info? e=some i) (hz:i.zero=some (.int .u8 0))
  (hsize:i.size=1) (hby:i.bytes=1) (v:Value) (n:Nat) (xs:List Value) (hs:a.eval sl=v) (hown:w.ownsRowF 0 e 1 v n xs) (s:ByteArray) (hx:a.eval x=.string s) (h63:n+s.size≤maxLen) (hbytes:n+s.size≤140737488355328)
  (h:∀ v' w',w'.ownsRowF 0 e 1 v' (n+s.size) (xs++Lib.strCells s)→w.grownBy w' v.ownBlock→(v'=.slice none 0 0↔v=.slice none 0 0∧s.size=0)→(∀ g,v'.ownBlock=some g→v.ownBlock=some g∨w.heap.size≤g)→wpList P ops Q rest (a.put o.dst v') w'):wpList P ops Q (o :: rest) a w:=by
 refine wpList_plain hgd fun K hK=>?_
 obtain ⟨v',w',hr,h2,h3,h4,h5⟩:=run_append_place (P:=P) w t u o.type e i ht hu hi hz hsize hby v n xs hown s h63 hbytes
 unfold Oper.wp execOp
 simp only [ho,resolve,invoke,builtin,Sem.run_bind,Sem.run_pure,Result.andThen_ok,List.map_toArray,List.map_cons,List.map_nil,hs,hx,hr]
 exact hK _ _ (h v' w' h2 h3 h4 h5)
set_option maxRecDepth 100000 in
set_option maxHeartbeats 2000000 in
theorem write_any (b:Nat) (Y:Nat→Prop) (p:Value) (hp:p=.pointer none∨p=.pointer (some ⟨b,0,none⟩)) (l:List UInt8) (s:ByteArray) (w:World) (h:BuiltP w Y b p l) (hlen:l.length+s.size≤1099511627776) :
  Calls Tryz.prog 133 #[.pointer (some ⟨b,0,none⟩),.string s] w fun e w'=>e=.returned (.tuple #[.int .i64 s.size,.nilIface])∧BuiltIn w' (fun n=>Y n∨w.heap.size≤n) b (l++s.data.toList)∧Turned Y w w':=by
 obtain ⟨i0,hi,hz0,hz1,hz2⟩:=info_parts extra166.infoByte
 have HC:=Lib.hid (copyCheck_any b Y p hp l w h)
 clear h
 go_enter Tryz.func133,Tryz.ntmps133
 go_wp2_with (go_at_call 158;refine (HC.out).mono ?_)
 rintro e w1 ⟨rfl,hb1,ht1,hsz1⟩
 obtain ⟨v,hbk,hown,hnl,hyb,hyg⟩:=hb1
 have c1:w1.cell? ⟨b,1,none⟩=some v:=by rw [Lib.cell_of_heap hbk];rfl
 clear HC
 go_wp2_with (at_builtin;refine wpList_append_place _ rfl _ _ 154 9 rfl 5 i0 Tryz.underlying154 Tryz.underlying9 hi hz0 hz1 hz2 _ _ _ rfl hown s rfl ?c3 ?c4 ?_)
 case c3=>unfold maxLen;omega
 case c4=>omega
 intro v' w2 hown' hgrow hnil hplace
 have HN:Hid (l++s.data.toList=[]→v'=.slice none 0 0):=fun e=>hnil.2 ⟨hnl (List.append_eq_nil_iff.1 e).1,by rw [← txt_toList s,(List.append_eq_nil_iff.1 e).2];rfl⟩
 clear hnil hnl
 have hne:=Lib.ownBlock_neF hown hbk (by decide)
 have hlt:b < w1.heap.size:=(Array.getElem?_eq_some_iff.1 hbk).1
 have hb2:w2.heap[b]? = some (.cells #[.pointer (some ⟨b,0,none⟩),v] 176 (0,0)):=(hgrow.block b hlt (fun e=>hne e.symm)).trans hbk
 have d0:w2.cell? ⟨b,0,none⟩=some (.pointer (some ⟨b,0,none⟩)):=by rw [Lib.cell_of_heap hb2];rfl
 have d1:w2.cell? ⟨b,1,none⟩=some v:=by rw [Lib.cell_of_heap hb2];rfl
 have f1:w2.frozen? ⟨b,1,none⟩=false:=Lib.frozen_of_heap hb2 1
 obtain ⟨ao,n',cap,rfl⟩:∃ ao n' cap,v'=.slice ao n' cap:=by
  rcases hown'.2 with ⟨hv,_⟩ | ⟨g,cap,cur,fz,hv,_⟩
  ·exact ⟨_,_,_,hv⟩
  ·exact ⟨_,_,_,hv⟩
 have HT:Hid (Turned Y w w2):=ht1.trans (turned_grown hgrow hyg)
 have HG:Hid (∀ g,(Value.slice ao n' cap).ownBlock=some g→Y g∨w.heap.size≤g):=fun g hg=>(hplace g hg).elim (fun h=>.inl (hyg g h)) (fun h=>.inr (by omega))
 have HB:Hid (Lib.BuilderAtF 176 5 0 b (.pointer (some ⟨b,0,none⟩)) (Lib.byteCells (l++s.data.toList)) (w2.setCell ⟨b,1,none⟩ (.slice ao n' cap))):=by
  refine Lib.BuilderAtF.put (Nat.zero_le _) hb2 ?_ (by decide)
  have e1:Lib.byteCells (l++s.data.toList)=Lib.byteCells l++Lib.strCells s:=by rw [strCells_bytes];simp [Lib.byteCells]
  rw [e1,List.length_append,Lib.byteCells_length,Lib.strCells_length]
  exact hown'
 clear hown' hgrow ht1 hown hplace
 go_wp2
 go_ret2
 refine ⟨rfl,?_,HT.out.trans (Turned.setCell _ _ _ hyb)⟩
 obtain ⟨_,v2,hv2,ho2,_⟩:=HB.out
 have ev:v2=.slice ao n' cap:=by
  have:(w2.setCell ⟨b,1,none⟩ (.slice ao n' cap)).heap[b]? = some (.cells #[.pointer (some ⟨b,0,none⟩),.slice ao n' cap] 176 (0,0)):=by simp [World.setCell,Array.getElem?_modify,hb2]
  rw [this] at hv2
  simpa using hv2.symm
 subst ev
 exact ⟨_,hv2,by rw [← Lib.byteCells_length];exact ho2,HN.out,.inl hyb,HG.out⟩
set_option maxRecDepth 100000 in
set_option maxHeartbeats 2000000 in
theorem string_some (b:Nat) (Y:Nat→Prop) (l:List UInt8) (w:World) (h:BuiltIn w Y b l) (h0:l≠[]) (hl:l.length≤1099511627776) :
  Calls Tryz.prog 134 #[.pointer (some ⟨b,0,none⟩)] w fun e w'=>e=.returned (.string (txt l))∧BuiltIn w' Y b l∧Turned Y w w':=by
 obtain ⟨v,hbk,hown,hnl,hyb,hyg⟩:=h
 have hl0:l.length≠0:=by simpa using h0
 obtain ⟨g,cap,cur,fz,rfl,hbg,hg,hfz,hnc,hcm,hcs,htake⟩:∃ g cap cur fz,v=.slice (some ⟨g,0,none⟩) l.length cap∧0≤g∧w.heap[g]? = some (.cells cur 5 fz)∧fz.2≤l.length*1∧l.length≤cap∧cap≤maxLen∧cur.size=cap*1∧cur.toList.take (l.length*1)=Lib.byteCells l:=by
  rcases hown.2 with ⟨_,hz⟩ | ⟨g,cap,cur,fz,hv,r⟩
  ·exact absurd hz hl0
  ·exact ⟨g,cap,cur,fz,hv,r⟩
 have hyg':Y g:=hyg g rfl
 have c1:w.drew.cell? ⟨b,1,none⟩=some (.slice (some ⟨g,0,none⟩) l.length cap):=by
  have:w.drew.heap[b]? = some (.cells #[.pointer (some ⟨b,0,none⟩),.slice (some ⟨g,0,none⟩) l.length cap] 176 (0,0)):=hbk
  rw [Lib.cell_of_heap this];rfl
 have hSD:(Builtin.unsafeSliceData_ #[154] 202 #[.slice (some ⟨g,0,none⟩) l.length cap]).run Tryz.prog w.drew=.ok (.pointer (some ⟨g,0,none⟩)) w.drew :=
  Lib.run_unsafeSliceData_row _ _ _ _ _ _ (by omega)
 have hUS:(Builtin.unsafeString_ #[202,3] 9 #[.pointer (some ⟨g,0,none⟩),.int .i64 l.length]).run Tryz.prog w.drew=.ok (.string (txt l)) (w.drew.freeze ⟨g,0,none⟩ l.length):=by
  refine Lib.run_unsafeString_row w.drew 202 3 9 5 Tryz.underlying202 extra166.cellsByte g cur.size (by have hg':w.drew.heap[g]? = some (.cells cur 5 fz):=hg;simp [World.shape?,hg']) l h0 (by omega) (by omega) ?_
  intro j x hx
  exact hown.cells (g:=g) rfl j (.int .u8 x.toNat) (by simp [Lib.byteCells,hx])
 have hne:=Lib.ownBlock_neF hown hbk (by decide)
 have HK:Hid (BuiltIn (w.drew.freeze ⟨g,0,none⟩ l.length) Y b l):=by
  have hA:Lib.BuilderAtF 176 5 0 b (.pointer (some ⟨b,0,none⟩)) (Lib.byteCells l) w.drew:=⟨Nat.zero_le _,_,hbk,by rw [Lib.byteCells_length];exact hown,hne⟩
  have hF:=hA.froze (g:=g) (cap:=cap) (by rw [Lib.byteCells_length];exact c1)
  rw [Lib.byteCells_length] at hF
  obtain ⟨_,v2,hv2,ho2,_⟩:=hF
  have hgb:g≠b:=fun e=>hne (by simp [Value.ownBlock,e])
  have ev:v2=.slice (some ⟨g,0,none⟩) l.length cap:=by
   have h1:(w.drew.freeze ⟨g,0,none⟩ l.length).heap[b]? = some (.cells #[.pointer (some ⟨b,0,none⟩),.slice (some ⟨g,0,none⟩) l.length cap] 176 (0,0)):=by
    unfold World.freeze
    split
    ·exact hbk
    ·simp only [Array.getElem?_modify];rw [if_neg hgb];exact hbk
   rw [h1] at hv2
   simpa using hv2.symm
  subst ev
  exact ⟨_,hv2,by rw [Lib.byteCells_length] at ho2;exact ho2,fun e=>absurd e h0,hyb,hyg⟩
 have HT:Hid (Turned Y w (w.drew.freeze ⟨g,0,none⟩ l.length)):=by
  unfold World.freeze
  split
  ·exact Turned.drew _ _
  ·refine ⟨rfl,rfl,rfl,by simp,fun k _ hk=>?_⟩
   simp only [Array.getElem?_modify]
   rw [if_neg (fun e=>hk (by rw [← e];exact hyg'))]
   rfl
 have mixed:=lays169.mixed
 clear hown htake hyg hyg' hg hbk hnl
 go_enter Tryz.func134,Tryz.ntmps134
 go_wp2
 go_region_o
 all_goals (go_wp2;go_ret;exact ⟨rfl,HK.out,HT.out⟩)
set_option maxRecDepth 100000 in
set_option maxHeartbeats 2000000 in
theorem string_any (b:Nat) (Y:Nat→Prop) (l:List UInt8) (w:World) (h:BuiltIn w Y b l) (hl:l.length≤1099511627776) :
  Calls Tryz.prog 134 #[.pointer (some ⟨b,0,none⟩)] w fun e w'=>e=.returned (.string (txt l))∧BuiltIn w' Y b l∧Turned Y w w':=by
 by_cases h0:l=[]
 ·subst h0
  obtain ⟨v,hbk,hown,hnl,hyb,hyg⟩:=h
  obtain rfl:=hnl rfl
  have hUS:∀ (W:World) (q:Option Addr),(Builtin.unsafeString_ #[202,3] 9 #[.pointer q,.int .i64 0]).run Tryz.prog W=.ok (.string (txt [])) W:=fun W q=>Any.unsafeString_none lays169 extra169 W q
  have c1:w.drew.cell? ⟨b,1,none⟩=some (.slice none 0 0):=by
   have:w.drew.heap[b]? = some (.cells #[.pointer (some ⟨b,0,none⟩),.slice none 0 0] 176 (0,0)):=hbk
   rw [Lib.cell_of_heap this];rfl
  have hSD:(Builtin.unsafeSliceData_ #[154] 202 #[.slice none 0 0]).run Tryz.prog w.drew=.ok (.pointer none) w.drew:=rfl
  have mixed:=lays169.mixed
  have HK:Hid (BuiltIn w.drew Y b []):=⟨_,hbk,hown,fun _=>rfl,hyb,hyg⟩
  clear hbk hown hyg hl hnl
  go_enter Tryz.func134,Tryz.ntmps134
  go_wp2
  go_region_o
  all_goals (go_wp2;go_ret;exact ⟨rfl,HK.out,Turned.drew _ _⟩)
 ·exact string_some b Y l w h h0 hl
end Go.Proofs.YtmfjolmfbdbegaaGreatDoor
