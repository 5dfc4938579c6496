/-
  What text answers, if reference and value answer as the chapter says. No condition but sizes.
  Rows of texts of a call's own, one by one longer; what texts answers, if text answers as the chapter says. No condition but sizes.
  What value answers, if text answers as the chapter says. No condition but sizes.
  What function, arity and arguments of package vars answer. No condition but sizes.
-/
import Derived.Test.YtmfjolmfbdbegaaGreatDoorGA
import Derived.Test.YtmfjolmfbdbegaaGreatDoorGC
import Derived.Test.YtmfjolmfbdbegaaGreatDoorHX
namespace Go.Proofs.YtmfjolmfbdbegaaGreatDoor
open Go.RowKit Go.Shelf
attribute [local go_sem] Oper.semAt_some
def Cap (acc l:BT):Prop:=l=acc∨(4000 < l.length∧4000 < acc.length)
theorem Cap.add {acc l:BT} (h:Cap acc l) (t:BT):Cap (acc++t) (addL l t):=by
 unfold addL
 rcases h with rfl | ⟨h1,h2⟩
 ·split
  ·exact .inl rfl
  ·exact .inr ⟨by omega,by rw [List.length_append];omega⟩
 ·rw [if_neg (by omega)]
  exact .inr ⟨h1,by rw [List.length_append];omega⟩
theorem addL_len (l t:BT) (hl:l.length≤20000000) (ht:t.length≤10000000):(addL l t).length≤20000000:=by
 unfold addL
 split
 ·rw [List.length_append];omega
 ·exact hl
theorem Cap.fin {acc l:BT} (h:Cap acc l) (n:Nat):(4000 < l.length∧finR n acc=.error 3)∨(l.length≤4000∧finR n acc=.ok (n,l)):=by
 rcases h with rfl | ⟨h1,h2⟩
 ·by_cases hl:4000 < l.length
  ·exact .inl ⟨hl,fin_err n hl⟩
  ·exact .inr ⟨by omega,fin_ok n (by omega)⟩
 ·exact .inl ⟨h1,fin_err n h2⟩
theorem dol_told {k:Nat} {env:EnvT} {s t rest:BT} {n m:Nat} (h:dolR (refE k env) (valE k env) s n=.ok (m,t,rest)):t.length≤4000:=by
 cases s with
 | nil=>cases h
 | cons c r =>
  rw [dol_cons] at h
  have hr:∀ q:UInt8,refAt (refE k env) q r n=.ok (m,t,rest)→t.length≤4000:=fun q hq=>by
   unfold refAt at hq
   split at hq
   ·cases hq
   ·obtain ⟨j,u,h1,h2⟩:=Rb_is hq
    cases h2
    exact short_refE k env _ n _ _ h1
  split at h
  ·cases h;simp
  ·split at h
   ·exact hr _ h
   ·split at h
    ·exact hr _ h
    ·obtain ⟨j,u,h1,h2⟩:=Rb_is h
     cases h2
     exact short_valE k env _ n _ _ h1
theorem Turned.later {X Y:Nat→Prop} {w W W':World} (h:Turned X w W) (h2:Turned Y W W') (hy:∀ k,k < w.heap.size→¬ Y k):Turned X w W' :=
 ⟨h2.os.trans h.os,h2.tape.trans h.tape,h2.output.trans h.output,Nat.le_trans h.size h2.size,fun k hk hx=>(h2.block k (Nat.lt_of_lt_of_le hk h.size) (hy k hk)).trans (h.block k hk hx)⟩
structure TextAt (xb n:Nat) (o:Option Addr) (m c d:Nat) (rf vf:BT→Nat→R) (s:BT) (w:World) (s':BT) (n':Nat) (acc l:BT) (p:Value) (W:World):Prop where
 back:Turned (fun b=>b=xb) w W
 steps:StepsAt W xb n'
 few:n'≤2000
 box:W.heap[w.heap.size]? = some (.cells #[.slice o m c,.int .i64 (d:Int)] 193 (0,0))
 built:BuiltP W (fun b=>w.heap.size+1≤b) (w.heap.size+1) p l
 ptr:(p=.pointer none∧l=[])∨p=.pointer (some ⟨w.heap.size+1,0,none⟩)
 cap:Cap acc l
 len:l.length≤20000000
 body:bodyR rf vf s n=Rb (bodyR rf vf s' n') fun k u=>.ok (k,acc++u)
theorem TextAt.drew {xb n:Nat} {o:Option Addr} {m c d:Nat} {rf vf:BT→Nat→R} {s:BT} {w:World} {s':BT} {n':Nat} {acc l:BT} {p:Value} {W:World} (h:TextAt xb n o m c d rf vf s w s' n' acc l p W) (q:Nat):TextAt xb n o m c d rf vf s w s' n' acc l p (W.drewN q) :=
 ⟨h.back.trans (Turned.drewN _ _ _),h.steps,h.few,h.box,h.built.kept (Turned.drewN (fun _=>False) W q) (fun _ _ h=>h) (fun _ hn _=>hn),h.ptr,h.cap,h.len,h.body⟩
theorem TextAt.told {xb n:Nat} {o:Option Addr} {m c d:Nat} {rf vf:BT→Nat→R} {s:BT} {w:World} {s':BT} {n':Nat} {acc l:BT} {p:Value} {W W':World} (h:TextAt xb n o m c d rf vf s w s' n' acc l p W) (hx:xb < w.heap.size) {t s2:BT} (ht:t.length≤10000000)
  (hB:BuiltIn W' (fun b=>w.heap.size+1≤b) (w.heap.size+1) (addL l t)) (hT:Turned (fun b=>w.heap.size+1≤b) W W') (hb:bodyR rf vf s n=Rb (bodyR rf vf s2 n') fun k u=>.ok (k,acc++t++u)) :
  TextAt xb n o m c d rf vf s w s2 n' (acc++t) (addL l t) (.pointer (some ⟨w.heap.size+1,0,none⟩)) W' :=
 ⟨h.back.later hT (fun k hk h=>by omega),h.steps.kept hT (fun h=>by omega),h.few,(hT.block _ (Array.getElem?_eq_some_iff.1 h.box).1 (fun h=>by omega)).trans h.box,hB,.inr rfl,h.cap.add t,addL_len l t h.len ht,hb⟩
set_option maxRecDepth 100000 in
set_option maxHeartbeats 8000000 in
theorem text_any (k:Nat) (hR:RefC k) (hV:ValC k):TextC k:=by
 intro xb n d o m c env s w hd h hE hs
 have hx:=h.steps.lt
 have HD:Hid (∀ (n':Nat) (b:BT) (W:World),Turned (fun b=>b=xb) w W→StepsAt W xb n'→n'≤2000→b.length≤10000000→Calls Tryz.prog 169 #[.pointer (some ⟨xb,0,none⟩),.agg #[.slice o m c,.int .i64 (d:Int)],.string (txt b)] W (DolPost xb (dolR (refE k env) (valE k env) b n') W)) :=
  fun n' b W hT hS hn hb=>dollar_any k hR hV xb n' d o m c env b W hd (h.turned hT hS hn) hE hb
 have HStd:Hid (∀ W,Turned (fun b=>b=xb) w W→Std W):=fun W hT=>h.std.turned hT (fun e=>h.far.1 e.symm) (fun e=>h.far.2 e.symm)
 have hEP:textE k env s n=textR (refE k env) (valE k env) s n:=rfl
 rw [hEP]
 have h0:TextAt xb n o m c d (refE k env) (valE k env) s w s n [] [] (.pointer none) ((w.alloc (.cells #[.slice o m c,.int .i64 (d:Int)] 193)).alloc (.cells #[.pointer none,.slice none 0 0] 176)):=by
  have hb:=below_two w (.cells #[.slice o m c,.int .i64 (d:Int)] 193) (.cells #[.pointer none,.slice none 0 0] 176)
  refine ⟨turned_of_below' hb,(hb.block _ hx).trans h.steps,h.few,heap_first _ _ _,?_,.inl ⟨rfl,rfl⟩,.inl rfl,by simp,(Rb_self _).symm⟩
  have:=BuiltP.fresh (w.alloc (.cells #[.slice o m c,.int .i64 (d:Int)] 193))
  rw [World.size_alloc] at this
  exact this.wider (fun b hb _=>by omega)
 have H0:=Lib.hid h0
 clear h0 h hE hR hV hEP
 go_enter Tryz.func147,Tryz.ntmps147
 go_wp2_with fail
 go_loopw [2] (fun sv wr=>∃ (s':BT) (n':Nat) (acc l:BT) (p:Value),sv=.string (txt s')∧s'.length≤10000000∧Hid (TextAt xb n o m c d (refE k env) (valE k env) s w s' n' acc l p wr)) (fun sv _=>strLen sv)
 case atStart=>exact ⟨s,n,[],[],_,rfl,hs,H0⟩
 case round =>
  obtain ⟨s',n',acc,l,p,rfl,hs',HA⟩:=hrel
  clear H0
  have hstd:=HStd.out wr HA.out.back
  have hcut:=cutD_any (txt s') (by rw [txt_size];exact hs') wr hstd
  rw [txt_data] at hcut
  have hht:=head_tail s'
  have hno:=head_none s'
  rcases tail_dol s' with ht | ⟨b,ht⟩
  ·rw [ht,List.append_nil] at hht
   rw [ht] at hcut
   have HCut:Hid (Calls Tryz.prog 46 #[.string (txt s'),.string ⟨#[36]⟩] wr fun e w'=>e=.returned (.tuple #[.string (txt s'),.string ⟨#[]⟩,.bool false])∧∃ n,w'=wr.drewN n):=by
    rw [hht] at hcut
    exact hcut
   rw [hht] at hno
   have HNO:=Lib.hid hno
   clear hcut hht ht hno hstd
   go_wp2_with fail
   refine HCut.out.mono ?_
   rintro e w1 ⟨rfl,q,rfl⟩
   have HA1:=Lib.hid (HA.out.drew q)
   generalize wr.drewN q=w1 at HA1 ⊢
   have HAdd:=Lib.hid (add_any (w.heap.size+1) p l s' w1 HA1.out.built HA1.out.ptr (by have:=HA1.out.len;omega) (by omega))
   clear HA HCut
   go_wp2_with fail
   refine HAdd.out.mono ?_
   rintro e w2 ⟨rfl,hB2,hT2⟩
   have HA2:=Lib.hid (HA1.out.told hx (t:=s') (s2:=[]) hs' hB2 hT2 (by rw [HA1.out.body,body_all s' n' HNO.out,body_nil,Rb_ok,Rb_ok,List.append_nil]))
   have hl2:=addL_len l s' HA1.out.len hs'
   have hcap2:=HA1.out.cap.add s'
   have HStr:=Lib.hid (string_any (w.heap.size+1) _ (addL l s') w2 hB2 (by omega))
   have HB2:=Lib.hid hB2
   clear hB2 hT2 HAdd
   go_wp2_with fail
   refine HStr.out.mono ?_
   rintro e w3 ⟨rfl,hB3,hT3⟩
   have HSh:=Lib.hid (short_any' (addL l s') w3 (by omega))
   have hT9:=HA2.out.back.later hT3 (fun k hk h=>by omega)
   have HT9:=Lib.hid hT9
   have HS9:Hid (StepsAt w3 xb n'):=HA2.out.steps.kept hT3 (fun h=>by omega)
   have HBody:Hid (textR (refE k env) (valE k env) s n=finR n' (acc++s')):=by
    show _=_
    unfold textR
    rw [HA2.out.body,body_nil,Rb_ok,Rb_ok,List.append_nil]
   have hn':=HA2.out.few
   clear hB3 hT3 hT9 HStr HA1 HA2
   rcases hcap2.fin n' with ⟨hlong,hfin⟩ | ⟨hsm,hfin⟩
   ·rw [hfin] at HBody
    go_wp2_with fail
    refine HSh.out.mono ?_
    rintro e w4 ⟨rfl,⟨_,rfl⟩ | ⟨h4,_⟩⟩
    ·go_wp2_with fail
     go_ret2
     exact ⟨HT9.out,.inl ⟨3,HBody.out,by decide,rfl⟩⟩
    ·omega
   ·rw [hfin] at HBody
    go_wp2_with fail
    refine HSh.out.mono ?_
    rintro e w4 ⟨rfl,⟨h4,_⟩ | ⟨_,rfl⟩⟩
    ·omega
    ·go_wp2_with fail
     go_ret2
     exact ⟨HT9.out,.inr ⟨n',_,HBody.out,rfl,HS9.out,hn'⟩⟩
  ·rw [ht] at hcut
   have HCut:Hid (Calls Tryz.prog 46 #[.string (txt s'),.string ⟨#[36]⟩] wr fun e w'=>e=.returned (.tuple #[.string (txt (headD s')),.string (txt b),.bool true])∧∃ n,w'=wr.drewN n):=hcut
   rw [ht] at hht
   have hbl:(headD s').length+b.length+1=s'.length:=by
    have:=congrArg List.length hht
    rw [List.length_append,List.length_cons] at this
    omega
   have HBody:Hid (bodyR (refE k env) (valE k env) s' n'=Rb (dolR (refE k env) (valE k env) b n') fun m x=>Rb (bodyR (refE k env) (valE k env) x.2 m) fun k u=>.ok (k,headD s'++x.1++u)):=by
    show _=_
    conv=>lhs;rw [← hht]
    rw [body_plain _ _ _ hno,body_dol,Rb_assoc]
    congr 1
    funext m x
    rw [Rb_assoc]
    congr 1
    funext j u
    rw [Rb_ok,List.append_assoc]
   generalize headD s'=hd0 at HCut HBody hbl
   clear hcut hht ht hno hstd
   go_wp2_with fail
   refine HCut.out.mono ?_
   rintro e w1 ⟨rfl,q,rfl⟩
   have HA1:=Lib.hid (HA.out.drew q)
   generalize wr.drewN q=w1 at HA1 ⊢
   have HAdd:=Lib.hid (add_any (w.heap.size+1) p l hd0 w1 HA1.out.built HA1.out.ptr (by have:=HA1.out.len;omega) (by omega))
   clear HA HCut
   go_wp2_with fail
   refine HAdd.out.mono ?_
   rintro e w2 ⟨rfl,hB2,hT2⟩
   have hT2':=HA1.out.back.later hT2 (fun k hk h=>by omega)
   have hs2:StepsAt w2 xb n':=HA1.out.steps.kept hT2 (fun h=>by omega)
   have hc2:=(hT2.block _ (Array.getElem?_eq_some_iff.1 HA1.out.box).1 (fun h=>by omega)).trans HA1.out.box
   obtain ⟨y0,y1,_,_⟩:=two_cells hc2
   have HDol:=Lib.hid (HD.out n' b w2 hT2' hs2 HA1.out.few (by omega))
   have HB2:=Lib.hid hB2
   have HT2:=Lib.hid hT2'
   have HC2:=Lib.hid hc2
   have hl2:=addL_len l hd0 HA1.out.len (by omega)
   have HCap:=Lib.hid (HA1.out.cap.add hd0)
   have HBA:=Lib.hid HA1.out.body
   clear hB2 hT2 hT2' hs2 hc2 HAdd HA1
   go_wp2_with fail
   refine HDol.out.mono ?_
   rintro e w3 ⟨hT3,hr3⟩
   have HT3:Hid (Turned (fun b=>b=xb) w w3):=HT2.out.trans hT3
   have HB3:Hid (BuiltP w3 (fun b=>w.heap.size+1≤b) (w.heap.size+1) (.pointer (some ⟨w.heap.size+1,0,none⟩)) (addL l hd0)):=HB2.out.kept hT3 (fun b hb h=>by omega) (fun b hb _=>hb)
   have HC3:Hid (w3.heap[w.heap.size]? = some (.cells #[.slice o m c,.int .i64 (d:Int)] 193 (0,0))):=(hT3.block _ (Array.getElem?_eq_some_iff.1 HC2.out).1 (fun h=>by omega)).trans HC2.out
   clear hT3 HDol HB2 HC2 HT2
   rcases hr3 with ⟨cc,u,v,hr,hc,rfl⟩ | ⟨n2,t,rest,hr,rfl,hs3,hn2⟩
   ·have HE:Hid (textR (refE k env) (valE k env) s n=.error cc):=by
     show _=_
     unfold textR
     rw [HBA.out,HBody.out,hr];rfl
    have e5:(cc != 0)=true:=by rw [bne_iff_ne];exact hc
    clear HBA HBody hr
    go_wp2_with fail
    go_ret2
    exact ⟨HT3.out,.inl ⟨cc,HE.out,hc,rfl⟩⟩
   ·have htl:=dol_told hr
    have hrl:=dol_rest hr
    have HBN:Hid (bodyR (refE k env) (valE k env) s n=Rb (bodyR (refE k env) (valE k env) rest n2) fun k u=>.ok (k,acc++hd0++t++u)):=by
     show _=_
     rw [HBA.out,HBody.out,hr,Rb_ok,Rb_assoc]
     simp only [Rb_ok,List.append_assoc]
    have HS3:=Lib.hid hs3
    have HAdd2:=Lib.hid (add_any (w.heap.size+1) _ (addL l hd0) t w3 HB3.out (.inr rfl) (by omega) (by omega))
    clear hs3 HBA HBody hr
    go_wp2_with fail
    refine HAdd2.out.mono ?_
    rintro e w4 ⟨rfl,hB4,hT4⟩
    have HT4:Hid (Turned (fun b=>b=xb) w w4):=HT3.out.later hT4 (fun k hk h=>by omega)
    have HS4:Hid (StepsAt w4 xb n2):=HS3.out.kept hT4 (fun h=>by omega)
    have HC4:Hid (w4.heap[w.heap.size]? = some (.cells #[.slice o m c,.int .i64 (d:Int)] 193 (0,0))):=(hT4.block _ (Array.getElem?_eq_some_iff.1 HC3.out).1 (fun h=>by omega)).trans HC3.out
    have HB4:=Lib.hid hB4
    have hl4:=addL_len (addL l hd0) t hl2 (by omega)
    have HCap4:=Lib.hid (HCap.out.add t)
    clear hB4 hT4 HAdd2
    go_wp2_with fail
    go_roundw
    case rel=>exact ⟨rest,n2,acc++hd0++t,addL (addL l hd0) t,_,rfl,by omega,⟨HT4.out,HS4.out,hn2,HC4.out,HB4.out,.inr rfl,HCap4.out,hl4,HBN.out⟩⟩
    case measure=>simp only [strLen,txt_size];omega
end Go.Proofs.YtmfjolmfbdbegaaGreatDoor

namespace Go.Proofs.YtmfjolmfbdbegaaGreatDoor
open Go.RowKit Go.Shelf
attribute [local go_sem] Oper.semAt_some
def strV (l:List BT):List Value:=l.map fun x=>.string (txt x)
abbrev OwnT (W:World) (base:Nat) (v:Value) (l:List BT):Prop:=W.ownsRow base 9 1 v l.length (strV l)
theorem OwnT.nil (W:World) (base:Nat):OwnT W base (.slice none 0 0) []:=World.ownsRow_nil _ _ _ _
theorem infoStrV:(Tryz.prog.info? 9).map (fun i=>(i.zero,i.size,i.bytes))=some (some (.string ⟨#[]⟩),1,16):=by kernel_rfl
theorem run_append_told {w:World} (base:Nat) (v:Value) (l:List BT) (t:BT) (h:OwnT w base v l) (hl:l.length≤10000000) (hbase:base≤w.heap.size) (ty:TypeId) :
  ∃ o n c w',(Builtin.append_ #[28,28] ty #[v,.slice (some ⟨w.heap.size,0,none⟩) 1 1]).run Tryz.prog (w.alloc (.cells #[.string (txt t)] 9))=.ok (.slice o n c) w'∧OwnT w' base (.slice o n c) (l++[t])∧Below base w w':=by
 obtain ⟨i0,hi,hz0,hz1,hz2⟩:=info_parts infoStrV
 have hn:=World.alloc_heap_new w (.cells #[.string (txt t)] 9)
 have h2:(w.alloc (.cells #[.string (txt t)] 9)).ownsRow base 9 1 v l.length (strV l):=World.ownsRow.alloc h _
 obtain ⟨v',w',hrun,h3,h4,_⟩:=run_append_own (P:=Tryz.prog) (w.alloc (.cells #[.string (txt t)] 9)) base 28 ty 9 i0 _ 1 16 Tryz.underlying28 hi hz0 hz1 hz2 rfl (by decide) v l.length _ h2 ⟨w.heap.size,0,none⟩ 1 1 [.string (txt t)] rfl
  (by
   intro j u hj
   cases j with
   | zero=>cases hj;rw [Addr.add_lit];exact Lib.cell_of_heap hn 0
   | succ j=>simp at hj)
  (by
   intro u hu
   rw [List.mem_singleton.1 hu];rfl)
  (by unfold maxLen;omega) (by omega) (by simp;omega)
 have hown:OwnT w' base v' (l++[t]):=by
  unfold OwnT
  rw [List.length_append]
  have e:strV (l++[t])=strV l++[.string (txt t)]:=by simp [strV]
  rw [e]
  exact h3
 have hB:Below base w w':=((Below.refl base w).alloc hbase _).grown h4 (by simp;omega) (fun k hk=>(h2.lt k hk).1)
 rcases hown.2 with ⟨hv,hz⟩ | ⟨g,cap,cur,hv,_⟩
 ·rw [List.length_append] at hz;simp at hz
 ·subst hv
  exact ⟨_,_,_,w',hrun,hown,hB⟩
def ArgsR (W:World) (xb:Nat) (o:Option Addr) (c:Nat) (l:List BT):Prop :=
 ∀ j x,l[j]? = some x→∃ b f,o=some ⟨b,f,none⟩∧b≠xb∧b < W.heap.size∧l.length≤c∧W.cell? ⟨b,f+j,none⟩=some (.string (txt x))
theorem ArgsR.turned {W W':World} {xb:Nat} {o:Option Addr} {c:Nat} {l:List BT} (h:ArgsR W xb o c l) (hT:Turned (fun b=>b=xb) W W'):ArgsR W' xb o c l:=fun j x hj=>by
 obtain ⟨b,f,h1,h2,h3,h4,h5⟩:=h j x hj
 refine ⟨b,f,h1,h2,Nat.lt_of_lt_of_le h3 hT.size,h4,?_⟩
 rw [← h5]
 unfold World.cell?
 rw [hT.block b h3 h2]
theorem ArgsR.below {W W':World} {xb:Nat} {o:Option Addr} {c:Nat} {l:List BT} (h:ArgsR W xb o c l) (hb:Below W.heap.size W W'):ArgsR W' xb o c l:=h.turned (turned_of_below' hb)
theorem OwnT.args {W:World} {base xb n c:Nat} {o:Option Addr} {l:List BT} (h:OwnT W base (.slice o n c) l) (hx:xb < base):ArgsR W xb o c l:=fun j x hj=>by
 rcases h.2 with ⟨_,h0⟩ | ⟨g,cap,cur,hv,h1,h2,h3,h4,h5,h6⟩
 ·rw [List.length_eq_zero_iff.1 h0] at hj;simp at hj
 ·cases hv
  refine ⟨g,0,rfl,by omega,(Array.getElem?_eq_some_iff.1 h2).1,h3,?_⟩
  rw [Lib.cell_of_heap h2,Nat.zero_add]
  have hjl:j < l.length:=(List.getElem?_eq_some_iff.1 hj).1
  have e:(strV l)[j]? = some (.string (txt x)):=by simp [strV,hj]
  rw [← h6,List.getElem?_take] at e
  split at e
  ·simpa using e
  ·cases e
theorem ArgsR.src {W:World} {xb n:Nat} {o:Option Addr} {c:Nat} {l:List BT} (h:ArgsR W xb o c l) (hn:n=l.length):ReadsO W W.heap.size (.slice o n c) (l.map txt):=by
 subst hn
 refine ⟨o,c,by simp,fun j x hj=>?_⟩
 rw [List.getElem?_map,Option.map_eq_some_iff] at hj
 obtain ⟨y,hy,rfl⟩:=hj
 obtain ⟨b,f,h1,h2,h3,h4,h5⟩:=h j y hy
 exact ⟨b,f,h1,h3,by simpa using h4,h5⟩
def TextsPost (xb base:Nat) (r:Rs (List BT)) (w:World) (e:Ending) (w':World):Prop :=
 Turned (fun b=>b=xb) w w'∧((∃ c:Int,r=.error c∧c≠0∧e=.returned (.tuple #[.slice none 0 0,.int .i64 c])) ∨
  ∃ n l o m c,r=.ok (n,l)∧m=l.length∧e=.returned (.tuple #[.slice o m c,.int .i64 0])∧OwnT w' base (.slice o m c) l∧StepsAt w' xb n∧n≤2000)
theorem texts_len {E:BT→Nat→R}:∀ {l:List BT} {n m:Nat} {r:List BT},textsR E l n=.ok (m,r)→r.length=l.length
 | [],n,m,r,h=>by cases h;rfl
 | s :: l,n,m,r,h=>by
  obtain ⟨k,t,_,h2⟩:=Rb_is h
  obtain ⟨j,u,h3,h4⟩:=Rb_is h2
  cases h4
  simp [texts_len h3]
theorem texts_short {E:BT→Nat→R} (hE:∀ s n,ShortR (E s n)):∀ {l:List BT} {n m:Nat} {r:List BT},textsR E l n=.ok (m,r)→∀ x∈r,x.length≤4000
 | [],n,m,r,h,x,hx=>by cases h;simp at hx
 | s :: l,n,m,r,h,x,hx=>by
  obtain ⟨k,t,h1,h2⟩:=Rb_is h
  obtain ⟨j,u,h3,h4⟩:=Rb_is h2
  cases h4
  rcases List.mem_cons.1 hx with rfl | hx
  ·exact hE _ _ _ _ h1
  ·exact texts_short hE h3 x hx
set_option maxRecDepth 100000 in
set_option maxHeartbeats 4000000 in
theorem texts_any (k:Nat) (hX:TextC k) (xb n d:Nat) (o:Option Addr) (m c:Nat) (env:EnvT) (ao:Option Addr) (an ac:Nat) (l:List BT) (w:World) (hd:d+k=20) (h:AtX xb n w (.slice o m c) env) (hE:EnvOk env k)
  (hl:an=l.length) (hl2:l.length≤1000) (hs:∀ x∈l,x.length≤10000000) (hr:ArgsR w xb ao ac l) :
  Calls Tryz.prog 185 #[.pointer (some ⟨xb,0,none⟩),.agg #[.slice o m c,.int .i64 (d:Int)],.slice ao an ac] w (TextsPost xb (w.heap.size+1) (textsR (textE k env) l n) w):=by
 have hx:=h.steps.lt
 have HX:Hid (∀ (n':Nat) (s:BT) (W:World),Turned (fun b=>b=xb) w W→StepsAt W xb n'→n'≤2000→s.length≤10000000→Calls Tryz.prog 147 #[.pointer (some ⟨xb,0,none⟩),.agg #[.slice o m c,.int .i64 (d:Int)],.string (txt s)] W (ExpPost xb (textE k env s n') W)) :=
  fun n' s W hT hS hn hs=>hX xb n' d o m c env s W hd (h.turned hT hS hn) hE hs
 have HR:Hid (∀ (W:World),Turned (fun b=>b=xb) w W→ArgsR W xb ao ac l):=fun W hT=>hr.turned hT
 have HL:=Lib.hid hl
 have HSz:=Lib.hid hs
 have hb0:Below w.heap.size w (w.alloc (.cells #[.slice o m c,.int .i64 (d:Int)] 193)):=(Below.refl _ w).alloc (Nat.le_refl _) _
 have hc0:=World.alloc_heap_new w (.cells #[.slice o m c,.int .i64 (d:Int)] 193)
 have H0:Hid (Turned (fun b=>b=xb) w (w.alloc (.cells #[.slice o m c,.int .i64 (d:Int)] 193))∧StepsAt (w.alloc (.cells #[.slice o m c,.int .i64 (d:Int)] 193)) xb n∧n≤2000∧(w.alloc (.cells #[.slice o m c,.int .i64 (d:Int)] 193)).heap[w.heap.size]? = some (.cells #[.slice o m c,.int .i64 (d:Int)] 193 (0,0))) :=
  ⟨turned_of_below' hb0,(hb0.block _ hx).trans h.steps,h.few,hc0⟩
 have hal:an≤1000:=by omega
 clear h hE hr hs hX hd hl hb0 hc0
 go_enter Tryz.func185,Tryz.ntmps185
 go_wp2_with fail
 go_loopw [8,15] (fun vv iv wr=>∃ (i n':Nat) (acc:List BT) (q:Option Addr) (z cz:Nat),i≤an∧iv=.int .i64 i∧vv=.slice q z cz∧acc.length=i∧Hid (OwnT wr (w.heap.size+1) (.slice q z cz) acc) ∧
  Hid (Turned (fun b=>b=xb) w wr)∧Hid (StepsAt wr xb n')∧n'≤2000∧Hid (wr.heap[w.heap.size]? = some (.cells #[.slice o m c,.int .i64 (d:Int)] 193 (0,0))) ∧
  Hid (textsR (textE k env) l n=Rb (textsR (textE k env) (l.drop i) n') fun j u=>.ok (j,acc++u))) (fun _ iv _=>an - (intOf iv).toNat)
 case atStart=>exact ⟨0,n,[],none,0,0,Nat.zero_le _,rfl,rfl,rfl,OwnT.nil _ _,H0.out.1,H0.out.2.1,H0.out.2.2.1,H0.out.2.2.2,(Rb_self _).symm⟩
 case round =>
  obtain ⟨i,n',acc,q,z,cz,hi,rfl,rfl,hacc,HO,HT,HS,hn',HC,HB⟩:=hrel
  clear H0
  have hha:=Lib.hid hacc
  clear hacc
  by_cases hlt:i < an
  ·obtain ⟨s,hs⟩:∃ s,l[i]? = some s:=⟨_,List.getElem?_eq_getElem (by rw [← HL.out];exact hlt)⟩
   obtain ⟨b,f,rfl,hbx,hbl,hnc,hcell⟩:=HR.out wr HT.out i s hs
   rw [← HL.out] at hnc
   obtain ⟨y0,y1,_,_⟩:=two_cells HC.out
   have hsl:s.length≤10000000:=HSz.out s (List.mem_of_getElem? hs)
   have HTx:=Lib.hid (HX.out n' s wr HT.out HS.out hn' hsl)
   have HB2:Hid (textsR (textE k env) l n=Rb (textE k env s n') fun j u=>Rb (textsR (textE k env) (l.drop (i+1)) j) fun j2 u2=>.ok (j2,acc++u :: u2)):=by
    show _=_
    rw [HB.out]
    obtain ⟨hl1,hl2⟩:=List.getElem?_eq_some_iff.1 hs
    rw [List.drop_eq_getElem_cons hl1,hl2]
    show Rb (Rb _ _) _=_
    rw [Rb_assoc]
    congr 1
    funext j u
    rw [Rb_assoc]
    rfl
   have hil:(i:Int) < (an:Int):=by omega
   clear HB hs hbl hbx
   go_wp2_with fail
   refine HTx.out.mono ?_
   rintro e w2 ⟨hT2,hr2⟩
   have HT2:Hid (Turned (fun b=>b=xb) w w2):=HT.out.trans hT2
   have HO2:Hid (OwnT w2 (w.heap.size+1) (.slice q z cz) acc):=hT2.ownsRow HO.out (fun r hr hh=>by have:=(HO.out.lt r hr).1;omega)
   have HC2:Hid (w2.heap[w.heap.size]? = some (.cells #[.slice o m c,.int .i64 (d:Int)] 193 (0,0))):=(hT2.block _ (Array.getElem?_eq_some_iff.1 HC.out).1 (fun h=>by omega)).trans HC.out
   clear hT2 HTx HO HC HT HS
   rcases hr2 with ⟨cc,hr,hc,rfl⟩ | ⟨n2,t,hr,rfl,hs3,hn2⟩
   ·have HE:Hid (textsR (textE k env) l n=.error cc):=by
     show _=_
     rw [HB2.out,hr];rfl
    have e5:(cc != 0)=true:=by rw [bne_iff_ne];exact hc
    clear HB2 hr
    go_wp2_with fail
    go_ret2
    exact ⟨HT2.out,.inl ⟨cc,HE.out,hc,rfl⟩⟩
   ·have HB3:Hid (textsR (textE k env) l n=Rb (textsR (textE k env) (l.drop (i+1)) n2) fun j u=>.ok (j,acc++[t]++u)):=by
     show _=_
     rw [HB2.out,hr,Rb_ok]
     congr 1
     funext j u
     simp
    have hs2:=HT2.out.size
    obtain ⟨q3,z3,c3,w3,hrun,hown3,hb3⟩:=run_append_told (w.heap.size+1) (.slice q z cz) acc t HO2.out (by have:=hha.out;omega) (by have:=(Array.getElem?_eq_some_iff.1 HC2.out).1;omega) 28
    have HO3:=Lib.hid hown3
    have HT3:Hid (Turned (fun b=>b=xb) w w3):=HT2.out.later (Y:=fun b=>w.heap.size+1≤b) ⟨hb3.os,hb3.tape,hb3.output,hb3.size,fun k hk hh=>hb3.block k (by omega)⟩ (fun k hk hh=>by omega)
    have HS3:Hid (StepsAt w3 xb n2):=(hb3.block _ (by omega)).trans hs3
    have HC3:Hid (w3.heap[w.heap.size]? = some (.cells #[.slice o m c,.int .i64 (d:Int)] 193 (0,0))):=(hb3.block _ (by omega)).trans HC2.out
    clear hown3 hb3 hs3 HB2 hr HO2 HC2 HT2
    go_wp2_with (at_builtin;refine wpList_append_eq rfl _ _ 28 rfl _ _ _ w3 rfl rfl hrun ?_)
    go_roundw
    case rel=>exact ⟨i+1,n2,acc++[t],q3,z3,c3,by omega,by go_num,rfl,by rw [List.length_append,hha.out];rfl,HO3,HT3,HS3,hn2,HC3,HB3⟩
    case measure=>simp [intOf];omega
  ·have HB4:Hid (textsR (textE k env) l n=.ok (n',acc)):=by
    show _=_
    rw [HB.out,List.drop_eq_nil_of_le (by rw [← HL.out];omega)]
    show Except.ok (n',acc++[])=_
    rw [List.append_nil]
   clear HB
   go_wp2_with fail
   go_ret2
   exact ⟨HT.out,.inr ⟨n',acc,q,z,cz,HB4.out,by
    rcases HO.out.2 with ⟨hv,h0⟩ | ⟨g,cap,cur,hv,_⟩
    ·cases hv;exact h0.symm
    ·cases hv;rfl,rfl,HO.out,HS.out,hn'⟩⟩
end Go.Proofs.YtmfjolmfbdbegaaGreatDoor

namespace Go.Proofs.YtmfjolmfbdbegaaGreatDoor
open Go.RowKit Go.Shelf
attribute [local go_sem] Oper.semAt_some
theorem txt_nil:txt []=(⟨#[]⟩:ByteArray):=rfl
theorem get_mem {l:EnvT} {n:BT} {y:VarT} (h:getT l n=some y):y∈l:=List.mem_of_find?_eq_some h
def BelowC (k:Nat):Prop:=∀ j,k=j+1→TextC j
theorem EnvOk.less {env:EnvT} {k:Nat} (h:EnvOk env (k+1)):EnvOk env k:=⟨h.1,by have:=h.2.1;omega,h.2.2⟩
set_option maxRecDepth 100000 in
set_option maxHeartbeats 4000000 in
theorem value_any (k:Nat) (hX:BelowC k):ValC k:=by
 intro xb n d o m c env s w hd h hE hs
 have hx:=h.steps.lt
 have hb0:Below w.heap.size w (w.alloc (.cells #[.slice o m c,.int .i64 (d:Int)] 193)):=(Below.refl _ w).alloc (Nat.le_refl _) _
 have hc0:=World.alloc_heap_new w (.cells #[.slice o m c,.int .i64 (d:Int)] 193)
 have hG0:=get_any _ (.slice o m c) env (txt s) _ (h.env.below hb0) (by have:=hE.2.1;omega)
 rw [txt_data] at hG0
 have HG:Hid (Calls Tryz.prog 115 #[.agg #[.slice o m c],.string (txt s)] (w.alloc (.cells #[.slice o m c,.int .i64 (d:Int)] 193)) fun e w'=>e=.returned (.tuple #[aggV ((getT env s).getD ([],[],false)),.bool (getT env s).isSome])∧Below w.heap.size w w'∧w'.heap[w.heap.size]? = some (.cells #[.slice o m c,.int .i64 (d:Int)] 193 (0,0))) :=
  hG0.mono fun e w' hh=>⟨hh.1,hb0.trans (hh.2.mono hb0.size),(hh.2.block _ (by simp)).trans hc0⟩
 have HH:=Lib.hid h
 clear hG0 hb0 hc0
 unfold aggV at HG
 rcases hg:getT env s with _ | ⟨y1,y2,y3⟩
 ·have HV:Hid (valE k env s n=.ok (n,[])):=by
   show _=_
   cases k with
   | zero=>show valB (fun _ _=>.error 15) env s n=_;unfold valB;rw [hg]
   | succ j=>show valB (fun s n'=>stepR n' (textE j env s)) env s n=_;unfold valB;rw [hg]
  rw [hg] at HG
  clear hg hE hX
  simp only [Option.getD_none,Option.isSome_none] at HG
  rw [txt_nil] at HG
  go_enter Tryz.func175,Tryz.ntmps175
  go_wp2_with fail
  refine HG.out.mono ?_
  rintro e w1 ⟨rfl,hb1,hc1⟩
  have HSh:Hid (∀ W,Calls Tryz.prog 168 #[.string ⟨#[]⟩] W (ShortPost [] W)):=fun W=>short_any' [] W (by simp)
  have HB1:=Lib.hid hb1
  clear hb1 hc1 HG h
  go_wp2_with fail
  refine (HSh.out _).mono ?_
  rintro e w2 ⟨rfl,⟨h1,_⟩ | ⟨_,rfl⟩⟩
  ·simp at h1
  ·go_wp2_with fail
   go_ret2
   have hb2:Below w.heap.size w (w1.alloc (.cells #[.string ⟨#[]⟩,.string ⟨#[]⟩,.bool false] 43)):=HB1.out.alloc HB1.out.size _
   exact ⟨turned_of_below' hb2,.inr ⟨n,[],HV.out,rfl,(hb2.block _ hx).trans HH.out.steps,HH.out.few⟩⟩
 ·have hyl:=(hE.2.2 _ (get_mem hg)).2
  simp only at hyl
  rw [hg] at HG
  simp only [Option.getD_some,Option.isSome_some] at HG
  cases y3 with
  | true =>
   have HV:Hid (valE k env s n=finR n y2):=by
    show _=_
    cases k with
    | zero=>show valB (fun _ _=>.error 15) env s n=_;unfold valB;rw [hg];rfl
    | succ j=>show valB (fun s n'=>stepR n' (textE j env s)) env s n=_;unfold valB;rw [hg];rfl
   have HSh:Hid (∀ W,Calls Tryz.prog 168 #[.string (txt y2)] W (ShortPost y2 W)):=fun W=>short_any' y2 W (by omega)
   clear hg hE hX h
   go_enter Tryz.func175,Tryz.ntmps175
   go_wp2_with fail
   refine HG.out.mono ?_
   rintro e w1 ⟨rfl,hb1,hc1⟩
   have HB1:=Lib.hid hb1
   clear hb1 hc1 HG
   go_wp2_with fail
   refine (HSh.out _).mono ?_
   have hb2:Below w.heap.size w (w1.alloc (.cells #[.string (txt y1),.string (txt y2),.bool true] 43)):=HB1.out.alloc HB1.out.size _
   rintro e w2 ⟨rfl,⟨h1,rfl⟩ | ⟨h1,rfl⟩⟩
   ·have HE:Hid (finR n y2=.error 3):=fin_err n h1
    go_wp2_with fail
    go_ret2
    exact ⟨turned_of_below' hb2,.inl ⟨3,HV.out.trans HE.out,by decide,rfl⟩⟩
   ·have HE:Hid (finR n y2=.ok (n,y2)):=fin_ok n h1
    go_wp2_with fail
    go_ret2
    exact ⟨turned_of_below' hb2,.inr ⟨n,y2,HV.out.trans HE.out,rfl,(hb2.block _ hx).trans HH.out.steps,HH.out.few⟩⟩
  | false =>
   have HBg:Hid (∀ W,Below w.heap.size w W→Calls Tryz.prog 177 #[.pointer (some ⟨xb,0,none⟩),.agg #[.slice o m c,.int .i64 (d:Int)]] W (BeginPost xb n d o m c W)):=fun W hb=>begin_any xb n d o m c W ((hb.block _ hx).trans h.steps) h.few (by omega)
   have HX:Hid (∀ j W,k=j+1→Turned (fun b=>b=xb) w W→StepsAt W xb (n+1)→n+1≤2000→Calls Tryz.prog 147 #[.pointer (some ⟨xb,0,none⟩),.agg #[.slice o m c,.int .i64 ((d:Int)+1)],.string (txt y2)] W (ExpPost xb (textE j env y2 (n+1)) W)):=fun j W hk hT hS hn=>by
    subst hk
    exact hX j rfl xb (n+1) (d+1) o m c env y2 W (by omega) (h.turned hT hS hn) hE.less hyl
   have HV0:Hid (k=0→valE k env s n=.error 15):=fun hk=>by
    subst hk
    show valB (fun _ _=>.error 15) env s n=_;unfold valB;rw [hg];rfl
   have HV1:Hid (∀ j,k=j+1→valE k env s n=stepR n (textE j env y2)):=fun j hk=>by
    subst hk
    show valB (fun s n'=>stepR n' (textE j env s)) env s n=_;unfold valB;rw [hg];rfl
   clear hg hE hX h
   go_enter Tryz.func175,Tryz.ntmps175
   go_wp2_with fail
   refine HG.out.mono ?_
   rintro e w1 ⟨rfl,hb1,hc1⟩
   obtain ⟨k0,k1,_,_⟩:=two_cells hc1
   have hl1:=(Array.getElem?_eq_some_iff.1 hc1).1
   have hb2:Below w.heap.size w (w1.alloc (.cells #[.string (txt y1),.string (txt y2),.bool false] 43)):=hb1.alloc hb1.size _
   have hv2:=World.alloc_heap_new w1 (.cells #[.string (txt y1),.string (txt y2),.bool false] 43)
   have HB1:=Lib.hid (HBg.out _ hb2)
   have HB2:=Lib.hid hb2
   have HV2:=Lib.hid hv2
   clear hb1 hc1 HG hb2 hv2 HBg
   go_wp2_with fail
   refine HB1.out.mono ?_
   rintro e w3 ⟨hT3,hr3⟩
   have HT3:Hid (Turned (fun b=>b=xb) w w3):=(turned_of_below' HB2.out).trans hT3
   have hv3:=(hT3.block w1.heap.size (by simp) (by omega)).trans HV2.out
   have HVar:=Lib.hid hv3
   have hw1l:xb < w1.heap.size:=by omega
   have hl3:=hT3.size
   rw [World.size_alloc] at hl3
   clear hT3 HB1 HB2 HV2 hv3 k0 k1
   rcases hr3 with ⟨hd20,rfl⟩ | ⟨hd20,hn20,rfl⟩ | ⟨hd20,hn20,rfl,hs3⟩
   ·have HE:=Lib.hid (HV0.out (by omega))
    clear HV0 HV1 HX HVar
    go_wp2_with fail
    go_ret2
    refine ⟨HT3.out.later (Y:=fun b=>w.heap.size≤b) ?_ (fun k hk h=>by omega),.inl ⟨15,HE.out,by decide,rfl⟩⟩
    exact turned_of_below' ((Below.refl _ _).alloc (Nat.le_refl _) _)
   ·obtain ⟨j,rfl⟩:∃ j,k=j+1:=⟨k - 1,by omega⟩
    have HE:Hid (valE (j+1) env s n=.error 12):=by
     show _=_
     rw [HV1.out j rfl]
     unfold stepR
     rw [if_pos (by omega)]
    clear HV0 HV1 HX HVar
    go_wp2_with fail
    go_ret2
    refine ⟨HT3.out.later (Y:=fun b=>w.heap.size≤b) ?_ (fun k hk h=>by omega),.inl ⟨12,HE.out,by decide,rfl⟩⟩
    exact turned_of_below' ((Below.refl _ _).alloc (Nat.le_refl _) _)
   ·obtain ⟨j,rfl⟩:∃ j,k=j+1:=⟨k - 1,by omega⟩
    have HE:Hid (valE (j+1) env s n=textE j env y2 (n+1)):=by
     show _=_
     rw [HV1.out j rfl]
     unfold stepR
     rw [if_neg (by omega)]
    have hb4:Below w3.heap.size w3 (w3.alloc (.cells #[.slice o m c,.int .i64 ((d:Int)+1)] 193)):=(Below.refl _ w3).alloc (Nat.le_refl _) _
    have hs3l:=hs3.lt
    have hT4:Turned (fun b=>b=xb) w (w3.alloc (.cells #[.slice o m c,.int .i64 ((d:Int)+1)] 193)):=HT3.out.trans (turned_of_below' hb4)
    have HX1:=Lib.hid (HX.out j _ rfl hT4 ((hb4.block _ hs3l).trans hs3) (by omega))
    have hv4:=(hb4.block w1.heap.size (by omega)).trans HVar.out
    obtain ⟨v0,v1,v2,_⟩:=three_cells hv4
    have HT4:=Lib.hid hT4
    clear HV0 HV1 HX HVar hs3 hb4 hT4 hv4
    go_wp2_with fail
    refine HX1.out.mono ?_
    rintro e w5 ⟨hT5,hr5⟩
    have HT5:=Lib.hid (HT4.out.trans hT5)
    clear hT5 HX1
    rcases hr5 with ⟨cc,hr,hc,rfl⟩ | ⟨n2,t,hr,rfl,hs5,hn5⟩
    ·go_wp2_with fail
     go_ret2
     exact ⟨HT5.out,.inl ⟨cc,HE.out.trans hr,hc,rfl⟩⟩
    ·have HS5:=Lib.hid hs5
     have HR5:=Lib.hid hr
     clear hs5 hr
     go_wp2_with fail
     go_ret2
     exact ⟨HT5.out,.inr ⟨n2,t,HE.out.trans HR5.out,rfl,HS5.out,hn5⟩⟩
end Go.Proofs.YtmfjolmfbdbegaaGreatDoor

namespace Go.Proofs.YtmfjolmfbdbegaaGreatDoor
open Go.RowKit Go.Shelf
attribute [local go_sem] Oper.semAt_some
theorem owns_below {W W':World} {base:Nat} {e:TypeId} {size:Nat} {v:Value} {n:Nat} {xs:List Value} (ho:W.ownsRow base e size v n xs) (hb:Below W.heap.size W W'):W'.ownsRow base e size v n xs:=by
 refine ⟨ho.1,?_⟩
 rcases ho.2 with hn | ⟨g,cap,cur,rfl,h1,hgg,rest⟩
 ·exact .inl hn
 ·refine .inr ⟨g,cap,cur,rfl,h1,?_,rest⟩
  rw [hb.block g (Array.getElem?_eq_some_iff.1 hgg).1]
  exact hgg
theorem take_is {c:BT} {m:Nat} (hm:m=(c.takeWhile fun x=>!blankB x).length):(txt c).extract 0 m=txt (c.takeWhile fun x=>!blankB x)∧(txt c).extract m (txt c).size=txt (c.dropWhile fun x=>!blankB x):=by
 have e:c.takeWhile (fun x=>!blankB x)++c.dropWhile (fun x=>!blankB x)=c:=List.takeWhile_append_dropWhile
 have e2:=congrArg List.length e
 rw [List.length_append] at e2
 have h1:=List.take_left (l₁:=c.takeWhile fun x=>!blankB x) (l₂:=c.dropWhile fun x=>!blankB x)
 have h2:=List.drop_left (l₁:=c.takeWhile fun x=>!blankB x) (l₂:=c.dropWhile fun x=>!blankB x)
 rw [e] at h1 h2
 rw [extract_txt,extract_txt,txt_data,txt_size]
 subst hm
 constructor
 ·rw [List.drop_zero,Nat.sub_zero,h1]
 ·rw [h2,List.take_of_length_le (by omega)]
set_option maxRecDepth 100000 in
set_option maxHeartbeats 20000000 in
theorem function_any (c:BT) (hc:c.length≤10000000) (w:World):Calls Tryz.prog 178 #[.string (txt c)] w fun e w'=>e=.returned (.tuple #[.string (txt (funW c)),.string (txt (funRest c))])∧Below w.heap.size w w':=by
 have hI:=indexAny_any (txt c) (by rw [txt_size];exact hc) w
 rw [txt_data,blank_at] at hI
 cases hb:hasBl c with
 | false =>
  have e1:funW c=[]:=by unfold funW;rw [hb];rfl
  have e2:funRest c=[]:=by unfold funRest;rw [hb];rfl
  rw [hb] at hI
  simp only [Bool.false_eq_true,if_false] at hI
  rw [e1,e2,txt_nil]
  have HI:=Lib.hid hI
  clear hI e1 e2
  go_enter Tryz.func178,Tryz.ntmps178
  go_wp2_with fail
  refine HI.out.mono ?_
  rintro e w1 ⟨rfl,hb1⟩
  go_wp2_with fail
  go_ret2
  exact ⟨rfl,hb1⟩
 | true =>
  have e1:Hid (funW c=c.takeWhile fun x=>!blankB x):=by show _=_;unfold funW;rw [hb];rfl
  have e2:Hid (funRest c=cutL (c.dropWhile fun x=>!blankB x)):=by show _=_;unfold funRest;rw [hb];rfl
  rw [hb] at hI
  simp only [if_true] at hI
  obtain ⟨m,hm⟩:∃ m,m=(c.takeWhile fun x=>!blankB x).length:=⟨_,rfl⟩
  obtain ⟨x1,x2⟩:=take_is hm
  rw [← hm] at hI
  have hml:m≤(txt c).size:=by rw [txt_size,hm];exact (List.takeWhile_prefix _).length_le
  have HI:=Lib.hid hI
  have HT:Hid (∀ W,Calls Tryz.prog 189 #[.string (txt (c.dropWhile fun x=>!blankB x)),.string ⟨#[32,9]⟩] W fun e w'=>e=.returned (.string (txt (cutL (c.dropWhile fun x=>!blankB x))))∧Below W.heap.size W w'):=fun W=>by
   have:=trimLeft_any (txt (c.dropWhile fun x=>!blankB x)) W
   rw [txt_data] at this
   exact this
  rw [e1.out,e2.out]
  generalize c.takeWhile (fun x=>!blankB x)=c1 at x1 hm
  generalize c.dropWhile (fun x=>!blankB x)=c2 at x2 HT
  obtain ⟨S,hS⟩:∃ S,S=txt c:=⟨_,rfl⟩
  rw [← hS] at x1 x2 hml HI ⊢
  have h1:(0:Int)≤(m:Int):=by omega
  have h2:(m:Int)≤(S.size:Int):=by omega
  clear hI e1 e2 hm hS hb
  go_enter Tryz.func178,Tryz.ntmps178
  go_wp2_with fail
  refine HI.out.mono ?_
  rintro e w1 ⟨rfl,hb1⟩
  have HB1:=Lib.hid hb1
  clear hb1 HI
  go_wp2_with fail
  have hbb:Below w1.heap.size w1 w1:=Below.refl _ _
  go_region_held3 (fun w'=>Below w1.heap.size w1 w')
   (first | assumption | exact Below.drew (by assumption))
   (first | (go_at_call 189;refine (HT.out _).mono ?_;rintro e w2 ⟨rfl,hb2⟩;have hb3:Below w1.heap.size w1 w2:=(by first | exact hb2 | exact (show Below w1.heap.size w1 w1.drew from hbb.drew).trans hb2)))
  go_wp2_with fail
  go_ret2
  exact ⟨rfl,HB1.out.trans (hb3.mono HB1.out.size)⟩
theorem argsT_short:∀ (m:Nat) (s:BT),∀ x∈argsT m s,x.length≤s.length
 | 0,s,x,h=>by unfold argsT at h;simp at h;rw [h];exact Nat.le_refl _
 | m+1,s,x,h=>by
  unfold argsT at h
  split at h
  ·simp at h;rw [h];exact Nat.le_refl _
  ·rcases List.mem_cons.1 h with rfl | h
   ·exact cut_short1 _ _
   ·exact Nat.le_trans (argsT_short m _ x h) (cut_short _ _)
theorem argsT_len:∀ (m:Nat) (s:BT),(argsT m s).length≤m+1∧1≤(argsT m s).length
 | 0,s=>by unfold argsT;simp
 | m+1,s=>by
  unfold argsT
  split
  ·simp
  ·have:=argsT_len m (cutOf [[44]] s).2.2
   simp only [List.length_cons]
   omega
theorem name_eq (c:BT) (l:List UInt8):((txt c).toList == l)=decide (c=l):=by
 rw [txt_toL]
 by_cases h:c=l
 ·subst h;simp
 ·rw [decide_eq_false h];simpa using h
set_option maxRecDepth 100000 in
set_option maxHeartbeats 20000000 in
theorem arity_any (c:BT) (w:World):Calls Tryz.prog 179 #[.string (txt c)] w fun e w'=>e=.returned (.tuple #[.int .i64 (leastT c),.int .i64 (mostT c)])∧w=w':=by
 have q1:=name_eq c nIf
 have q2:=name_eq c nForeach
 have q3:=name_eq c nCallW
 have hM:=many_any (txt c)
 rw [txt_data] at hM
 have HM:=Lib.hid hM
 unfold leastT mostT
 unfold nIf at q1
 unfold nForeach at q2
 unfold nCallW at q3
 obtain ⟨S,hS⟩:∃ S,S=txt c:=⟨_,rfl⟩
 rw [← hS] at q1 q2 q3 HM ⊢
 clear hM hS
 by_cases h1:c=nIf
 ·have HV:Hid ((if c=nIf then (2:Int) else if c=nForeach then 3 else if c=nCallW then 1 else manyOf c)=2∧(if c=nIf then (3:Int) else if c=nForeach then 3 else if c=nCallW then 9 else manyOf c)=3):=⟨if_pos h1,if_pos h1⟩
  rw [HV.out.1,HV.out.2]
  rw [decide_eq_true (show c=[105,102] from h1)] at q1
  clear h1 HV q2 q3
  go_enter Tryz.func179,Tryz.ntmps179
  go_wp2
  go_ret2
  exact ⟨rfl,rfl⟩
 by_cases h2:c=nForeach
 ·have HV:Hid ((if c=nIf then (2:Int) else if c=nForeach then 3 else if c=nCallW then 1 else manyOf c)=3∧(if c=nIf then (3:Int) else if c=nForeach then 3 else if c=nCallW then 9 else manyOf c)=3):=⟨by rw [if_neg h1,if_pos h2],by rw [if_neg h1,if_pos h2]⟩
  rw [HV.out.1,HV.out.2]
  rw [decide_eq_false (show ¬ c=[105,102] from h1)] at q1
  rw [decide_eq_true (show c=[102,111,114,101,97,99,104] from h2)] at q2
  clear h1 h2 HV q3
  go_enter Tryz.func179,Tryz.ntmps179
  go_wp2
  go_ret2
  exact ⟨rfl,rfl⟩
 by_cases h3:c=nCallW
 ·have HV:Hid ((if c=nIf then (2:Int) else if c=nForeach then 3 else if c=nCallW then 1 else manyOf c)=1∧(if c=nIf then (3:Int) else if c=nForeach then 3 else if c=nCallW then 9 else manyOf c)=9):=⟨by rw [if_neg h1,if_neg h2,if_pos h3],by rw [if_neg h1,if_neg h2,if_pos h3]⟩
  rw [HV.out.1,HV.out.2]
  rw [decide_eq_false (show ¬ c=[105,102] from h1)] at q1
  rw [decide_eq_false (show ¬ c=[102,111,114,101,97,99,104] from h2)] at q2
  rw [decide_eq_true (show c=[99,97,108,108] from h3)] at q3
  clear h1 h2 h3 HV
  go_enter Tryz.func179,Tryz.ntmps179
  go_wp2
  go_ret2
  exact ⟨rfl,rfl⟩
 ·have HV:Hid ((if c=nIf then (2:Int) else if c=nForeach then 3 else if c=nCallW then 1 else manyOf c)=manyOf c∧(if c=nIf then (3:Int) else if c=nForeach then 3 else if c=nCallW then 9 else manyOf c)=manyOf c):=⟨by rw [if_neg h1,if_neg h2,if_neg h3],by rw [if_neg h1,if_neg h2,if_neg h3]⟩
  rw [HV.out.1,HV.out.2]
  rw [decide_eq_false (show ¬ c=[105,102] from h1)] at q1
  rw [decide_eq_false (show ¬ c=[102,111,114,101,97,99,104] from h2)] at q2
  rw [decide_eq_false (show ¬ c=[99,97,108,108] from h3)] at q3
  clear h1 h2 h3 HV
  go_enter Tryz.func179,Tryz.ntmps179
  go_wp2_with fail
  refine (HM.out _).mono ?_
  rintro e _ ⟨rfl,rfl⟩
  go_wp2_with fail
  go_ret2
  exact ⟨rfl,rfl⟩
set_option maxRecDepth 100000 in
set_option maxHeartbeats 4000000 in
theorem arguments_any (s:BT) (M:Nat) (hs:s.length≤10000000) (hM:M≤100) (w:World):Calls Tryz.prog 181 #[.string (txt s),.int .i64 ((M:Int)+1)] w fun e w' =>
  ∃ o n c,e=.returned (.slice o n c)∧n=(argsT M s).length∧OwnT w' w.heap.size (.slice o n c) (argsT M s)∧Below w.heap.size w w':=by
 have HK:Hid (∀ (t:BT) W,t.length≤10000000→Calls Tryz.prog 72 #[.string (txt t),.slice (some ⟨W.heap.size,0,none⟩) 1 1] (W.alloc (.cells #[.string ⟨#[44]⟩] 9)) fun e w'=>e=.returned (.tuple #[.string (txt (cutOf [[44]] t).1),.string (txt (cutOf [[44]] t).2.1),.string (txt (cutOf [[44]] t).2.2)])∧Below W.heap.size W w'):=fun t W ht=>cut_one W t [44] ht (by decide)
 have hw1:IntKind.i64.wrap ((M:Int)+1 - 1)=(M:Int):=by rw [IntKind.wrap_i64];omega
 have HQ:Hid (∀ (acc:List BT) (t:BT) (q:Option Addr) (z cz:Nat) (W:World),OwnT W w.heap.size (.slice q z cz) acc→acc.length≤100→Below w.heap.size w W→argsT M s=acc++[t]→∃ o n c w',(Builtin.append_ #[28,28] 28 #[.slice q z cz,.slice (some ⟨W.heap.size,0,none⟩) 1 1]).run Tryz.prog (W.alloc (.cells #[.string (txt t)] 9))=.ok (.slice o n c) w'∧(n=(argsT M s).length∧OwnT w' w.heap.size (.slice o n c) (argsT M s)∧Below w.heap.size w w')):=fun acc t q z cz W ho ha hb he=>by
  obtain ⟨o,n,c,w',h1,h2,h3⟩:=run_append_told w.heap.size (.slice q z cz) acc t ho (by omega) hb.size 28
  rw [← he] at h2
  refine ⟨o,n,c,w',h1,?_,h2,hb.trans h3⟩
  rcases h2.2 with ⟨hv,h0⟩ | ⟨g,cap,cur,hv,_⟩
  ·cases hv;exact h0.symm
  ·cases hv;rfl
 go_enter Tryz.func181,Tryz.ntmps181
 go_wp2_with fail
 go_loopw [0,5] (fun sv vv wr=>∃ (i:Nat) (s':BT) (acc:List BT) (q:Option Addr) (cz:Nat),i≤M∧sv=.string (txt s')∧s'.length≤10000000∧vv=.slice q i cz∧Hid (acc.length=i)∧Hid (OwnT wr w.heap.size (.slice q i cz) acc)∧Hid (Below w.heap.size w wr)∧Hid (argsT M s=acc++argsT (M - i) s')) (fun _ vv _=>M - (match vv with | .slice _ n _=>n | _=>0))
 case atStart=>exact ⟨0,s,[],none,0,Nat.zero_le _,rfl,hs,rfl,rfl,OwnT.nil _ _,Below.refl _ _,rfl⟩
 case round =>
  obtain ⟨i,s',acc,q,cz,hi,rfl,hs',rfl,HAc,HO,HB,HE⟩:=hrel
  by_cases hlt:i < M
  ·have d1:(i:Int) < (M:Int):=by omega
   have HK1:=Lib.hid (HK.out s' wr hs')
   have hsh:=cut_short [[44]] s'
   have HE0:Hid ((cutOf [[44]] s').2.1=[]→argsT M s=acc++[s']):=fun h0=>by
    rw [HE.out,show M - i=(M - i - 1)+1 by omega]
    unfold argsT
    rw [if_pos h0]
   have HE1:Hid (¬ (cutOf [[44]] s').2.1=[]→argsT M s=acc++[(cutOf [[44]] s').1]++argsT (M - (i+1)) (cutOf [[44]] s').2.2):=fun h0=>by
    rw [HE.out,show M - i=(M - (i+1))+1 by omega]
    conv=>lhs;unfold argsT
    rw [if_neg h0]
    simp
   generalize cutOf [[44]] s'=K at HK1 hsh HE0 HE1
   clear HE HK
   go_wp2_with fail
   refine HK1.out.mono ?_
   rintro e w2 ⟨rfl,hb2⟩
   have HB2:Hid (Below w.heap.size w w2):=HB.out.trans (hb2.mono HB.out.size)
   have HO2:Hid (OwnT w2 w.heap.size (.slice q i cz) acc):=owns_below HO.out hb2
   clear hb2 HK1 HB HO
   by_cases hk:K.2.1=[]
   ·have e5:(txt K.2.1).toList.isEmpty=true:=by rw [hk,txt_toL];rfl
    obtain ⟨o3,n3,c3,w3,hrun,HP3⟩:=HQ.out acc s' q i cz w2 HO2.out (by have:=HAc.out;omega) HB2.out (HE0.out hk)
    have HP:=Lib.hid HP3
    clear HP3 hk HE0 HE1
    go_wp2_with (at_builtin;refine wpList_append_eq rfl _ _ 28 rfl _ _ _ w3 rfl rfl hrun ?_)
    go_ret
    exact ⟨_,_,_,rfl,HP.out.1,HP.out.2.1,HP.out.2.2⟩
   ·have e5:(txt K.2.1).toList.isEmpty=false:=by rw [txt_toL];simpa using hk
    obtain ⟨o3,n3,c3,w3,hrun,hown3,hb3⟩:=run_append_told w.heap.size (.slice q i cz) acc K.1 HO2.out (by have:=HAc.out;omega) HB2.out.size 28
    have hn3:n3=i+1:=by
     have hl:=HAc.out
     rcases hown3.2 with ⟨hv,h0⟩ | ⟨g,cap,cur,hv,_⟩
     ·rw [List.length_append] at h0;simp at h0
     ·cases hv;rw [List.length_append,hl];rfl
    subst hn3
    have HO3:=Lib.hid hown3
    have HB3:Hid (Below w.heap.size w w3):=HB2.out.trans hb3
    have HE2:=Lib.hid (HE1.out hk)
    clear hk hown3 hb3 HE0 HE1 HO2 HB2
    go_wp2_with (at_builtin;refine wpList_append_eq rfl _ _ 28 rfl _ _ _ w3 rfl rfl hrun ?_)
    go_roundw
    case rel=>exact ⟨i+1,K.2.2,acc++[K.1],o3,c3,hlt,rfl,by omega,rfl,(show Hid _ from by show _=_;rw [List.length_append,HAc.out];rfl),HO3,HB3,HE2⟩
    case measure=>simp;omega
  ·obtain rfl:i=M:=by omega
   have d1:¬ (i:Int) < (i:Int):=by omega
   obtain ⟨o3,n3,c3,w3,hrun,HP3⟩:=HQ.out acc s' q i cz wr HO.out (by have:=HAc.out;omega) HB.out (by rw [HE.out,Nat.sub_self];unfold argsT;rfl)
   have HP:=Lib.hid HP3
   clear HP3 HE HK
   go_wp2_with (at_builtin;refine wpList_append_eq rfl _ _ 28 rfl _ _ _ w3 rfl rfl hrun ?_)
   go_ret
   exact ⟨_,_,_,rfl,HP.out.1,HP.out.2.1,HP.out.2.2⟩
end Go.Proofs.YtmfjolmfbdbegaaGreatDoor
