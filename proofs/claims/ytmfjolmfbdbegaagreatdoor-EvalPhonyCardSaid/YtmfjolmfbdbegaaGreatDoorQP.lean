/-
  What the program's Parse answers, for every row of at most a thousand lines of at most a hundred thousand bytes each. No condition.
-/
import Derived.Deep.RegionHeld3
import Derived.Test.YtmfjolmfbdbegaaGreatDoorQA
import Derived.Test.YtmfjolmfbdbegaaGreatDoorQB
namespace Go.Proofs.YtmfjolmfbdbegaaGreatDoor
open Go.RowKit Go.Shelf
attribute [local go_sem] Oper.semAt_some
theorem wp_append_runQ {P:Program} {w:World} {o:Oper} {a:Act} {K:Act→World→Prop} {Q:Exit→Act→World→Prop} (s x:Operand) (t:TypeId)
  (hop:o.op=Op.call { callee:=Callee.builtin Builtin.append,args:=#[s,x],argTypes:=#[t,t] }) (v u v':Value) (w':World) (hs:a.eval s=v) (hx:a.eval x=u)
  (hrun:(Builtin.append_ #[t,t] o.type #[v,u]).run P w=.ok v' w') (h:K (a.put o.dst v') w'):Oper.wp P o a w K Q:=by
 unfold Oper.wp
 simp [execOp,hop,resolve,invoke,builtin,hs,hx,hrun,Result.andThen]
 exact h
theorem step_append_runQ {P:Program} {w:World} {ops:Array Oper} {o:Oper} {a:Act} {K:Act→World→Prop} {Q:Exit→Act→World→Prop} {E:Prop} (hgd:o.guard=none) (s x:Operand) (t:TypeId)
  (hop:o.op=Op.call { callee:=Callee.builtin Builtin.append,args:=#[s,x],argTypes:=#[t,t] }) (v u v':Value) (w':World) (hs:a.eval s=v) (hx:a.eval x=u)
  (hrun:(Builtin.append_ #[t,t] o.type #[v,u]).run P w=.ok v' w') (h:K (a.put o.dst v') w'):if Region.wanted o (yielded ops a.tmps)=true then Oper.wp P o a w K Q else E:=by
 have hw:Region.wanted o (yielded ops a.tmps)=true:=by simp [Region.wanted,hgd]
 rw [if_pos hw]
 exact wp_append_runQ s x t hop v u v' w' hs hx hrun h
theorem parseG_fit {op:List Bool} {dp:Option Int} {out:List Nd} {no:Int} {t:BS} {r:List LineI}:parseG op dp out ((no,false,t) :: r) =
  match oneL no t with
  | none=>badL 2 no
  | some n=>match fitStep op dp n with
   | none=>badL 2 no
   | some q=>parseG q.1 q.2 (out++[n]) r:=by
 rw [parseG_one]
 cases h:oneL no t with
 | none=>rfl
 | some n =>
  have hno:=(one_kind h).2.2.1
  simp only
  unfold fitStep
  by_cases h3:n.kind=3
  ·rw [if_pos h3,if_pos h3,hno]
  by_cases h4:n.kind=4
  ·rw [if_neg h3,if_neg h3,if_pos h4,if_pos h4]
   match op with
   | []=>rfl
   | true :: _=>rfl
   | false :: _=>rfl
  by_cases h5:n.kind=5
  ·rw [if_neg h3,if_neg h3,if_neg h4,if_neg h4,if_pos h5,if_pos h5]
   match op with
   | []=>rfl
   | _ :: _=>rfl
  ·rw [if_neg h3,if_neg h3,if_neg h4,if_neg h4,if_neg h5,if_neg h5]
theorem fit_len {op op':List Bool} {dp dp':Option Int} {n:Nd} (h:fitStep op dp n=some (op',dp')):op'.length≤op.length+1:=by
 unfold fitStep at h
 split at h
 ·cases h;simp
 split at h
 ·split at h
  ·cases h;simp
  ·cases h
 split at h
 ·split at h
  ·cases h;simp;omega
  ·cases h
 ·cases h;omega
set_option maxRecDepth 100000 in
set_option maxHeartbeats 16000000 in
theorem parse_any:ParseC:=by
 intro v ls w hr hl ht
 obtain ⟨o,c,rfl,hx⟩:=hr
 obtain ⟨n,hn⟩:∃ n,n=ls.length:=⟨_,rfl⟩
 rw [← hn] at hx hl ⊢
 have HX:Hid (∀ (j:Nat) x,ls[j]? = some x→∃ b f,o=some ⟨b,f,none⟩∧n≤c∧∀ W,Below w.heap.size w W→W.cell? ⟨b,f+j*3,none⟩=some (.int .i64 x.1)∧W.cell? ⟨b,f+j*3+1,none⟩=some (.bool x.2.1)∧W.cell? ⟨b,f+j*3+2,none⟩=some (.string (txt x.2.2))):=fun j x hj=>by
  obtain ⟨b,f,h1,h2,h3,h4,h5,h6⟩:=hx j x hj
  exact ⟨b,f,h1,h3,fun W hb=>⟨(hb.cell (p:=⟨b,f+j*3,none⟩) h2).trans h4,(hb.cell (p:=⟨b,f+j*3+1,none⟩) h2).trans h5,(hb.cell (p:=⟨b,f+j*3+2,none⟩) h2).trans h6⟩⟩
 have HN:=Lib.hid hn
 have HT:=Lib.hid ht
 clear hx hn ht
 go_enter Tryz.func17,Tryz.ntmps17
 go_wp2_with fail
 go_loopw [5,17] (fun ov iv wr=>∃ (i:Nat) (nds:List NV) (op:List Bool) (dp:Option Int),i≤n∧iv=.int .i64 i∧nds.length≤i∧op.length≤i∧(∀ x∈nds,x.1.recipe.length≤i)∧parseP ls=parseG op dp (nds.map fun x:NV=>x.1) (ls.drop i)∧PSq w ov nds [oNest w.heap.size op dp] wr) (fun _ iv _=>n - (intOf iv).toNat)
 case atStart=>exact ⟨0,[],[],none,Nat.zero_le _,rfl,Nat.le_refl _,Nat.le_refl _,by simp,rfl,PSq.ofNest ((In.nil (Below.refl w.heap.size w)).rowNil _ _ _).nestNew (by simp)⟩
 case round =>
  obtain ⟨i,nds,op,dp,hi,rfl,hnl,hol,hrl,hP,hS⟩:=hrel
  obtain ⟨no',nc,rfl,hnc,hc0⟩:=hS.nodes
  clear hc0
  by_cases hin:i < n
  ·obtain ⟨⟨no,tab,t⟩,hli⟩:∃ x,ls[i]? = some x:=⟨ls[i]'(by rw [← HN.out];exact hin),List.getElem?_eq_getElem _⟩
   have hd:ls.drop i=(no,tab,t) :: ls.drop (i+1):=by
    obtain ⟨h1,h2⟩:=List.getElem?_eq_some_iff.1 hli
    rw [List.drop_eq_getElem_cons h1,h2]
   obtain ⟨b,f,rfl,hncap,hlc⟩:=HX.out i _ hli
   obtain ⟨l0,l1,l2⟩:=hlc wr hS.back
   have htl:t.length≤100000:=HT.out _ (List.mem_of_getElem? hli)
   simp only at l0 l1 l2
   rw [hd] at hP
   have hSb:=hS.hold [.int .i64 no,.bool tab,.string (txt t)] 70
   have hSx:=hS.below ((Below.refl _ wr).alloc (Nat.le_refl _) (.cells #[.int .i64 no,.bool tab,.string (txt t)] 70))
   have hxh:=World.alloc_heap_new wr (.cells #[.int .i64 no,.bool tab,.string (txt t)] 70)
   clear hd hli hlc hS
   change PSq w (.slice no' nds.length nc) nds [oCells wr.heap.size [.int .i64 no,.bool tab,.string (txt t)] 70,oNest w.heap.size op dp] (wr.alloc (.cells #[.int .i64 no,.bool tab,.string (txt t)] 70)) at hSb
   have HSb0:=Lib.hid hSb
   clear hSb
   go_upto_region 7 with fail
   have hSb:=HSb0.out
   clear HSb0
   generalize wr.alloc (.cells #[.int .i64 no,.bool tab,.string (txt t)] 70)=wx at hSb hSx hxh ⊢
   obtain ⟨xb,hxb⟩:∃ xb,xb=wr.heap.size:=⟨_,rfl⟩
   rw [← hxb] at hxh hSb ⊢
   have HSb:=Lib.hid hSb
   clear hSb
   have hxl:xb < wx.heap.size:=(Array.getElem?_eq_some_iff.1 hxh).1
   have HXb:Hid (∀ W,Below wx.heap.size wx W→W.cell? ⟨xb,0,none⟩=some (.int .i64 no)∧W.cell? ⟨xb,1,none⟩=some (.bool tab)∧W.cell? ⟨xb,2,none⟩=some (.string (txt t))):=fun W hb=>by
    have hh:=(hb.block _ hxl).trans hxh
    refine ⟨?_,?_,?_⟩ <;> (rw [Lib.cell_of_heap hh];rfl)
   obtain ⟨x0,x1,x2⟩:=HXb.out wx (Below.refl _ _)
   clear hxb hxh l0 l1 l2
   cases tab with
   | true =>
    rw [parseG_tab] at hP
    rcases List.eq_nil_or_concat nds with rfl | ⟨ini,⟨nd,rv⟩,rfl⟩
    ·have HIs:Hid (∀ W,Calls Tryz.prog 28 #[.slice no' 0 nc] W fun e w'=>e=.returned (.bool false)∧W=w'):=fun W=>isBehind_nil no' nc W
     have HB2:Hid (∀ q,ParsePost (parseP ls) w (.returned (.tuple #[.slice none 0 0,.int .i64 2,.int .i64 no])) (wx.drewN q)):=fun q=>ParsePost.bad hP (hSx.below (drewN_below _ _ q)).back
     clear hP hSx HX HT HN HXb
     simp only [List.length_nil]
     go_wp2_with (first | (go_at_call 28;refine (HIs.out _).mono ?_;rintro e w' ⟨rfl,rfl⟩))
     go_quiet (fail)
     go_wp2
     go_ret3
     exact HB2.out _
    ·rw [List.concat_eq_append] at hP hSx hrl hnl hnc ⊢
     have hlen:(ini++[(nd,rv)]).length=ini.length+1:=by simp
     rw [hlen] at hSx hnl hnc ⊢
     have HSB:Hid (PSq w (.slice no' (ini.length+1) nc) (ini++[(nd,rv)]) [oCells xb [.int .i64 no,.bool true,.string (txt t)] 70,oNest w.heap.size op dp] wx):=by
      have:=HSb.out
      rw [List.concat_eq_append,hlen] at this
      exact this
     obtain ⟨no2,nc2,hv2,hnc2,hcells⟩:=hSx.nodes
     obtain ⟨g,hg,hgl,hgf,hgc⟩:=hcells ini.length (nd,rv) (by simp)
     simp only [Value.slice.injEq] at hv2
     obtain ⟨rfl,_,rfl⟩:=hv2
     subst hg
     rw [hlen] at hnc2
     have q0:wx.cell? ⟨g,ini.length*10,none⟩=some (.int .i64 nd.kind):=hgc 0 (by omega)
     have hP2:parseP ls=if nd.kind=2 then parseG op dp ((ini++[({ nd with recipe:=nd.recipe++[t] },rv)]).map fun x:NV=>x.1) (ls.drop (i+1)) else badL 2 no:=by
      rw [hP]
      simp
     clear hP hcells
     by_cases hk:nd.kind=2
     ·have ek:(nd.kind == 2)=true:=by simp [hk]
      obtain ⟨il,hil⟩:∃ il,il=ini.length+1:=⟨_,rfl⟩
      have HIs:Hid (∀ W,W.cell? ⟨g,ini.length*10,none⟩=some (.int .i64 nd.kind)→Calls Tryz.prog 28 #[.slice (some ⟨g,0,none⟩) il nc] W fun e w'=>e=.returned (.bool true)∧W=w'):=fun W hW=>by
       have:=isBehind_last g ini.length nc nd.kind (by omega) W hW
       rwa [ek,← hil] at this
      obtain ⟨ro,rn,rc,hrv⟩:=hSx.2 (nd,rv) (by simp)
      simp only at hrv
      subst hrv
      have q9:wx.drew.cell? ⟨g,ini.length*10+9,none⟩=some (.slice ro rn rc):=hgc 9 (by omega)
      have hrb:nd.recipe.length≤i:=hrl (nd,.slice ro rn rc) (by simp)
      have hdr:Below wx.heap.size wx wx.drew:=drewN_below' (Below.refl _ _)
      obtain ⟨o2,c2,w2,hrun,p9,pf,hI2,hS2⟩:=(HSB.out.below hdr).tab t (by omega) 28
      have QX:Hid (w2.cell? ⟨xb,2,none⟩=some (.string (txt t))):=by
       have hcx:=hI2.cells (b:=xb) (cs:=[.int .i64 no,.bool true,.string (txt t)]) (t := 70) (by simp)
       show _=_
       rw [Lib.cell_of_heap hcx];rfl
      have q9a:(wx.drew.alloc (.cells #[.string (txt t)] 9)).cell? ⟨g,ini.length*10+9,none⟩=some (.slice ro rn rc):=(((Below.refl _ wx.drew).alloc (Nat.le_refl _) _).cell (p:=⟨g,ini.length*10+9,none⟩) hgl).trans q9
      have q2d:wx.drew.cell? ⟨xb,2,none⟩=some (.string (txt t)):=x2
      have q2a:(wx.drew.alloc (.cells #[.string (txt t)] 9)).cell? ⟨xb,2,none⟩=some (.string (txt t)):=(((Below.refl _ wx.drew).alloc (Nat.le_refl _) _).cell (p:=⟨xb,2,none⟩) hxl).trans q2d
      have HS2:=Lib.hid hS2
      have HRL:Hid (∀ x∈ini++[(({ nd with recipe:=nd.recipe++[t] },.slice o2 (nd.recipe.length+1) c2):NV)],x.1.recipe.length≤i+1):=fun x hx=>by
       rcases List.mem_append.1 hx with hx | hx
       ·exact Nat.le_succ_of_le (hrl x (by simp [hx]))
       ·rw [List.mem_singleton.1 hx];simp;omega
      have HP4:Hid (parseP ls=parseG op dp ((ini++[(({ nd with recipe:=nd.recipe++[t] },.slice o2 (nd.recipe.length+1) c2):NV)]).map fun x:NV=>x.1) (ls.drop (i+1))):=by
       show _=_
       rw [hP2,if_pos hk];simp
      have Q0:=Lib.hid q0
      have QQ:=Lib.hid (And.intro q9 (And.intro q9a (And.intro q2d (And.intro q2a (And.intro p9 (And.intro pf (And.intro hgf (And.intro hnc2 hrun))))))))
      clear hP2 hSx hS2 hk hrl hgc hdr HX HT q0 q9 q9a q2d q2a p9 pf hgf hlen hnc hnc2 hgl ek hrun x0 x2
      have HIL:=Lib.hid hil
      have HNL:=Lib.hid hnl
      rw [← hil]
      clear hil hnl
      go_wp2_with fail
      refine (HIs.out _ Q0.out).mono ?_
      rintro e w' ⟨rfl,rfl⟩
      have hi1:(il:Int) - 1=(ini.length:Int):=by have:=HIL.out;omega
      have hi2:(ini.length:Int) < (il:Int):=by have:=HIL.out;omega
      have hi3:il≤1000:=by have:=HIL.out;have:=HNL.out;omega
      have HS3:Hid (PSq w (.slice (some ⟨g,0,none⟩) il nc) (ini++[(({ nd with recipe:=nd.recipe++[t] },.slice o2 (nd.recipe.length+1) c2):NV)]) [oNest w.heap.size op dp] (w2.setCell ⟨g,ini.length*10+9,none⟩ (.slice o2 (nd.recipe.length+1) c2))):=by
       show PSq _ _ _ _ _
       rw [HIL.out];exact HS2.out.free
      go_upto_region 11 with fail
      obtain ⟨q9,q9a,q2d,q2a,p9,pf,hgf,hnc2,hrun⟩:=QQ.out
      have q9c:(wx.alloc (.cells #[.string (txt t)] 9)).drew.cell? ⟨g,ini.length*10+9,none⟩=some (.slice ro rn rc):=q9a
      go_region_law (first | (refine step_append_runQ rfl _ _ 28 rfl _ _ _ w2 rfl rfl hrun ?_))
      all_goals (
       go_wp2
       go_roundw
       case rel=>exact ⟨i+1,_,op,dp,hin,by go_num,by have:=HNL.out;simp;omega,by omega,HRL.out,HP4.out,HS3.out⟩
       case measure=>simp [intOf];omega)
     ·have ek:(nd.kind == 2)=false:=by simp [hk]
      obtain ⟨il,hil⟩:∃ il,il=ini.length+1:=⟨_,rfl⟩
      have HIs:Hid (∀ W,W.cell? ⟨g,ini.length*10,none⟩=some (.int .i64 nd.kind)→Calls Tryz.prog 28 #[.slice (some ⟨g,0,none⟩) il nc] W fun e w'=>e=.returned (.bool false)∧W=w'):=fun W hW=>by
       have:=isBehind_last g ini.length nc nd.kind (by omega) W hW
       rwa [ek,← hil] at this
      have Q0:=Lib.hid q0
      rw [← hil] at hnl ⊢
      have HB2:Hid (∀ q,ParsePost (parseP ls) w (.returned (.tuple #[.slice none 0 0,.int .i64 2,.int .i64 no])) (wx.drewN q)):=fun q=>ParsePost.bad (hP2.trans (if_neg hk)) (hSx.below (drewN_below _ _ q)).back
      clear hP2 hSx HX HT HN HXb hgc hrl hlen hnc hnc2 hgf hgl ek q0 hil
      go_wp2_with (first | (go_at_call 28;refine (HIs.out _ Q0.out).mono ?_;rintro e w' ⟨rfl,rfl⟩))
      go_quiet (fail)
      go_wp2
      go_ret3
      exact HB2.out _
   | false =>
    rw [parseG_fit] at hP
    have HNode:Hid (∀ W,Calls Tryz.prog 29 #[.string (txt t)] W (OnePost (oneL 0 t) W)):=fun W=>by
     have:=node_any (txt t) (by rw [txt_size];omega) W
     rwa [txt_data] at this
    go_wp2_with fail
    refine (HNode.out _).mono ?_
    rintro e w2 ⟨nd,rfl,hnd,hb2⟩
    have hS2:=hSx.below hb2
    have hSn:=hS2.below ((Below.refl _ w2).alloc (Nat.le_refl _) (.cells #[.int .i64 nd.kind,.int .i64 no,.string (txt nd.op),.string (txt nd.name),.string (txt nd.text),.string (txt nd.targets),.string (txt nd.pattern),.string (txt nd.inputs),.string (txt nd.order),.slice none 0 0] 79))
    have hSh:=(HSb.out.below hb2).hold [.int .i64 nd.kind,.int .i64 no,.string (txt nd.op),.string (txt nd.name),.string (txt nd.text),.string (txt nd.targets),.string (txt nd.pattern),.string (txt nd.inputs),.string (txt nd.order),.slice none 0 0] 79
    change PSq w (.slice no' nds.length nc) nds [oCells w2.heap.size [.int .i64 nd.kind,.int .i64 no,.string (txt nd.op),.string (txt nd.name),.string (txt nd.text),.string (txt nd.targets),.string (txt nd.pattern),.string (txt nd.inputs),.string (txt nd.order),.slice none 0 0] 79,oCells xb [.int .i64 no,.bool false,.string (txt t)] 70,oNest w.heap.size op dp] (w2.alloc (.cells #[.int .i64 nd.kind,.int .i64 no,.string (txt nd.op),.string (txt nd.name),.string (txt nd.text),.string (txt nd.targets),.string (txt nd.pattern),.string (txt nd.inputs),.string (txt nd.order),.slice none 0 0] 79)) at hSh
    have HSh0:=Lib.hid hSh
    clear hSh
    have hnh:=World.alloc_heap_new w2 (.cells #[.int .i64 nd.kind,.int .i64 no,.string (txt nd.op),.string (txt nd.name),.string (txt nd.text),.string (txt nd.targets),.string (txt nd.pattern),.string (txt nd.inputs),.string (txt nd.order),.slice none 0 0] 79)
    obtain ⟨x0',x1',x2'⟩:=HXb.out w2 hb2
    have HXn:Hid (∀ W,Below (w2.alloc (.cells #[.int .i64 nd.kind,.int .i64 no,.string (txt nd.op),.string (txt nd.name),.string (txt nd.text),.string (txt nd.targets),.string (txt nd.pattern),.string (txt nd.inputs),.string (txt nd.order),.slice none 0 0] 79)).heap.size (w2.alloc (.cells #[.int .i64 nd.kind,.int .i64 no,.string (txt nd.op),.string (txt nd.name),.string (txt nd.text),.string (txt nd.targets),.string (txt nd.pattern),.string (txt nd.inputs),.string (txt nd.order),.slice none 0 0] 79)) W→W.cell? ⟨xb,0,none⟩=some (.int .i64 no)):=fun W hb=>by
     have h1:Below wx.heap.size wx (w2.alloc (.cells #[.int .i64 nd.kind,.int .i64 no,.string (txt nd.op),.string (txt nd.name),.string (txt nd.text),.string (txt nd.targets),.string (txt nd.pattern),.string (txt nd.inputs),.string (txt nd.order),.slice none 0 0] 79)):=hb2.trans (((Below.refl _ w2).alloc (Nat.le_refl _) _).mono hb2.size)
     exact (HXb.out W (h1.trans (hb.mono h1.size))).1
    have hxl2:xb < w2.heap.size:=Nat.lt_of_lt_of_le hxl hb2.size
    obtain ⟨K,hK⟩:∃ K,K=w2.heap.size:=⟨_,rfl⟩
    rw [← hK] at hnh
    go_upto_region 14 with fail
    have hSh:=HSh0.out
    clear HSh0
    rw [← hK] at hSh ⊢
    generalize w2.alloc (.cells #[.int .i64 nd.kind,.int .i64 no,.string (txt nd.op),.string (txt nd.name),.string (txt nd.text),.string (txt nd.targets),.string (txt nd.pattern),.string (txt nd.inputs),.string (txt nd.order),.slice none 0 0] 79)=W at hSn hSh hnh HXn ⊢
    have HSh:=Lib.hid hSh
    clear hSh HSb
    clear hS2 hb2 hSx HNode HXb x0 x1 x2 x0' x1' x2' hxl2 hK hxl
    have x0:=HXn.out W (Below.refl _ _)
    have hKl:K < W.heap.size:=(Array.getElem?_eq_some_iff.1 hnh).1
    have HKc:Hid (∀ W',Below W.heap.size W W'→(∀ j,W'.frozen? ⟨K,j,none⟩=false)∧W'.cell? ⟨K,0,none⟩=some (.int .i64 nd.kind)∧W'.cell? ⟨K,1,none⟩=some (.int .i64 no)∧W'.cell? ⟨K,2,none⟩=some (.string (txt nd.op))∧W'.cell? ⟨K,3,none⟩=some (.string (txt nd.name))∧W'.cell? ⟨K,4,none⟩=some (.string (txt nd.text))∧W'.cell? ⟨K,5,none⟩=some (.string (txt nd.targets))∧W'.cell? ⟨K,6,none⟩=some (.string (txt nd.pattern))∧W'.cell? ⟨K,7,none⟩=some (.string (txt nd.inputs))∧W'.cell? ⟨K,8,none⟩=some (.string (txt nd.order))∧W'.cell? ⟨K,9,none⟩=some (.slice none 0 0)):=fun W' hb=>by
     have hh:=(hb.block _ hKl).trans hnh
     refine ⟨Lib.frozen_of_heap hh,?_,?_,?_,?_,?_,?_,?_,?_,?_,?_⟩ <;> (rw [Lib.cell_of_heap hh];rfl)
    obtain ⟨kf,k0,k1,k2,k3,k4,k5,k6,k7,k8,k9⟩:=HKc.out W (Below.refl _ _)
    have hone:=one_no no t
    cases h1:oneL 0 t with
    | none =>
     rw [h1] at hone
     rw [hone] at hP
     have HB2:Hid (∀ q,ParsePost (parseP ls) w (.returned (.tuple #[.slice none 0 0,.int .i64 2,.int .i64 no])) (W.drewN q)):=fun q=>ParsePost.bad hP (hSn.below (drewN_below _ _ q)).back
     clear hP hSn HX HT HN HXn HKc k0 k1 k2 k3 k4 k5 k6 k7 k8 k9 kf hone h1 hnd hnh hKl
     go_wp2_with fail
     go_quiet (fail)
     go_wp2
     go_ret3
     exact HB2.out _
    | some n0 =>
     have hn0:nd=n0:=hnd n0 h1
     subst hn0
     rw [h1] at hone
     have hN:oneL no t=some { nd with no:=no }:=hone
     have hrc:nd.recipe=[]:=(one_kind hN).2.2.2
     rw [hN] at hP
     simp only at hP
     have HF:Hid (∀ Wz,Wz=W→Calls Tryz.prog 30 #[.pointer (some ⟨w.heap.size,0,none⟩),.agg (cellsN { nd with no:=no })] Wz (FitPost w w.heap.size (oRow 79 10 encN (.slice no' nds.length nc) nds :: (nds.map recO++[oCells K [.int .i64 nd.kind,.int .i64 no,.string (txt nd.op),.string (txt nd.name),.string (txt nd.text),.string (txt nd.targets),.string (txt nd.pattern),.string (txt nd.inputs),.string (txt nd.order),.slice none 0 0] 79,oCells xb [.int .i64 no,.bool false,.string (txt t)] 70])) (fitStep op dp { nd with no:=no }))):=fun Wz hz=>by
      rw [hz]
      exact HSh.out.nest3.fits { nd with no:=no } (by omega)
     have HSs:=Lib.hid hSn.2
     have HEnd:Hid (∀ op' dp' w3,In w (oNest w.heap.size op' dp' :: oRow 79 10 encN (.slice no' nds.length nc) nds :: (nds.map recO++[oCells K [.int .i64 nd.kind,.int .i64 no,.string (txt nd.op),.string (txt nd.name),.string (txt nd.text),.string (txt nd.targets),.string (txt nd.pattern),.string (txt nd.inputs),.string (txt nd.order),.slice none 0 0] 79,oCells xb [.int .i64 no,.bool false,.string (txt t)] 70])) w3 →
       w3.cell? ⟨xb,0,none⟩=some (.int .i64 no)∧(∀ j,w3.frozen? ⟨K,j,none⟩=false)∧w3.heap[K]? = some (.cells #[.int .i64 nd.kind,.int .i64 no,.string (txt nd.op),.string (txt nd.name),.string (txt nd.text),.string (txt nd.targets),.string (txt nd.pattern),.string (txt nd.inputs),.string (txt nd.order),.slice none 0 0] 79 (0,0))∧PSq w (.slice no' nds.length nc) nds [oNest w.heap.size op' dp'] w3):=fun op' dp' w3 h3=>by
      have hcx:=h3.cells (b:=xb) (cs:=[.int .i64 no,.bool false,.string (txt t)]) (t := 70) (by simp)
      have hck:=h3.cells (b:=K) (cs:=[.int .i64 nd.kind,.int .i64 no,.string (txt nd.op),.string (txt nd.name),.string (txt nd.text),.string (txt nd.targets),.string (txt nd.pattern),.string (txt nd.inputs),.string (txt nd.order),.slice none 0 0]) (t := 79) (by simp)
      exact ⟨by rw [Lib.cell_of_heap hcx];rfl,Lib.frozen_of_heap hck,hck,PSq.ofNest3 h3 HSs.out⟩
     clear hnd h1 hone hN hnh hKl
     cases hf:fitStep op dp { nd with no:=no } with
     | none =>
      rw [hf] at hP
      have HB2:Hid (∀ l op' dp' w',In w (oNest w.heap.size op' dp' :: l) w'→∀ q,ParsePost (parseP ls) w (.returned (.tuple #[.slice none 0 0,.int .i64 2,.int .i64 no])) (w'.drewN q)):=fun l op' dp' w' h q=>ParsePost.bad hP (h.below (drewN_below _ _ q)).back
      rw [hf] at HF
      clear hP hSn HX HT HN HKc HSh HXn
      go_wp2_with fail
      refine (HF.out W rfl).mono ?_
      rintro e w3 ⟨op',dp',rfl,_,h3⟩
      have HB3:=Lib.hid (HB2.out _ _ _ _ h3)
      have x3:=(HEnd.out _ _ _ h3).1
      clear HB2 h3 x0 k0 k1 k2 k3 k4 k5 k6 k7 k8 k9 kf HF
      go_wp2
      go_quiet (fail)
      go_wp2
      go_ret3
      exact HB3.out _
     | some q =>
      rw [hf] at hP
      simp only at hP
      rw [hf] at HF
      have HRL:Hid (∀ x∈nds++[(({ nd with no:=no },.slice none 0 0):NV)],x.1.recipe.length≤i+1):=fun x hx=>by
       rcases List.mem_append.1 hx with hx | hx
       ·exact Nat.le_succ_of_le (hrl x hx)
       ·rw [List.mem_singleton.1 hx];simp [hrc]
      have hol2:=fit_len (op':=q.1) (dp':=q.2) hf
      have HP4:Hid (parseP ls=parseG q.1 q.2 ((nds++[(({ nd with no:=no },.slice none 0 0):NV)]).map fun x:NV=>x.1) (ls.drop (i+1))):=by
       show _=_
       rw [hP];simp
      clear hP hSn HX HT hrl hf
      go_wp2_with fail
      refine (HF.out W rfl).mono ?_
      rintro e w3 ⟨op',dp',rfl,hq,h3⟩
      have hq2:=hq q rfl
      subst hq2
      obtain ⟨_,kf3,hck,hS3⟩:=HEnd.out _ _ _ h3
      have m0:w3.cell? ⟨K,0,none⟩=some (.int .i64 nd.kind):=by rw [Lib.cell_of_heap hck];rfl
      have m1:w3.cell? ⟨K,1,none⟩=some (.int .i64 no):=by rw [Lib.cell_of_heap hck];rfl
      have m2:w3.cell? ⟨K,2,none⟩=some (.string (txt nd.op)):=by rw [Lib.cell_of_heap hck];rfl
      have m3:w3.cell? ⟨K,3,none⟩=some (.string (txt nd.name)):=by rw [Lib.cell_of_heap hck];rfl
      have m4:w3.cell? ⟨K,4,none⟩=some (.string (txt nd.text)):=by rw [Lib.cell_of_heap hck];rfl
      have m5:w3.cell? ⟨K,5,none⟩=some (.string (txt nd.targets)):=by rw [Lib.cell_of_heap hck];rfl
      have m6:w3.cell? ⟨K,6,none⟩=some (.string (txt nd.pattern)):=by rw [Lib.cell_of_heap hck];rfl
      have m7:w3.cell? ⟨K,7,none⟩=some (.string (txt nd.inputs)):=by rw [Lib.cell_of_heap hck];rfl
      have m8:w3.cell? ⟨K,8,none⟩=some (.string (txt nd.order)):=by rw [Lib.cell_of_heap hck];rfl
      have m9:w3.cell? ⟨K,9,none⟩=some (.slice none 0 0):=by rw [Lib.cell_of_heap hck];rfl
      obtain ⟨o4,c4,w4,hrun,hS4⟩:=hS3.push { nd with no:=no } hrc (by omega) 54
      have HS4:=Lib.hid hS4
      have HOL:=Lib.hid hol2
      clear hck hS3 hS4 h3 hq x0 k0 k1 k2 k3 k4 k5 k6 k7 k8 k9 kf HF HEnd HSh HXn HKc hol2
      go_wp2_with (first
       | (at_builtin;refine wpList_append_eq rfl _ _ 54 rfl _ _ _ w4 rfl rfl hrun ?_)
       | go_in)
      go_roundw
      case rel=>exact ⟨i+1,_,_,_,hin,by go_num,by simp;omega,by have:=HOL.out;omega,HRL.out,HP4.out,HS4.out⟩
      case measure=>simp [intOf];omega
  ·have hdn:ls.drop i=[]:=List.drop_eq_nil_of_le (by rw [← HN.out];omega)
   rw [hdn,parseG_nil] at hP
   obtain ⟨g,cap,f0,f1,f2,ff,_,_,_⟩:=hS.nest.nestAt
   clear hdn HX HT HN
   cases dp with
   | some a =>
    have f1':wr.cell? ⟨w.heap.size,21,none⟩=some (.bool true):=f1
    have f2':wr.cell? ⟨w.heap.size,22,none⟩=some (.int .i64 a):=f2
    have HB2:Hid (∀ q,ParsePost (parseP ls) w (.returned (.tuple #[.slice none 0 0,.int .i64 15,.int .i64 a])) (wr.drewN q)):=fun q=>ParsePost.bad hP (hS.below (drewN_below _ _ q)).back
    clear hP hS f1 f2 hrl
    go_wp2
    go_quiet (fail)
    go_wp2
    go_ret3
    exact HB2.out _
   | none =>
    have f1':wr.cell? ⟨w.heap.size,21,none⟩=some (.bool false):=f1
    simp only at hP
    cases op with
    | nil =>
     rw [if_pos rfl] at hP
     have HB2:Hid (ParsePost (parseP ls) w (.returned (.tuple #[.slice no' nds.length nc,.int .i64 0,.int .i64 0])) wr):=ParsePost.rightQ hP hS
     obtain ⟨m,hm⟩:∃ m,m=([]:List Bool).length:=⟨_,rfl⟩
     rw [← hm] at f0
     have dI:¬ (0:Int) < (m:Int):=by simp at hm;omega
     have dI':decide ((0:Int) < (m:Int))=false:=decide_eq_false dI
     clear hP hS f1 f2 hrl hm
     go_wp2
     go_ret3
     exact HB2.out
    | cons bb oo =>
     rw [if_neg (by simp)] at hP
     have HB2:Hid (ParsePost (parseP ls) w (.returned (.tuple #[.slice none 0 0,.int .i64 14,.int .i64 0])) wr):=ParsePost.bad hP hS.back
     have hol1:oo.length+1≤i:=hol
     simp only [List.length_cons] at f0
     have dI:(0:Int) < (oo.length:Int)+1:=by omega
     clear hP hS f1 f2 hrl hol
     go_wp2
     go_ret3
     exact HB2.out
end Go.Proofs.YtmfjolmfbdbegaaGreatDoor
