/-
  EvalPhony: what is named to be phony is, by bytes, each once, wherever it is named; nothing else is: for every row of names. No condition.
-/
import Derived.Deep.DeepHandedRow
import Derived.Lib.LaidTab
import Derived.OpenShut
import Derived.Test.YtmfjolmfbdbegaaGreatDoorCards
import Derived.Test.YtmfjolmfbdbegaaGreatDoorTie
import Derived.Test.YtmfjolmfbdbegaaGreatDoorLawPhonyEW
import Derived.Test.YtmfjolmfbdbegaaGreatDoorRR
namespace Go.Proofs.YtmfjolmfbdbegaaGreatDoor
open Go.ChangeShapes Go.WideShapes Go.ChangeAt Go.RowKit
set_option maxRecDepth 100000 in
theorem evalPhony_laid (os:Go.Os):laidMet Tryz.prog Rows.evalPhonyRow.laid ((tables os).forCall (fun _ _=>0) ⟨#[],#[.slice none 0 0],[]⟩).memory :=
 laidMet_of_run' 8 (by kernel_rfl) (by kernel_rfl)
theorem evalPhony_reads (os:Go.Os) {H:Type} (enc:TypeId × Value→H):∃ places,DataW.whole enc Tryz.prog ((tables os).forCall (fun _ _=>0) ⟨#[],#[.slice none 0 0],[]⟩).memory Tryz.f7.params.toList Rows.evalPhonySpec.vars false #[.slice none 0 0].toList 8=some ([.nil],[],places) :=
 ⟨[],by kernel_rfl⟩
set_option maxRecDepth 100000 in
theorem evalPhony_calls (H:Type) (enc:TypeId × Value→H) (W:World) (base:Nat) (args:Array Value) (ds gs:List (DataW H)) (before:List MemPlace)
  (hval:∀ (j:Nat) t v,Tryz.f7.params[j]? = some t→args[j]? = some v→Value.okWide Tryz.prog W .any base t v)
  (hW:DataW.Whole enc Tryz.prog Tryz.f7.params.toList Rows.evalPhonySpec.vars false W args.toList ds gs before) (hst:Std W) :
  Calls Tryz.prog 7 args W fun e W'=>∃ v,e=.returned v∧Rows.evalPhonySpec.post enc Tryz.prog Tryz.f7 false true false false W args v W':=by
 have hW':=hW
 obtain ⟨p,q,hA0,hV,rfl,hfz,hnd⟩:=hW
 have hA:DataW.TrodAll enc Tryz.prog W 0 (fun _=>true) true Tryz.f7.params.toList args.toList ds p:=hA0
 have hlt:∀ x∈p,x.block < W.heap.size:=fun x hx=>hW'.lt x (List.mem_append_left _ hx)
 rw [Tryz.params7] at hA hval
 obtain ⟨v0,d0,rfl,rfl,h0⟩:=trodAll_one hA
 obtain ⟨⟨xs0,hn0,hz0,hr0,_⟩,hback0⟩:=open_list (hval 0 28 v0 rfl rfl) h0 (fun x hx=>hlt x (by simp [hx]))
 obtain ⟨rfl,rfl⟩:=trodVars_none hV
 clear hA0
 simp only [List.append_nil] at hW'
 refine (evalPhony_walk v0 xs0 hn0 hz0 W hst hr0.reads).mono fun e W' h=>⟨.bool true,h.1,?_⟩
 exact post_true_at hW' rfl (by kernel_rfl) Tryz.underlying4 rfl (trodAll_mk1 (hback0 W' h.2)) h.2
set_option maxRecDepth 100000 in
theorem evalPhony_lifted (os:Go.Os) (started:os.Started) (H:Type) (enc:TypeId × Value→H) (F:Stop.Interp) :
  ReturnsInHanded {} Tryz.checked os 7 .any ((OpenSpec.ofChange Rows.evalPhonySpec).preRow enc Tryz.prog Tryz.f7 Rows.evalPhonyRow.domain false Rows.evalPhonyRow.laid) (((OpenSpec.ofChange Rows.evalPhonySpec).at F).post enc Tryz.prog Tryz.f7 false true false false):=by
 obtain ⟨places,hx⟩:=evalPhony_reads os enc
 refine returnsInHanded_of_row (C:=Tryz.checked) (s:=OpenSpec.ofChange Rows.evalPhonySpec) own_knob started (by kernel_rfl) Tryz.func7
  (witness_row_at (enc:=enc) (C:=Tryz.checked) false (tables os) #[.slice none 0 0] rfl (by kernel_rfl) (by kernel_rfl) (by kernel_rfl)
   (OpenSpec.preRow_of_cond 8 hx (by kernel_rfl) (fun k hk=>by cases hk) (by kernel_rfl) (evalPhony_laid os))) ?_
 intro W base args ds gs before hval hW _ _ _ hlaid hsh _
 exact evalPhony_calls H enc W base args ds gs before hval hW (std_of_laid hlaid hsh)
set_option maxRecDepth 100000 in
theorem evalPhony_said:Rows.EvalPhonySaid :=
 OpenClaim.holds_of_cond 7 Tryz.f7 rfl rfl rfl rfl rfl rfl rfl ⟨rfl,rfl,rfl,rfl,rfl⟩ rfl rfl rfl rfl rfl (by kernel_rfl) Tryz.func7 (by kernel_rfl)
  (of_decide_eq_true (by kernel_rfl)) (by unfold Func.isWrapper;first | (rw [if_pos (by decide +kernel)];kernel_rfl) | (rw [if_neg (by decide +kernel)];exact ⟨rfl,rfl⟩))
  (fun os started H enc _ F=>by rw [OpenClaim.pre_eq_preRow];exact evalPhony_lifted os started H enc F)
set_option maxRecDepth 100000 in
theorem evalPhony_plain (f:FuncId) (fn:Func) (hf:Tryz.pinned.checked.prog.funcNamed "cooperage/cooperagelaw12.EvalPhony"=some f) (hfn:Tryz.pinned.checked.prog.funcs[f]? = some fn) :
  true=Tryz.pinned.checked.prog.looks []∧∀ (j:Nat) t,fn.params[j]? = some t→Tryz.pinned.checked.prog.wantsStandIn t=false:=by
 obtain rfl:f = 7:=Option.some.inj ((show Tryz.prog.funcNamed "cooperage/cooperagelaw12.EvalPhony"=some 7 by kernel_rfl).symm.trans hf) |>.symm
 obtain rfl:fn=Tryz.f7:=(Option.some.inj (Tryz.func7.symm.trans hfn)).symm
 refine ⟨by kernel_rfl,fun j t ht=>?_⟩
 rw [Tryz.params7] at ht
 have hmem:=Array.mem_of_getElem? ht
 simp only [List.mem_toArray,List.mem_cons,List.mem_nil_iff,or_false] at hmem
 have hone:∀ t,(t = 28)→Tryz.pinned.checked.prog.wantsStandIn t=false:=by
  rintro t (rfl)
  ·exact (show Tryz.prog.wantsStandIn 28=false by kernel_rfl)
 exact hone t (by first | exact hmem | (rcases hmem with h | h | h | h <;> (subst h;decide)) | (rcases hmem with h | h | h <;> (subst h;decide)) | (rcases hmem with h | h <;> (subst h;decide)))
set_option maxRecDepth 100000 in
theorem evalPhony_card:Rows.EvalPhonyCardSaid :=
 Claim7.holds_tied_plain_at .later [] _ _ _ _ evalPhony_said (fun _ h=>by cases h) (by kernel_rfl) (fun _ h=>by cases h) evalPhony_row_tie rfl ⟨rfl,rfl⟩ (by kernel_rfl) rfl evalPhony_plain (by kernel_rfl)
end Go.Proofs.YtmfjolmfbdbegaaGreatDoor
