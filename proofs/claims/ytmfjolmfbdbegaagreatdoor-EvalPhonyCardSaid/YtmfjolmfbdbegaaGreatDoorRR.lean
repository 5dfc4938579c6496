/-
  From a call that answers true and turns nothing that lay to the row's last word. Plain carrying, no condition of its own.
  From a call that answers true and turns nothing that lay to the row's last word. Plain carrying, no condition of its own.
  A row of texts that came in reads as such, and reads so behind the call. Plain carrying, no condition of its own.
  What a row that lists the library's tables gives: what they hold; a world in which they hold it. No condition.
-/
import Derived.ProofKit
import Derived.Below
import Derived.ChangeSame
import Derived.Carry
import Derived.OpenShut
import Derived.ChangeArms
import Derived.Deep.Slices
import Derived.SliceStrings
import Derived.RangeFuncRecord
import Derived.Maps.AppendAt
import Derived.Lib.LaidTab
import Derived.LaidSub
import Derived.Test.YtmfjolmfbdbegaaGreatDoorRows
import Derived.Test.YtmfjolmfbdbegaaGreatDoorHB
import Derived.Test.YtmfjolmfbdbegaaGreatDoorNM1
namespace Go.Proofs.YtmfjolmfbdbegaaGreatDoor
open Go.ChangeShapes Go.WideShapes Go.ChangeAt Go.RowKit
theorem own_knob:ownKnob Tryz.prog.godebug=none:=by kernel_rfl
theorem laid_out:laidOutB Tryz.prog=true:=by kernel_rfl
end Go.Proofs.YtmfjolmfbdbegaaGreatDoor

namespace Go.Proofs.YtmfjolmfbdbegaaGreatDoor
open Go.ChangeShapes Go.WideShapes Go.ChangeAt Go.RowKit
theorem post_true_at {H:Type} {enc:TypeId × Value→H} {P:Program} {f:Func} {s:ChangeSpec} {W W':World} {args:Array Value} {ds:List (DataW H)} {before:List MemPlace} {handsOn fresh:Bool} {tb:TypeId}
  (hW:DataW.Whole enc P f.params.toList s.vars false W args.toList ds [] before) (hvs:s.vars=[]) (hrt:f.resultTypes=#[tb]) (htb:P.underlying tb=some .bool)
  (hfn:s.fn H (ds++[])={ results:=[.lit (.bool true)],args:=ds })
  (hargs:DataW.TrodAll enc P W' 0 (fun b=>decide (b < W.heap.size)) true f.params.toList args.toList ds before)
  (hb:Below W.heap.size W W'):s.post enc P f false fresh handsOn false W args (.bool true) W':=by
 refine ⟨ds,[],before,[],before,[],hW,?_,?_,?_,World.keptBut_mono (fun p hp=>⟨hp,.inr (.inl hp)⟩) (hb.frame (·∈before)),fun h=>by cases h⟩
 ·rw [hfn,hrt];exact trodAll_mk1 (shut_bool htb true)
 ·rw [hfn];exact hargs
 ·rw [hfn,hvs];exact rfl
end Go.Proofs.YtmfjolmfbdbegaaGreatDoor

namespace Go.Proofs.YtmfjolmfbdbegaaGreatDoor
open Go.ChangeShapes Go.WideShapes Go.ChangeAt Go.RowKit
theorem cells_string:Tryz.prog.cellsOf 9=1:=by kernel_rfl
def RowOf (W:World) (B:Nat) (v:Value) (xs:List ByteArray):Prop :=
 (v=.slice none 0 0∧xs=[])∨∃ (a:Addr) (c:Nat),v=.slice (some a) xs.length c∧∀ j x,xs[j]? = some x→a.spot=none∧a.block < B∧xs.length≤c∧W.cell? ⟨a.block,a.off+j,none⟩=some (.string x)
theorem RowOf.reads {W:World} {B:Nat} {v:Value} {xs:List ByteArray} (h:RowOf W B v xs):ReadsO W B v xs:=by
 rcases h with ⟨rfl,rfl⟩ | ⟨a,c,rfl,hx⟩
 ·exact ⟨none,0,rfl,by simp⟩
 ·refine ⟨some a,c,rfl,fun j x hj=>?_⟩
  obtain ⟨h1,h2,h3,h4⟩:=hx j x hj
  obtain ⟨b,o,sp⟩:=a
  obtain rfl:sp=none:=h1
  exact ⟨b,o,rfl,h2,h3,h4⟩
set_option maxRecDepth 100000 in
theorem open_list {H:Type} {enc:TypeId × Value→H} {W:World} {base:Nat} {v:Value} {d:DataW H} {ps:List MemPlace}
  (hv:Value.okWide Tryz.prog W .any base 28 v) (h:DataW.Trod enc Tryz.prog W 0 (fun _=>true) true 28 v d ps) (hlt:∀ x∈ps,x.block < W.heap.size) :
  (∃ xs:List ByteArray,xs.length≤maxLen∧(∀ x∈xs,x.size≤maxLen)∧RowOf W W.heap.size v xs∧(xs=[]∨∃ es sp:List (DataW H),d=.slice es sp∧es.length=xs.length)) ∧
  ∀ W',Below W.heap.size W W'→DataW.Trod enc Tryz.prog W' 0 (fun b=>decide (b < W.heap.size)) true 28 v d ps:=by
 refine ⟨?_,fun W' hb=>Below.trod laid_out (by kernel_rfl) (of_decide_eq_true (by kernel_rfl)) h hb hlt⟩
 obtain ⟨a0,len,cap,rfl⟩:=okWide_slice Tryz.underlying28 hv
 obtain ⟨fuel,hf⟩:=h
 rcases open_strings Tryz.underlying28 Tryz.underlying9 cells_string hf with ⟨hcs,hx⟩ | ⟨a,len',cap',ss,hcs,_,hl,hm,hz,hx,hcell,hws⟩
 ·simp [Value.cells] at hcs
  obtain ⟨rfl,rfl,rfl⟩:=hcs
  exact ⟨[],by simp,by simp,.inl ⟨rfl,rfl⟩,.inl rfl⟩
 ·simp [Value.cells] at hcs
  obtain ⟨rfl,rfl,rfl⟩:=hcs
  simp only [Prod.mk.injEq] at hx
  obtain ⟨rfl,rfl⟩:=hx
  simp only [if_true] at hz
  have hlen:(ss.take len).length=len:=by rw [List.length_take];omega
  refine ⟨ss.take len,by omega,fun x hx=>hws x (List.mem_of_mem_take hx),.inr ⟨a,cap,by rw [hlen],fun k x hk=>?_⟩,.inr ⟨_,_,rfl,by simp [strs]⟩⟩
  have hk1:k < len:=by have:=(List.getElem?_eq_some_iff.1 hk).1;omega
  have hk2:k < ss.length:=by omega
  rw [List.getElem?_take_of_lt hk1,List.getElem?_eq_getElem hk2] at hk
  have hc:=hcell k hk2
  obtain ⟨b,off,spot⟩:=a
  have hspot:spot=none:=by simpa [Addr.add] using World.cell?_spot (hcell 0 (by omega))
  subst hspot
  refine ⟨rfl,hlt (.cell b (off+k)) (MemPlace.mem_row.2 ⟨k,hk2,by simp⟩),by omega,?_⟩
  rw [add_plain] at hc
  rw [hc,← Option.some.inj hk]
  simp [List.getD,List.getElem?_eq_getElem hk2]
end Go.Proofs.YtmfjolmfbdbegaaGreatDoor

namespace Go.Proofs.YtmfjolmfbdbegaaGreatDoor
open Go.ChangeShapes Go.WideShapes Go.ChangeAt Go.RowKit
def listed:List (String × DataW Unit):=Rows.evalPhonyRow.laid
theorem tail_laid {P:Program} {x:String × DataW Unit} {l:List (String × DataW Unit)} {w:World} (h:laidMet P (x :: l) w):laidMet P l w:=by
 obtain ⟨ps,hv,hn,hc⟩:=h
 obtain ⟨g,t,cs,fuel,p,q,h1,h2,h3,h4,h5,rfl⟩:=hv
 exact ⟨q,h5,(List.nodup_append.1 hn).2.1,fun b off hm=>hc b off (List.mem_append_right _ hm)⟩
theorem std_of_laid {W:World} (h:laidMetH Tryz.prog listed W) (hsh:W.ShapedOpen Tryz.prog):Std W:=by
 have h1:laidMet Tryz.prog listed W:=h
 have h3:=tail_laid (tail_laid h1)
 have hT:Lib.TabIs Tryz.prog W "internal/strconv.uint64pow10" .u64 Lib.pow10Tab :=
  Lib.tabIs_of_head (rest:=[_,_]) (g := 3) (t := 263) (e := 142) (n:=20) (by kernel_rfl) (by kernel_rfl) Tryz.underlying263 Tryz.underlying142 (by kernel_rfl) (by kernel_rfl) h3
 obtain ⟨m,hm⟩:=maxLen_open W hsh
 have hl:∀ (g:Nat) (v:Value),W.cell? ⟨g,0,none⟩=some v→g < W.heap.size:=fun g v hv=>by
  unfold World.cell? at hv
  cases hg:W.heap[g]? with
  | none=>rw [hg] at hv;cases hv
  | some o=>exact (Array.getElem?_eq_some_iff.1 hg).1
 exact ⟨hT,⟨m,hm⟩,hl _ _ (hT.cell (by kernel_rfl) 0 (by decide)),hl _ _ hm⟩
def setCells (cs:Array Value):Obj→Obj
 | .cells _ t frozen=>.cells cs t frozen
 | o=>o
def u8s (l:List Nat):Array Value:=(l.map fun n:Nat=>Value.int .u8 (n:Int)).toArray
noncomputable def tables (os:Go.Os):World :=
 { World.holding Tryz.prog os ⟨#[],#[],[]⟩ with heap:=(((((World.holding Tryz.prog os ⟨#[],#[],[]⟩).heap.modify 1 (setCells (u8s Go.Pinned.utf8FirstZ))).modify 2 (setCells (u8s [128,191,160,191,128,159,144,191,128,143,0,0,0,0,0,0,0,0,0,0,0,0,0,0,0,0,0,0,0,0,0,0]))).modify 3 (setCells (([1,10,100,1000,10000,100000,1000000,10000000,100000000,1000000000,10000000000,100000000000,1000000000000,10000000000000,100000000000000,1000000000000000,10000000000000000,100000000000000000,1000000000000000000,10000000000000000000]:List Nat).map fun n:Nat=>Value.int .u64 (n:Int)).toArray)).modify 4 (setCells (u8s [0,1,28,2,29,14,24,3,30,22,20,15,25,17,4,8,31,27,13,23,21,19,16,7,26,12,18,6,11,5,10,9]))).modify 5 (setCells (u8s [0,1,56,2,57,49,28,3,61,58,42,50,38,29,17,4,62,47,59,36,45,43,51,22,53,39,33,30,24,18,12,5,63,55,48,27,60,41,37,16,46,35,44,21,52,32,23,11,54,26,40,15,34,20,31,10,25,14,19,9,13,8,7,6])) }
end Go.Proofs.YtmfjolmfbdbegaaGreatDoor
