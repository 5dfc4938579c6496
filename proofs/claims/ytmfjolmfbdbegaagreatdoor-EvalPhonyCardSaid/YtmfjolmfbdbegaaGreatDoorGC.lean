/-
  What the program's Cut answers, for every text of at most a million bytes and every row of signs. No condition.
  What an expansion's small functions answer: step, begin, short, add. No condition.
  What an expansion's begin answers; what is kept from place to place. No condition.
  What dollar answers, if reference and value answer as the chapter says. No condition but sizes.
-/
import Derived.Shelf.Strings.Prefix
import Derived.Shelf.Small.Wraps
import Derived.Deep.QuietTactic
import Derived.Deep.OwnRows
import Derived.BigQuiet
import Derived.Deep.RegionHeld3
import Derived.Test.YtmfjolmfbdbegaaGreatDoorNBd
import Derived.Test.YtmfjolmfbdbegaaGreatDoorHB
import Derived.Test.YtmfjolmfbdbegaaGreatDoorGA
import Derived.Test.YtmfjolmfbdbegaaGreatDoorGB
namespace Go.Proofs.YtmfjolmfbdbegaaGreatDoor
open Go.RowKit Go.Shelf
attribute [local go_sem] Oper.semAt_some
theorem drewN_below (B:Nat) (w:World) (n:Nat):Below B w (w.drewN n):=drewN_same B w n
def lays99_ren:Go.Shelf.Ren:=⟨fun | 99 => 40 | 206 => 61 | n=>n,fun | 3 => 3 | 4 => 4 | 9 => 9 | n=>n,fun | n=>n⟩
theorem lays99:Go.Proofs.Lays.n99 Tryz.prog lays99_ren:={
 mixed:=by kernel_rfl
 f99:=Tryz.func40.trans (congrArg some (by kernel_rfl))
 f206:=Tryz.func61.trans (congrArg some (by kernel_rfl))
 t3:=Tryz.underlying3
 a3:=Tryz.isAgg3
 z3:=Tryz.sizeOf3
 v3:=Tryz.zeroValue3
 t4:=Tryz.underlying4
 a4:=Tryz.isAgg4
 z4:=Tryz.sizeOf4
 v4:=Tryz.zeroValue4
 t9:=Tryz.underlying9
 a9:=Tryz.isAgg9
 z9:=Tryz.sizeOf9
 v9:=Tryz.zeroValue9 }
theorem hasPrefix_any (s p:ByteArray) (w:World):Calls Tryz.prog 40 #[.string s,.string p] w fun e w'=>e=.returned (.bool (p.data.toList.isPrefixOf s.data.toList))∧w'=w :=
 Any.strings_HasPrefix lays99 s p w
def Cut3Post (k:Cut3) (w:World) (e:Ending) (w':World):Prop:=e=.returned (.tuple #[.string (txt k.1),.string (txt k.2.1),.string (txt k.2.2)])∧Below w.heap.size w w'
def signB (l x:BS):Bool:=decide (x≠[]) && x.isPrefixOf l
theorem sign_none {sg:List BS} {l:BS} (h:∀ x∈sg,signB l x=false):signAt sg l=none:=by
 unfold signAt
 rw [List.find?_eq_none]
 intro x hx hp
 have:=h x hx
 unfold signB at this
 rw [this] at hp
 cases hp
theorem sign_first {sg:List BS} {l x:BS} {k:Nat} (hk:sg[k]? = some x) (h:∀ y∈sg.take k,signB l y=false) (hx:signB l x=true):signAt sg l=some x:=by
 unfold signAt
 have e:sg=sg.take k++x :: sg.drop (k+1):=by
  obtain ⟨hl,hv⟩:=List.getElem?_eq_some_iff.1 hk
  conv=>lhs;rw [← List.take_append_drop k sg,List.drop_eq_getElem_cons hl,hv]
 rw [e,List.find?_append,List.find?_eq_none.2 (fun y hy hp=>by
  have:=h y hy
  unfold signB at this
  rw [this] at hp
  cases hp)]
 have hx':(decide (x≠[]) && x.isPrefixOf l)=true:=hx
 rw [List.find?_cons_of_pos (p:=fun x:BS=>decide (x≠[]) && x.isPrefixOf l) hx'];rfl
def Stk (b:Nat) (v:Value) (l:List Value) (W:World):Prop :=
 ∃ g cap cur T,v=.slice (some ⟨g,0,none⟩) l.length cap∧b≤g∧W.heap[g]? = some (.cells cur T (0,0))∧l.length≤cap∧cap≤maxLen∧cap≤cur.size∧cur.toList.take l.length=l
theorem run_append_in {P:Program} (w:World) (t ty e T:TypeId) (i:TypeInfo) (ht:P.underlying t=some (.slice e)) (hi:P.info? e=some i)
  (g sLen sCap:Nat) (cur:Array Value) (hg:w.heap[g]? = some (.cells cur T (0,0)))
  (a:Addr) (m c:Nat) (news:List Value) (hl:news.length=m*i.size) (hnews:∀ j u,news[j]? = some u→w.cell? (a.add j)=some u) (h1:∀ u∈news,u.oneCell'=true)
  (hroom:sLen+m≤sCap) (hfit:sLen*i.size+news.length≤cur.size) :
  (Builtin.append_ #[t,t] ty #[.slice (some ⟨g,0,none⟩) sLen sCap,.slice (some a) m c]).run P w =
   .ok (.slice (some ⟨g,0,none⟩) (sLen+m) sCap) (w.setRow g (cur.toList.take (sLen*i.size)++news++cur.toList.drop (sLen*i.size+news.length)).toArray):=by
 have hf:=run_firstCells_some (P:=P) w i.size m a m c news hl hnews
 have hst:=run_storeCells_at P g (sLen*i.size) T news 0 cur w hg (by simpa using hfit) h1
 simp only [Nat.add_zero] at hst
 simp [Builtin.append_,run_underlying ht,sizeOf,typeInfo,hi,Builtin.lenOf,hroom,hf,Addr.add_lit,hst]
section
variable {b:Nat} {v x:Value} {l:List Value} {W W':World}
theorem Stk.kept (h:Stk b v l W) (hb:Below W.heap.size W W'):Stk b v l W':=by
 obtain ⟨g,cap,cur,T,h1,h2,h3,h4⟩:=h
 exact ⟨g,cap,cur,T,h1,h2,(hb.block _ (Array.getElem?_eq_some_iff.1 h3).1).trans h3,h4⟩
theorem Stk.top (h:Stk b v (l++[x]) W):∃ g cap,v=.slice (some ⟨g,0,none⟩) (l.length+1) cap∧l.length+1≤cap∧W.cell? ⟨g,l.length,none⟩=some x:=by
 obtain ⟨g,cap,cur,T,h1,_,h3,h4,_,_,h7⟩:=h
 rw [List.length_append] at h1 h4 h7
 refine ⟨g,cap,h1,h4,?_⟩
 rw [Lib.cell_of_heap h3]
 have e:(cur.toList.take (l.length+1))[l.length]? = some x:=by
  have:l.length+[x].length=l.length+1:=rfl
  rw [← this,h7];simp
 rw [List.getElem?_take_of_lt (by omega)] at e
 simpa using e
theorem Stk.pop {g cap:Nat} (h:Stk b (.slice (some ⟨g,0,none⟩) (l.length+1) cap) (l++[x]) W):Stk b (.slice (some ⟨g,0,none⟩) l.length cap) l W:=by
 obtain ⟨g',cap',cur,T,h1,h2,h3,h4,h5,h6,h7⟩:=h
 simp only [Value.slice.injEq,Option.some.injEq,Addr.mk.injEq,and_true] at h1
 obtain ⟨rfl,_,rfl⟩:=h1
 rw [List.length_append] at h4 h7
 refine ⟨g,cap,cur,T,rfl,h2,h3,by omega,h5,h6,?_⟩
 have:=congrArg (List.take l.length) h7
 rw [List.take_take,List.take_left] at this
 rwa [Nat.min_eq_left (by omega)] at this
theorem Stk.push {t e:TypeId} {i:TypeInfo} {z:Value} {P:Program} (ht:P.underlying t=some (.slice e)) (hi:P.info? e=some i) (hz:i.zero=some z) (hs:i.size=1) (hby:i.bytes≤256) (hzs:z.cells.size=1)
  (h:Stk b v l W) (hx:x.oneCell'=true) (hl:l.length < 1073741824) (ty E:TypeId) :
  ∃ v' W',(Builtin.append_ #[t,t] ty #[v,.slice (some ⟨W.heap.size,0,none⟩) 1 1]).run P (W.alloc (.cells #[x] E))=.ok v' W'∧Stk b v' (l++[x]) W'∧Turned (fun n=>v.ownBlock=some n) W W':=by
 obtain ⟨g,cap,cur,T,rfl,h2,h3,h4,h5,h6,h7⟩:=h
 have hgl:g < W.heap.size:=(Array.getElem?_eq_some_iff.1 h3).1
 have h3':(W.alloc (.cells #[x] E)).heap[g]? = some (.cells cur T (0,0)):=(Below.heap_alloc _ _ _ hgl).trans h3
 have hnew:=World.alloc_heap_new W (.cells #[x] E)
 have hnews:∀ j u,([x]:List Value)[j]? = some u→(W.alloc (.cells #[x] E)).cell? ((⟨W.heap.size,0,none⟩:Addr).add j)=some u:=fun j u hu=>by
  cases j with
  | zero=>cases hu;rw [Addr.add_lit,Lib.cell_of_heap hnew];rfl
  | succ j=>simp at hu
 have h1:∀ u∈([x]:List Value),u.oneCell'=true:=fun u hu=>by rw [List.mem_singleton.1 hu];exact hx
 have hT1:Turned (fun n=>(Value.slice (some ⟨g,0,none⟩) l.length cap).ownBlock=some n) W (W.alloc (.cells #[x] E)):=Turned.alloc _ W _
 by_cases hroom:l.length+1≤cap
 ·have hr:=run_append_in (P:=P) (W.alloc (.cells #[x] E)) t ty e T i ht hi g l.length cap cur h3' ⟨W.heap.size,0,none⟩ 1 1 [x] (by rw [hs];rfl) hnews h1 hroom (by rw [hs];simp;omega)
  rw [hs,Nat.mul_one] at hr
  refine ⟨_,_,hr,⟨g,cap,_,T,by rw [List.length_append];rfl,h2,setRow_heap _ g cur _ T _ h3',by rw [List.length_append];exact hroom,h5,?_,?_⟩,hT1.trans ?_⟩
  ·simp only [List.size_toArray,List.length_append,List.length_take,List.length_drop,Array.length_toList,List.length_cons,List.length_nil]
   omega
  ·rw [h7]
   have:(l++[x]).length=(l++[x]).length:=rfl
   exact List.take_left
  ·exact ⟨rfl,rfl,rfl,by simp,fun k _ hk=>setRow_other _ g k _ (fun e=>hk (by simp [Value.ownBlock,e]))⟩
 ·have holds:∀ j u,l[j]? = some u→(W.alloc (.cells #[x] E)).cell? ((⟨g,0,none⟩:Addr).add j)=some u:=fun j u hu=>by
   have hj:j < l.length:=(List.getElem?_eq_some_iff.1 hu).1
   rw [Addr.add_lit,Nat.zero_add,Lib.cell_of_heap h3']
   rw [← h7,List.getElem?_take_of_lt hj] at hu
   simpa using hu
  have hcap:l.length=cap:=by omega
  have hr:=run_append_grow (P:=P) (W.alloc (.cells #[x] E)) t ty e i z ht hi hz ⟨g,0,none⟩ l.length cap l (by rw [hs,Nat.mul_one]) holds ⟨W.heap.size,0,none⟩ 1 1 [x] (by rw [hs];rfl) hnews (by omega) (by omega)
   (growslice_fits (by omega) (by
    calc (l.length+1)*i.bytes≤1073741824*256:=Nat.mul_le_mul (by omega) hby
     _≤140737488355328:=by omega))
  have hge:=grownCap_ge (W.alloc (.cells #[x] E)) (l.length+1) cap e
  refine ⟨_,_,hr,⟨(W.alloc (.cells #[x] E)).heap.size,_,_,e,by rw [List.length_append];rfl,?_,World.alloc_heap_new (W.alloc (.cells #[x] E)).drew _,by rw [List.length_append];exact hge,grownCap_le_maxLen _ _ _ _ (by unfold maxLen;omega),?_,?_⟩,hT1.trans ?_⟩
  ·rw [World.size_alloc]
   have:b≤g:=h2
   omega
  ·simp only [Array.size_append,List.size_toArray,size_zeroCells,hzs,List.length_cons,List.length_nil]
   omega
  ·simp only [Array.toList_append,List.append_assoc]
   rw [← List.append_assoc]
   exact List.take_left
  ·exact ⟨rfl,rfl,rfl,by simp,fun k hk _=>heap_alloc_old (W.alloc (.cells #[x] E)).drew _ hk⟩
end
def closeN (l:BS):Int:=match opens l with | some q=>(q.toNat:Int) | none=>0
set_option maxHeartbeats 10000000 in
theorem opening_any (s:ByteArray) (w:World):Calls Tryz.prog 112 #[.string s] w fun e w'=>e=.returned (.int .u8 (closeN s.data.toList))∧w'=w:=by
 have h1:=Lib.hid (fun w=>hasPrefix_any s ⟨#[36,40]⟩ w)
 have h2:=Lib.hid (fun w=>hasPrefix_any s ⟨#[36,123]⟩ w)
 rcases opens_by s.data.toList with ⟨e1,e3⟩ | ⟨e1,e2,e3⟩ | ⟨e1,e2,e3⟩
 ·have HV:Hid (closeN s.data.toList=41):=by show _=_;unfold closeN;rw [e3];rfl
  have H1:Hid (∀ w,Calls Tryz.prog 40 #[.string s,.string ⟨#[36,40]⟩] w fun e w'=>e=.returned (.bool true)∧w'=w):=fun w=>by rw [← e1];exact h1.out w
  clear e1 e3 h1 h2
  go_enter Tryz.func112,Tryz.ntmps112
  go_wp2_with (go_at_call 40;refine (H1.out _).mono ?_;rintro e w' ⟨rfl,rfl⟩)
  go_ret
  exact ⟨by rw [HV.out];rfl,rfl⟩
 ·have HV:Hid (closeN s.data.toList=125):=by show _=_;unfold closeN;rw [e3];rfl
  have H1:Hid (∀ w,Calls Tryz.prog 40 #[.string s,.string ⟨#[36,40]⟩] w fun e w'=>e=.returned (.bool false)∧w'=w):=fun w=>by rw [← e1];exact h1.out w
  have H2:Hid (∀ w,Calls Tryz.prog 40 #[.string s,.string ⟨#[36,123]⟩] w fun e w'=>e=.returned (.bool true)∧w'=w):=fun w=>by rw [← e2];exact h2.out w
  clear e1 e2 e3 h1 h2
  go_enter Tryz.func112,Tryz.ntmps112
  go_wp2_with fail
  refine (H1.out _).mono ?_
  rintro e w' ⟨rfl,rfl⟩
  go_wp2_with fail
  refine (H2.out _).mono ?_
  rintro e w' ⟨rfl,rfl⟩
  go_wp2
  go_ret
  exact ⟨by rw [HV.out];rfl,rfl⟩
 ·have HV:Hid (closeN s.data.toList=0):=by show _=_;unfold closeN;rw [e3]
  have H1:Hid (∀ w,Calls Tryz.prog 40 #[.string s,.string ⟨#[36,40]⟩] w fun e w'=>e=.returned (.bool false)∧w'=w):=fun w=>by rw [← e1];exact h1.out w
  have H2:Hid (∀ w,Calls Tryz.prog 40 #[.string s,.string ⟨#[36,123]⟩] w fun e w'=>e=.returned (.bool false)∧w'=w):=fun w=>by rw [← e2];exact h2.out w
  clear e1 e2 e3 h1 h2
  go_enter Tryz.func112,Tryz.ntmps112
  go_wp2_with fail
  refine (H1.out _).mono ?_
  rintro e w' ⟨rfl,rfl⟩
  go_wp2_with fail
  refine (H2.out _).mono ?_
  rintro e w' ⟨rfl,rfl⟩
  go_wp2
  go_ret
  exact ⟨by rw [HV.out];rfl,rfl⟩
set_option maxRecDepth 100000 in
set_option maxHeartbeats 4000000 in
theorem begun_any (v:Value) (sg:List BS) (s:ByteArray) (w:World) (hr:ReadsO w w.heap.size v (sg.map txt)) (hsg:sg.length≤1000) :
  Calls Tryz.prog 113 #[.string s,v] w fun e w'=>e=.returned (.string (txt ((signAt sg s.data.toList).getD [])))∧w'=w:=by
 obtain ⟨o,c,rfl,hx⟩:=hr
 rw [List.length_map] at hx ⊢
 obtain ⟨n,hn⟩:∃ n,n=sg.length:=⟨_,rfl⟩
 rw [← hn] at hx hsg ⊢
 have HN:=Lib.hid hn
 have HX:Hid (∀ k x,sg[k]? = some x→∃ b f,o=some ⟨b,f,none⟩∧n≤c∧w.cell? ⟨b,f+k,none⟩=some (.string (txt x))):=fun k x hk=>by
  obtain ⟨b,f,h1,h2,h3,h4⟩:=hx k (txt x) (by rw [List.getElem?_map,hk];rfl)
  exact ⟨b,f,h1,h3,h4⟩
 have HP:=Lib.hid (fun (x:BS) w=>hasPrefix_any s (txt x) w)
 clear hx hn
 go_enter Tryz.func113,Tryz.ntmps113
 go_wp2
 go_loop [9] (fun kv=>∃ k:Nat,k≤n∧kv=.int .i64 k∧∀ x∈sg.take k,signB s.data.toList x=false) (fun kv=>n - (intOf kv).toNat)
 case atStart=>exact ⟨0,Nat.zero_le _,rfl,by simp⟩
 case round =>
  obtain ⟨k,hk,rfl,hno⟩:=hrel
  have HNo:=Lib.hid hno
  clear hno
  by_cases hkn:k < n
  ·obtain ⟨x,hxk⟩:∃ x,sg[k]? = some x:=⟨sg[k]'(by rw [← HN.out];exact hkn),List.getElem?_eq_getElem _⟩
   obtain ⟨b,f,rfl,hnc,hcell⟩:=HX.out k x hxk
   have HNx:Hid (signB s.data.toList x=false→∀ y∈sg.take (k+1),signB s.data.toList y=false):=fun hf y hy=>by
    rw [List.take_add_one,hxk] at hy
    rcases List.mem_append.1 hy with hy | hy
    ·exact HNo.out y hy
    ·simp at hy;rw [hy];exact hf
   have HHx:Hid (signB s.data.toList x=true→signAt sg s.data.toList=some x):=fun ht=>sign_first hxk HNo.out ht
   clear hxk HNo
   by_cases h0:x=[]
   ·subst h0
    have HF:=Lib.hid (HNx.out (by unfold signB;rfl))
    have hcell':w.cell? ⟨b,f+k,none⟩=some (.string ⟨#[]⟩):=hcell
    clear HNx HHx hcell
    go_wp2
    go_round
    case rel=>exact ⟨k+1,hkn,by go_num,HF.out⟩
    case measure=>simp [intOf];omega
   ·have h1:(txt x).toList.isEmpty=false:=by rw [txt_toL];simpa using h0
    have HPx:Hid (∀ w,Calls Tryz.prog 40 #[.string s,.string (txt x)] w fun e w'=>e=.returned (.bool (signB s.data.toList x))∧w'=w):=fun w=>by
     have:=HP.out x w
     rw [txt_data] at this
     unfold signB
     rw [decide_eq_true h0,Bool.true_and]
     exact this
    clear h0
    cases hb:signB s.data.toList x with
    | false =>
     rw [hb] at HPx
     have HF:=Lib.hid (HNx.out hb)
     clear HNx HHx hb
     go_wp2_with (go_at_call 40;refine (HPx.out _).mono ?_;rintro e w' ⟨rfl,rfl⟩)
     go_round
     case rel=>exact ⟨k+1,hkn,by go_num,HF.out⟩
     case measure=>simp [intOf];omega
    | true =>
     rw [hb] at HPx
     have HF:=Lib.hid (HHx.out hb)
     clear HNx HHx hb
     go_wp2_with (go_at_call 40;refine (HPx.out _).mono ?_;rintro e w' ⟨rfl,rfl⟩)
     go_ret
     exact ⟨by rw [HF.out];rfl,rfl⟩
  ·have HS:Hid (signAt sg s.data.toList=none):=sign_none fun x hx=>HNo.out x (by rw [List.take_of_length_le (by rw [← HN.out];omega)];exact hx)
   clear HX
   go_wp2
   go_ret
   exact ⟨by rw [HS.out];rfl,rfl⟩
abbrev encByte (b:UInt8):Value:=.int .u8 (b.toNat:Int)
def stB (st:List UInt8):List Value:=st.reverse.map encByte
theorem stB_cons (b:UInt8) (st:List UInt8):stB (b :: st)=stB st++[encByte b]:=by simp [stB]
theorem stB_len (st:List UInt8):(stB st).length=st.length:=by simp [stB]
theorem byteInfo:(Tryz.prog.info? 5).map (fun i=>(i.zero,i.size,i.bytes))=some (some (.int .u8 0),1,1):=by kernel_rfl
theorem Stk.pushU {b:Nat} {v:Value} {st:List UInt8} {W:World} (h:Stk b v (stB st) W) (q:UInt8) (hl:st.length < 1073741824) (ty E:TypeId) :
  ∃ v' W',(Builtin.append_ #[154,154] ty #[v,.slice (some ⟨W.heap.size,0,none⟩) 1 1]).run Tryz.prog (W.alloc (.cells #[.int .u8 (q.toNat:Int)] E))=.ok v' W'∧Stk b v' (stB (q :: st)) W'∧Turned (fun n=>v.ownBlock=some n) W W':=by
 obtain ⟨i,h1,h2,h3,h4⟩:=info_parts byteInfo
 rw [stB_cons]
 exact Stk.push (P:=Tryz.prog) (x:=encByte q) Tryz.underlying154 h1 h2 h3 (by omega) rfl h rfl (by rw [stB_len];exact hl) ty E
theorem Stk.start (w:World) (cs:Array Value) (T:TypeId) (n:Nat) (hn:n≤cs.size) (hm:n≤maxLen):Stk w.heap.size (.slice (some ⟨w.heap.size,0,none⟩) 0 n) [] (w.alloc (.cells cs T)) :=
 ⟨w.heap.size,n,cs,T,rfl,Nat.le_refl _,World.alloc_heap_new w _,Nat.zero_le _,hm,hn,by simp⟩
theorem Stk.startU (w:World) (cs:Array Value) (T:TypeId) (n:Nat) (hn:n≤cs.size) (hm:n≤maxLen):Stk w.heap.size (.slice (some ⟨w.heap.size,0,none⟩) 0 n) (stB []) (w.alloc (.cells cs T)):=Stk.start w cs T n hn hm
theorem Stk.shapeU {b:Nat} {v:Value} {st:List UInt8} {W:World} (h:Stk b v (stB st) W):∃ g cap,v=.slice (some ⟨g,0,none⟩) st.length cap∧st.length≤cap∧∀ q st',st=q :: st'→W.cell? ⟨g,st'.length,none⟩=some (encByte q):=by
 obtain ⟨g,cap,cur,T,h1,h2,h3,h4,h5⟩:=id h
 rw [stB_len] at h1 h4
 refine ⟨g,cap,h1,h4,?_⟩
 rintro q st' rfl
 rw [stB_cons] at h
 obtain ⟨g',cap',e,_,hc⟩:=h.top
 rw [h1] at e
 simp only [Value.slice.injEq,Option.some.injEq,Addr.mk.injEq,and_true] at e
 obtain ⟨rfl,_⟩:=e
 rwa [stB_len] at hc
theorem list_at (s:ByteArray) (i:Nat) (h:i < s.size):s.data.toList[i]'(by rw [size_list];exact h)=s[i]:=rfl
set_option maxRecDepth 100000 in
set_option maxHeartbeats 8000000 in
theorem pcut_any (v:Value) (sg:List BS) (s:ByteArray) (w:World) (hr:ReadsO w w.heap.size v (sg.map txt)) (hsg:sg.length≤1000) (hsl:∀ x∈sg,x.length≤10000000) (hs:s.size≤10000000) :
  Calls Tryz.prog 72 #[.string s,v] w (Cut3Post (cutOf sg s.data.toList) w):=by
 have HR:=Lib.hid hr
 have HBg:Hid (∀ (i:Nat) W,Below w.heap.size w W→Calls Tryz.prog 113 #[.string (s.extract i s.size),v] W fun e w'=>e=.returned (.string (txt ((signAt sg (s.data.toList.drop i)).getD [])))∧w'=W):=fun i W hW=>by
  have:=begun_any v sg (s.extract i s.size) W (HR.out.below hW hW.size) hsg
  rwa [Lib.extract_to_end] at this
 have HOp:Hid (∀ (i:Nat) W,Calls Tryz.prog 112 #[.string (s.extract i s.size)] W fun e w'=>e=.returned (.int .u8 (closeN (s.data.toList.drop i)))∧w'=W):=fun i W=>by
  have:=opening_any (s.extract i s.size) W
  rwa [Lib.extract_to_end] at this
 clear hr
 have HL:=Lib.hid hsl
 clear hsl
 go_enter Tryz.func72,Tryz.ntmps72
 go_wp2_with fail
 have hB0:∀ cs T,Below w.heap.size w (w.alloc (.cells cs T)):=fun cs T=>(Below.refl _ w).alloc (Nat.le_refl _) _
 go_loopw [8,16] (fun ov iv wr=>∃ (i:Nat) (st:List UInt8),i≤s.size∧iv=.int .i64 i∧st.length≤i∧CutS sg s.data.toList st i∧Stk w.heap.size ov (stB st) wr∧Below w.heap.size w wr) (fun _ iv _=>s.size - (intOf iv).toNat)
 case atStart=>exact ⟨0,[],Nat.zero_le _,rfl,Nat.le_refl _,CutS.start _ _,Stk.startU w _ _ 32 (by simp) (by decide),hB0 _ _⟩
 case round =>
  obtain ⟨i,st,hi,rfl,hst,hC,hS,hB⟩:=hrel
  have HC:=Lib.hid hC
  have HB:=Lib.hid hB
  clear hB0
  obtain ⟨g,cap,rfl,hcap,htop⟩:=hS.shapeU
  by_cases hlt:i < s.size
  ·have hil:i < s.data.toList.length:=by rw [size_list];exact hlt
   have HO:=Lib.hid (HOp.out i)
   have c1:(i:Int)≤(s.size:Int):=by omega
   rcases hw:opens (s.data.toList.drop i) with _ | q
   ·have e0:closeN (s.data.toList.drop i)=0:=by unfold closeN;rw [hw]
    rw [e0] at HO
    cases st with
    | nil =>
     have HG:=Lib.hid (HBg.out i wr hB)
     cases hsg2:signAt sg (s.data.toList.drop i) with
     | none =>
      rw [hsg2] at HG
      have HN:=Lib.hid (hC.outside hil hw hsg2)
      have HS:=Lib.hid hS
      clear hC hS hB hw hsg2 HR HBg HOp
      simp only [Option.getD_none] at HG
      have z0:txt []=(⟨#[]⟩:ByteArray):=rfl
      rw [z0] at HG
      clear z0 htop
      obtain ⟨m,hm⟩:∃ m,m=([]:List UInt8).length:=⟨_,rfl⟩
      rw [← hm] at hcap ⊢
      have HS':Hid (Stk w.heap.size (.slice (some ⟨g,0,none⟩) m cap) (stB []) wr):=by
       show Stk _ _ _ _
       rw [hm];exact HS.out
      have dI:¬ (0:Int)≤(m:Int) - 1:=by simp at hm;omega
      have hm5:m≤5:=by simp at hm;omega
      clear hm HS
      go_wp2_with (first
       | (go_at_call 112;refine (HO.out _).mono ?_;rintro e w' ⟨rfl,hw'⟩;obtain rfl:=hw'.symm)
       | (go_at_call 113;refine HG.out.mono ?_;rintro e w' ⟨rfl,hw'⟩;obtain rfl:=hw'.symm))
      go_roundw
      case rel=>exact ⟨i+1,[],hlt,by go_num,Nat.zero_le _,HN.out,HS'.out,HB.out⟩
      case measure=>simp [intOf];omega
     | some x =>
      rw [hsg2] at HG
      have HE:=Lib.hid (hC.hit hil hw hsg2)
      obtain ⟨hx1,hx2,hx3⟩:=sign_at hsg2
      have hxl:=HL.out x hx1
      clear hC hS hB hw hsg2 HR HBg HOp
      simp only [Option.getD_some] at HG
      have hxe:(txt x).toList.isEmpty=false:=by rw [txt_toL];simpa using hx2
      have hfit:i+x.length≤s.size:=by
       have:=congrArg List.length hx3
       rw [List.length_append,List.length_drop,List.length_drop,size_list] at this
       have:=List.length_pos_iff.2 hx2
       omega
      have c2:(0:Int)≤(i:Int)+(x.length:Int):=by omega
      have c3:(i:Int)+(x.length:Int)≤(s.size:Int):=by omega
      have hxn:(txt x).size=x.length:=txt_size x
      clear hx1 hx2 hx3 htop
      obtain ⟨m,hm⟩:∃ m,m=([]:List UInt8).length:=⟨_,rfl⟩
      rw [← hm] at hcap ⊢
      have dI:¬ (0:Int)≤(m:Int) - 1:=by simp at hm;omega
      have hm5:m≤5:=by simp at hm;omega
      clear hm
      go_wp2_with (first
       | (go_at_call 112;refine (HO.out _).mono ?_;rintro e w' ⟨rfl,hw'⟩;obtain rfl:=hw'.symm)
       | (go_at_call 113;refine HG.out.mono ?_;rintro e w' ⟨rfl,hw'⟩;obtain rfl:=hw'.symm))
      go_quiet (fail)
      go_wp2
      go_ret3
      refine ⟨?_,HB.out.trans ((drewN_below _ _ _).mono HB.out.size)⟩
      have e1:txt (s.data.toList.take i)=s.extract 0 i:=by rw [extract_txt];simp
      have e2:txt (s.data.toList.drop (i+x.length))=s.extract (i+x.length) s.size:=by rw [extract_txt,take_rest]
      rw [HE.out]
      show _=Ending.returned (.tuple #[.string (txt (s.data.toList.take i)),.string (txt x),.string (txt (s.data.toList.drop (i+x.length)))])
      rw [e1,e2]
      rfl
    | cons b st =>
     have hcell:=htop b st rfl
     have htl:st.length+1≤cap:=hcap
     have hst':st.length+1≤i:=hst
     clear htop hcap hst
     simp only [List.length_cons] at hS ⊢
     have dI:decide ((0:Int)≤((st.length:Int)+1) - 1)=true:=decide_eq_true (by omega)
     cases he:((s[i].toNat:Int) == (b.toNat:Int)) with
     | true =>
      have hb:s.data.toList[i]=b:=by
       rw [list_at s i hlt]
       exact UInt8.toNat_inj.1 (by have:=beq_iff_eq.1 he;omega)
      have HN:=Lib.hid (hC.close hil hw hb)
      have hS':=hS
      rw [stB_cons] at hS'
      have HS:Hid (Stk w.heap.size (.slice (some ⟨g,0,none⟩) st.length cap) (stB st) wr):=by
       have:=Stk.pop (l:=stB st) (x:=encByte b) (by rw [stB_len];exact hS')
       rwa [stB_len] at this
      clear hC hS hS' hB hw hb HR HBg HOp
      go_wp2_with (first
       | (go_at_call 112;refine (HO.out _).mono ?_;rintro e w' ⟨rfl,hw'⟩;obtain rfl:=hw'.symm))
      go_quiet (fail)
      have HS9:Hid (Stk w.heap.size (.slice (some ⟨g,0,none⟩) st.length cap) (stB st) (wr.drewN nq)):=HS.out.kept (drewN_below _ _ _)
      have HB9:Hid (Below w.heap.size w (wr.drewN nq)):=HB.out.trans ((drewN_below _ _ _).mono HB.out.size)
      generalize wr.drewN nq=wz at HS9 HB9 ⊢
      go_wp2
      go_roundw
      case rel=>exact ⟨i+1,st,hlt,by go_num,by omega,HN.out,HS9.out,HB9.out⟩
      case measure=>simp [intOf];omega
     | false =>
      have hb:s.data.toList[i]≠b:=by
       rw [list_at s i hlt]
       rintro rfl
       simp at he
      have HN:=Lib.hid (hC.inside hil hw hb)
      have HS:=Lib.hid hS
      clear hC hS hB hw hb HR HBg HOp
      go_wp2_with (first
       | (go_at_call 112;refine (HO.out _).mono ?_;rintro e w' ⟨rfl,hw'⟩;obtain rfl:=hw'.symm))
      go_quiet (fail)
      have HS9:Hid (Stk w.heap.size (.slice (some ⟨g,0,none⟩) (st.length+1) cap) (stB (b :: st)) (wr.drewN nq)):=HS.out.kept (drewN_below _ _ _)
      have HB9:Hid (Below w.heap.size w (wr.drewN nq)):=HB.out.trans ((drewN_below _ _ _).mono HB.out.size)
      generalize wr.drewN nq=wz at HS9 HB9 ⊢
      go_wp2
      go_roundw
      case rel=>exact ⟨i+1,b :: st,hlt,by go_num,by simp;omega,HN.out,HS9.out,HB9.out⟩
      case measure=>simp [intOf];omega
   ·have e0:closeN (s.data.toList.drop i)=(q.toNat:Int):=by unfold closeN;rw [hw]
    rw [e0] at HO
    have hq:q=41∨q=125:=by
     rcases opens_by (s.data.toList.drop i) with ⟨_,h⟩ | ⟨_,_,h⟩ | ⟨_,_,h⟩ <;> rw [hw] at h <;> simp at h
     ·exact .inl h
     ·exact .inr h
    have qn:((q.toNat:Int) != 0)=true:=by rcases hq with rfl | rfl <;> rfl
    obtain ⟨v2,w2,hrun,hS2,hT2⟩:=hS.pushU q (by omega) 154 5
    have HN:=Lib.hid (hC.begin hil hw)
    have HS2:=Lib.hid hS2
    have HB2:Hid (Below w.heap.size w w2):=HB.out.trans (hT2.below HB.out.size fun n hn=>by
     obtain ⟨g',_,_,_,e,hg,_⟩:=hS
     rw [e] at hn
     simp only [Value.ownBlock,Option.some.injEq] at hn
     omega)
    clear hC hS hB hw hS2 hT2 HR HBg HOp e0 hq htop
    go_wp2_with (first
     | (go_at_call 112;refine (HO.out _).mono ?_;rintro e w' ⟨rfl,hw'⟩;obtain rfl:=hw'.symm)
     | (at_builtin;refine wpList_append_eq rfl _ _ 154 rfl _ _ _ w2 rfl rfl hrun ?_)
     | go_in)
    go_roundw
    case rel=>exact ⟨i+1,q :: st,hlt,by go_num,by simp;omega,HN.out,HS2.out,HB2.out⟩
    case measure=>simp [intOf];omega
  ·have HE:=Lib.hid (hC.done (by rw [size_list];omega))
   clear hC hS HR HBg HOp HC
   go_wp2
   go_ret3
   refine ⟨?_,HB.out⟩
   rw [HE.out,txt_toList];rfl
end Go.Proofs.YtmfjolmfbdbegaaGreatDoor

namespace Go.Proofs.YtmfjolmfbdbegaaGreatDoor
open Go.RowKit Go.Shelf
attribute [local go_sem] Oper.semAt_some
def StepsAt (W:World) (xb n:Nat):Prop:=W.heap[xb]? = some (.cells #[.int .i64 (n:Int)] 190 (0,0))
theorem StepsAt.kept {W W':World} {xb n:Nat} {X:Nat→Prop} (h:StepsAt W xb n) (hT:Turned X W W') (hx:¬ X xb):StepsAt W' xb n:=(hT.block xb (Array.getElem?_eq_some_iff.1 h).1 hx).trans h
theorem StepsAt.lt {W:World} {xb n:Nat} (h:StepsAt W xb n):xb < W.heap.size:=(Array.getElem?_eq_some_iff.1 h).1
theorem StepsAt.put {W:World} {xb n:Nat} (h:StepsAt W xb n) (m:Nat):StepsAt (W.setCell ⟨xb,0,none⟩ (.int .i64 (m:Int))) xb m:=by
 unfold StepsAt at h ⊢
 simp [World.setCell,Array.getElem?_modify,h]
def StepPost (xb n:Nat) (w:World) (e:Ending) (w':World):Prop :=
 (n=2000∧e=.returned (.int .i64 12)∧w'=w)∨(n < 2000∧e=.returned (.int .i64 0)∧w'=w.setCell ⟨xb,0,none⟩ (.int .i64 ((n+1:Nat):Int)))
set_option maxRecDepth 100000 in
set_option maxHeartbeats 10000000 in
theorem step_any (xb n:Nat) (hn:n≤2000) (w:World) (h:StepsAt w xb n):Calls Tryz.prog 187 #[.pointer (some ⟨xb,0,none⟩)] w (StepPost xb n w):=by
 obtain ⟨c0,f0⟩:=one_cell h
 by_cases h2:n=2000
 ·subst h2
  go_enter Tryz.func187,Tryz.ntmps187
  go_wp2
  go_ret
  exact .inl ⟨rfl,rfl,rfl⟩
 ·have e1:((n:Int) == 2000)=false:=by rw [beq_eq_false_iff_ne];omega
  clear h
  go_enter Tryz.func187,Tryz.ntmps187
  go_wp2
  go_ret
  exact .inr ⟨by omega,rfl,rfl⟩
def ShortPost (s:BT) (w:World) (e:Ending) (w':World):Prop :=
 w'=w∧((4000 < s.length∧e=.returned (.tuple #[.string ⟨#[]⟩,.int .i64 3]))∨(s.length≤4000∧e=.returned (.tuple #[.string (txt s),.int .i64 0])))
set_option maxRecDepth 100000 in
theorem short_any' (s:BT) (w:World) (hs:s.length≤1000000000):Calls Tryz.prog 168 #[.string (txt s)] w (ShortPost s w):=by
 obtain ⟨z,hz⟩:∃ z,z=txt s:=⟨_,rfl⟩
 have hsz:z.size=s.length:=by rw [hz,txt_size]
 rw [← hz]
 by_cases h:4000 < s.length
 ·have d:(4000:Int) < (z.size:Int):=by omega
  clear hz
  go_enter Tryz.func168,Tryz.ntmps168
  go_wp2
  go_ret2
  exact ⟨rfl,.inl ⟨h,rfl⟩⟩
 ·have d:¬ (4000:Int) < (z.size:Int):=by omega
  have HZ:=Lib.hid hz
  clear hz
  go_enter Tryz.func168,Tryz.ntmps168
  go_wp2
  go_ret2
  exact ⟨rfl,.inr ⟨by omega,by rw [← HZ.out];rfl⟩⟩
def addL (l t:BT):BT:=if l.length≤4000 then l++t else l
theorem BuiltP.len {b:Nat} {Y:Nat→Prop} {p:Value} {l:BT} {w:World} (h:BuiltP w Y b p l) (hp:p=.pointer none∨p=.pointer (some ⟨b,0,none⟩)) :
  Calls Tryz.prog 174 #[.pointer (some ⟨b,0,none⟩)] w fun e w'=>e=.returned (.int .i64 (l.length:Nat))∧w'=w:=by
 obtain ⟨v,hb,hown,_,_,_⟩:=h
 have hne:=Lib.ownBlock_neF hown hb (by decide)
 have hA:Lib.IsBuilderF (lays170_ren.t 72) (lays170_ren.t 5) 0 b (Lib.byteCells l) w:=by
  rcases hp with rfl | rfl
  ·exact .inl ⟨Nat.zero_le _,v,hb,by rw [Lib.byteCells_length];exact hown,hne⟩
  ·exact .inr ⟨Nat.zero_le _,v,hb,by rw [Lib.byteCells_length];exact hown,hne⟩
 have:=Any.Builder_Len_f lays170 0 b (Lib.byteCells l) w hA
 rw [Lib.byteCells_length] at this
 exact this
theorem BuiltP.wider {b:Nat} {Y Z:Nat→Prop} {p:Value} {l:BT} {w:World} (h:BuiltP w Y b p l) (hz:∀ n,Y n→n < w.heap.size→Z n):BuiltP w Z b p l:=h.kept (Turned.refl (fun _=>False) w) (fun _ _ h=>h) hz
set_option maxRecDepth 100000 in
set_option maxHeartbeats 10000000 in
theorem add_any (b:Nat) (p:Value) (l t:BT) (w:World) (h:BuiltP w (fun n=>b≤n) b p l) (hp:(p=.pointer none∧l=[])∨p=.pointer (some ⟨b,0,none⟩)) (hl:l.length≤1000000000) (ht:t.length≤1000000000) :
  Calls Tryz.prog 167 #[.pointer (some ⟨b,0,none⟩),.string (txt t)] w fun e w'=>e=.returned (.tuple #[])∧BuiltIn w' (fun n=>b≤n) b (addL l t)∧Turned (fun n=>b≤n) w w':=by
 have hp2:p=.pointer none∨p=.pointer (some ⟨b,0,none⟩):=hp.imp And.left id
 have HL:=Lib.hid (h.len hp2)
 have hbl:=h.lt
 by_cases hc:l.length≤4000
 ·have HW:=Lib.hid (write_any b _ p hp2 l (txt t) w h (by rw [txt_size];omega))
  have e0:Hid (addL l t=l++t):=if_pos hc
  have d:((l.length:Nat):Int)≤4000:=by omega
  clear h hp hp2
  go_enter Tryz.func167,Tryz.ntmps167
  go_wp2_with fail
  refine HL.out.mono ?_
  rintro e _ ⟨rfl,rfl⟩
  go_wp2_with fail
  refine HW.out.mono ?_
  rintro e w2 ⟨rfl,hB,hT⟩
  go_wp2_with fail
  go_end0
  refine ⟨rfl,?_,hT⟩
  rw [e0.out]
  rw [txt_data] at hB
  exact BuiltP.wider hB (fun n hn _=>by rcases hn with h | h <;> omega)
 ·have e0:Hid (addL l t=l):=if_neg hc
  have d:¬ ((l.length:Nat):Int)≤4000:=by omega
  have HB:Hid (BuiltIn w (fun n=>b≤n) b l):=by
   rcases hp with ⟨_,rfl⟩ | rfl
   ·simp at hc
   ·exact h
  clear h hp hp2
  go_enter Tryz.func167,Tryz.ntmps167
  go_wp2_with fail
  refine HL.out.mono ?_
  rintro e _ ⟨rfl,rfl⟩
  go_wp2_with fail
  go_end0
  exact ⟨rfl,by rw [e0.out];exact HB.out,Turned.refl _ _⟩
end Go.Proofs.YtmfjolmfbdbegaaGreatDoor

namespace Go.Proofs.YtmfjolmfbdbegaaGreatDoor
open Go.RowKit Go.Shelf
attribute [local go_sem] Oper.semAt_some
structure AtX (xb n:Nat) (w:World) (v:Value) (env:EnvT):Prop where
 std:Std w
 far:xb ≠ 3∧xb ≠ 0
 steps:StepsAt w xb n
 few:n≤2000
 env:EnvS w (fun b=>b≠xb) v env
theorem Std.turned {w W:World} {X:Nat→Prop} (h:Std w) (hT:Turned X w W) (h1:¬ X 3) (h2:¬ X 0):Std W:=by
 have k1:=h.tl
 have k2:=h.ml
 have hs:=hT.size
 refine ⟨?_,?_,by omega,by omega⟩
 ·have:=h.tab
  unfold Lib.TabIs World.var? at this ⊢
  have hg:Tryz.prog.globalNamed "internal/strconv.uint64pow10"=some 3:=by kernel_rfl
  rw [hg] at this ⊢
  simp only [Option.bind_some] at this ⊢
  rw [hT.block 3 k1 h1]
  exact this
 ·obtain ⟨m,hm⟩:=h.mx
  refine ⟨m,?_⟩
  rw [← hm]
  unfold World.cell?
  rw [hT.block _ k2 h2]
theorem AtX.turned {xb n n':Nat} {w W:World} {v:Value} {env:EnvT} (h:AtX xb n w v env) (hT:Turned (fun b=>b=xb) w W) (hs:StepsAt W xb n') (hn:n'≤2000):AtX xb n' W v env :=
 ⟨h.std.turned hT (fun e=>h.far.1 e.symm) (fun e=>h.far.2 e.symm),h.far,hs,hn,h.env.turned hT (fun _ h1 h2=>h1 h2)⟩
theorem AtX.below {xb n:Nat} {w W:World} {v:Value} {env:EnvT} (h:AtX xb n w v env) (hb:Below w.heap.size w W):AtX xb n W v env :=
 ⟨h.std.below hb,h.far,(hb.block _ h.steps.lt).trans h.steps,h.few,h.env.below hb⟩
theorem turned_of_below' {X:Nat→Prop} {w W:World} (hb:Below w.heap.size w W):Turned X w W:=⟨hb.os,hb.tape,hb.output,hb.size,fun k hk _=>hb.block k hk⟩
def ExpPost (xb:Nat) (r:R) (w:World) (e:Ending) (w':World):Prop :=
 Turned (fun b=>b=xb) w w'∧((∃ c:Int,r=.error c∧c≠0∧e=.returned (.tuple #[.string ⟨#[]⟩,.int .i64 c]))∨∃ n t,r=.ok (n,t)∧e=.returned (.tuple #[.string (txt t),.int .i64 0])∧StepsAt w' xb n∧n≤2000)
def BeginPost (xb n d:Nat) (o:Option Addr) (m c:Nat) (w:World) (e:Ending) (w':World):Prop :=
 Turned (fun b=>b=xb) w w' ∧
 ((d = 20 ∧ e = .returned (.tuple #[.agg #[.slice none 0 0, .int .i64 0], .int .i64 15])) ∨
  (d < 20 ∧ n = 2000 ∧ e = .returned (.tuple #[.agg #[.slice o m c, .int .i64 ((d : Int) + 1)], .int .i64 12])) ∨
  (d < 20 ∧ n < 2000 ∧ e = .returned (.tuple #[.agg #[.slice o m c, .int .i64 ((d : Int) + 1)], .int .i64 0]) ∧ StepsAt w' xb (n + 1)))
theorem set_two {W:World} {b:Nat} {a0 a1:Value} {T:TypeId} (h:W.heap[b]? = some (.cells #[a0,a1] T (0,0))) (x y:Value) :
  ((W.setCell ⟨b,0,none⟩ x).setCell ⟨b,1,none⟩ y).heap[b]? = some (.cells #[x,y] T (0,0)):=by simp [World.setCell,Array.getElem?_modify,h]
theorem two_cells {W:World} {b:Nat} {a0 a1:Value} {T:TypeId} (h:W.heap[b]? = some (.cells #[a0,a1] T (0,0))):W.cell? ⟨b,0,none⟩=some a0∧W.cell? ⟨b,1,none⟩=some a1∧W.frozen? ⟨b,0,none⟩=false∧W.frozen? ⟨b,1,none⟩=false :=
 ⟨by rw [Lib.cell_of_heap h];rfl,by rw [Lib.cell_of_heap h];rfl,Lib.frozen_of_heap h 0,Lib.frozen_of_heap h 1⟩
structure BegAt (xb n:Nat) (a b:Value) (w W:World):Prop where
 back:Turned (fun b=>b=xb) w W
 steps:StepsAt W xb n
 c:W.heap[w.heap.size]? = some (.cells #[a,b] 193 (0,0))
 r:W.heap[w.heap.size+1]? = some (.cells #[.slice none 0 0,.int .i64 0] 193 (0,0))
theorem BegAt.drew {xb n:Nat} {a b:Value} {w W:World} (h:BegAt xb n a b w W):BegAt xb n a b w W.drew:=⟨h.back.trans (Turned.drew _ _),h.steps,h.c,h.r⟩
theorem BegAt.start {xb n:Nat} {w:World} (a b:Value) (h:StepsAt w xb n):BegAt xb n a b w ((w.alloc (.cells #[a,b] 193)).alloc (.cells #[.slice none 0 0,.int .i64 0] 193)) :=
 ⟨turned_of_below' (below_two _ _ _),((below_two w _ _).block _ h.lt).trans h,heap_first _ _ _,heap_second _ _ _⟩
theorem BegAt.step {xb n:Nat} {a b:Value} {w W:World} (h:BegAt xb n a b w W) (hx:xb < w.heap.size):BegAt xb (n+1) a b w (W.setCell ⟨xb,0,none⟩ (.int .i64 ((n+1:Nat):Int))) :=
 ⟨h.back.trans (Turned.setCell _ _ _ rfl),h.steps.put _,(Below.heap_setCell _ _ _ _ (by show w.heap.size≠xb;omega)).trans h.c,(Below.heap_setCell _ _ _ _ (by show w.heap.size+1≠xb;omega)).trans h.r⟩
theorem BegAt.last {xb n:Nat} {o:Option Addr} {m c d:Nat} {w W:World} (h:BegAt xb n (.slice o m c) (.int .i64 ((d:Int)+1)) w W) (hx:xb < w.heap.size) :
  ((W.setCell ⟨w.heap.size+1,0,none⟩ (.slice o m c)).setCell ⟨w.heap.size+1,1,none⟩ (.int .i64 ((d:Int)+1))).heap[w.heap.size+1]? = some (.cells #[.slice o m c,.int .i64 ((d:Int)+1)] 193 (0,0)) ∧
  Turned (fun b=>b=xb) w ((W.setCell ⟨w.heap.size+1,0,none⟩ (.slice o m c)).setCell ⟨w.heap.size+1,1,none⟩ (.int .i64 ((d:Int)+1))) ∧
  StepsAt ((W.setCell ⟨w.heap.size+1,0,none⟩ (.slice o m c)).setCell ⟨w.heap.size+1,1,none⟩ (.int .i64 ((d:Int)+1))) xb n:=by
 refine ⟨set_two h.r _ _,?_,?_⟩
 ·have hb:=h.back
  refine ⟨hb.os,hb.tape,hb.output,by simpa using hb.size,fun k hk hne=>?_⟩
  rw [Below.heap_setCell _ _ _ _ (by show k≠w.heap.size+1;omega),Below.heap_setCell _ _ _ _ (by show k≠w.heap.size+1;omega)]
  exact hb.block k hk hne
 ·unfold StepsAt
  rw [Below.heap_setCell _ _ _ _ (by show xb≠w.heap.size+1;omega),Below.heap_setCell _ _ _ _ (by show xb≠w.heap.size+1;omega)]
  exact h.steps
set_option maxRecDepth 100000 in
set_option maxHeartbeats 2000000 in
theorem begin_any (xb n d:Nat) (o:Option Addr) (m c:Nat) (w:World) (h:StepsAt w xb n) (hn2:n≤2000) (hd:d≤20) :
  Calls Tryz.prog 177 #[.pointer (some ⟨xb,0,none⟩),.agg #[.slice o m c,.int .i64 (d:Int)]] w (BeginPost xb n d o m c w):=by
 have hx:=h.lt
 have hxx:xb≠w.heap.size+1:=by omega
 by_cases hd20:d=20
 ·subst hd20
  go_enter Tryz.func177,Tryz.ntmps177
  go_wp2
  have hh:=heap_second w (.cells #[.slice o m c,.int .i64 20] 193) (.cells #[.slice none 0 0,.int .i64 0] 193)
  have hb:=below_two w (.cells #[.slice o m c,.int .i64 20] 193) (.cells #[.slice none 0 0,.int .i64 0] 193)
  generalize ((w.alloc (.cells #[.slice o m c,.int .i64 20] 193)).alloc (.cells #[.slice none 0 0,.int .i64 0] 193))=W at hh hb ⊢
  obtain ⟨q0,q1,_⟩:=two_cells hh
  exact bodyPost_ret (v:=.tuple #[.agg #[.slice none 0 0,.int .i64 0],.int .i64 15]) (by simp [results,Tryz.results177,go_sem,q0,q1]) rfl ⟨turned_of_below' hb,.inl ⟨rfl,rfl⟩⟩
 ·have e0:((d:Int) == 20)=false:=by rw [beq_eq_false_iff_ne];omega
  have hw1:IntKind.i64.wrap ((d:Int)+1)=(d:Int)+1:=by rw [IntKind.wrap_i64];omega
  have HB0:=Lib.hid (BegAt.start (.slice o m c) (.int .i64 ((d:Int)+1)) h)
  by_cases hn:n=2000
  ·subst hn
   have HS:Hid (∀ W,BegAt xb 2000 (.slice o m c) (.int .i64 ((d:Int)+1)) w W→Calls Tryz.prog 187 #[.pointer (some ⟨xb,0,none⟩)] W fun e w'=>e=.returned (.int .i64 12)∧BegAt xb 2000 (.slice o m c) (.int .i64 ((d:Int)+1)) w w'):=fun W hW=>by
    refine (step_any xb 2000 (Nat.le_refl _) W hW.steps).mono ?_
    rintro e w' (⟨_,h1,rfl⟩ | ⟨h1,_⟩)
    ·exact ⟨h1,hW⟩
    ·omega
   go_enter Tryz.func177,Tryz.ntmps177
   go_wp2_with fail
   generalize ((w.alloc (.cells #[.slice o m c,.int .i64 ((d:Int)+1)] 193)).alloc (.cells #[.slice none 0 0,.int .i64 0] 193))=W0 at HB0 ⊢
   obtain ⟨c0,c1,_,_⟩:=two_cells HB0.out.c
   go_region_held3 (fun w'=>w'.cell? ⟨w.heap.size,0,none⟩=some (.slice o m c)∧w'.cell? ⟨w.heap.size,1,none⟩=some (.int .i64 ((d:Int)+1)))
    (first | (go_keep;done) | (refine ⟨?_,?_⟩ <;> (refine far_cell (by assumption) ?_;omega)) | (refine ⟨?_,?_⟩ <;> (refine far_cell (far_cell (by assumption) ?_) ?_ <;> omega)))
    (first | (go_at_call 187;refine (HS.out _ (by first | exact HB0.out | exact HB0.out.drew)).mono ?_;rintro e w2 ⟨rfl,hB2⟩;have HB2:=Lib.hid hB2;obtain ⟨k0,k1,_,_⟩:=two_cells hB2.c;obtain ⟨r0,r1,r2,r3⟩:=two_cells hB2.r;clear hB2))
   go_wp2_with fail
   obtain ⟨hh,hT,hs⟩:=HB2.out.last hx
   generalize ((w2.setCell ⟨w.heap.size+1,0,none⟩ (.slice o m c)).setCell ⟨w.heap.size+1,1,none⟩ (.int .i64 ((d:Int)+1)))=w4 at hh hT hs ⊢
   obtain ⟨q0,q1,_⟩:=two_cells hh
   exact bodyPost_ret (v:=.tuple #[.agg #[.slice o m c,.int .i64 ((d:Int)+1)],.int .i64 12]) (by simp [results,Tryz.results177,go_sem,q0,q1]) rfl ⟨hT,.inr (.inl ⟨by omega,rfl,rfl⟩)⟩
  ·have HS:Hid (∀ W,BegAt xb n (.slice o m c) (.int .i64 ((d:Int)+1)) w W→Calls Tryz.prog 187 #[.pointer (some ⟨xb,0,none⟩)] W fun e w'=>e=.returned (.int .i64 0)∧BegAt xb (n+1) (.slice o m c) (.int .i64 ((d:Int)+1)) w w'):=fun W hW=>by
    refine (step_any xb n hn2 W hW.steps).mono ?_
    rintro e w' (⟨h1,_⟩ | ⟨_,h1,rfl⟩)
    ·omega
    ·exact ⟨h1,hW.step hx⟩
   go_enter Tryz.func177,Tryz.ntmps177
   go_wp2_with fail
   generalize ((w.alloc (.cells #[.slice o m c,.int .i64 ((d:Int)+1)] 193)).alloc (.cells #[.slice none 0 0,.int .i64 0] 193))=W0 at HB0 ⊢
   obtain ⟨c0,c1,_,_⟩:=two_cells HB0.out.c
   go_region_held3 (fun w'=>w'.cell? ⟨w.heap.size,0,none⟩=some (.slice o m c)∧w'.cell? ⟨w.heap.size,1,none⟩=some (.int .i64 ((d:Int)+1)))
    (first | (go_keep;done) | (refine ⟨?_,?_⟩ <;> (refine far_cell (by assumption) ?_;omega)) | (refine ⟨?_,?_⟩ <;> (refine far_cell (far_cell (by assumption) ?_) ?_ <;> omega)))
    (first | (go_at_call 187;refine (HS.out _ (by first | exact HB0.out | exact HB0.out.drew)).mono ?_;rintro e w2 ⟨rfl,hB2⟩;have HB2:=Lib.hid hB2;obtain ⟨k0,k1,_,_⟩:=two_cells hB2.c;obtain ⟨r0,r1,r2,r3⟩:=two_cells hB2.r;clear hB2))
   go_wp2_with fail
   obtain ⟨hh,hT,hs⟩:=HB2.out.last hx
   generalize ((w2.setCell ⟨w.heap.size+1,0,none⟩ (.slice o m c)).setCell ⟨w.heap.size+1,1,none⟩ (.int .i64 ((d:Int)+1)))=w4 at hh hT hs ⊢
   obtain ⟨q0,q1,_⟩:=two_cells hh
   exact bodyPost_ret (v:=.tuple #[.agg #[.slice o m c,.int .i64 ((d:Int)+1)],.int .i64 0]) (by simp [results,Tryz.results177,go_sem,q0,q1]) rfl ⟨hT,.inr (.inr ⟨by omega,by omega,rfl,hs⟩)⟩
end Go.Proofs.YtmfjolmfbdbegaaGreatDoor

namespace Go.Proofs.YtmfjolmfbdbegaaGreatDoor
open Go.RowKit Go.Shelf
attribute [local go_sem] Oper.semAt_some
def EnvOk (env:EnvT) (k:Nat):Prop:=SrtT env∧env.length+10*k≤900000∧∀ x∈env,x.1.length≤10000000∧x.2.1.length≤10000000
def MethC (F:FuncId) (f:EnvT→BT→Nat→R) (k:Nat):Prop :=
 ∀ (xb n d:Nat) (o:Option Addr) (m c:Nat) (env:EnvT) (s:BT) (w:World),d+k=20→AtX xb n w (.slice o m c) env→EnvOk env k→s.length≤10000000 →
  Calls Tryz.prog F #[.pointer (some ⟨xb,0,none⟩),.agg #[.slice o m c,.int .i64 (d:Int)],.string (txt s)] w (ExpPost xb (f env s n) w)
def RefC (k:Nat):Prop:=MethC 176 (refE k) k
def ValC (k:Nat):Prop:=MethC 175 (valE k) k
def TextC (k:Nat):Prop:=MethC 147 (textE k) k
def DolPost (xb:Nat) (r:Rs (BT × BT)) (w:World) (e:Ending) (w':World):Prop :=
 Turned (fun b=>b=xb) w w'∧((∃ (c:Int) (u v:ByteArray),r=.error c∧c≠0∧e=.returned (.tuple #[.string u,.string v,.int .i64 c])) ∨
  ∃ n t rest,r=.ok (n,t,rest)∧e=.returned (.tuple #[.string (txt t),.string (txt rest),.int .i64 0])∧StepsAt w' xb n∧n≤2000)
theorem one_reads (W:World) (x:BT):ReadsO (W.alloc (.cells #[.string (txt x)] 9)) (W.alloc (.cells #[.string (txt x)] 9)).heap.size (.slice (some ⟨W.heap.size,0,none⟩) 1 1) ([x].map txt):=by
 have hn:=World.alloc_heap_new W (.cells #[.string (txt x)] 9)
 refine ⟨_,_,rfl,fun k y hk=>⟨W.heap.size,0,rfl,by simp,Nat.le_refl _,?_⟩⟩
 cases k with
 | zero=>cases hk;exact Lib.cell_of_heap hn 0
 | succ k=>simp at hk
theorem cut_one (W:World) (s:BT) (q:BT) (hs:s.length≤10000000) (hq:q.length≤100):Calls Tryz.prog 72 #[.string (txt s),.slice (some ⟨W.heap.size,0,none⟩) 1 1] (W.alloc (.cells #[.string (txt q)] 9))
  fun e w'=>e=.returned (.tuple #[.string (txt (cutOf [q] s).1),.string (txt (cutOf [q] s).2.1),.string (txt (cutOf [q] s).2.2)])∧Below W.heap.size W w':=by
 have hb:Below W.heap.size W (W.alloc (.cells #[.string (txt q)] 9)):=(Below.refl _ W).alloc (Nat.le_refl _) _
 refine (pcut_any _ [q] (txt s) _ (one_reads W q) (by simp) (fun x hx=>by simp at hx;subst hx;omega) (by rw [txt_size];exact hs)).mono ?_
 rintro e w' ⟨he,hb2⟩
 rw [txt_data] at he
 exact ⟨he,hb.trans (hb2.mono hb.size)⟩
theorem first_is {b:UInt8} {r:BT}:(txt (b :: r)).extract 0 1=txt [b]:=by rw [extract_txt,txt_data];rfl
theorem rest_is {b:UInt8} {r:BT}:(txt (b :: r)).extract 1 (txt (b :: r)).size=txt r:=by
 rw [extract_txt,txt_data,txt_size]
 simp
theorem byte_eq (b c:UInt8):((txt [b]).toList == [c])=decide (b=c):=by
 rw [txt_toL]
 by_cases h:b=c
 ·subst h;simp
 ·rw [decide_eq_false h];simpa using h
set_option maxRecDepth 100000 in
theorem dollar_none (xb n d:Nat) (o:Option Addr) (m c:Nat) (rf vf:BT→Nat→R) (w:World) :
  Calls Tryz.prog 169 #[.pointer (some ⟨xb,0,none⟩),.agg #[.slice o m c,.int .i64 (d:Int)],.string (txt [])] w (DolPost xb (dolR rf vf [] n) w):=by
 show Calls Tryz.prog 169 #[_,_,.string ⟨#[]⟩] w _
 go_enter Tryz.func169,Tryz.ntmps169
 go_wp2
 go_ret3
 exact ⟨turned_of_below' ((Below.refl _ w).alloc (Nat.le_refl _) _),.inl ⟨2,_,_,rfl,by decide,rfl⟩⟩
set_option maxRecDepth 100000 in
set_option maxHeartbeats 20000000 in
theorem dollar_two (k:Nat) (_hR:RefC k) (_hV:ValC k) (xb n d:Nat) (o:Option Addr) (m c:Nat) (env:EnvT) (r:BT) (w:World) (_hd:d+k=20) (h:AtX xb n w (.slice o m c) env) (_hE:EnvOk env k) (_hs:r.length≤9999999) :
  Calls Tryz.prog 169 #[.pointer (some ⟨xb,0,none⟩),.agg #[.slice o m c,.int .i64 (d:Int)],.string (txt (36 :: r))] w (DolPost xb (dolR (refE k env) (valE k env) (36 :: r) n) w):=by
 have hb0:Below w.heap.size w (w.alloc (.cells #[.slice o m c,.int .i64 (d:Int)] 193)):=(Below.refl _ w).alloc (Nat.le_refl _) _
 have hc0:=World.alloc_heap_new w (.cells #[.slice o m c,.int .i64 (d:Int)] 193)
 have hx:=h.steps.lt
 obtain ⟨S,hS⟩:∃ S,S=txt (36 :: r):=⟨_,rfl⟩
 obtain ⟨F,hF⟩:∃ F,F=txt [36]:=⟨_,rfl⟩
 have x1:S.extract 0 1=F:=by rw [hS,hF];exact first_is
 have x2:S.extract 1 S.size=txt r:=by rw [hS];exact rest_is
 have q0:S.toList.isEmpty=false:=by rw [hS,txt_toL];rfl
 have q1:(F.toList == [36])=true:=by rw [hF,byte_eq];decide
 have q2:(F.toList == [40])=false:=by rw [hF,byte_eq];decide
 have q3:(F.toList == [123])=false:=by rw [hF,byte_eq];decide
 have z1:(1:Int)≤(S.size:Int):=by rw [hS,txt_size];simp only [List.length_cons];omega
 have HV:Hid (dolR (refE k env) (valE k env) (36 :: r) n=.ok (n,[36],r)):=by show _=_;rw [dol_cons,if_pos rfl]
 have HA:=Lib.hid h
 rw [HV.out]
 rw [← hS]
 clear hS hF h
 go_enter Tryz.func169,Tryz.ntmps169
 go_wp2_with fail
 go_quiet (fail)
 have hb9:Hid (Below w.heap.size w ((w.alloc (.cells #[.slice o m c,.int .i64 (d:Int)] 193)).drewN nq)):=hb0.trans (drewN_same _ _ _)
 generalize ((w.alloc (.cells #[.slice o m c,.int .i64 (d:Int)] 193)).drewN nq)=W at hb9 ⊢
 clear hb0 hc0
 go_wp2_with fail
 go_ret3
 have ha:=HA.out.below hb9.out
 exact ⟨turned_of_below' hb9.out,.inr ⟨n,[36],r,rfl,rfl,ha.steps,ha.few⟩⟩
set_option maxRecDepth 100000 in
set_option maxHeartbeats 20000000 in
theorem dollar_byte (k:Nat) (_hR:RefC k) (hV:ValC k) (xb n d:Nat) (o:Option Addr) (m c:Nat) (env:EnvT) (b:UInt8) (r:BT) (w:World) (hd:d+k=20) (h:AtX xb n w (.slice o m c) env) (hE:EnvOk env k) (_hs:r.length≤9999999) (h36:b≠36) (h40:b≠40) (h123:b≠123) :
  Calls Tryz.prog 169 #[.pointer (some ⟨xb,0,none⟩),.agg #[.slice o m c,.int .i64 (d:Int)],.string (txt (b :: r))] w (DolPost xb (dolR (refE k env) (valE k env) (b :: r) n) w):=by
 have hb0:Below w.heap.size w (w.alloc (.cells #[.slice o m c,.int .i64 (d:Int)] 193)):=(Below.refl _ w).alloc (Nat.le_refl _) _
 have hc0:=World.alloc_heap_new w (.cells #[.slice o m c,.int .i64 (d:Int)] 193)
 have hx:=h.steps.lt
 obtain ⟨S,hS⟩:∃ S,S=txt (b :: r):=⟨_,rfl⟩
 obtain ⟨F,hF⟩:∃ F,F=txt [b]:=⟨_,rfl⟩
 have x1:S.extract 0 1=F:=by rw [hS,hF];exact first_is
 have x2:S.extract 1 S.size=txt r:=by rw [hS];exact rest_is
 have q0:S.toList.isEmpty=false:=by rw [hS,txt_toL];rfl
 have q1:(F.toList == [36])=false:=by rw [hF,byte_eq];exact decide_eq_false h36
 have q2:(F.toList == [40])=false:=by rw [hF,byte_eq];exact decide_eq_false h40
 have q3:(F.toList == [123])=false:=by rw [hF,byte_eq];exact decide_eq_false h123
 have z1:(1:Int)≤(S.size:Int):=by rw [hS,txt_size];simp only [List.length_cons];omega
 have HV:Hid (dolR (refE k env) (valE k env) (b :: r) n=Rb (valE k env [b] n) fun m t=>.ok (m,t,r)):=by show _=_;rw [dol_cons,if_neg h36,if_neg h40,if_neg h123]
 have HC:Hid (∀ W,Below w.heap.size w W→Calls Tryz.prog 175 #[.pointer (some ⟨xb,0,none⟩),.agg #[.slice o m c,.int .i64 (d:Int)],.string F] W (ExpPost xb (valE k env [b] n) W)):=fun W hb=>by
  rw [hF]
  exact hV xb n d o m c env [b] W hd (h.below hb) hE (by simp)
 rw [← hS]
 rw [HV.out]
 clear hS hF h hE hV h36 h40 h123 hd
 go_enter Tryz.func169,Tryz.ntmps169
 go_wp2_with fail
 go_quiet (fail)
 have hb9:Hid (Below w.heap.size w ((w.alloc (.cells #[.slice o m c,.int .i64 (d:Int)] 193)).drewN nq)):=hb0.trans (drewN_same _ _ _)
 have hc9:((w.alloc (.cells #[.slice o m c,.int .i64 (d:Int)] 193)).drewN nq).heap[w.heap.size]? = some (.cells #[.slice o m c,.int .i64 (d:Int)] 193 (0,0)):=hc0
 generalize ((w.alloc (.cells #[.slice o m c,.int .i64 (d:Int)] 193)).drewN nq)=W at hb9 hc9 ⊢
 obtain ⟨y0,y1,_,_⟩:=two_cells hc9
 clear hb0 hc0 hc9
 go_wp2_with fail
 refine (HC.out W hb9.out).mono ?_
 rintro e w2 ⟨hT,hr⟩
 have HT:Hid (Turned (fun b=>b=xb) w w2):=(turned_of_below' hb9.out).trans hT
 clear HC hT
 rcases hr with ⟨cc,hr,hc,rfl⟩ | ⟨n2,t,hr,rfl,hs2,hn2⟩
 ·go_wp2_with fail
  go_ret3
  exact ⟨HT.out,.inl ⟨cc,_,_,by rw [hr];rfl,hc,rfl⟩⟩
 ·have HS2:=Lib.hid hs2
  clear hs2
  go_wp2_with fail
  go_ret3
  exact ⟨HT.out,.inr ⟨n2,t,r,by rw [hr];rfl,rfl,HS2.out,hn2⟩⟩
set_option maxRecDepth 100000 in
set_option maxHeartbeats 20000000 in
theorem dollar_paren (k:Nat) (hR:RefC k) (_hV:ValC k) (xb n d:Nat) (o:Option Addr) (m c:Nat) (env:EnvT) (r:BT) (w:World) (hd:d+k=20) (h:AtX xb n w (.slice o m c) env) (hE:EnvOk env k) (hs:r.length≤9999999) :
  Calls Tryz.prog 169 #[.pointer (some ⟨xb,0,none⟩),.agg #[.slice o m c,.int .i64 (d:Int)],.string (txt (40 :: r))] w (DolPost xb (dolR (refE k env) (valE k env) (40 :: r) n) w):=by
 have hb0:Below w.heap.size w (w.alloc (.cells #[.slice o m c,.int .i64 (d:Int)] 193)):=(Below.refl _ w).alloc (Nat.le_refl _) _
 have hc0:=World.alloc_heap_new w (.cells #[.slice o m c,.int .i64 (d:Int)] 193)
 have hx:=h.steps.lt
 obtain ⟨S,hS⟩:∃ S,S=txt (40 :: r):=⟨_,rfl⟩
 obtain ⟨F,hF⟩:∃ F,F=txt [40]:=⟨_,rfl⟩
 have x1:S.extract 0 1=F:=by rw [hS,hF];exact first_is
 have x2:S.extract 1 S.size=txt r:=by rw [hS];exact rest_is
 have q0:S.toList.isEmpty=false:=by rw [hS,txt_toL];rfl
 have q1:(F.toList == [36])=false:=by rw [hF,byte_eq];decide
 have q2:(F.toList == [40])=true:=by rw [hF,byte_eq];decide
 have q3:(F.toList == [123])=false:=by rw [hF,byte_eq];decide
 have z1:(1:Int)≤(S.size:Int):=by rw [hS,txt_size];simp only [List.length_cons];omega
 have HV:Hid (dolR (refE k env) (valE k env) (40 :: r) n=refAt (refE k env) 41 r n):=by show _=_;rw [dol_cons,if_neg (by decide),if_pos rfl]
 have HK:Hid (∀ W,Calls Tryz.prog 72 #[.string (txt r),.slice (some ⟨W.heap.size,0,none⟩) 1 1] (W.alloc (.cells #[.string ⟨#[41]⟩] 9)) fun e w'=>e=.returned (.tuple #[.string (txt (cutOf [[41]] r).1),.string (txt (cutOf [[41]] r).2.1),.string (txt (cutOf [[41]] r).2.2)])∧Below W.heap.size W w'):=fun W=>cut_one W r [41] (by omega) (by decide)
 have hsz:=cut_short1 [[41]] r
 have HC:Hid (∀ W,Below w.heap.size w W→Calls Tryz.prog 176 #[.pointer (some ⟨xb,0,none⟩),.agg #[.slice o m c,.int .i64 (d:Int)],.string (txt (cutOf [[41]] r).1)] W (ExpPost xb (refE k env (cutOf [[41]] r).1 n) W)):=fun W hb=>hR xb n d o m c env _ W hd (h.below hb) hE (by omega)
 rw [← hS]
 rw [HV.out]
 have HQ0:Hid ((cutOf [[41]] r).2.1=[]→refAt (refE k env) 41 r n=.error 2):=fun h0=>if_pos h0
 have HQ1:Hid (¬ (cutOf [[41]] r).2.1=[]→refAt (refE k env) 41 r n=Rb (refE k env (cutOf [[41]] r).1 n) fun m t=>.ok (m,t,(cutOf [[41]] r).2.2)):=fun h0=>if_neg h0
 generalize cutOf [[41]] r=K at HK HC HQ0 HQ1
 clear hS hF h hE hR hd hsz
 go_enter Tryz.func169,Tryz.ntmps169
 go_wp2_with fail
 go_quiet (fail)
 have hb9:Hid (Below w.heap.size w ((w.alloc (.cells #[.slice o m c,.int .i64 (d:Int)] 193)).drewN nq)):=hb0.trans (drewN_same _ _ _)
 have hc9:((w.alloc (.cells #[.slice o m c,.int .i64 (d:Int)] 193)).drewN nq).heap[w.heap.size]? = some (.cells #[.slice o m c,.int .i64 (d:Int)] 193 (0,0)):=hc0
 generalize ((w.alloc (.cells #[.slice o m c,.int .i64 (d:Int)] 193)).drewN nq)=W at hb9 hc9 ⊢
 have HC9:=Lib.hid hc9
 have hWl:w.heap.size < W.heap.size:=(Array.getElem?_eq_some_iff.1 hc9).1
 clear hb0 hc0 hc9
 go_wp2_with fail
 refine (HK.out W).mono ?_
 rintro e w2 ⟨rfl,hb2⟩
 have hc2:w2.heap[w.heap.size]? = some (.cells #[.slice o m c,.int .i64 (d:Int)] 193 (0,0)):=(hb2.block _ hWl).trans HC9.out
 obtain ⟨y0,y1,_,_⟩:=two_cells hc2
 have HB2:Hid (Below w.heap.size w w2):=hb9.out.trans (hb2.mono hb9.out.size)
 clear hb2 hc2 HK
 by_cases hk:K.2.1=[]
 ·have e5:(txt K.2.1).toList.isEmpty=true:=by rw [hk,txt_toL];rfl
  have HQ:=Lib.hid (HQ0.out hk)
  clear hk HQ0 HQ1
  go_wp2_with fail
  go_ret3
  exact ⟨turned_of_below' HB2.out,.inl ⟨2,_,_,HQ.out,by decide,rfl⟩⟩
 ·have e5:(txt K.2.1).toList.isEmpty=false:=by rw [txt_toL];simpa using hk
  have HQ:=Lib.hid (HQ1.out hk)
  clear hk HQ0 HQ1
  go_wp2_with fail
  refine (HC.out w2 HB2.out).mono ?_
  rintro e w3 ⟨hT,hr⟩
  have HT:Hid (Turned (fun b=>b=xb) w w3):=(turned_of_below' HB2.out).trans hT
  clear HC hT
  rcases hr with ⟨cc,hr,hc,rfl⟩ | ⟨n2,t,hr,rfl,hs2,hn2⟩
  ·go_wp2_with fail
   go_ret3
   exact ⟨HT.out,.inl ⟨cc,_,_,by rw [HQ.out,hr];rfl,hc,rfl⟩⟩
  ·have HS2:=Lib.hid hs2
   clear hs2
   go_wp2_with fail
   go_ret3
   exact ⟨HT.out,.inr ⟨n2,t,K.2.2,by rw [HQ.out,hr];rfl,rfl,HS2.out,hn2⟩⟩
set_option maxRecDepth 100000 in
set_option maxHeartbeats 20000000 in
theorem dollar_brace (k:Nat) (hR:RefC k) (_hV:ValC k) (xb n d:Nat) (o:Option Addr) (m c:Nat) (env:EnvT) (r:BT) (w:World) (hd:d+k=20) (h:AtX xb n w (.slice o m c) env) (hE:EnvOk env k) (hs:r.length≤9999999) :
  Calls Tryz.prog 169 #[.pointer (some ⟨xb,0,none⟩),.agg #[.slice o m c,.int .i64 (d:Int)],.string (txt (123 :: r))] w (DolPost xb (dolR (refE k env) (valE k env) (123 :: r) n) w):=by
 have hb0:Below w.heap.size w (w.alloc (.cells #[.slice o m c,.int .i64 (d:Int)] 193)):=(Below.refl _ w).alloc (Nat.le_refl _) _
 have hc0:=World.alloc_heap_new w (.cells #[.slice o m c,.int .i64 (d:Int)] 193)
 have hx:=h.steps.lt
 obtain ⟨S,hS⟩:∃ S,S=txt (123 :: r):=⟨_,rfl⟩
 obtain ⟨F,hF⟩:∃ F,F=txt [123]:=⟨_,rfl⟩
 have x1:S.extract 0 1=F:=by rw [hS,hF];exact first_is
 have x2:S.extract 1 S.size=txt r:=by rw [hS];exact rest_is
 have q0:S.toList.isEmpty=false:=by rw [hS,txt_toL];rfl
 have q1:(F.toList == [36])=false:=by rw [hF,byte_eq];decide
 have q2:(F.toList == [40])=false:=by rw [hF,byte_eq];decide
 have q3:(F.toList == [123])=true:=by rw [hF,byte_eq];decide
 have z1:(1:Int)≤(S.size:Int):=by rw [hS,txt_size];simp only [List.length_cons];omega
 have HV:Hid (dolR (refE k env) (valE k env) (123 :: r) n=refAt (refE k env) 125 r n):=by show _=_;rw [dol_cons,if_neg (by decide),if_neg (by decide),if_pos rfl]
 have HK:Hid (∀ W,Calls Tryz.prog 72 #[.string (txt r),.slice (some ⟨W.heap.size,0,none⟩) 1 1] (W.alloc (.cells #[.string ⟨#[125]⟩] 9)) fun e w'=>e=.returned (.tuple #[.string (txt (cutOf [[125]] r).1),.string (txt (cutOf [[125]] r).2.1),.string (txt (cutOf [[125]] r).2.2)])∧Below W.heap.size W w'):=fun W=>cut_one W r [125] (by omega) (by decide)
 have hsz:=cut_short1 [[125]] r
 have HC:Hid (∀ W,Below w.heap.size w W→Calls Tryz.prog 176 #[.pointer (some ⟨xb,0,none⟩),.agg #[.slice o m c,.int .i64 (d:Int)],.string (txt (cutOf [[125]] r).1)] W (ExpPost xb (refE k env (cutOf [[125]] r).1 n) W)):=fun W hb=>hR xb n d o m c env _ W hd (h.below hb) hE (by omega)
 rw [← hS]
 rw [HV.out]
 have HQ0:Hid ((cutOf [[125]] r).2.1=[]→refAt (refE k env) 125 r n=.error 2):=fun h0=>if_pos h0
 have HQ1:Hid (¬ (cutOf [[125]] r).2.1=[]→refAt (refE k env) 125 r n=Rb (refE k env (cutOf [[125]] r).1 n) fun m t=>.ok (m,t,(cutOf [[125]] r).2.2)):=fun h0=>if_neg h0
 generalize cutOf [[125]] r=K at HK HC HQ0 HQ1
 clear hS hF h hE hR hd hsz
 go_enter Tryz.func169,Tryz.ntmps169
 go_wp2_with fail
 go_quiet (fail)
 have hb9:Hid (Below w.heap.size w ((w.alloc (.cells #[.slice o m c,.int .i64 (d:Int)] 193)).drewN nq)):=hb0.trans (drewN_same _ _ _)
 have hc9:((w.alloc (.cells #[.slice o m c,.int .i64 (d:Int)] 193)).drewN nq).heap[w.heap.size]? = some (.cells #[.slice o m c,.int .i64 (d:Int)] 193 (0,0)):=hc0
 generalize ((w.alloc (.cells #[.slice o m c,.int .i64 (d:Int)] 193)).drewN nq)=W at hb9 hc9 ⊢
 have HC9:=Lib.hid hc9
 have hWl:w.heap.size < W.heap.size:=(Array.getElem?_eq_some_iff.1 hc9).1
 clear hb0 hc0 hc9
 go_wp2_with fail
 refine (HK.out W).mono ?_
 rintro e w2 ⟨rfl,hb2⟩
 have hc2:w2.heap[w.heap.size]? = some (.cells #[.slice o m c,.int .i64 (d:Int)] 193 (0,0)):=(hb2.block _ hWl).trans HC9.out
 obtain ⟨y0,y1,_,_⟩:=two_cells hc2
 have HB2:Hid (Below w.heap.size w w2):=hb9.out.trans (hb2.mono hb9.out.size)
 clear hb2 hc2 HK
 by_cases hk:K.2.1=[]
 ·have e5:(txt K.2.1).toList.isEmpty=true:=by rw [hk,txt_toL];rfl
  have HQ:=Lib.hid (HQ0.out hk)
  clear hk HQ0 HQ1
  go_wp2_with fail
  go_ret3
  exact ⟨turned_of_below' HB2.out,.inl ⟨2,_,_,HQ.out,by decide,rfl⟩⟩
 ·have e5:(txt K.2.1).toList.isEmpty=false:=by rw [txt_toL];simpa using hk
  have HQ:=Lib.hid (HQ1.out hk)
  clear hk HQ0 HQ1
  go_wp2_with fail
  refine (HC.out w2 HB2.out).mono ?_
  rintro e w3 ⟨hT,hr⟩
  have HT:Hid (Turned (fun b=>b=xb) w w3):=(turned_of_below' HB2.out).trans hT
  clear HC hT
  rcases hr with ⟨cc,hr,hc,rfl⟩ | ⟨n2,t,hr,rfl,hs2,hn2⟩
  ·go_wp2_with fail
   go_ret3
   exact ⟨HT.out,.inl ⟨cc,_,_,by rw [HQ.out,hr];rfl,hc,rfl⟩⟩
  ·have HS2:=Lib.hid hs2
   clear hs2
   go_wp2_with fail
   go_ret3
   exact ⟨HT.out,.inr ⟨n2,t,K.2.2,by rw [HQ.out,hr];rfl,rfl,HS2.out,hn2⟩⟩
theorem dollar_any (k:Nat) (hR:RefC k) (hV:ValC k) (xb n d:Nat) (o:Option Addr) (m c:Nat) (env:EnvT) (s:BT) (w:World) (hd:d+k=20) (h:AtX xb n w (.slice o m c) env) (hE:EnvOk env k) (hs:s.length≤10000000) :
  Calls Tryz.prog 169 #[.pointer (some ⟨xb,0,none⟩),.agg #[.slice o m c,.int .i64 (d:Int)],.string (txt s)] w (DolPost xb (dolR (refE k env) (valE k env) s n) w):=by
 cases s with
 | nil=>exact dollar_none xb n d o m c _ _ w
 | cons b r =>
  have hs':r.length≤9999999:=by simp only [List.length_cons] at hs;omega
  by_cases h1:b=36
  ·subst h1;exact dollar_two k hR hV xb n d o m c env r w hd h hE hs'
  by_cases h2:b=40
  ·subst h2;exact dollar_paren k hR hV xb n d o m c env r w hd h hE hs'
  by_cases h3:b=123
  ·subst h3;exact dollar_brace k hR hV xb n d o m c env r w hd h hE hs'
  ·exact dollar_byte k hR hV xb n d o m c env b r w hd h hE hs' h1 h2 h3
end Go.Proofs.YtmfjolmfbdbegaaGreatDoor
