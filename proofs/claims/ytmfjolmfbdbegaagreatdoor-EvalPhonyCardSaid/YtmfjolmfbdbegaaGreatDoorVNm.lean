/-
  What the program says of a name: isOfName, Name, for every byte and every text. No condition.
-/
import Derived.Test.YtmfjolmfbdbegaaGreatDoorGC
namespace Go.Proofs.YtmfjolmfbdbegaaGreatDoor
open Go.RowKit Go.Shelf
theorem take_last {s:ByteArray} {m:Nat} (h:m < s.size):s.data.toList.take (m+1)=s.data.toList.take m++[s[m]]:=by
 have h':m < s.data.toList.length:=by rw [Array.length_toList];exact h
 rw [List.take_succ_eq_append_getElem h',Array.getElem_toList];rfl
set_option maxRecDepth 100000 in
set_option maxHeartbeats 4000000 in
theorem isOfName_any (c:UInt8) (w:World):Calls Tryz.prog 73 #[.int .u8 (c.toNat:Int)] w fun e w'=>e=.returned (.bool (nameC c))∧w'=w:=by
 have h256:c.toNat < 256:=UInt8.toNat_lt _
 have hw:(0≤c.toNat∧c.toNat≤44)∨(45≤c.toNat∧c.toNat≤45)∨(46≤c.toNat∧c.toNat≤46)∨(47≤c.toNat∧c.toNat≤47)∨(48≤c.toNat∧c.toNat≤57)∨(58≤c.toNat∧c.toNat≤64)∨(65≤c.toNat∧c.toNat≤90)∨(91≤c.toNat∧c.toNat≤94)∨(95≤c.toNat∧c.toNat≤95)∨(96≤c.toNat∧c.toNat≤96)∨(97≤c.toNat∧c.toNat≤122)∨(123≤c.toNat∧c.toNat≤255):=by omega
 rcases hw with ⟨h1,h2⟩ | ⟨h1,h2⟩ | ⟨h1,h2⟩ | ⟨h1,h2⟩ | ⟨h1,h2⟩ | ⟨h1,h2⟩ | ⟨h1,h2⟩ | ⟨h1,h2⟩ | ⟨h1,h2⟩ | ⟨h1,h2⟩ | ⟨h1,h2⟩ | ⟨h1,h2⟩
 ·have hv:nameC c=false:=by unfold nameC;simp;omega
  have HV:=Lib.hid hv
  have g65:¬ 65≤c.toNat:=by omega
  have g97:¬ 97≤c.toNat:=by omega
  have g48:¬ 48≤c.toNat:=by omega
  have l90:c.toNat≤90:=by omega
  have l122:c.toNat≤122:=by omega
  have l57:c.toNat≤57:=by omega
  have dg65:decide (65≤(c.toNat:Int))=false:=by simp;omega
  have dg97:decide (97≤(c.toNat:Int))=false:=by simp;omega
  have dg48:decide (48≤(c.toNat:Int))=false:=by simp;omega
  have dl90:decide ((c.toNat:Int)≤90)=true:=by simp;omega
  have dl122:decide ((c.toNat:Int)≤122)=true:=by simp;omega
  have dl57:decide ((c.toNat:Int)≤57)=true:=by simp;omega
  have e95:((c.toNat:Int) == 95)=false:=by simp;omega
  have e45:((c.toNat:Int) == 45)=false:=by simp;omega
  have e46:((c.toNat:Int) == 46)=false:=by simp;omega
  clear hv h1 h2 h256
  go_enter Tryz.func73,Tryz.ntmps73
  go_wp2
  go_ret
  exact ⟨by rw [HV.out];rfl,rfl⟩
 ·have hv:nameC c=true:=by unfold nameC;simp;omega
  have HV:=Lib.hid hv
  have g65:¬ 65≤c.toNat:=by omega
  have g97:¬ 97≤c.toNat:=by omega
  have g48:¬ 48≤c.toNat:=by omega
  have l90:c.toNat≤90:=by omega
  have l122:c.toNat≤122:=by omega
  have l57:c.toNat≤57:=by omega
  have dg65:decide (65≤(c.toNat:Int))=false:=by simp;omega
  have dg97:decide (97≤(c.toNat:Int))=false:=by simp;omega
  have dg48:decide (48≤(c.toNat:Int))=false:=by simp;omega
  have dl90:decide ((c.toNat:Int)≤90)=true:=by simp;omega
  have dl122:decide ((c.toNat:Int)≤122)=true:=by simp;omega
  have dl57:decide ((c.toNat:Int)≤57)=true:=by simp;omega
  have e95:((c.toNat:Int) == 95)=false:=by simp;omega
  have e45:((c.toNat:Int) == 45)=true:=by simp;omega
  have e46:((c.toNat:Int) == 46)=false:=by simp;omega
  clear hv h1 h2 h256
  go_enter Tryz.func73,Tryz.ntmps73
  go_wp2
  go_ret
  exact ⟨by rw [HV.out];rfl,rfl⟩
 ·have hv:nameC c=true:=by unfold nameC;simp;omega
  have HV:=Lib.hid hv
  have g65:¬ 65≤c.toNat:=by omega
  have g97:¬ 97≤c.toNat:=by omega
  have g48:¬ 48≤c.toNat:=by omega
  have l90:c.toNat≤90:=by omega
  have l122:c.toNat≤122:=by omega
  have l57:c.toNat≤57:=by omega
  have dg65:decide (65≤(c.toNat:Int))=false:=by simp;omega
  have dg97:decide (97≤(c.toNat:Int))=false:=by simp;omega
  have dg48:decide (48≤(c.toNat:Int))=false:=by simp;omega
  have dl90:decide ((c.toNat:Int)≤90)=true:=by simp;omega
  have dl122:decide ((c.toNat:Int)≤122)=true:=by simp;omega
  have dl57:decide ((c.toNat:Int)≤57)=true:=by simp;omega
  have e95:((c.toNat:Int) == 95)=false:=by simp;omega
  have e45:((c.toNat:Int) == 45)=false:=by simp;omega
  have e46:((c.toNat:Int) == 46)=true:=by simp;omega
  clear hv h1 h2 h256
  go_enter Tryz.func73,Tryz.ntmps73
  go_wp2
  go_ret
  exact ⟨by rw [HV.out];rfl,rfl⟩
 ·have hv:nameC c=false:=by unfold nameC;simp;omega
  have HV:=Lib.hid hv
  have g65:¬ 65≤c.toNat:=by omega
  have g97:¬ 97≤c.toNat:=by omega
  have g48:¬ 48≤c.toNat:=by omega
  have l90:c.toNat≤90:=by omega
  have l122:c.toNat≤122:=by omega
  have l57:c.toNat≤57:=by omega
  have dg65:decide (65≤(c.toNat:Int))=false:=by simp;omega
  have dg97:decide (97≤(c.toNat:Int))=false:=by simp;omega
  have dg48:decide (48≤(c.toNat:Int))=false:=by simp;omega
  have dl90:decide ((c.toNat:Int)≤90)=true:=by simp;omega
  have dl122:decide ((c.toNat:Int)≤122)=true:=by simp;omega
  have dl57:decide ((c.toNat:Int)≤57)=true:=by simp;omega
  have e95:((c.toNat:Int) == 95)=false:=by simp;omega
  have e45:((c.toNat:Int) == 45)=false:=by simp;omega
  have e46:((c.toNat:Int) == 46)=false:=by simp;omega
  clear hv h1 h2 h256
  go_enter Tryz.func73,Tryz.ntmps73
  go_wp2
  go_ret
  exact ⟨by rw [HV.out];rfl,rfl⟩
 ·have hv:nameC c=true:=by unfold nameC;simp;omega
  have HV:=Lib.hid hv
  have g65:¬ 65≤c.toNat:=by omega
  have g97:¬ 97≤c.toNat:=by omega
  have g48:48≤c.toNat:=by omega
  have l90:c.toNat≤90:=by omega
  have l122:c.toNat≤122:=by omega
  have l57:c.toNat≤57:=by omega
  have dg65:decide (65≤(c.toNat:Int))=false:=by simp;omega
  have dg97:decide (97≤(c.toNat:Int))=false:=by simp;omega
  have dg48:decide (48≤(c.toNat:Int))=true:=by simp;omega
  have dl90:decide ((c.toNat:Int)≤90)=true:=by simp;omega
  have dl122:decide ((c.toNat:Int)≤122)=true:=by simp;omega
  have dl57:decide ((c.toNat:Int)≤57)=true:=by simp;omega
  have e95:((c.toNat:Int) == 95)=false:=by simp;omega
  have e45:((c.toNat:Int) == 45)=false:=by simp;omega
  have e46:((c.toNat:Int) == 46)=false:=by simp;omega
  clear hv h1 h2 h256
  go_enter Tryz.func73,Tryz.ntmps73
  go_wp2
  go_ret
  exact ⟨by rw [HV.out];rfl,rfl⟩
 ·have hv:nameC c=false:=by unfold nameC;simp;omega
  have HV:=Lib.hid hv
  have g65:¬ 65≤c.toNat:=by omega
  have g97:¬ 97≤c.toNat:=by omega
  have g48:48≤c.toNat:=by omega
  have l90:c.toNat≤90:=by omega
  have l122:c.toNat≤122:=by omega
  have l57:¬ c.toNat≤57:=by omega
  have dg65:decide (65≤(c.toNat:Int))=false:=by simp;omega
  have dg97:decide (97≤(c.toNat:Int))=false:=by simp;omega
  have dg48:decide (48≤(c.toNat:Int))=true:=by simp;omega
  have dl90:decide ((c.toNat:Int)≤90)=true:=by simp;omega
  have dl122:decide ((c.toNat:Int)≤122)=true:=by simp;omega
  have dl57:decide ((c.toNat:Int)≤57)=false:=by simp;omega
  have e95:((c.toNat:Int) == 95)=false:=by simp;omega
  have e45:((c.toNat:Int) == 45)=false:=by simp;omega
  have e46:((c.toNat:Int) == 46)=false:=by simp;omega
  clear hv h1 h2 h256
  go_enter Tryz.func73,Tryz.ntmps73
  go_wp2
  go_ret
  exact ⟨by rw [HV.out];rfl,rfl⟩
 ·have hv:nameC c=true:=by unfold nameC;simp;omega
  have HV:=Lib.hid hv
  have g65:65≤c.toNat:=by omega
  have g97:¬ 97≤c.toNat:=by omega
  have g48:48≤c.toNat:=by omega
  have l90:c.toNat≤90:=by omega
  have l122:c.toNat≤122:=by omega
  have l57:¬ c.toNat≤57:=by omega
  have dg65:decide (65≤(c.toNat:Int))=true:=by simp;omega
  have dg97:decide (97≤(c.toNat:Int))=false:=by simp;omega
  have dg48:decide (48≤(c.toNat:Int))=true:=by simp;omega
  have dl90:decide ((c.toNat:Int)≤90)=true:=by simp;omega
  have dl122:decide ((c.toNat:Int)≤122)=true:=by simp;omega
  have dl57:decide ((c.toNat:Int)≤57)=false:=by simp;omega
  have e95:((c.toNat:Int) == 95)=false:=by simp;omega
  have e45:((c.toNat:Int) == 45)=false:=by simp;omega
  have e46:((c.toNat:Int) == 46)=false:=by simp;omega
  clear hv h1 h2 h256
  go_enter Tryz.func73,Tryz.ntmps73
  go_wp2
  go_ret
  exact ⟨by rw [HV.out];rfl,rfl⟩
 ·have hv:nameC c=false:=by unfold nameC;simp;omega
  have HV:=Lib.hid hv
  have g65:65≤c.toNat:=by omega
  have g97:¬ 97≤c.toNat:=by omega
  have g48:48≤c.toNat:=by omega
  have l90:¬ c.toNat≤90:=by omega
  have l122:c.toNat≤122:=by omega
  have l57:¬ c.toNat≤57:=by omega
  have dg65:decide (65≤(c.toNat:Int))=true:=by simp;omega
  have dg97:decide (97≤(c.toNat:Int))=false:=by simp;omega
  have dg48:decide (48≤(c.toNat:Int))=true:=by simp;omega
  have dl90:decide ((c.toNat:Int)≤90)=false:=by simp;omega
  have dl122:decide ((c.toNat:Int)≤122)=true:=by simp;omega
  have dl57:decide ((c.toNat:Int)≤57)=false:=by simp;omega
  have e95:((c.toNat:Int) == 95)=false:=by simp;omega
  have e45:((c.toNat:Int) == 45)=false:=by simp;omega
  have e46:((c.toNat:Int) == 46)=false:=by simp;omega
  clear hv h1 h2 h256
  go_enter Tryz.func73,Tryz.ntmps73
  go_wp2
  go_ret
  exact ⟨by rw [HV.out];rfl,rfl⟩
 ·have hv:nameC c=true:=by unfold nameC;simp;omega
  have HV:=Lib.hid hv
  have g65:65≤c.toNat:=by omega
  have g97:¬ 97≤c.toNat:=by omega
  have g48:48≤c.toNat:=by omega
  have l90:¬ c.toNat≤90:=by omega
  have l122:c.toNat≤122:=by omega
  have l57:¬ c.toNat≤57:=by omega
  have dg65:decide (65≤(c.toNat:Int))=true:=by simp;omega
  have dg97:decide (97≤(c.toNat:Int))=false:=by simp;omega
  have dg48:decide (48≤(c.toNat:Int))=true:=by simp;omega
  have dl90:decide ((c.toNat:Int)≤90)=false:=by simp;omega
  have dl122:decide ((c.toNat:Int)≤122)=true:=by simp;omega
  have dl57:decide ((c.toNat:Int)≤57)=false:=by simp;omega
  have e95:((c.toNat:Int) == 95)=true:=by simp;omega
  have e45:((c.toNat:Int) == 45)=false:=by simp;omega
  have e46:((c.toNat:Int) == 46)=false:=by simp;omega
  clear hv h1 h2 h256
  go_enter Tryz.func73,Tryz.ntmps73
  go_wp2
  go_ret
  exact ⟨by rw [HV.out];rfl,rfl⟩
 ·have hv:nameC c=false:=by unfold nameC;simp;omega
  have HV:=Lib.hid hv
  have g65:65≤c.toNat:=by omega
  have g97:¬ 97≤c.toNat:=by omega
  have g48:48≤c.toNat:=by omega
  have l90:¬ c.toNat≤90:=by omega
  have l122:c.toNat≤122:=by omega
  have l57:¬ c.toNat≤57:=by omega
  have dg65:decide (65≤(c.toNat:Int))=true:=by simp;omega
  have dg97:decide (97≤(c.toNat:Int))=false:=by simp;omega
  have dg48:decide (48≤(c.toNat:Int))=true:=by simp;omega
  have dl90:decide ((c.toNat:Int)≤90)=false:=by simp;omega
  have dl122:decide ((c.toNat:Int)≤122)=true:=by simp;omega
  have dl57:decide ((c.toNat:Int)≤57)=false:=by simp;omega
  have e95:((c.toNat:Int) == 95)=false:=by simp;omega
  have e45:((c.toNat:Int) == 45)=false:=by simp;omega
  have e46:((c.toNat:Int) == 46)=false:=by simp;omega
  clear hv h1 h2 h256
  go_enter Tryz.func73,Tryz.ntmps73
  go_wp2
  go_ret
  exact ⟨by rw [HV.out];rfl,rfl⟩
 ·have hv:nameC c=true:=by unfold nameC;simp;omega
  have HV:=Lib.hid hv
  have g65:65≤c.toNat:=by omega
  have g97:97≤c.toNat:=by omega
  have g48:48≤c.toNat:=by omega
  have l90:¬ c.toNat≤90:=by omega
  have l122:c.toNat≤122:=by omega
  have l57:¬ c.toNat≤57:=by omega
  have dg65:decide (65≤(c.toNat:Int))=true:=by simp;omega
  have dg97:decide (97≤(c.toNat:Int))=true:=by simp;omega
  have dg48:decide (48≤(c.toNat:Int))=true:=by simp;omega
  have dl90:decide ((c.toNat:Int)≤90)=false:=by simp;omega
  have dl122:decide ((c.toNat:Int)≤122)=true:=by simp;omega
  have dl57:decide ((c.toNat:Int)≤57)=false:=by simp;omega
  have e95:((c.toNat:Int) == 95)=false:=by simp;omega
  have e45:((c.toNat:Int) == 45)=false:=by simp;omega
  have e46:((c.toNat:Int) == 46)=false:=by simp;omega
  clear hv h1 h2 h256
  go_enter Tryz.func73,Tryz.ntmps73
  go_wp2
  go_ret
  exact ⟨by rw [HV.out];rfl,rfl⟩
 ·have hv:nameC c=false:=by unfold nameC;simp;omega
  have HV:=Lib.hid hv
  have g65:65≤c.toNat:=by omega
  have g97:97≤c.toNat:=by omega
  have g48:48≤c.toNat:=by omega
  have l90:¬ c.toNat≤90:=by omega
  have l122:¬ c.toNat≤122:=by omega
  have l57:¬ c.toNat≤57:=by omega
  have dg65:decide (65≤(c.toNat:Int))=true:=by simp;omega
  have dg97:decide (97≤(c.toNat:Int))=true:=by simp;omega
  have dg48:decide (48≤(c.toNat:Int))=true:=by simp;omega
  have dl90:decide ((c.toNat:Int)≤90)=false:=by simp;omega
  have dl122:decide ((c.toNat:Int)≤122)=false:=by simp;omega
  have dl57:decide ((c.toNat:Int)≤57)=false:=by simp;omega
  have e95:((c.toNat:Int) == 95)=false:=by simp;omega
  have e45:((c.toNat:Int) == 45)=false:=by simp;omega
  have e46:((c.toNat:Int) == 46)=false:=by simp;omega
  clear hv h1 h2 h256
  go_enter Tryz.func73,Tryz.ntmps73
  go_wp2
  go_ret
  exact ⟨by rw [HV.out];rfl,rfl⟩
set_option maxRecDepth 100000 in
set_option maxHeartbeats 4000000 in
theorem name_any (s:ByteArray) (hs:s.size≤maxLen) (w:World):Calls Tryz.prog 50 #[.string s] w fun e w'=>e=.returned (.bool (nameB s.data.toList))∧w=w':=by
 have hsm:s.size≤9223372036854775807:=hs
 by_cases h0:s.toList=[]
 ·have HV:Hid (nameB s.data.toList=false):=by
   show _=_
   rw [Lib.toList_data] at h0
   rw [h0];rfl
  go_enter Tryz.func50,Tryz.ntmps50
  go_wp2
  go_ret
  exact ⟨by rw [HV.out];rfl,rfl⟩
 have h1:s.toList.isEmpty=false:=by simpa using h0
 by_cases h40:40 < s.size
 ·have d40:decide ((40:Int) < (s.size:Int))=true:=by simp;omega
  have HV:Hid (nameB s.data.toList=false):=by
   show _=_
   unfold nameB
   rw [size_list,decide_eq_false (p:=s.size≤40) (by omega),Bool.and_false]
  clear h0
  go_enter Tryz.func50,Tryz.ntmps50
  go_wp2
  go_ret
  exact ⟨by rw [HV.out];rfl,rfl⟩
 have d40:decide ((40:Int) < (s.size:Int))=false:=by simp;omega
 have HV:Hid (nameB s.data.toList=s.data.toList.all nameC):=by
  show _=_
  rw [Lib.toList_data] at h0
  unfold nameB
  rw [decide_eq_true h0,size_list,decide_eq_true (p:=s.size≤40) (by omega),Bool.and_true,Bool.and_true]
 clear h0
 go_enter Tryz.func50,Tryz.ntmps50
 go_wp2
 go_loop [13] (fun i=>∃ k:Nat,k≤s.size∧i=.int .i64 k∧∀ x∈s.data.toList.take k,nameC x=true) (fun i=>s.size - (intOf i).toNat)
 case atStart=>exact ⟨0,Nat.zero_le _,rfl,by simp⟩
 case round =>
  obtain ⟨k,hk,rfl,hcl⟩:=hrel
  have HC:=Lib.hid hcl
  clear hcl
  by_cases hlt:k < s.size
  ·have hge:s[k]∈s.data.toList:=by
    rw [Array.mem_toList_iff];exact Array.getElem_mem _
   cases hc:nameC s[k] with
   | true =>
    have HN:Hid (∀ x∈s.data.toList.take (k+1),nameC x=true):=fun x hx=>by
     rw [take_last hlt] at hx
     rcases List.mem_append.1 hx with hx | hx
     ·exact HC.out x hx
     ·rw [List.mem_singleton.1 hx];exact hc
    have HO:Hid (∀ W,Calls Tryz.prog 73 #[.int .u8 (s[k].toNat:Int)] W fun e w'=>e=.returned (.bool true)∧w'=W):=fun W=>by
     have:=isOfName_any s[k] W
     rwa [hc] at this
    clear hge hc
    go_wp2_with (go_at_call 73;refine (HO.out _).mono ?_;rintro e w' ⟨rfl,rfl⟩)
    go_round
    case rel=>exact ⟨k+1,hlt,by go_num,HN.out⟩
    case measure=>simp [intOf];omega
   | false =>
    have HF:Hid (nameB s.data.toList=false):=by
     show _=_
     rw [HV.out,List.all_eq_false]
     exact ⟨s[k],hge,by rw [hc];simp⟩
    have HO:Hid (∀ W,Calls Tryz.prog 73 #[.int .u8 (s[k].toNat:Int)] W fun e w'=>e=.returned (.bool false)∧w'=W):=fun W=>by
     have:=isOfName_any s[k] W
     rwa [hc] at this
    clear hge hc
    go_wp2_with (go_at_call 73;refine (HO.out _).mono ?_;rintro e w' ⟨rfl,rfl⟩)
    go_ret
    exact ⟨by rw [HF.out];rfl,rfl⟩
  ·have HA:Hid (nameB s.data.toList=true):=by
    show _=_
    rw [HV.out,List.all_eq_true]
    intro x hx
    apply HC.out
    rw [List.take_of_length_le (by rw [size_list];omega)]
    exact hx
   go_wp2
   go_ret
   exact ⟨by rw [HA.out];rfl,rfl⟩
end Go.Proofs.YtmfjolmfbdbegaaGreatDoor
