/-
  Plain words: a text cut at bytes. No program, no world.
-/
import Derived.WalkKit
import Derived.Lib.Strings
namespace Go.Proofs.YtmfjolmfbdbegaaGreatDoor
def pieces (p:UInt8→Bool):List UInt8→List (List UInt8)
 | []=>[[]]
 | c :: r=>if p c then [] :: pieces p r else match pieces p r with
  | h :: t=>(c :: h) :: t
  | []=>[[c]]
def txt (l:List UInt8):ByteArray:=⟨l.toArray⟩
@[simp] theorem txt_data (l:List UInt8):(txt l).data.toList=l:=by simp [txt]
@[simp] theorem txt_size (l:List UInt8):(txt l).size=l.length:=by simp [txt,ByteArray.size]
theorem txt_toList (s:ByteArray):txt s.data.toList=s:=by simp [txt]
theorem txt_toL (l:List UInt8):(txt l).toList=l:=by rw [Lib.toList_data,txt_data]
theorem pieces_ne (p:UInt8→Bool) (l:List UInt8):pieces p l≠[]:=by
 cases l with
 | nil=>simp [pieces]
 | cons c r =>
  simp only [pieces]
  split
  ·simp
  ·split <;> simp
theorem pieces_none (p:UInt8→Bool) (l:List UInt8) (h:∀ c∈l,p c=false):pieces p l=[l]:=by
 induction l with
 | nil=>rfl
 | cons c r ih=>simp [pieces,h c (by simp),ih (fun x hx=>h x (by simp [hx]))]
theorem pieces_cut (p:UInt8→Bool) (a:List UInt8) (c:UInt8) (r:List UInt8) (h:∀ x∈a,p x=false) (hc:p c=true):pieces p (a++c :: r)=a :: pieces p r:=by
 induction a with
 | nil=>simp [pieces,hc]
 | cons x a ih=>simp [pieces,h x (by simp),ih (fun y hy=>h y (by simp [hy]))]
theorem cut_at (p:UInt8→Bool) (l:List UInt8) (a m:Nat) (ham:a≤m) (hm:m < l.length) (hno:∀ c∈(l.drop a).take (m - a),p c=false) (hc:p l[m]=true) :
  pieces p (l.drop a)=(l.drop a).take (m - a) :: pieces p (l.drop (m+1)):=by
 have e:l.drop a=(l.drop a).take (m - a)++l[m] :: l.drop (m+1):=by
  have h1:(l.drop a).drop (m - a)=l[m] :: l.drop (m+1):=by
   rw [List.drop_drop,show a+(m - a)=m by omega];exact List.drop_eq_getElem_cons hm
  rw [← h1,List.take_append_drop]
 have:=pieces_cut p _ l[m] (l.drop (m+1)) hno hc
 rwa [← e] at this
theorem none_next (p:UInt8→Bool) (l:List UInt8) (a m:Nat) (ham:a≤m) (hm:m < l.length) (hno:∀ c∈(l.drop a).take (m - a),p c=false) (hc:p l[m]=false) :
  ∀ c∈(l.drop a).take (m+1 - a),p c=false:=by
 intro c h
 have e:(l.drop a).take (m+1 - a)=(l.drop a).take (m - a)++[l[m]]:=by
  rw [show m+1 - a=(m - a)+1 by omega,List.take_succ_eq_append_getElem (by simp;omega)]
  simp [show a+(m - a)=m by omega]
 rw [e] at h
 rcases List.mem_append.1 h with h | h
 ·exact hno c h
 ·simp at h;rw [h];exact hc
theorem take_rest (s:ByteArray) (a:Nat):(s.data.toList.drop a).take (s.size - a)=s.data.toList.drop a :=
 List.take_of_length_le (by rw [List.length_drop,Array.length_toList];exact Nat.le_refl _)
theorem extract_txt (s:ByteArray) (a b:Nat):s.extract a b=txt ((s.data.toList.drop a).take (b - a)):=by
 rw [← txt_toList (s.extract a b),Lib.extract_data]
end Go.Proofs.YtmfjolmfbdbegaaGreatDoor
