/-
  What Call of package call answers, for subst and findstring. For texts of at most a million bytes. No condition.
  What Call of package call answers, for word and wordlist. For texts of at most a million bytes. No condition.
  What Call of package call answers, for words. For texts of at most a million bytes. No condition.
  What Call of package call answers, for every name and all arguments of at most a million bytes. No condition.
-/
import Derived.Deep.RegionHeld3
import Derived.Test.YtmfjolmfbdbegaaGreatDoorHX
import Derived.Test.YtmfjolmfbdbegaaGreatDoorNM3
import Derived.Test.YtmfjolmfbdbegaaGreatDoorNL
namespace Go.Proofs.YtmfjolmfbdbegaaGreatDoor
open Go.RowKit Go.Shelf Go.Sort
set_option maxRecDepth 100000 in
set_option maxHeartbeats 4000000 in
theorem call_subst (s:ByteArray) (hs:s.data.toList=nSubst) (o:Option Addr) (n c:Nat) (hn:n=3) (xs:List ByteArray) (hz:∀ y∈xs,y.size≤1000000) (w:World) (hst:Std w) (hr:ReadsO w w.heap.size (.slice o n c) xs) :
  Calls Tryz.prog 186 #[.string s,.slice o n c] w fun e w'=>e=.returned (.tuple #[.string (txt (finT (some (subT (xs.getD 0 ⟨#[]⟩).data.toList (xs.getD 1 ⟨#[]⟩).data.toList (xs.getD 2 ⟨#[]⟩).data.toList))).1),.int .i64 (finT (some (subT (xs.getD 0 ⟨#[]⟩).data.toList (xs.getD 1 ⟨#[]⟩).data.toList (xs.getD 2 ⟨#[]⟩).data.toList))).2])∧Below w.heap.size w w':=by
 have hgz:∀ k,(xs.getD k ⟨#[]⟩).size≤1000000:=fun k=>by
  unfold List.getD
  cases hk:xs[k]? with
  | none=>exact Nat.zero_le _
  | some y=>exact hz y (List.mem_of_getElem? hk)
 have hxl:n=xs.length:=by
  obtain ⟨o',c',hv,_⟩:=hr
  cases hv
  rfl
 obtain ⟨-,b0,f0,rfl,hnc,h0⟩:=arg_cell hr 0 (by omega)
 have hb0:b0 < w.heap.size:=by
  obtain ⟨o',c',hv,hx⟩:=hr
  cases hv
  obtain ⟨b',f',ho,hlt,_,_⟩:=hx 0 xs[0] (List.getElem?_eq_getElem (by omega))
  cases ho
  exact hlt
 have h1:w.cell? ⟨b0,f0+1,none⟩=some (.string (xs.getD 1 ⟨#[]⟩)):=by
  obtain ⟨_,_,_,e,_,h⟩:=arg_cell hr 1 (by omega)
  cases e
  exact h
 have h2:w.cell? ⟨b0,f0+2,none⟩=some (.string (xs.getD 2 ⟨#[]⟩)):=by
  obtain ⟨_,_,_,e,_,h⟩:=arg_cell hr 2 (by omega)
  cases e
  exact h
 rw [Nat.add_zero] at h0
 have hz0:=hgz 0
 have hz1:=hgz 1
 have hz2:=hgz 2
 generalize (xs.getD 0 ⟨#[]⟩)=a at *
 generalize (xs.getD 1 ⟨#[]⟩)=b at *
 generalize (xs.getD 2 ⟨#[]⟩)=d at *
 have q0:(s.toList == [115,117,98,115,116])=true:=by rw [Lib.toList_data,hs];decide
 have HM:Hid (∀ W,Calls Tryz.prog 190 #[.string s] W fun e w'=>e=.returned (.int .i64 3)∧W=w'):=fun W=>by
  have:=many_any s W
  rw [hs,show manyOf nSubst=3 by decide] at this
  exact this
 have hdr:Below w.heap.size w w.drew:=⟨rfl,rfl,rfl,Nat.le_refl _,fun _ _=>rfl⟩
 have HS:Hid (Calls Tryz.prog 196 #[.string a,.string b,.string d] w.drew fun e w'=>e=.returned (.tuple #[.string (txt (finT (some (subT a.data.toList b.data.toList d.data.toList))).1),.int .i64 (finT (some (subT a.data.toList b.data.toList d.data.toList))).2])∧Below w.heap.size w w'∧w'.cell? ⟨b0,f0,none⟩=some (.string a)∧w'.cell? ⟨b0,f0+1,none⟩=some (.string b)∧w'.cell? ⟨b0,f0+2,none⟩=some (.string d)) :=
  ((subst_any' a b d hz0 hz1 hz2 w.drew (hst.below hdr)).mono fun e w' h=>(⟨h.1,hdr.trans h.2⟩:_∧Below w.heap.size w w')).mono fun e w' h=>⟨h.1,h.2,(h.2.cell (p:=⟨b0,f0,none⟩) hb0).trans h0,(h.2.cell (p:=⟨b0,f0+1,none⟩) hb0).trans h1,(h.2.cell (p:=⟨b0,f0+2,none⟩) hb0).trans h2⟩
 subst hn
 clear hr hst hxl hgz hz hs
 have hmx:Tryz.prog.follows .mixedOrders=true:=by kernel_rfl
 go_enter Tryz.func186,Tryz.ntmps186
 go_wp2_with fail
 refine (HM.out w).mono ?_
 rintro e _ ⟨rfl,rfl⟩
 go_wp2_with fail
 go_region_held3 (fun w'=>w'.cell? ⟨b0,f0,none⟩=some (.string a)∧w'.cell? ⟨b0,f0+1,none⟩=some (.string b)∧w'.cell? ⟨b0,f0+2,none⟩=some (.string d)) (go_keep) ((go_at_call 196;refine HS.out.mono ?_;rintro e w' ⟨rfl,hbw,k0,k1,k2⟩))
 all_goals
  go_wp2_with fail
  go_ret2
  exact ⟨rfl,hbw⟩
set_option maxRecDepth 100000 in
set_option maxHeartbeats 4000000 in
theorem call_findstring (s:ByteArray) (hs:s.data.toList=nFindstring) (o:Option Addr) (n c:Nat) (hn:n=2) (xs:List ByteArray) (hz:∀ y∈xs,y.size≤1000000) (w:World) (hst:Std w) (hr:ReadsO w w.heap.size (.slice o n c) xs) :
  Calls Tryz.prog 186 #[.string s,.slice o n c] w fun e w'=>e=.returned (.tuple #[.string (txt (finT (some (if foundB (xs.getD 0 ⟨#[]⟩).data.toList (xs.getD 1 ⟨#[]⟩).data.toList=true then (xs.getD 0 ⟨#[]⟩).data.toList else []))).1),.int .i64 (finT (some (if foundB (xs.getD 0 ⟨#[]⟩).data.toList (xs.getD 1 ⟨#[]⟩).data.toList=true then (xs.getD 0 ⟨#[]⟩).data.toList else []))).2])∧Below w.heap.size w w':=by
 have hgz:∀ k,(xs.getD k ⟨#[]⟩).size≤1000000:=fun k=>by
  unfold List.getD
  cases hk:xs[k]? with
  | none=>exact Nat.zero_le _
  | some y=>exact hz y (List.mem_of_getElem? hk)
 have hxl:n=xs.length:=by
  obtain ⟨o',c',hv,_⟩:=hr
  cases hv
  rfl
 obtain ⟨-,b0,f0,rfl,hnc,h0⟩:=arg_cell hr 0 (by omega)
 have hb0:b0 < w.heap.size:=by
  obtain ⟨o',c',hv,hx⟩:=hr
  cases hv
  obtain ⟨b',f',ho,hlt,_,_⟩:=hx 0 xs[0] (List.getElem?_eq_getElem (by omega))
  cases ho
  exact hlt
 have h1:w.cell? ⟨b0,f0+1,none⟩=some (.string (xs.getD 1 ⟨#[]⟩)):=by
  obtain ⟨_,_,_,e,_,h⟩:=arg_cell hr 1 (by omega)
  cases e
  exact h
 rw [Nat.add_zero] at h0
 have hz0:=hgz 0
 have hz1:=hgz 1
 generalize (xs.getD 0 ⟨#[]⟩)=a at *
 generalize (xs.getD 1 ⟨#[]⟩)=b at *
 have q0:(s.toList == [115,117,98,115,116])=false:=by rw [Lib.toList_data,hs];decide
 have q1:(s.toList == [102,105,110,100,115,116,114,105,110,103])=true:=by rw [Lib.toList_data,hs];decide
 have HM:Hid (∀ W,Calls Tryz.prog 190 #[.string s] W fun e w'=>e=.returned (.int .i64 2)∧W=w'):=fun W=>by
  have:=many_any s W
  rw [hs,show manyOf nFindstring=2 by decide] at this
  exact this
 have hdr:Below w.heap.size w w.drew:=⟨rfl,rfl,rfl,Nat.le_refl _,fun _ _=>rfl⟩
 have HS:Hid (Calls Tryz.prog 197 #[.string a,.string b] w.drew fun e w'=>e=.returned (.tuple #[.string (txt (finT (some (if foundB a.data.toList b.data.toList=true then a.data.toList else []))).1),.int .i64 (finT (some (if foundB a.data.toList b.data.toList=true then a.data.toList else []))).2])∧Below w.heap.size w w'∧w'.cell? ⟨b0,f0,none⟩=some (.string a)∧w'.cell? ⟨b0,f0+1,none⟩=some (.string b)) :=
  ((findstring_any a b hz0 hz1 w.drew (hst.below hdr)).mono fun e w' h=>(⟨h.1,h.2 ▸ hdr⟩:_∧Below w.heap.size w w')).mono fun e w' h=>⟨h.1,h.2,(h.2.cell (p:=⟨b0,f0,none⟩) hb0).trans h0,(h.2.cell (p:=⟨b0,f0+1,none⟩) hb0).trans h1⟩
 generalize (if foundB a.data.toList b.data.toList=true then a.data.toList else [])=r0 at HS ⊢
 subst hn
 clear hr hst hxl hgz hz hs
 have hmx:Tryz.prog.follows .mixedOrders=true:=by kernel_rfl
 go_enter Tryz.func186,Tryz.ntmps186
 go_wp2_with fail
 refine (HM.out w).mono ?_
 rintro e _ ⟨rfl,rfl⟩
 go_wp2_with fail
 go_region_held3 (fun w'=>w'.cell? ⟨b0,f0,none⟩=some (.string a)∧w'.cell? ⟨b0,f0+1,none⟩=some (.string b)) (go_keep) ((go_at_call 197;refine HS.out.mono ?_;rintro e w' ⟨rfl,hbw,k0,k1⟩))
 all_goals
  go_wp2_with fail
  go_ret2
  exact ⟨rfl,hbw⟩
end Go.Proofs.YtmfjolmfbdbegaaGreatDoor

namespace Go.Proofs.YtmfjolmfbdbegaaGreatDoor
open Go.RowKit Go.Shelf Go.Sort
set_option maxRecDepth 100000 in
set_option maxHeartbeats 4000000 in
theorem call_word (s:ByteArray) (hs:s.data.toList=nWord) (o:Option Addr) (n c:Nat) (hn:n=2) (xs:List ByteArray) (hz:∀ y∈xs,y.size≤1000000) (w:World) (hr:ReadsO w w.heap.size (.slice o n c) xs) :
  Calls Tryz.prog 186 #[.string s,.slice o n c] w fun e w'=>e=.returned (.tuple #[.string (txt (finT (wordT (xs.getD 0 ⟨#[]⟩).data.toList (xs.getD 0 ⟨#[]⟩).data.toList (xs.getD 1 ⟨#[]⟩).data.toList)).1),.int .i64 (finT (wordT (xs.getD 0 ⟨#[]⟩).data.toList (xs.getD 0 ⟨#[]⟩).data.toList (xs.getD 1 ⟨#[]⟩).data.toList)).2])∧Below w.heap.size w w':=by
 have hgz:∀ k,(xs.getD k ⟨#[]⟩).size≤1000000:=fun k=>by
  unfold List.getD
  cases hk:xs[k]? with
  | none=>exact Nat.zero_le _
  | some y=>exact hz y (List.mem_of_getElem? hk)
 have hxl:n=xs.length:=by
  obtain ⟨o',c',hv,_⟩:=hr
  cases hv
  rfl
 obtain ⟨-,b0,f0,rfl,hnc,h0⟩:=arg_cell hr 0 (by omega)
 have hb0:b0 < w.heap.size:=by
  obtain ⟨o',c',hv,hx⟩:=hr
  cases hv
  obtain ⟨b',f',ho,hlt,_,_⟩:=hx 0 xs[0] (List.getElem?_eq_getElem (by omega))
  cases ho
  exact hlt
 have h1:w.cell? ⟨b0,f0+1,none⟩=some (.string (xs.getD 1 ⟨#[]⟩)):=by
  obtain ⟨_,_,_,e,_,h⟩:=arg_cell hr 1 (by omega)
  cases e
  exact h
 rw [Nat.add_zero] at h0
 have hz0:=hgz 0
 have hz1:=hgz 1
 generalize (xs.getD 0 ⟨#[]⟩)=a at *
 generalize (xs.getD 1 ⟨#[]⟩)=b at *
 have q0:(s.toList == [115,117,98,115,116])=false:=by rw [Lib.toList_data,hs];decide
 have q1:(s.toList == [102,105,110,100,115,116,114,105,110,103])=false:=by rw [Lib.toList_data,hs];decide
 have q2:(s.toList == [119,111,114,100,115])=false:=by rw [Lib.toList_data,hs];decide
 have q3:(s.toList == [119,111,114,100])=true:=by rw [Lib.toList_data,hs];decide
 have HM:Hid (∀ W,Calls Tryz.prog 190 #[.string s] W fun e w'=>e=.returned (.int .i64 2)∧W=w'):=fun W=>by
  have:=many_any s W
  rw [hs,show manyOf nWord=2 by decide] at this
  exact this
 have hdr:Below w.heap.size w w.drew:=⟨rfl,rfl,rfl,Nat.le_refl _,fun _ _=>rfl⟩
 have HS:Hid (Calls Tryz.prog 199 #[.string a,.string a,.string b] w.drew fun e w'=>e=.returned (.tuple #[.string (txt (finT (wordT a.data.toList a.data.toList b.data.toList)).1),.int .i64 (finT (wordT a.data.toList a.data.toList b.data.toList)).2])∧Below w.heap.size w w'∧w'.cell? ⟨b0,f0,none⟩=some (.string a)∧w'.cell? ⟨b0,f0+1,none⟩=some (.string b)) :=
  ((wordlist_any a a b hz0 hz0 hz1 w.drew).mono fun e w' h=>(⟨h.1,hdr.trans h.2⟩:_∧Below w.heap.size w w')).mono fun e w' h=>⟨h.1,h.2,(h.2.cell (p:=⟨b0,f0,none⟩) hb0).trans h0,(h.2.cell (p:=⟨b0,f0+1,none⟩) hb0).trans h1⟩
 subst hn
 clear hr hxl hgz hz hs
 have hmx:Tryz.prog.follows .mixedOrders=true:=by kernel_rfl
 go_enter Tryz.func186,Tryz.ntmps186
 go_wp2_with fail
 refine (HM.out w).mono ?_
 rintro e _ ⟨rfl,rfl⟩
 go_wp2_with fail
 go_region_held3 (fun w'=>w'.cell? ⟨b0,f0,none⟩=some (.string a)∧w'.cell? ⟨b0,f0+1,none⟩=some (.string b)) (go_keep) ((go_at_call 199;refine HS.out.mono ?_;rintro e w' ⟨rfl,hbw,k0,k1⟩))
 all_goals
  go_wp2_with fail
  go_ret2
  exact ⟨rfl,hbw⟩
set_option maxRecDepth 100000 in
set_option maxHeartbeats 4000000 in
theorem call_wordlist (s:ByteArray) (hs:s.data.toList=nWordlist) (o:Option Addr) (n c:Nat) (hn:n=3) (xs:List ByteArray) (hz:∀ y∈xs,y.size≤1000000) (w:World) (hr:ReadsO w w.heap.size (.slice o n c) xs) :
  Calls Tryz.prog 186 #[.string s,.slice o n c] w fun e w'=>e=.returned (.tuple #[.string (txt (finT (wordT (xs.getD 0 ⟨#[]⟩).data.toList (xs.getD 1 ⟨#[]⟩).data.toList (xs.getD 2 ⟨#[]⟩).data.toList)).1),.int .i64 (finT (wordT (xs.getD 0 ⟨#[]⟩).data.toList (xs.getD 1 ⟨#[]⟩).data.toList (xs.getD 2 ⟨#[]⟩).data.toList)).2])∧Below w.heap.size w w':=by
 have hgz:∀ k,(xs.getD k ⟨#[]⟩).size≤1000000:=fun k=>by
  unfold List.getD
  cases hk:xs[k]? with
  | none=>exact Nat.zero_le _
  | some y=>exact hz y (List.mem_of_getElem? hk)
 have hxl:n=xs.length:=by
  obtain ⟨o',c',hv,_⟩:=hr
  cases hv
  rfl
 obtain ⟨-,b0,f0,rfl,hnc,h0⟩:=arg_cell hr 0 (by omega)
 have hb0:b0 < w.heap.size:=by
  obtain ⟨o',c',hv,hx⟩:=hr
  cases hv
  obtain ⟨b',f',ho,hlt,_,_⟩:=hx 0 xs[0] (List.getElem?_eq_getElem (by omega))
  cases ho
  exact hlt
 have h1:w.cell? ⟨b0,f0+1,none⟩=some (.string (xs.getD 1 ⟨#[]⟩)):=by
  obtain ⟨_,_,_,e,_,h⟩:=arg_cell hr 1 (by omega)
  cases e
  exact h
 have h2:w.cell? ⟨b0,f0+2,none⟩=some (.string (xs.getD 2 ⟨#[]⟩)):=by
  obtain ⟨_,_,_,e,_,h⟩:=arg_cell hr 2 (by omega)
  cases e
  exact h
 rw [Nat.add_zero] at h0
 have hz0:=hgz 0
 have hz1:=hgz 1
 have hz2:=hgz 2
 generalize (xs.getD 0 ⟨#[]⟩)=a at *
 generalize (xs.getD 1 ⟨#[]⟩)=b at *
 generalize (xs.getD 2 ⟨#[]⟩)=d at *
 have q0:(s.toList == [115,117,98,115,116])=false:=by rw [Lib.toList_data,hs];decide
 have q1:(s.toList == [102,105,110,100,115,116,114,105,110,103])=false:=by rw [Lib.toList_data,hs];decide
 have q2:(s.toList == [119,111,114,100,115])=false:=by rw [Lib.toList_data,hs];decide
 have q3:(s.toList == [119,111,114,100])=false:=by rw [Lib.toList_data,hs];decide
 have q4:(s.toList == [119,111,114,100,108,105,115,116])=true:=by rw [Lib.toList_data,hs];decide
 have HM:Hid (∀ W,Calls Tryz.prog 190 #[.string s] W fun e w'=>e=.returned (.int .i64 3)∧W=w'):=fun W=>by
  have:=many_any s W
  rw [hs,show manyOf nWordlist=3 by decide] at this
  exact this
 have hdr:Below w.heap.size w w.drew:=⟨rfl,rfl,rfl,Nat.le_refl _,fun _ _=>rfl⟩
 have HS:Hid (Calls Tryz.prog 199 #[.string a,.string b,.string d] w.drew fun e w'=>e=.returned (.tuple #[.string (txt (finT (wordT a.data.toList b.data.toList d.data.toList)).1),.int .i64 (finT (wordT a.data.toList b.data.toList d.data.toList)).2])∧Below w.heap.size w w'∧w'.cell? ⟨b0,f0,none⟩=some (.string a)∧w'.cell? ⟨b0,f0+1,none⟩=some (.string b)∧w'.cell? ⟨b0,f0+2,none⟩=some (.string d)) :=
  ((wordlist_any a b d hz0 hz1 hz2 w.drew).mono fun e w' h=>(⟨h.1,hdr.trans h.2⟩:_∧Below w.heap.size w w')).mono fun e w' h=>⟨h.1,h.2,(h.2.cell (p:=⟨b0,f0,none⟩) hb0).trans h0,(h.2.cell (p:=⟨b0,f0+1,none⟩) hb0).trans h1,(h.2.cell (p:=⟨b0,f0+2,none⟩) hb0).trans h2⟩
 subst hn
 clear hr hxl hgz hz hs
 have hmx:Tryz.prog.follows .mixedOrders=true:=by kernel_rfl
 go_enter Tryz.func186,Tryz.ntmps186
 go_wp2_with fail
 refine (HM.out w).mono ?_
 rintro e _ ⟨rfl,rfl⟩
 go_wp2_with fail
 go_region_held3 (fun w'=>w'.cell? ⟨b0,f0,none⟩=some (.string a)∧w'.cell? ⟨b0,f0+1,none⟩=some (.string b)∧w'.cell? ⟨b0,f0+2,none⟩=some (.string d)) (go_keep) ((go_at_call 199;refine HS.out.mono ?_;rintro e w' ⟨rfl,hbw,k0,k1,k2⟩))
 all_goals
  go_wp2_with fail
  go_ret2
  exact ⟨rfl,hbw⟩
end Go.Proofs.YtmfjolmfbdbegaaGreatDoor

namespace Go.Proofs.YtmfjolmfbdbegaaGreatDoor
open Go.RowKit Go.Shelf Go.Sort
theorem below_grow (W:World) (q:Nat) (os:Array Obj) {B:Nat} (hB:B≤W.heap.size):Below B W (grow (W.drewN q) os) :=
 ⟨rfl,rfl,rfl,by simp,fun k hk=>heap_grow_old _ _ (show k < W.heap.size by omega)⟩
theorem dec_len:∀ (n:Nat),n≤1000000000→(decOf n).length≤1000:=by
 have main:∀ (k n:Nat),n < 10 ^ k→(decOf n).length≤k+1:=by
  intro k
  induction k with
  | zero =>
   intro n hn
   have:n=0:=by simpa using hn
   subst this
   rw [decOf];simp
  | succ k ih =>
   intro n hn
   rw [decOf]
   split
   ·simp
   ·rw [List.length_append]
    have:=ih (n / 10) (by rw [Nat.pow_succ] at hn;omega)
    simp only [List.length_cons,List.length_nil]
    omega
 intro n hn
 have:=main 10 n (by omega)
 omega
set_option maxRecDepth 100000 in
set_option maxHeartbeats 4000000 in
theorem call_words (s:ByteArray) (hs:s.data.toList=nWords) (o:Option Addr) (n c:Nat) (hn:n=1) (xs:List ByteArray) (hz:∀ y∈xs,y.size≤1000000) (w:World) (hst:Std w) (hr:ReadsO w w.heap.size (.slice o n c) xs) :
  Calls Tryz.prog 186 #[.string s,.slice o n c] w fun e w'=>e=.returned (.tuple #[.string (txt (finT (some (decOf (wordsT (xs.getD 0 ⟨#[]⟩).data.toList).length))).1),.int .i64 (finT (some (decOf (wordsT (xs.getD 0 ⟨#[]⟩).data.toList).length))).2])∧Below w.heap.size w w':=by
 have hgz:∀ k,(xs.getD k ⟨#[]⟩).size≤1000000:=fun k=>by
  unfold List.getD
  cases hk:xs[k]? with
  | none=>exact Nat.zero_le _
  | some y=>exact hz y (List.mem_of_getElem? hk)
 have hxl:n=xs.length:=by
  obtain ⟨o',c',hv,_⟩:=hr
  cases hv
  rfl
 obtain ⟨-,b0,f0,rfl,hnc,h0⟩:=arg_cell hr 0 (by omega)
 have hb0:b0 < w.heap.size:=by
  obtain ⟨o',c',hv,hx⟩:=hr
  cases hv
  obtain ⟨b',f',ho,hlt,_,_⟩:=hx 0 xs[0] (List.getElem?_eq_getElem (by omega))
  cases ho
  exact hlt
 rw [Nat.add_zero] at h0
 have hz0:=hgz 0
 generalize (xs.getD 0 ⟨#[]⟩)=a at *
 have q0:(s.toList == [115,117,98,115,116])=false:=by rw [Lib.toList_data,hs];decide
 have q1:(s.toList == [102,105,110,100,115,116,114,105,110,103])=false:=by rw [Lib.toList_data,hs];decide
 have q2:(s.toList == [119,111,114,100,115])=true:=by rw [Lib.toList_data,hs];decide
 have HM:Hid (∀ W,Calls Tryz.prog 190 #[.string s] W fun e w'=>e=.returned (.int .i64 1)∧W=w'):=fun W=>by
  have:=many_any s W
  rw [hs,show manyOf nWords=1 by decide] at this
  exact this
 have HW:=Lib.hid (words_own a (by omega) w)
 have hwl:=words_few a.data.toList
 rw [size_list] at hwl
 have HI:Hid (∀ W:World,Below w.heap.size w W→Calls Tryz.prog 195 #[.int .i64 ((wordsT a.data.toList).length:Int)] W fun e w'=>e=.returned (.string (txt (decOf (wordsT a.data.toList).length)))∧Below w.heap.size w w'):=fun W hW=>by
  refine (libItoa ((wordsT a.data.toList).length:Int) (by omega) (by omega) W (hst.below hW).tab).mono ?_
  rintro e w' ⟨rfl,q,os,rfl⟩
  refine ⟨?_,hW.trans (below_grow W q os hW.size)⟩
  have e1:Lib.itoa ((wordsT a.data.toList).length:Int)=decOf (wordsT a.data.toList).length:=by
   unfold Lib.itoa
   rw [if_neg (by omega),Int.toNat_natCast]
   exact decDigits_is _ _ (Nat.le_refl _)
  rw [e1]
  rfl
 have hdl:=dec_len (wordsT a.data.toList).length (by omega)
 have HSh:=Lib.hid (short_any (txt (decOf (wordsT a.data.toList).length)) (by rw [txt_size];omega))
 simp only [txt_data] at HSh
 clear hst hr
 generalize wordsT a.data.toList=ws at *
 subst hn
 clear hxl hgz hz hs
 go_enter Tryz.func186,Tryz.ntmps186
 go_wp2_with fail
 refine (HM.out w).mono ?_
 rintro e _ ⟨rfl,rfl⟩
 go_wp2_with fail
 refine HW.out.mono ?_
 rintro e w1 ⟨v1,rfl,hown,hb1⟩
 have hrd:=owns_reads hown
 obtain ⟨o1,c1,rfl⟩:∃ o1 c1,v1=.slice o1 ws.length c1:=by
  obtain ⟨o',c',hv,_⟩:=hrd
  exact ⟨o',c',by rw [hv,List.length_map]⟩
 clear hown hrd
 go_wp2_with fail
 refine (HI.out w1 hb1).mono ?_
 rintro e w2 ⟨rfl,hb2⟩
 go_wp2_with fail
 refine (HSh.out w2).mono ?_
 rintro e w3 ⟨rfl,rfl⟩
 go_wp2_with fail
 go_ret2
 exact ⟨rfl,hb2⟩
end Go.Proofs.YtmfjolmfbdbegaaGreatDoor

namespace Go.Proofs.YtmfjolmfbdbegaaGreatDoor
open Go.RowKit Go.Shelf Go.Sort
theorem is_name {N:BT} (h:manyOf N≠0):N=nSubst∨N=nFindstring∨N=nWords∨N=nWord∨N=nWordlist∨N=nPatsubst∨N=nFilter∨N=nFilterOut∨N=nSort∨N=nFirstword∨N=nLastword∨N=nDir∨N=nNotdir∨N=nSuffix∨N=nBasename∨N=nAddsuffix∨N=nAddprefix∨N=nJoin∨N=nStrip:=by
 apply Decidable.byContradiction
 intro hn
 simp only [not_or] at hn
 apply h
 unfold manyOf
 simp only [hn,or_false,if_false]
theorem last_arg (xs:List ByteArray):lastT (xs.map fun x=>x.data.toList)=(xs.getD (xs.length - 1) ⟨#[]⟩).data.toList:=by
 unfold lastT
 rw [List.length_map]
 unfold List.getD
 rw [List.getElem?_map]
 cases xs[xs.length - 1]? <;> rfl
theorem arg_at (xs:List ByteArray) (k:Nat):argT (xs.map fun x=>x.data.toList) k=(xs.getD k ⟨#[]⟩).data.toList:=by
 unfold argT List.getD
 rw [List.getElem?_map]
 cases xs[k]? <;> rfl
theorem list_any (s:ByteArray) (h0:manyOf s.data.toList≠0) (h1:s.data.toList≠nSubst) (h2:s.data.toList≠nFindstring) (h3:s.data.toList≠nWords) (h4:s.data.toList≠nWord) (h5:s.data.toList≠nWordlist)
  (o:Option Addr) (n c:Nat) (xs:List ByteArray) (hn:(n:Int)=manyOf s.data.toList) (hxl:n=xs.length) (hz:∀ y∈xs,y.size≤1000000) (w:World) (hr:ReadsO w w.heap.size (.slice o n c) xs) :
  Calls Tryz.prog 201 #[.string s,.slice o n c] w (ListPost w (listT s.data.toList (xs.getD 0 ⟨#[]⟩).data.toList (xs.getD 1 ⟨#[]⟩).data.toList (xs.getD (n - 1) ⟨#[]⟩).data.toList)):=by
 rcases is_name h0 with h | h | h | h | h | h | h | h | h | h | h | h | h | h | h | h | h | h | h
 ·exact absurd h h1
 ·exact absurd h h2
 ·exact absurd h h3
 ·exact absurd h h4
 ·exact absurd h h5
 ·rw [h,show manyOf nPatsubst=3 by decide] at hn
  have:=list_patsubst s h o n c xs (by omega) (by omega) hxl hz w hr
  rwa [← h] at this
 ·rw [h,show manyOf nFilter=2 by decide] at hn
  have:=list_filter s h o n c xs (by omega) (by omega) hxl hz w hr
  rwa [← h] at this
 ·rw [h,show manyOf nFilterOut=2 by decide] at hn
  have:=list_filter_out s h o n c xs (by omega) (by omega) hxl hz w hr
  rwa [← h] at this
 ·rw [h,show manyOf nSort=1 by decide] at hn
  have:=list_sort s h o n c xs (by omega) (by omega) hxl hz w hr
  rwa [← h] at this
 ·rw [h,show manyOf nFirstword=1 by decide] at hn
  have:=list_firstword s h o n c xs (by omega) (by omega) hxl hz w hr
  rwa [← h] at this
 ·rw [h,show manyOf nLastword=1 by decide] at hn
  have:=list_lastword s h o n c xs (by omega) (by omega) hxl hz w hr
  rwa [← h] at this
 ·rw [h,show manyOf nDir=1 by decide] at hn
  have:=list_dir s h o n c xs (by omega) (by omega) hxl hz w hr
  rwa [← h] at this
 ·rw [h,show manyOf nNotdir=1 by decide] at hn
  have:=list_notdir s h o n c xs (by omega) (by omega) hxl hz w hr
  rwa [← h] at this
 ·rw [h,show manyOf nSuffix=1 by decide] at hn
  have:=list_suffix s h o n c xs (by omega) (by omega) hxl hz w hr
  rwa [← h] at this
 ·rw [h,show manyOf nBasename=1 by decide] at hn
  have:=list_basename s h o n c xs (by omega) (by omega) hxl hz w hr
  rwa [← h] at this
 ·rw [h,show manyOf nAddsuffix=2 by decide] at hn
  have:=list_addsuffix s h o n c xs (by omega) (by omega) hxl hz w hr
  rwa [← h] at this
 ·rw [h,show manyOf nAddprefix=2 by decide] at hn
  have:=list_addprefix s h o n c xs (by omega) (by omega) hxl hz w hr
  rwa [← h] at this
 ·rw [h,show manyOf nJoin=2 by decide] at hn
  have:=list_join s h o n c xs (by omega) (by omega) hxl hz w hr
  rwa [← h] at this
 ·rw [h,show manyOf nStrip=1 by decide] at hn
  have:=list_strip s h o n c xs (by omega) (by omega) hxl hz w hr
  rwa [← h] at this
set_option maxRecDepth 100000 in
set_option maxHeartbeats 4000000 in
theorem call_list (s:ByteArray) (h0:manyOf s.data.toList≠0) (h1:s.data.toList≠nSubst) (h2:s.data.toList≠nFindstring) (h3:s.data.toList≠nWords) (h4:s.data.toList≠nWord) (h5:s.data.toList≠nWordlist)
  (o:Option Addr) (n c:Nat) (xs:List ByteArray) (hn:(n:Int)=manyOf s.data.toList) (hxl:n=xs.length) (hz:∀ y∈xs,y.size≤1000000) (l:List BT) (hl:l=listT s.data.toList (xs.getD 0 ⟨#[]⟩).data.toList (xs.getD 1 ⟨#[]⟩).data.toList (xs.getD (n - 1) ⟨#[]⟩).data.toList) (hlz:∀ x∈l,x.length≤10000000) (w:World) (hr:ReadsO w w.heap.size (.slice o n c) xs) :
  Calls Tryz.prog 186 #[.string s,.slice o n c] w fun e w'=>e=.returned (.tuple #[.string (txt (finT (some (joinT l))).1),.int .i64 (finT (some (joinT l))).2])∧Below w.heap.size w w':=by
 have hL:=list_any s h0 h1 h2 h3 h4 h5 o n c xs hn hxl hz w hr
 rw [← hl] at hL
 have HL:=Lib.hid hL
 have HZ:=Lib.hid hlz
 have q0:(s.toList == [115,117,98,115,116])=false:=by rw [Lib.toList_data,beq_eq_false_iff_ne];exact h1
 have q1:(s.toList == [102,105,110,100,115,116,114,105,110,103])=false:=by rw [Lib.toList_data,beq_eq_false_iff_ne];exact h2
 have q2:(s.toList == [119,111,114,100,115])=false:=by rw [Lib.toList_data,beq_eq_false_iff_ne];exact h3
 have q3:(s.toList == [119,111,114,100])=false:=by rw [Lib.toList_data,beq_eq_false_iff_ne];exact h4
 have q4:(s.toList == [119,111,114,100,108,105,115,116])=false:=by rw [Lib.toList_data,beq_eq_false_iff_ne];exact h5
 have hM:=many_any s
 have hmz:((manyOf s.data.toList) == 0)=false:=by rw [beq_eq_false_iff_ne];exact h0
 rw [← hn] at hM hmz
 have HM:=Lib.hid hM
 clear hL hl hlz hz hr hM hn h0 h1 h2 h3 h4 h5 hxl
 go_enter Tryz.func186,Tryz.ntmps186
 go_wp2_with fail
 refine (HM.out w).mono ?_
 rintro e _ ⟨rfl,rfl⟩
 go_wp2_with fail
 refine HL.out.mono ?_
 rintro e w1 ⟨gf,lb,rfl,hT,hb1⟩
 go_wp2_with fail
 refine (tog_told gf lb l HZ.out w1 hT).mono ?_
 rintro e w2 ⟨rfl,hb2⟩
 have hB:Below w.heap.size w w2:=hb1.trans (hb2.mono hb1.size)
 go_wp2_with fail
 go_ret2
 exact ⟨rfl,hB⟩
theorem list_small (n a b t:BT) (ha:a.length≤1000000) (hb:b.length≤1000000) (ht:t.length≤1000000):∀ x∈listT n a b t,x.length≤10000000:=by
 have hw:∀ x∈wordsT t,x.length≤1000000:=fun x hx=>by have:=(words_memT hx).2;omega
 have hwa:∀ x∈wordsT a,x.length≤1000000:=fun x hx=>by have:=(words_memT hx).2;omega
 have hmap:∀ (f:BT→BT),(∀ x,x.length≤1000000→(f x).length≤10000000)→∀ y∈(wordsT t).map f,y.length≤10000000:=fun f hf y hy=>by
  obtain ⟨x,hx,rfl⟩:=List.mem_map.1 hy
  exact hf x (hw x hx)
 have hne:∀ (l:List BT),(∀ y∈l,y.length≤10000000)→∀ y∈neT l,y.length≤10000000:=fun l hl y hy=>hl y (List.mem_filter.1 hy).1
 intro x hx
 unfold listT at hx
 have hsub:∀ x:BT,x.length≤1000000→(substL a b x).length≤10000000:=fun x hx=>by
  have h1:=match_len a x
  unfold substL
  split
  ·unfold fillL
   split
   ·next ho =>
    have:=open_lens ho
    rw [List.length_append,List.length_append]
    omega
   ·omega
  ·omega
 by_cases c0:n=nPatsubst
 ·rw [if_pos c0] at hx
  exact hmap _ hsub x hx
 rw [if_neg c0] at hx
 by_cases c1:n=nFilter
 ·rw [if_pos c1] at hx
  have:=hw x (List.mem_filter.1 hx).1;omega
 rw [if_neg c1] at hx
 by_cases c2:n=nFilterOut
 ·rw [if_pos c2] at hx
  have:=hw x (List.mem_filter.1 hx).1;omega
 rw [if_neg c2] at hx
 by_cases c3:n=nSort
 ·rw [if_pos c3] at hx
  have:=hw x ((sort_mem _ _).1 hx);omega
 rw [if_neg c3] at hx
 by_cases c4:n=nFirstword
 ·rw [if_pos c4] at hx
  have:=hw x (List.mem_of_mem_take hx);omega
 rw [if_neg c4] at hx
 by_cases c5:n=nLastword
 ·rw [if_pos c5] at hx
  have:=hw x (List.mem_of_mem_drop hx);omega
 rw [if_neg c5] at hx
 by_cases c6:n=nDir
 ·rw [if_pos c6] at hx
  refine hmap _ (fun y hy=>?_) x hx
  unfold dirOf
  split
  ·decide
  ·rw [List.length_take];omega
 rw [if_neg c6] at hx
 by_cases c7:n=nNotdir
 ·rw [if_pos c7] at hx
  refine hne _ (hmap _ (fun y hy=>?_)) x hx
  unfold notdirOf
  rw [List.length_drop];omega
 rw [if_neg c7] at hx
 by_cases c8:n=nSuffix
 ·rw [if_pos c8] at hx
  refine hne _ (hmap _ (fun y hy=>?_)) x hx
  unfold suffixOf
  split
  ·exact Nat.zero_le _
  ·rw [List.length_drop];omega
 rw [if_neg c8] at hx
 by_cases c9:n=nBasename
 ·rw [if_pos c9] at hx
  refine hne _ (hmap _ (fun y hy=>?_)) x hx
  unfold baseOf
  split
  ·omega
  ·rw [List.length_take];omega
 rw [if_neg c9] at hx
 by_cases c10:n=nAddsuffix
 ·rw [if_pos c10] at hx
  exact hmap _ (fun y hy=>by rw [List.length_append];omega) x hx
 rw [if_neg c10] at hx
 by_cases c11:n=nAddprefix
 ·rw [if_pos c11] at hx
  exact hmap _ (fun y hy=>by rw [List.length_append];omega) x hx
 rw [if_neg c11] at hx
 by_cases c12:n=nJoin
 ·rw [if_pos c12] at hx
  obtain ⟨i,hi⟩:=List.mem_iff_getElem?.1 hx
  rw [zip_get] at hi
  split at hi
  ·obtain rfl:=Option.some.inj hi
   have hd:∀ l:List BT,(∀ y∈l,y.length≤1000000)→(l.getD i []).length≤1000000:=fun l hl=>by
    unfold List.getD
    cases hk:l[i]? with
    | none=>exact Nat.zero_le _
    | some y=>exact hl y (List.mem_of_getElem? hk)
   have h1:=hd _ hwa
   have h2:=hd _ hw
   rw [List.length_append];omega
  ·cases hi
 rw [if_neg c12] at hx
 have:=hw x hx;omega
def CallPost (N:BT) (x:List BT) (w:World) (e:Ending) (w':World):Prop:=e=.returned (.tuple #[.string (txt (callT N x).1),.int .i64 (callT N x).2])∧Below w.heap.size w w'
set_option maxRecDepth 100000 in
set_option maxHeartbeats 2000000 in
theorem call_wrong (s:ByteArray) (o:Option Addr) (n c:Nat) (xs:List ByteArray) (hxl:n=xs.length) (hn:(n:Int)≠manyOf s.data.toList) (h0:manyOf s.data.toList≠0) (w:World) :
  Calls Tryz.prog 186 #[.string s,.slice o n c] w (CallPost s.data.toList (xs.map fun x=>x.data.toList) w):=by
 have HV:Hid (callT s.data.toList (xs.map fun x=>x.data.toList)=([],1)):=by
  show _=_
  unfold callT
  rw [if_neg h0,if_neg (by rw [List.length_map,← hxl];exact hn)]
 have HM:=Lib.hid (many_any s)
 generalize manyOf s.data.toList=mv at HM h0 hn
 have e1:(mv == 0)=false:=by rw [beq_eq_false_iff_ne];exact h0
 have e2:((n:Int) != mv)=true:=by rw [bne_iff_ne];exact hn
 clear h0 hn hxl
 go_enter Tryz.func186,Tryz.ntmps186
 go_wp2_with fail
 refine (HM.out w).mono ?_
 rintro e _ ⟨rfl,rfl⟩
 go_wp2_with fail
 go_ret2
 exact ⟨by rw [HV.out];rfl,Below.refl _ _⟩
set_option maxRecDepth 100000 in
set_option maxHeartbeats 2000000 in
theorem call_none (s:ByteArray) (o:Option Addr) (n c:Nat) (xs:List ByteArray) (h0:manyOf s.data.toList=0) (w:World) :
  Calls Tryz.prog 186 #[.string s,.slice o n c] w (CallPost s.data.toList (xs.map fun x=>x.data.toList) w):=by
 have HV:Hid (callT s.data.toList (xs.map fun x=>x.data.toList)=([],4)):=by
  show _=_
  unfold callT
  rw [if_pos h0]
 have HM:=many_any s
 rw [h0] at HM
 have HM':=Lib.hid HM
 clear h0 HM
 go_enter Tryz.func186,Tryz.ntmps186
 go_wp2_with fail
 refine (HM'.out w).mono ?_
 rintro e _ ⟨rfl,rfl⟩
 go_wp2_with fail
 go_ret2
 exact ⟨by rw [HV.out];rfl,Below.refl _ _⟩
theorem call_any (s:ByteArray) (v:Value) (xs:List ByteArray) (hz:∀ y∈xs,y.size≤1000000) (w:World) (hst:Std w) (hr:ReadsO w w.heap.size v xs) :
  Calls Tryz.prog 186 #[.string s,v] w (CallPost s.data.toList (xs.map fun x=>x.data.toList) w):=by
 obtain ⟨o,n,c,rfl,hxl⟩:∃ o n c,v=.slice o n c∧n=xs.length:=by
  obtain ⟨o,c,hv,_⟩:=hr
  exact ⟨o,_,c,hv,rfl⟩
 by_cases h0:manyOf s.data.toList=0
 ·exact call_none s o n c xs h0 w
 by_cases hne:(n:Int)≠manyOf s.data.toList
 ·exact call_wrong s o n c xs hxl hne h0 w
 have hn:(n:Int)=manyOf s.data.toList:=Decidable.not_not.1 hne
 have hgz:∀ k,(xs.getD k ⟨#[]⟩).data.toList.length≤1000000:=fun k=>by
  rw [size_list]
  unfold List.getD
  cases hk:xs[k]? with
  | none=>exact Nat.zero_le _
  | some y=>exact hz y (List.mem_of_getElem? hk)
 have hV:callT s.data.toList (xs.map fun x=>x.data.toList)=finT (ansT s.data.toList (xs.map fun x=>x.data.toList)):=by
  unfold callT
  rw [if_neg h0,if_pos (by rw [List.length_map,← hxl];exact hn)]
 unfold ansT at hV
 simp only [arg_at,last_arg] at hV
 unfold CallPost
 rw [hV]
 by_cases h1:s.data.toList=nSubst
 ·rw [h1,show manyOf nSubst=3 by decide] at hn
  rw [if_pos h1]
  have:=call_subst s h1 o n c (by omega) xs hz w hst hr
  rwa [show xs.length - 1=2 by omega]
 rw [if_neg h1]
 by_cases h2:s.data.toList=nFindstring
 ·rw [h2,show manyOf nFindstring=2 by decide] at hn
  rw [if_pos h2]
  have:=call_findstring s h2 o n c (by omega) xs hz w hst hr
  rwa [show xs.length - 1=1 by omega]
 rw [if_neg h2]
 by_cases h3:s.data.toList=nWords
 ·rw [h3,show manyOf nWords=1 by decide] at hn
  rw [if_pos h3]
  have:=call_words s h3 o n c (by omega) xs hz w hst hr
  rwa [show xs.length - 1=0 by omega]
 rw [if_neg h3]
 by_cases h4:s.data.toList=nWord
 ·rw [h4,show manyOf nWord=2 by decide] at hn
  rw [if_pos h4]
  have:=call_word s h4 o n c (by omega) xs hz w hr
  rwa [show xs.length - 1=1 by omega]
 rw [if_neg h4]
 by_cases h5:s.data.toList=nWordlist
 ·rw [h5,show manyOf nWordlist=3 by decide] at hn
  rw [if_pos h5]
  have:=call_wordlist s h5 o n c (by omega) xs hz w hr
  rwa [show xs.length - 1=2 by omega]
 rw [if_neg h5]
 have:=call_list s h0 h1 h2 h3 h4 h5 o n c xs hn hxl hz _ rfl (list_small _ _ _ _ (hgz 0) (hgz 1) (hgz (n - 1))) w hr
 rw [hxl] at this ⊢
 exact this
end Go.Proofs.YtmfjolmfbdbegaaGreatDoor
