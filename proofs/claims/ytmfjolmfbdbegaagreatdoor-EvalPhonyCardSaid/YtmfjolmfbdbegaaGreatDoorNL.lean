/-
  What list tells, for patsubst, addsuffix, addprefix: the words that chapter 10 says. For texts of at most a million bytes. No condition.
  What list tells, for filter, filter-out, strip: the words that chapter 10 says. For texts of at most a million bytes. No condition.
  What list tells, for sort, join: the words that chapter 10 says. For texts of at most a million bytes. No condition.
  What list tells, for dir, notdir, suffix, basename: the words that chapter 10 says. For texts of at most a million bytes. No condition.
  What list tells, for firstword, lastword: the words that chapter 10 says. For texts of at most a million bytes. No condition.
-/
import Derived.Test.YtmfjolmfbdbegaaGreatDoorNM3
namespace Go.Proofs.YtmfjolmfbdbegaaGreatDoor
open Go.RowKit Go.Shelf Go.Sort
set_option maxRecDepth 100000 in
set_option maxHeartbeats 4000000 in
theorem list_patsubst (s:ByteArray) (hs:s.data.toList=nPatsubst) (o:Option Addr) (n c:Nat) (xs:List ByteArray) (hn:2≤n) (hnb:n≤1000000) (hxl:n=xs.length) (hz:∀ y∈xs,y.size≤1000000) (w:World) (hr:ReadsO w w.heap.size (.slice o n c) xs) :
  Calls Tryz.prog 201 #[.string s,.slice o n c] w (ListPost w (listT nPatsubst (xs.getD 0 ⟨#[]⟩).data.toList (xs.getD 1 ⟨#[]⟩).data.toList (xs.getD (n - 1) ⟨#[]⟩).data.toList)):=by
 have hgz:∀ k,(xs.getD k ⟨#[]⟩).size≤1000000:=fun k=>by
  unfold List.getD
  cases hk:xs[k]? with
  | none=>exact Nat.zero_le _
  | some y=>exact hz y (List.mem_of_getElem? hk)
 obtain ⟨-,b0,f0,rfl,hnc,hlast⟩:=arg_cell hr (n - 1) (by omega)
 have hfirst:=(arg_cell hr 0 (by omega)).2
 obtain ⟨_,_,e0,-,hfirst⟩:=hfirst
 cases e0
 rw [Nat.add_zero] at hfirst
 have hb0:b0 < w.heap.size:=by
  obtain ⟨o',c',hv,hx⟩:=hr
  cases hv
  obtain ⟨b',f',ho,hlt,_,_⟩:=hx 0 xs[0] (List.getElem?_eq_getElem (by omega))
  cases ho
  exact hlt
 obtain ⟨t,ht⟩:∃ t,t=xs.getD (n - 1) ⟨#[]⟩:=⟨_,rfl⟩
 obtain ⟨a,ha⟩:∃ a,a=xs.getD 0 ⟨#[]⟩:=⟨_,rfl⟩
 have htz:t.size≤1000000:=by rw [ht];exact hgz (n - 1)
 have haz:a.size≤1000000:=by rw [ha];exact hgz 0
 rw [← ht] at hlast ⊢
 rw [← ha] at hfirst ⊢
 have hB0:Below w.heap.size w (w.alloc (.cells #[.slice (some ⟨b0,f0,none⟩) n c] 28)):=(Below.refl _ w).alloc (Nat.le_refl _) _
 have hbx:=Boxed.new w 28 (.slice (some ⟨b0,f0,none⟩) n c)
 have hr0:=hr.below hB0 (B':=w.heap.size+1) (by omega)
 have hs0:(w.alloc (.cells #[.slice (some ⟨b0,f0,none⟩) n c] 28)).heap.size=w.heap.size+1:=by simp
 have hl1:(w.alloc (.cells #[.slice (some ⟨b0,f0,none⟩) n c] 28)).cell? ⟨b0,f0+(n - 1),none⟩=some (.string t):=(hB0.cell (p:=⟨b0,f0+(n - 1),none⟩) hb0).trans hlast
 have hf1:(w.alloc (.cells #[.slice (some ⟨b0,f0,none⟩) n c] 28)).cell? ⟨b0,f0,none⟩=some (.string a):=(hB0.cell (p:=⟨b0,f0,none⟩) hb0).trans hfirst
 have HW:=Lib.hid (words_own t (by omega))
 have HR:=Lib.hid hr
 have HZ:=Lib.hid hz
 have HT:Hid (∀ x∈wordsT t.data.toList,WordB x∧x.length≤1000000):=fun x hx=>by
  have:=words_memT hx
  rw [size_list] at this
  exact ⟨this.1,by omega⟩
 have hwl:=words_few t.data.toList
 rw [size_list] at hwl
 have HLt:=Lib.hid (And.intro ht ha)
 have HXL:=Lib.hid hxl
 obtain ⟨ws,hws⟩:∃ ws,ws=wordsT t.data.toList:=⟨_,rfl⟩
 have HWS:=Lib.hid hws
 rw [← hws] at HW HT hwl
 have q0:(s.toList == [112,97,116,115,117,98,115,116])=true:=by rw [Lib.toList_data,hs];decide
 clear hs hr hz hlast hfirst ht ha hgz hws hxl
 go_enter Tryz.func201,Tryz.ntmps201
 go_wp2_with fail
 generalize w.alloc (.cells #[.slice (some ⟨b0,f0,none⟩) n c] 28)=w0 at hB0 hbx hr0 hs0 hl1 hf1 ⊢
 refine (HW.out w0).mono ?_
 rintro e w1 ⟨v1,rfl,hown,hb1⟩
 have hrd:=owns_reads hown
 obtain ⟨o1,n1,c1,rfl,hn1⟩:∃ o1 n1 c1,v1=.slice o1 n1 c1∧n1=ws.length:=by
  obtain ⟨o',c',hv,_⟩:=hrd
  exact ⟨o',_,c',hv,by rw [List.length_map]⟩
 have hn1b:n1≤1000001:=by omega
 have HN1:=Lib.hid hn1
 clear hn1
 go_wp2_with fail
 refine (values_told o1 n1 c1 (ws.map txt) (by omega) w1 hrd).mono ?_
 rintro e w2 ⟨lv,rfl,hT2,hb2⟩
 have hB1:Below w.heap.size w w1:=hB0.trans (hb1.mono (by omega))
 have hz1:=hb1.size
 have hz2:=hb2.size
 have hB2:Below w.heap.size w w2:=hB1.trans (hb2.mono (by omega))
 have hbx1:Boxed w1 w.heap.size 28 (.slice (some ⟨b0,f0,none⟩) n c):=(hb1.block _ (by omega)).trans hbx
 have hbx2:Boxed w2 w.heap.size 28 (.slice (some ⟨b0,f0,none⟩) n c):=(hb2.block _ (by omega)).trans hbx1
 have hr2:ReadsO w2 w.heap.size (.slice (some ⟨b0,f0,none⟩) n c) xs:=HR.out.below hB2 (Nat.le_refl _)
 have hf2:w2.cell? ⟨b0,f0,none⟩=some (.string a):=((hB2.cell (p:=⟨b0,f0,none⟩) hb0).trans (hB0.cell (p:=⟨b0,f0,none⟩) hb0).symm).trans hf1
 have hbc:=hbx2.cell
 have HQ:Hid (listT nPatsubst a.data.toList (xs.getD 1 ⟨#[]⟩).data.toList t.data.toList=ws.map (substL a.data.toList (xs.getD 1 ⟨#[]⟩).data.toList)):=by
  show _=_
  rw [HWS.out]
  rfl
 have hOf:OfS 211 #[.pointer (some ⟨w.heap.size,0,none⟩)] (fun x=>txt (substL a.data.toList (xs.getD 1 ⟨#[]⟩).data.toList x.data.toList)) w2.heap.size (ws.map txt) w2:=fun x hx U hU=>by
  obtain ⟨y,hy,rfl⟩:=List.mem_map.1 hx
  have hU1:Boxed U w.heap.size 28 (.slice (some ⟨b0,f0,none⟩) n c):=hU.boxed hbx2 (by show w.heap.size < w2.heap.size;omega)
  have hU2:ReadsO U w.heap.size (.slice (some ⟨b0,f0,none⟩) n c) xs:=reads_kept hr2 (hU.sub fun k hk=>by omega) (by omega)
  have h9:=cls_subst (txt y) (by rw [txt_size];have:=(HT.out y hy).2;omega) _ _ _ xs (by have:=HXL.out;omega) (fun z hzz=>by have:=HZ.out z hzz;omega) _ _ U hU1 hU2
  rw [← HLt.out.2] at h9
  exact h9
 go_wp2_with fail
 refine (each_told _ lv 211 #[.pointer (some ⟨w.heap.size,0,none⟩)] _ (ws.map txt) w2 hT2 (enters_of Tryz.func211 (by kernel_rfl) rfl) hOf).mono ?_
 rintro e w3 ⟨l3,rfl,hT3,hb3⟩
 have hB3:Below w.heap.size w w3:=hB2.trans (hb3.mono (by omega))
 have hM:(ws.map txt).map (fun x:ByteArray=>txt (substL a.data.toList (xs.getD 1 ⟨#[]⟩).data.toList x.data.toList))=(ws.map (substL a.data.toList (xs.getD 1 ⟨#[]⟩).data.toList)).map txt:=by
  rw [List.map_map,List.map_map]
  exact List.map_congr_left fun y _=>by simp only [Function.comp,txt_data]
 rw [hM] at hT3
 go_wp2_with fail
 go_ret
 exact ⟨_,_,rfl,by rw [HQ.out];exact hT3,hB3⟩
set_option maxRecDepth 100000 in
set_option maxHeartbeats 4000000 in
theorem list_addsuffix (s:ByteArray) (hs:s.data.toList=nAddsuffix) (o:Option Addr) (n c:Nat) (xs:List ByteArray) (hn:2≤n) (hnb:n≤1000000) (hxl:n=xs.length) (hz:∀ y∈xs,y.size≤1000000) (w:World) (hr:ReadsO w w.heap.size (.slice o n c) xs) :
  Calls Tryz.prog 201 #[.string s,.slice o n c] w (ListPost w (listT nAddsuffix (xs.getD 0 ⟨#[]⟩).data.toList (xs.getD 1 ⟨#[]⟩).data.toList (xs.getD (n - 1) ⟨#[]⟩).data.toList)):=by
 have hgz:∀ k,(xs.getD k ⟨#[]⟩).size≤1000000:=fun k=>by
  unfold List.getD
  cases hk:xs[k]? with
  | none=>exact Nat.zero_le _
  | some y=>exact hz y (List.mem_of_getElem? hk)
 obtain ⟨-,b0,f0,rfl,hnc,hlast⟩:=arg_cell hr (n - 1) (by omega)
 have hfirst:=(arg_cell hr 0 (by omega)).2
 obtain ⟨_,_,e0,-,hfirst⟩:=hfirst
 cases e0
 rw [Nat.add_zero] at hfirst
 have hb0:b0 < w.heap.size:=by
  obtain ⟨o',c',hv,hx⟩:=hr
  cases hv
  obtain ⟨b',f',ho,hlt,_,_⟩:=hx 0 xs[0] (List.getElem?_eq_getElem (by omega))
  cases ho
  exact hlt
 obtain ⟨t,ht⟩:∃ t,t=xs.getD (n - 1) ⟨#[]⟩:=⟨_,rfl⟩
 obtain ⟨a,ha⟩:∃ a,a=xs.getD 0 ⟨#[]⟩:=⟨_,rfl⟩
 have htz:t.size≤1000000:=by rw [ht];exact hgz (n - 1)
 have haz:a.size≤1000000:=by rw [ha];exact hgz 0
 rw [← ht] at hlast ⊢
 rw [← ha] at hfirst ⊢
 have hB0:Below w.heap.size w (w.alloc (.cells #[.slice (some ⟨b0,f0,none⟩) n c] 28)):=(Below.refl _ w).alloc (Nat.le_refl _) _
 have hbx:=Boxed.new w 28 (.slice (some ⟨b0,f0,none⟩) n c)
 have hr0:=hr.below hB0 (B':=w.heap.size+1) (by omega)
 have hs0:(w.alloc (.cells #[.slice (some ⟨b0,f0,none⟩) n c] 28)).heap.size=w.heap.size+1:=by simp
 have hl1:(w.alloc (.cells #[.slice (some ⟨b0,f0,none⟩) n c] 28)).cell? ⟨b0,f0+(n - 1),none⟩=some (.string t):=(hB0.cell (p:=⟨b0,f0+(n - 1),none⟩) hb0).trans hlast
 have hf1:(w.alloc (.cells #[.slice (some ⟨b0,f0,none⟩) n c] 28)).cell? ⟨b0,f0,none⟩=some (.string a):=(hB0.cell (p:=⟨b0,f0,none⟩) hb0).trans hfirst
 have HW:=Lib.hid (words_own t (by omega))
 have HR:=Lib.hid hr
 have HZ:=Lib.hid hz
 have HT:Hid (∀ x∈wordsT t.data.toList,WordB x∧x.length≤1000000):=fun x hx=>by
  have:=words_memT hx
  rw [size_list] at this
  exact ⟨this.1,by omega⟩
 have hwl:=words_few t.data.toList
 rw [size_list] at hwl
 have HLt:=Lib.hid (And.intro ht ha)
 have HXL:=Lib.hid hxl
 obtain ⟨ws,hws⟩:∃ ws,ws=wordsT t.data.toList:=⟨_,rfl⟩
 have HWS:=Lib.hid hws
 rw [← hws] at HW HT hwl
 have q0:(s.toList == [112,97,116,115,117,98,115,116])=false:=by rw [Lib.toList_data,hs];decide
 have q1:(s.toList == [102,105,108,116,101,114])=false:=by rw [Lib.toList_data,hs];decide
 have q2:(s.toList == [102,105,108,116,101,114,45,111,117,116])=false:=by rw [Lib.toList_data,hs];decide
 have q3:(s.toList == [115,111,114,116])=false:=by rw [Lib.toList_data,hs];decide
 have q4:(s.toList == [102,105,114,115,116,119,111,114,100])=false:=by rw [Lib.toList_data,hs];decide
 have q5:(s.toList == [108,97,115,116,119,111,114,100])=false:=by rw [Lib.toList_data,hs];decide
 have q6:(s.toList == [100,105,114])=false:=by rw [Lib.toList_data,hs];decide
 have q7:(s.toList == [110,111,116,100,105,114])=false:=by rw [Lib.toList_data,hs];decide
 have q8:(s.toList == [115,117,102,102,105,120])=false:=by rw [Lib.toList_data,hs];decide
 have q9:(s.toList == [98,97,115,101,110,97,109,101])=false:=by rw [Lib.toList_data,hs];decide
 have q10:(s.toList == [97,100,100,115,117,102,102,105,120])=true:=by rw [Lib.toList_data,hs];decide
 clear hs hr hz hlast hfirst ht ha hgz hws hxl
 go_enter Tryz.func201,Tryz.ntmps201
 go_wp2_with fail
 generalize w.alloc (.cells #[.slice (some ⟨b0,f0,none⟩) n c] 28)=w0 at hB0 hbx hr0 hs0 hl1 hf1 ⊢
 refine (HW.out w0).mono ?_
 rintro e w1 ⟨v1,rfl,hown,hb1⟩
 have hrd:=owns_reads hown
 obtain ⟨o1,n1,c1,rfl,hn1⟩:∃ o1 n1 c1,v1=.slice o1 n1 c1∧n1=ws.length:=by
  obtain ⟨o',c',hv,_⟩:=hrd
  exact ⟨o',_,c',hv,by rw [List.length_map]⟩
 have hn1b:n1≤1000001:=by omega
 have HN1:=Lib.hid hn1
 clear hn1
 go_wp2_with fail
 refine (values_told o1 n1 c1 (ws.map txt) (by omega) w1 hrd).mono ?_
 rintro e w2 ⟨lv,rfl,hT2,hb2⟩
 have hB1:Below w.heap.size w w1:=hB0.trans (hb1.mono (by omega))
 have hz1:=hb1.size
 have hz2:=hb2.size
 have hB2:Below w.heap.size w w2:=hB1.trans (hb2.mono (by omega))
 have hbx1:Boxed w1 w.heap.size 28 (.slice (some ⟨b0,f0,none⟩) n c):=(hb1.block _ (by omega)).trans hbx
 have hbx2:Boxed w2 w.heap.size 28 (.slice (some ⟨b0,f0,none⟩) n c):=(hb2.block _ (by omega)).trans hbx1
 have hr2:ReadsO w2 w.heap.size (.slice (some ⟨b0,f0,none⟩) n c) xs:=HR.out.below hB2 (Nat.le_refl _)
 have hf2:w2.cell? ⟨b0,f0,none⟩=some (.string a):=((hB2.cell (p:=⟨b0,f0,none⟩) hb0).trans (hB0.cell (p:=⟨b0,f0,none⟩) hb0).symm).trans hf1
 have hbc:=hbx2.cell
 have HQ:Hid (listT nAddsuffix a.data.toList (xs.getD 1 ⟨#[]⟩).data.toList t.data.toList=ws.map (fun w=>w++a.data.toList)):=by
  show _=_
  rw [HWS.out]
  rfl
 have hOf:OfS 220 #[.pointer (some ⟨w.heap.size,0,none⟩)] (fun x=>x++a) w2.heap.size (ws.map txt) w2:=fun x hx U hU=>by
  obtain ⟨y,hy,rfl⟩:=List.mem_map.1 hx
  have hU1:Boxed U w.heap.size 28 (.slice (some ⟨b0,f0,none⟩) n c):=hU.boxed hbx2 (by show w.heap.size < w2.heap.size;omega)
  have hU2:ReadsO U w.heap.size (.slice (some ⟨b0,f0,none⟩) n c) xs:=reads_kept hr2 (hU.sub fun k hk=>by omega) (by omega)
  have h9:=cls_behind (txt y) (by rw [txt_size];have:=(HT.out y hy).2;omega) _ _ _ xs (by have:=HXL.out;omega) (fun z hzz=>by have:=HZ.out z hzz;omega) _ _ U hU1 hU2
  rw [← HLt.out.2] at h9
  exact h9
 go_wp2_with fail
 refine (each_told _ lv 220 #[.pointer (some ⟨w.heap.size,0,none⟩)] _ (ws.map txt) w2 hT2 (enters_of Tryz.func220 (by kernel_rfl) rfl) hOf).mono ?_
 rintro e w3 ⟨l3,rfl,hT3,hb3⟩
 have hB3:Below w.heap.size w w3:=hB2.trans (hb3.mono (by omega))
 have hM:(ws.map txt).map (fun x:ByteArray=>x++a)=(ws.map (fun w=>w++a.data.toList)).map txt:=by
  rw [List.map_map,List.map_map]
  exact List.map_congr_left fun y _=>by simp only [Function.comp];rw [← txt_app,txt_toList]
 rw [hM] at hT3
 go_wp2_with fail
 go_ret
 exact ⟨_,_,rfl,by rw [HQ.out];exact hT3,hB3⟩
set_option maxRecDepth 100000 in
set_option maxHeartbeats 4000000 in
theorem list_addprefix (s:ByteArray) (hs:s.data.toList=nAddprefix) (o:Option Addr) (n c:Nat) (xs:List ByteArray) (hn:2≤n) (hnb:n≤1000000) (hxl:n=xs.length) (hz:∀ y∈xs,y.size≤1000000) (w:World) (hr:ReadsO w w.heap.size (.slice o n c) xs) :
  Calls Tryz.prog 201 #[.string s,.slice o n c] w (ListPost w (listT nAddprefix (xs.getD 0 ⟨#[]⟩).data.toList (xs.getD 1 ⟨#[]⟩).data.toList (xs.getD (n - 1) ⟨#[]⟩).data.toList)):=by
 have hgz:∀ k,(xs.getD k ⟨#[]⟩).size≤1000000:=fun k=>by
  unfold List.getD
  cases hk:xs[k]? with
  | none=>exact Nat.zero_le _
  | some y=>exact hz y (List.mem_of_getElem? hk)
 obtain ⟨-,b0,f0,rfl,hnc,hlast⟩:=arg_cell hr (n - 1) (by omega)
 have hfirst:=(arg_cell hr 0 (by omega)).2
 obtain ⟨_,_,e0,-,hfirst⟩:=hfirst
 cases e0
 rw [Nat.add_zero] at hfirst
 have hb0:b0 < w.heap.size:=by
  obtain ⟨o',c',hv,hx⟩:=hr
  cases hv
  obtain ⟨b',f',ho,hlt,_,_⟩:=hx 0 xs[0] (List.getElem?_eq_getElem (by omega))
  cases ho
  exact hlt
 obtain ⟨t,ht⟩:∃ t,t=xs.getD (n - 1) ⟨#[]⟩:=⟨_,rfl⟩
 obtain ⟨a,ha⟩:∃ a,a=xs.getD 0 ⟨#[]⟩:=⟨_,rfl⟩
 have htz:t.size≤1000000:=by rw [ht];exact hgz (n - 1)
 have haz:a.size≤1000000:=by rw [ha];exact hgz 0
 rw [← ht] at hlast ⊢
 rw [← ha] at hfirst ⊢
 have hB0:Below w.heap.size w (w.alloc (.cells #[.slice (some ⟨b0,f0,none⟩) n c] 28)):=(Below.refl _ w).alloc (Nat.le_refl _) _
 have hbx:=Boxed.new w 28 (.slice (some ⟨b0,f0,none⟩) n c)
 have hr0:=hr.below hB0 (B':=w.heap.size+1) (by omega)
 have hs0:(w.alloc (.cells #[.slice (some ⟨b0,f0,none⟩) n c] 28)).heap.size=w.heap.size+1:=by simp
 have hl1:(w.alloc (.cells #[.slice (some ⟨b0,f0,none⟩) n c] 28)).cell? ⟨b0,f0+(n - 1),none⟩=some (.string t):=(hB0.cell (p:=⟨b0,f0+(n - 1),none⟩) hb0).trans hlast
 have hf1:(w.alloc (.cells #[.slice (some ⟨b0,f0,none⟩) n c] 28)).cell? ⟨b0,f0,none⟩=some (.string a):=(hB0.cell (p:=⟨b0,f0,none⟩) hb0).trans hfirst
 have HW:=Lib.hid (words_own t (by omega))
 have HR:=Lib.hid hr
 have HZ:=Lib.hid hz
 have HT:Hid (∀ x∈wordsT t.data.toList,WordB x∧x.length≤1000000):=fun x hx=>by
  have:=words_memT hx
  rw [size_list] at this
  exact ⟨this.1,by omega⟩
 have hwl:=words_few t.data.toList
 rw [size_list] at hwl
 have HLt:=Lib.hid (And.intro ht ha)
 have HXL:=Lib.hid hxl
 obtain ⟨ws,hws⟩:∃ ws,ws=wordsT t.data.toList:=⟨_,rfl⟩
 have HWS:=Lib.hid hws
 rw [← hws] at HW HT hwl
 have q0:(s.toList == [112,97,116,115,117,98,115,116])=false:=by rw [Lib.toList_data,hs];decide
 have q1:(s.toList == [102,105,108,116,101,114])=false:=by rw [Lib.toList_data,hs];decide
 have q2:(s.toList == [102,105,108,116,101,114,45,111,117,116])=false:=by rw [Lib.toList_data,hs];decide
 have q3:(s.toList == [115,111,114,116])=false:=by rw [Lib.toList_data,hs];decide
 have q4:(s.toList == [102,105,114,115,116,119,111,114,100])=false:=by rw [Lib.toList_data,hs];decide
 have q5:(s.toList == [108,97,115,116,119,111,114,100])=false:=by rw [Lib.toList_data,hs];decide
 have q6:(s.toList == [100,105,114])=false:=by rw [Lib.toList_data,hs];decide
 have q7:(s.toList == [110,111,116,100,105,114])=false:=by rw [Lib.toList_data,hs];decide
 have q8:(s.toList == [115,117,102,102,105,120])=false:=by rw [Lib.toList_data,hs];decide
 have q9:(s.toList == [98,97,115,101,110,97,109,101])=false:=by rw [Lib.toList_data,hs];decide
 have q10:(s.toList == [97,100,100,115,117,102,102,105,120])=false:=by rw [Lib.toList_data,hs];decide
 have q11:(s.toList == [97,100,100,112,114,101,102,105,120])=true:=by rw [Lib.toList_data,hs];decide
 clear hs hr hz hlast hfirst ht ha hgz hws hxl
 go_enter Tryz.func201,Tryz.ntmps201
 go_wp2_with fail
 generalize w.alloc (.cells #[.slice (some ⟨b0,f0,none⟩) n c] 28)=w0 at hB0 hbx hr0 hs0 hl1 hf1 ⊢
 refine (HW.out w0).mono ?_
 rintro e w1 ⟨v1,rfl,hown,hb1⟩
 have hrd:=owns_reads hown
 obtain ⟨o1,n1,c1,rfl,hn1⟩:∃ o1 n1 c1,v1=.slice o1 n1 c1∧n1=ws.length:=by
  obtain ⟨o',c',hv,_⟩:=hrd
  exact ⟨o',_,c',hv,by rw [List.length_map]⟩
 have hn1b:n1≤1000001:=by omega
 have HN1:=Lib.hid hn1
 clear hn1
 go_wp2_with fail
 refine (values_told o1 n1 c1 (ws.map txt) (by omega) w1 hrd).mono ?_
 rintro e w2 ⟨lv,rfl,hT2,hb2⟩
 have hB1:Below w.heap.size w w1:=hB0.trans (hb1.mono (by omega))
 have hz1:=hb1.size
 have hz2:=hb2.size
 have hB2:Below w.heap.size w w2:=hB1.trans (hb2.mono (by omega))
 have hbx1:Boxed w1 w.heap.size 28 (.slice (some ⟨b0,f0,none⟩) n c):=(hb1.block _ (by omega)).trans hbx
 have hbx2:Boxed w2 w.heap.size 28 (.slice (some ⟨b0,f0,none⟩) n c):=(hb2.block _ (by omega)).trans hbx1
 have hr2:ReadsO w2 w.heap.size (.slice (some ⟨b0,f0,none⟩) n c) xs:=HR.out.below hB2 (Nat.le_refl _)
 have hf2:w2.cell? ⟨b0,f0,none⟩=some (.string a):=((hB2.cell (p:=⟨b0,f0,none⟩) hb0).trans (hB0.cell (p:=⟨b0,f0,none⟩) hb0).symm).trans hf1
 have hbc:=hbx2.cell
 have HQ:Hid (listT nAddprefix a.data.toList (xs.getD 1 ⟨#[]⟩).data.toList t.data.toList=ws.map (fun w=>a.data.toList++w)):=by
  show _=_
  rw [HWS.out]
  rfl
 have hOf:OfS 221 #[.pointer (some ⟨w.heap.size,0,none⟩)] (fun x=>a++x) w2.heap.size (ws.map txt) w2:=fun x hx U hU=>by
  obtain ⟨y,hy,rfl⟩:=List.mem_map.1 hx
  have hU1:Boxed U w.heap.size 28 (.slice (some ⟨b0,f0,none⟩) n c):=hU.boxed hbx2 (by show w.heap.size < w2.heap.size;omega)
  have hU2:ReadsO U w.heap.size (.slice (some ⟨b0,f0,none⟩) n c) xs:=reads_kept hr2 (hU.sub fun k hk=>by omega) (by omega)
  have h9:=cls_ahead (txt y) (by rw [txt_size];have:=(HT.out y hy).2;omega) _ _ _ xs (by have:=HXL.out;omega) (fun z hzz=>by have:=HZ.out z hzz;omega) _ _ U hU1 hU2
  rw [← HLt.out.2] at h9
  exact h9
 go_wp2_with fail
 refine (each_told _ lv 221 #[.pointer (some ⟨w.heap.size,0,none⟩)] _ (ws.map txt) w2 hT2 (enters_of Tryz.func221 (by kernel_rfl) rfl) hOf).mono ?_
 rintro e w3 ⟨l3,rfl,hT3,hb3⟩
 have hB3:Below w.heap.size w w3:=hB2.trans (hb3.mono (by omega))
 have hM:(ws.map txt).map (fun x:ByteArray=>a++x)=(ws.map (fun w=>a.data.toList++w)).map txt:=by
  rw [List.map_map,List.map_map]
  exact List.map_congr_left fun y _=>by simp only [Function.comp];rw [← txt_app,txt_toList]
 rw [hM] at hT3
 go_wp2_with fail
 go_ret
 exact ⟨_,_,rfl,by rw [HQ.out];exact hT3,hB3⟩
end Go.Proofs.YtmfjolmfbdbegaaGreatDoor

namespace Go.Proofs.YtmfjolmfbdbegaaGreatDoor
open Go.RowKit Go.Shelf Go.Sort
set_option maxRecDepth 100000 in
set_option maxHeartbeats 4000000 in
theorem list_filter (s:ByteArray) (hs:s.data.toList=nFilter) (o:Option Addr) (n c:Nat) (xs:List ByteArray) (hn:2≤n) (hnb:n≤1000000) (hxl:n=xs.length) (hz:∀ y∈xs,y.size≤1000000) (w:World) (hr:ReadsO w w.heap.size (.slice o n c) xs) :
  Calls Tryz.prog 201 #[.string s,.slice o n c] w (ListPost w (listT nFilter (xs.getD 0 ⟨#[]⟩).data.toList (xs.getD 1 ⟨#[]⟩).data.toList (xs.getD (n - 1) ⟨#[]⟩).data.toList)):=by
 have hgz:∀ k,(xs.getD k ⟨#[]⟩).size≤1000000:=fun k=>by
  unfold List.getD
  cases hk:xs[k]? with
  | none=>exact Nat.zero_le _
  | some y=>exact hz y (List.mem_of_getElem? hk)
 obtain ⟨-,b0,f0,rfl,hnc,hlast⟩:=arg_cell hr (n - 1) (by omega)
 have hfirst:=(arg_cell hr 0 (by omega)).2
 obtain ⟨_,_,e0,-,hfirst⟩:=hfirst
 cases e0
 rw [Nat.add_zero] at hfirst
 have hb0:b0 < w.heap.size:=by
  obtain ⟨o',c',hv,hx⟩:=hr
  cases hv
  obtain ⟨b',f',ho,hlt,_,_⟩:=hx 0 xs[0] (List.getElem?_eq_getElem (by omega))
  cases ho
  exact hlt
 obtain ⟨t,ht⟩:∃ t,t=xs.getD (n - 1) ⟨#[]⟩:=⟨_,rfl⟩
 obtain ⟨a,ha⟩:∃ a,a=xs.getD 0 ⟨#[]⟩:=⟨_,rfl⟩
 have htz:t.size≤1000000:=by rw [ht];exact hgz (n - 1)
 have haz:a.size≤1000000:=by rw [ha];exact hgz 0
 rw [← ht] at hlast ⊢
 rw [← ha] at hfirst ⊢
 have hB0:Below w.heap.size w (w.alloc (.cells #[.slice (some ⟨b0,f0,none⟩) n c] 28)):=(Below.refl _ w).alloc (Nat.le_refl _) _
 have hbx:=Boxed.new w 28 (.slice (some ⟨b0,f0,none⟩) n c)
 have hr0:=hr.below hB0 (B':=w.heap.size+1) (by omega)
 have hs0:(w.alloc (.cells #[.slice (some ⟨b0,f0,none⟩) n c] 28)).heap.size=w.heap.size+1:=by simp
 have hl1:(w.alloc (.cells #[.slice (some ⟨b0,f0,none⟩) n c] 28)).cell? ⟨b0,f0+(n - 1),none⟩=some (.string t):=(hB0.cell (p:=⟨b0,f0+(n - 1),none⟩) hb0).trans hlast
 have hf1:(w.alloc (.cells #[.slice (some ⟨b0,f0,none⟩) n c] 28)).cell? ⟨b0,f0,none⟩=some (.string a):=(hB0.cell (p:=⟨b0,f0,none⟩) hb0).trans hfirst
 have HW:=Lib.hid (words_own t (by omega))
 have HR:=Lib.hid hr
 have HZ:=Lib.hid hz
 have HT:Hid (∀ x∈wordsT t.data.toList,WordB x∧x.length≤1000000):=fun x hx=>by
  have:=words_memT hx
  rw [size_list] at this
  exact ⟨this.1,by omega⟩
 have hwl:=words_few t.data.toList
 rw [size_list] at hwl
 have HLt:=Lib.hid (And.intro ht ha)
 have HXL:=Lib.hid hxl
 obtain ⟨ws,hws⟩:∃ ws,ws=wordsT t.data.toList:=⟨_,rfl⟩
 have HWS:=Lib.hid hws
 rw [← hws] at HW HT hwl
 have q0:(s.toList == [112,97,116,115,117,98,115,116])=false:=by rw [Lib.toList_data,hs];decide
 have q1:(s.toList == [102,105,108,116,101,114])=true:=by rw [Lib.toList_data,hs];decide
 clear hs hr hz hlast hfirst ht ha hgz hws hxl
 go_enter Tryz.func201,Tryz.ntmps201
 go_wp2_with fail
 generalize w.alloc (.cells #[.slice (some ⟨b0,f0,none⟩) n c] 28)=w0 at hB0 hbx hr0 hs0 hl1 hf1 ⊢
 refine (HW.out w0).mono ?_
 rintro e w1 ⟨v1,rfl,hown,hb1⟩
 have hrd:=owns_reads hown
 obtain ⟨o1,n1,c1,rfl,hn1⟩:∃ o1 n1 c1,v1=.slice o1 n1 c1∧n1=ws.length:=by
  obtain ⟨o',c',hv,_⟩:=hrd
  exact ⟨o',_,c',hv,by rw [List.length_map]⟩
 have hn1b:n1≤1000001:=by omega
 have HN1:=Lib.hid hn1
 clear hn1
 go_wp2_with fail
 refine (values_told o1 n1 c1 (ws.map txt) (by omega) w1 hrd).mono ?_
 rintro e w2 ⟨lv,rfl,hT2,hb2⟩
 have hB1:Below w.heap.size w w1:=hB0.trans (hb1.mono (by omega))
 have hz1:=hb1.size
 have hz2:=hb2.size
 have hB2:Below w.heap.size w w2:=hB1.trans (hb2.mono (by omega))
 have hbx1:Boxed w1 w.heap.size 28 (.slice (some ⟨b0,f0,none⟩) n c):=(hb1.block _ (by omega)).trans hbx
 have hbx2:Boxed w2 w.heap.size 28 (.slice (some ⟨b0,f0,none⟩) n c):=(hb2.block _ (by omega)).trans hbx1
 have hr2:ReadsO w2 w.heap.size (.slice (some ⟨b0,f0,none⟩) n c) xs:=HR.out.below hB2 (Nat.le_refl _)
 have hf2:w2.cell? ⟨b0,f0,none⟩=some (.string a):=((hB2.cell (p:=⟨b0,f0,none⟩) hb0).trans (hB0.cell (p:=⟨b0,f0,none⟩) hb0).symm).trans hf1
 have hbc:=hbx2.cell
 have HQ:Hid (listT nFilter a.data.toList (xs.getD 1 ⟨#[]⟩).data.toList t.data.toList=ws.filter (anyL (wordsT a.data.toList))):=by
  show _=_
  rw [HWS.out]
  rfl
 have hwa:=words_few a.data.toList
 rw [size_list] at hwa
 have hsl:=sort_len (wordsT a.data.toList)
 go_wp2_with fail
 refine (matched_any' a (by omega) true w2).mono ?_
 rintro e w3 ⟨k1,k2,o3,n3,c3,rfl,hk1,hk2,hr3,hb3⟩
 have hz3:=hb3.size
 have hB3:Below w.heap.size w w3:=hB2.trans (hb3.mono (by omega))
 have hOk:OfK 230 #[.pointer (some ⟨k1,0,none⟩),.pointer (some ⟨k2,0,none⟩)] (fun x=>anyB ((sortT (wordsT a.data.toList)).map txt) x == true) w3.heap.size (ws.map txt) w3:=fun x hx U hU=>by
  obtain ⟨y,hy,rfl⟩:=List.mem_map.1 hx
  exact cls_matched (txt y) (by rw [txt_size];have:=(HT.out y hy).2;omega) true o3 n3 c3 _ (by rw [List.length_map];omega) (fun z hzz=>by
   obtain ⟨q,hq,rfl⟩:=List.mem_map.1 hzz
   have:=(words_memT ((sort_mem _ _).1 hq)).2
   rw [txt_size]
   rw [size_list] at this
   omega) k1 k2 w3.heap.size U (hU.boxed hk1 hk1.lt) (hU.boxed hk2 hk2.lt) (reads_kept hr3 hU (Nat.le_refl _))
 go_wp2_with fail
 refine (only_told _ lv 230 _ _ (ws.map txt) w3 (hT2.below hb3) (enters_of Tryz.func230 (by kernel_rfl) rfl) hOk).mono ?_
 rintro e w4 ⟨l4,rfl,hT4,hb4⟩
 have hB4:Below w.heap.size w w4:=hB3.trans (hb4.mono (by omega))
 have hM:(ws.map txt).filter (fun x=>anyB ((sortT (wordsT a.data.toList)).map txt) x == true)=(ws.filter (anyL (wordsT a.data.toList))).map txt:=by
  rw [List.filter_map]
  congr 1
  refine List.filter_congr fun y _=>?_
  simp only [Function.comp,any_sorted]
  cases anyL (wordsT a.data.toList) y <;> rfl
 rw [hM] at hT4
 go_wp2_with fail
 go_ret
 exact ⟨_,_,rfl,by rw [HQ.out];exact hT4,hB4⟩
set_option maxRecDepth 100000 in
set_option maxHeartbeats 4000000 in
theorem list_filter_out (s:ByteArray) (hs:s.data.toList=nFilterOut) (o:Option Addr) (n c:Nat) (xs:List ByteArray) (hn:2≤n) (hnb:n≤1000000) (hxl:n=xs.length) (hz:∀ y∈xs,y.size≤1000000) (w:World) (hr:ReadsO w w.heap.size (.slice o n c) xs) :
  Calls Tryz.prog 201 #[.string s,.slice o n c] w (ListPost w (listT nFilterOut (xs.getD 0 ⟨#[]⟩).data.toList (xs.getD 1 ⟨#[]⟩).data.toList (xs.getD (n - 1) ⟨#[]⟩).data.toList)):=by
 have hgz:∀ k,(xs.getD k ⟨#[]⟩).size≤1000000:=fun k=>by
  unfold List.getD
  cases hk:xs[k]? with
  | none=>exact Nat.zero_le _
  | some y=>exact hz y (List.mem_of_getElem? hk)
 obtain ⟨-,b0,f0,rfl,hnc,hlast⟩:=arg_cell hr (n - 1) (by omega)
 have hfirst:=(arg_cell hr 0 (by omega)).2
 obtain ⟨_,_,e0,-,hfirst⟩:=hfirst
 cases e0
 rw [Nat.add_zero] at hfirst
 have hb0:b0 < w.heap.size:=by
  obtain ⟨o',c',hv,hx⟩:=hr
  cases hv
  obtain ⟨b',f',ho,hlt,_,_⟩:=hx 0 xs[0] (List.getElem?_eq_getElem (by omega))
  cases ho
  exact hlt
 obtain ⟨t,ht⟩:∃ t,t=xs.getD (n - 1) ⟨#[]⟩:=⟨_,rfl⟩
 obtain ⟨a,ha⟩:∃ a,a=xs.getD 0 ⟨#[]⟩:=⟨_,rfl⟩
 have htz:t.size≤1000000:=by rw [ht];exact hgz (n - 1)
 have haz:a.size≤1000000:=by rw [ha];exact hgz 0
 rw [← ht] at hlast ⊢
 rw [← ha] at hfirst ⊢
 have hB0:Below w.heap.size w (w.alloc (.cells #[.slice (some ⟨b0,f0,none⟩) n c] 28)):=(Below.refl _ w).alloc (Nat.le_refl _) _
 have hbx:=Boxed.new w 28 (.slice (some ⟨b0,f0,none⟩) n c)
 have hr0:=hr.below hB0 (B':=w.heap.size+1) (by omega)
 have hs0:(w.alloc (.cells #[.slice (some ⟨b0,f0,none⟩) n c] 28)).heap.size=w.heap.size+1:=by simp
 have hl1:(w.alloc (.cells #[.slice (some ⟨b0,f0,none⟩) n c] 28)).cell? ⟨b0,f0+(n - 1),none⟩=some (.string t):=(hB0.cell (p:=⟨b0,f0+(n - 1),none⟩) hb0).trans hlast
 have hf1:(w.alloc (.cells #[.slice (some ⟨b0,f0,none⟩) n c] 28)).cell? ⟨b0,f0,none⟩=some (.string a):=(hB0.cell (p:=⟨b0,f0,none⟩) hb0).trans hfirst
 have HW:=Lib.hid (words_own t (by omega))
 have HR:=Lib.hid hr
 have HZ:=Lib.hid hz
 have HT:Hid (∀ x∈wordsT t.data.toList,WordB x∧x.length≤1000000):=fun x hx=>by
  have:=words_memT hx
  rw [size_list] at this
  exact ⟨this.1,by omega⟩
 have hwl:=words_few t.data.toList
 rw [size_list] at hwl
 have HLt:=Lib.hid (And.intro ht ha)
 have HXL:=Lib.hid hxl
 obtain ⟨ws,hws⟩:∃ ws,ws=wordsT t.data.toList:=⟨_,rfl⟩
 have HWS:=Lib.hid hws
 rw [← hws] at HW HT hwl
 have q0:(s.toList == [112,97,116,115,117,98,115,116])=false:=by rw [Lib.toList_data,hs];decide
 have q1:(s.toList == [102,105,108,116,101,114])=false:=by rw [Lib.toList_data,hs];decide
 have q2:(s.toList == [102,105,108,116,101,114,45,111,117,116])=true:=by rw [Lib.toList_data,hs];decide
 clear hs hr hz hlast hfirst ht ha hgz hws hxl
 go_enter Tryz.func201,Tryz.ntmps201
 go_wp2_with fail
 generalize w.alloc (.cells #[.slice (some ⟨b0,f0,none⟩) n c] 28)=w0 at hB0 hbx hr0 hs0 hl1 hf1 ⊢
 refine (HW.out w0).mono ?_
 rintro e w1 ⟨v1,rfl,hown,hb1⟩
 have hrd:=owns_reads hown
 obtain ⟨o1,n1,c1,rfl,hn1⟩:∃ o1 n1 c1,v1=.slice o1 n1 c1∧n1=ws.length:=by
  obtain ⟨o',c',hv,_⟩:=hrd
  exact ⟨o',_,c',hv,by rw [List.length_map]⟩
 have hn1b:n1≤1000001:=by omega
 have HN1:=Lib.hid hn1
 clear hn1
 go_wp2_with fail
 refine (values_told o1 n1 c1 (ws.map txt) (by omega) w1 hrd).mono ?_
 rintro e w2 ⟨lv,rfl,hT2,hb2⟩
 have hB1:Below w.heap.size w w1:=hB0.trans (hb1.mono (by omega))
 have hz1:=hb1.size
 have hz2:=hb2.size
 have hB2:Below w.heap.size w w2:=hB1.trans (hb2.mono (by omega))
 have hbx1:Boxed w1 w.heap.size 28 (.slice (some ⟨b0,f0,none⟩) n c):=(hb1.block _ (by omega)).trans hbx
 have hbx2:Boxed w2 w.heap.size 28 (.slice (some ⟨b0,f0,none⟩) n c):=(hb2.block _ (by omega)).trans hbx1
 have hr2:ReadsO w2 w.heap.size (.slice (some ⟨b0,f0,none⟩) n c) xs:=HR.out.below hB2 (Nat.le_refl _)
 have hf2:w2.cell? ⟨b0,f0,none⟩=some (.string a):=((hB2.cell (p:=⟨b0,f0,none⟩) hb0).trans (hB0.cell (p:=⟨b0,f0,none⟩) hb0).symm).trans hf1
 have hbc:=hbx2.cell
 have HQ:Hid (listT nFilterOut a.data.toList (xs.getD 1 ⟨#[]⟩).data.toList t.data.toList=ws.filter (fun w=>!anyL (wordsT a.data.toList) w)):=by
  show _=_
  rw [HWS.out]
  rfl
 have hwa:=words_few a.data.toList
 rw [size_list] at hwa
 have hsl:=sort_len (wordsT a.data.toList)
 go_wp2_with fail
 refine (matched_any' a (by omega) false w2).mono ?_
 rintro e w3 ⟨k1,k2,o3,n3,c3,rfl,hk1,hk2,hr3,hb3⟩
 have hz3:=hb3.size
 have hB3:Below w.heap.size w w3:=hB2.trans (hb3.mono (by omega))
 have hOk:OfK 230 #[.pointer (some ⟨k1,0,none⟩),.pointer (some ⟨k2,0,none⟩)] (fun x=>anyB ((sortT (wordsT a.data.toList)).map txt) x == false) w3.heap.size (ws.map txt) w3:=fun x hx U hU=>by
  obtain ⟨y,hy,rfl⟩:=List.mem_map.1 hx
  exact cls_matched (txt y) (by rw [txt_size];have:=(HT.out y hy).2;omega) false o3 n3 c3 _ (by rw [List.length_map];omega) (fun z hzz=>by
   obtain ⟨q,hq,rfl⟩:=List.mem_map.1 hzz
   have:=(words_memT ((sort_mem _ _).1 hq)).2
   rw [txt_size]
   rw [size_list] at this
   omega) k1 k2 w3.heap.size U (hU.boxed hk1 hk1.lt) (hU.boxed hk2 hk2.lt) (reads_kept hr3 hU (Nat.le_refl _))
 go_wp2_with fail
 refine (only_told _ lv 230 _ _ (ws.map txt) w3 (hT2.below hb3) (enters_of Tryz.func230 (by kernel_rfl) rfl) hOk).mono ?_
 rintro e w4 ⟨l4,rfl,hT4,hb4⟩
 have hB4:Below w.heap.size w w4:=hB3.trans (hb4.mono (by omega))
 have hM:(ws.map txt).filter (fun x=>anyB ((sortT (wordsT a.data.toList)).map txt) x == false)=(ws.filter (fun w=>!anyL (wordsT a.data.toList) w)).map txt:=by
  rw [List.filter_map]
  congr 1
  refine List.filter_congr fun y _=>?_
  simp only [Function.comp,any_sorted]
  cases anyL (wordsT a.data.toList) y <;> rfl
 rw [hM] at hT4
 go_wp2_with fail
 go_ret
 exact ⟨_,_,rfl,by rw [HQ.out];exact hT4,hB4⟩
set_option maxRecDepth 100000 in
set_option maxHeartbeats 4000000 in
theorem list_strip (s:ByteArray) (hs:s.data.toList=nStrip) (o:Option Addr) (n c:Nat) (xs:List ByteArray) (hn:1≤n) (hnb:n≤1000000) (hxl:n=xs.length) (hz:∀ y∈xs,y.size≤1000000) (w:World) (hr:ReadsO w w.heap.size (.slice o n c) xs) :
  Calls Tryz.prog 201 #[.string s,.slice o n c] w (ListPost w (listT nStrip (xs.getD 0 ⟨#[]⟩).data.toList (xs.getD 1 ⟨#[]⟩).data.toList (xs.getD (n - 1) ⟨#[]⟩).data.toList)):=by
 have hgz:∀ k,(xs.getD k ⟨#[]⟩).size≤1000000:=fun k=>by
  unfold List.getD
  cases hk:xs[k]? with
  | none=>exact Nat.zero_le _
  | some y=>exact hz y (List.mem_of_getElem? hk)
 obtain ⟨-,b0,f0,rfl,hnc,hlast⟩:=arg_cell hr (n - 1) (by omega)
 have hfirst:=(arg_cell hr 0 (by omega)).2
 obtain ⟨_,_,e0,-,hfirst⟩:=hfirst
 cases e0
 rw [Nat.add_zero] at hfirst
 have hb0:b0 < w.heap.size:=by
  obtain ⟨o',c',hv,hx⟩:=hr
  cases hv
  obtain ⟨b',f',ho,hlt,_,_⟩:=hx 0 xs[0] (List.getElem?_eq_getElem (by omega))
  cases ho
  exact hlt
 obtain ⟨t,ht⟩:∃ t,t=xs.getD (n - 1) ⟨#[]⟩:=⟨_,rfl⟩
 obtain ⟨a,ha⟩:∃ a,a=xs.getD 0 ⟨#[]⟩:=⟨_,rfl⟩
 have htz:t.size≤1000000:=by rw [ht];exact hgz (n - 1)
 have haz:a.size≤1000000:=by rw [ha];exact hgz 0
 rw [← ht] at hlast ⊢
 rw [← ha] at hfirst ⊢
 have hB0:Below w.heap.size w (w.alloc (.cells #[.slice (some ⟨b0,f0,none⟩) n c] 28)):=(Below.refl _ w).alloc (Nat.le_refl _) _
 have hbx:=Boxed.new w 28 (.slice (some ⟨b0,f0,none⟩) n c)
 have hr0:=hr.below hB0 (B':=w.heap.size+1) (by omega)
 have hs0:(w.alloc (.cells #[.slice (some ⟨b0,f0,none⟩) n c] 28)).heap.size=w.heap.size+1:=by simp
 have hl1:(w.alloc (.cells #[.slice (some ⟨b0,f0,none⟩) n c] 28)).cell? ⟨b0,f0+(n - 1),none⟩=some (.string t):=(hB0.cell (p:=⟨b0,f0+(n - 1),none⟩) hb0).trans hlast
 have hf1:(w.alloc (.cells #[.slice (some ⟨b0,f0,none⟩) n c] 28)).cell? ⟨b0,f0,none⟩=some (.string a):=(hB0.cell (p:=⟨b0,f0,none⟩) hb0).trans hfirst
 have HW:=Lib.hid (words_own t (by omega))
 have HR:=Lib.hid hr
 have HZ:=Lib.hid hz
 have HT:Hid (∀ x∈wordsT t.data.toList,WordB x∧x.length≤1000000):=fun x hx=>by
  have:=words_memT hx
  rw [size_list] at this
  exact ⟨this.1,by omega⟩
 have hwl:=words_few t.data.toList
 rw [size_list] at hwl
 have HLt:=Lib.hid (And.intro ht ha)
 have HXL:=Lib.hid hxl
 obtain ⟨ws,hws⟩:∃ ws,ws=wordsT t.data.toList:=⟨_,rfl⟩
 have HWS:=Lib.hid hws
 rw [← hws] at HW HT hwl
 have q0:(s.toList == [112,97,116,115,117,98,115,116])=false:=by rw [Lib.toList_data,hs];decide
 have q1:(s.toList == [102,105,108,116,101,114])=false:=by rw [Lib.toList_data,hs];decide
 have q2:(s.toList == [102,105,108,116,101,114,45,111,117,116])=false:=by rw [Lib.toList_data,hs];decide
 have q3:(s.toList == [115,111,114,116])=false:=by rw [Lib.toList_data,hs];decide
 have q4:(s.toList == [102,105,114,115,116,119,111,114,100])=false:=by rw [Lib.toList_data,hs];decide
 have q5:(s.toList == [108,97,115,116,119,111,114,100])=false:=by rw [Lib.toList_data,hs];decide
 have q6:(s.toList == [100,105,114])=false:=by rw [Lib.toList_data,hs];decide
 have q7:(s.toList == [110,111,116,100,105,114])=false:=by rw [Lib.toList_data,hs];decide
 have q8:(s.toList == [115,117,102,102,105,120])=false:=by rw [Lib.toList_data,hs];decide
 have q9:(s.toList == [98,97,115,101,110,97,109,101])=false:=by rw [Lib.toList_data,hs];decide
 have q10:(s.toList == [97,100,100,115,117,102,102,105,120])=false:=by rw [Lib.toList_data,hs];decide
 have q11:(s.toList == [97,100,100,112,114,101,102,105,120])=false:=by rw [Lib.toList_data,hs];decide
 have q12:(s.toList == [106,111,105,110])=false:=by rw [Lib.toList_data,hs];decide
 clear hs hr hz hlast hfirst ht ha hgz hws hxl
 go_enter Tryz.func201,Tryz.ntmps201
 go_wp2_with fail
 generalize w.alloc (.cells #[.slice (some ⟨b0,f0,none⟩) n c] 28)=w0 at hB0 hbx hr0 hs0 hl1 hf1 ⊢
 refine (HW.out w0).mono ?_
 rintro e w1 ⟨v1,rfl,hown,hb1⟩
 have hrd:=owns_reads hown
 obtain ⟨o1,n1,c1,rfl,hn1⟩:∃ o1 n1 c1,v1=.slice o1 n1 c1∧n1=ws.length:=by
  obtain ⟨o',c',hv,_⟩:=hrd
  exact ⟨o',_,c',hv,by rw [List.length_map]⟩
 have hn1b:n1≤1000001:=by omega
 have HN1:=Lib.hid hn1
 clear hn1
 go_wp2_with fail
 refine (values_told o1 n1 c1 (ws.map txt) (by omega) w1 hrd).mono ?_
 rintro e w2 ⟨lv,rfl,hT2,hb2⟩
 have hB1:Below w.heap.size w w1:=hB0.trans (hb1.mono (by omega))
 have hz1:=hb1.size
 have hz2:=hb2.size
 have hB2:Below w.heap.size w w2:=hB1.trans (hb2.mono (by omega))
 have hbx1:Boxed w1 w.heap.size 28 (.slice (some ⟨b0,f0,none⟩) n c):=(hb1.block _ (by omega)).trans hbx
 have hbx2:Boxed w2 w.heap.size 28 (.slice (some ⟨b0,f0,none⟩) n c):=(hb2.block _ (by omega)).trans hbx1
 have hr2:ReadsO w2 w.heap.size (.slice (some ⟨b0,f0,none⟩) n c) xs:=HR.out.below hB2 (Nat.le_refl _)
 have hf2:w2.cell? ⟨b0,f0,none⟩=some (.string a):=((hB2.cell (p:=⟨b0,f0,none⟩) hb0).trans (hB0.cell (p:=⟨b0,f0,none⟩) hb0).symm).trans hf1
 have hbc:=hbx2.cell
 have HQ:Hid (listT nStrip a.data.toList (xs.getD 1 ⟨#[]⟩).data.toList t.data.toList=ws):=by
  show _=_
  rw [HWS.out]
  rfl
 go_wp2_with fail
 go_ret
 exact ⟨_,_,rfl,by rw [HQ.out];exact hT2,hB2⟩
end Go.Proofs.YtmfjolmfbdbegaaGreatDoor

namespace Go.Proofs.YtmfjolmfbdbegaaGreatDoor
open Go.RowKit Go.Shelf Go.Sort
set_option maxRecDepth 100000 in
set_option maxHeartbeats 4000000 in
theorem list_sort (s:ByteArray) (hs:s.data.toList=nSort) (o:Option Addr) (n c:Nat) (xs:List ByteArray) (hn:1≤n) (hnb:n≤1000000) (hxl:n=xs.length) (hz:∀ y∈xs,y.size≤1000000) (w:World) (hr:ReadsO w w.heap.size (.slice o n c) xs) :
  Calls Tryz.prog 201 #[.string s,.slice o n c] w (ListPost w (listT nSort (xs.getD 0 ⟨#[]⟩).data.toList (xs.getD 1 ⟨#[]⟩).data.toList (xs.getD (n - 1) ⟨#[]⟩).data.toList)):=by
 have hgz:∀ k,(xs.getD k ⟨#[]⟩).size≤1000000:=fun k=>by
  unfold List.getD
  cases hk:xs[k]? with
  | none=>exact Nat.zero_le _
  | some y=>exact hz y (List.mem_of_getElem? hk)
 obtain ⟨-,b0,f0,rfl,hnc,hlast⟩:=arg_cell hr (n - 1) (by omega)
 have hfirst:=(arg_cell hr 0 (by omega)).2
 obtain ⟨_,_,e0,-,hfirst⟩:=hfirst
 cases e0
 rw [Nat.add_zero] at hfirst
 have hb0:b0 < w.heap.size:=by
  obtain ⟨o',c',hv,hx⟩:=hr
  cases hv
  obtain ⟨b',f',ho,hlt,_,_⟩:=hx 0 xs[0] (List.getElem?_eq_getElem (by omega))
  cases ho
  exact hlt
 obtain ⟨t,ht⟩:∃ t,t=xs.getD (n - 1) ⟨#[]⟩:=⟨_,rfl⟩
 obtain ⟨a,ha⟩:∃ a,a=xs.getD 0 ⟨#[]⟩:=⟨_,rfl⟩
 have htz:t.size≤1000000:=by rw [ht];exact hgz (n - 1)
 have haz:a.size≤1000000:=by rw [ha];exact hgz 0
 rw [← ht] at hlast ⊢
 rw [← ha] at hfirst ⊢
 have hB0:Below w.heap.size w (w.alloc (.cells #[.slice (some ⟨b0,f0,none⟩) n c] 28)):=(Below.refl _ w).alloc (Nat.le_refl _) _
 have hbx:=Boxed.new w 28 (.slice (some ⟨b0,f0,none⟩) n c)
 have hr0:=hr.below hB0 (B':=w.heap.size+1) (by omega)
 have hs0:(w.alloc (.cells #[.slice (some ⟨b0,f0,none⟩) n c] 28)).heap.size=w.heap.size+1:=by simp
 have hl1:(w.alloc (.cells #[.slice (some ⟨b0,f0,none⟩) n c] 28)).cell? ⟨b0,f0+(n - 1),none⟩=some (.string t):=(hB0.cell (p:=⟨b0,f0+(n - 1),none⟩) hb0).trans hlast
 have hf1:(w.alloc (.cells #[.slice (some ⟨b0,f0,none⟩) n c] 28)).cell? ⟨b0,f0,none⟩=some (.string a):=(hB0.cell (p:=⟨b0,f0,none⟩) hb0).trans hfirst
 have HW:=Lib.hid (words_own t (by omega))
 have HR:=Lib.hid hr
 have HZ:=Lib.hid hz
 have HT:Hid (∀ x∈wordsT t.data.toList,WordB x∧x.length≤1000000):=fun x hx=>by
  have:=words_memT hx
  rw [size_list] at this
  exact ⟨this.1,by omega⟩
 have hwl:=words_few t.data.toList
 rw [size_list] at hwl
 have HLt:=Lib.hid (And.intro ht ha)
 have HXL:=Lib.hid hxl
 obtain ⟨ws,hws⟩:∃ ws,ws=wordsT t.data.toList:=⟨_,rfl⟩
 have HWS:=Lib.hid hws
 rw [← hws] at HW HT hwl
 have q0:(s.toList == [112,97,116,115,117,98,115,116])=false:=by rw [Lib.toList_data,hs];decide
 have q1:(s.toList == [102,105,108,116,101,114])=false:=by rw [Lib.toList_data,hs];decide
 have q2:(s.toList == [102,105,108,116,101,114,45,111,117,116])=false:=by rw [Lib.toList_data,hs];decide
 have q3:(s.toList == [115,111,114,116])=true:=by rw [Lib.toList_data,hs];decide
 clear hs hr hz hlast hfirst ht ha hgz hws hxl
 go_enter Tryz.func201,Tryz.ntmps201
 go_wp2_with fail
 generalize w.alloc (.cells #[.slice (some ⟨b0,f0,none⟩) n c] 28)=w0 at hB0 hbx hr0 hs0 hl1 hf1 ⊢
 refine (HW.out w0).mono ?_
 rintro e w1 ⟨v1,rfl,hown,hb1⟩
 have hrd:=owns_reads hown
 obtain ⟨o1,n1,c1,rfl,hn1⟩:∃ o1 n1 c1,v1=.slice o1 n1 c1∧n1=ws.length:=by
  obtain ⟨o',c',hv,_⟩:=hrd
  exact ⟨o',_,c',hv,by rw [List.length_map]⟩
 have hn1b:n1≤1000001:=by omega
 have HN1:=Lib.hid hn1
 clear hn1
 go_wp2_with fail
 refine (values_told o1 n1 c1 (ws.map txt) (by omega) w1 hrd).mono ?_
 rintro e w2 ⟨lv,rfl,hT2,hb2⟩
 have hB1:Below w.heap.size w w1:=hB0.trans (hb1.mono (by omega))
 have hz1:=hb1.size
 have hz2:=hb2.size
 have hB2:Below w.heap.size w w2:=hB1.trans (hb2.mono (by omega))
 have hbx1:Boxed w1 w.heap.size 28 (.slice (some ⟨b0,f0,none⟩) n c):=(hb1.block _ (by omega)).trans hbx
 have hbx2:Boxed w2 w.heap.size 28 (.slice (some ⟨b0,f0,none⟩) n c):=(hb2.block _ (by omega)).trans hbx1
 have hr2:ReadsO w2 w.heap.size (.slice (some ⟨b0,f0,none⟩) n c) xs:=HR.out.below hB2 (Nat.le_refl _)
 have hf2:w2.cell? ⟨b0,f0,none⟩=some (.string a):=((hB2.cell (p:=⟨b0,f0,none⟩) hb0).trans (hB0.cell (p:=⟨b0,f0,none⟩) hb0).symm).trans hf1
 have hbc:=hbx2.cell
 have HQ:Hid (listT nSort a.data.toList (xs.getD 1 ⟨#[]⟩).data.toList t.data.toList=sortT ws):=by
  show _=_
  rw [HWS.out]
  rfl
 have hsl:=sort_len ws
 have hown2:w2.ownsRow w0.heap.size 9 1 (.slice o1 n1 c1) ws.length (ws.map encStr):=(Turned.ownsRow (X:=fun _=>False) ⟨hb2.os,hb2.tape,hb2.output,hb2.size,fun k hk _=>hb2.block k hk⟩ hown (fun _ _ h=>h))
 go_wp2_with fail
 refine (once_any ws (by omega) _ w0.heap.size w2 (by omega) hown2).mono ?_
 rintro e w3 ⟨o3,c3,rfl,hr3,hb3⟩
 have hz3:=hb3.size
 have hB3:Below w.heap.size w w3:=hB2.trans (hb3.mono (by omega))
 go_wp2_with fail
 refine (values_told o3 _ c3 _ (by omega) w3 hr3).mono ?_
 rintro e w4 ⟨l4,rfl,hT4,hb4⟩
 have hB4:Below w.heap.size w w4:=hB3.trans (hb4.mono (by omega))
 go_wp2_with fail
 go_ret
 exact ⟨_,_,rfl,by rw [HQ.out];exact hT4,hB4⟩
set_option maxRecDepth 100000 in
set_option maxHeartbeats 4000000 in
theorem list_join (s:ByteArray) (hs:s.data.toList=nJoin) (o:Option Addr) (n c:Nat) (xs:List ByteArray) (hn:2≤n) (hnb:n≤1000000) (hxl:n=xs.length) (hz:∀ y∈xs,y.size≤1000000) (w:World) (hr:ReadsO w w.heap.size (.slice o n c) xs) :
  Calls Tryz.prog 201 #[.string s,.slice o n c] w (ListPost w (listT nJoin (xs.getD 0 ⟨#[]⟩).data.toList (xs.getD 1 ⟨#[]⟩).data.toList (xs.getD (n - 1) ⟨#[]⟩).data.toList)):=by
 have hgz:∀ k,(xs.getD k ⟨#[]⟩).size≤1000000:=fun k=>by
  unfold List.getD
  cases hk:xs[k]? with
  | none=>exact Nat.zero_le _
  | some y=>exact hz y (List.mem_of_getElem? hk)
 obtain ⟨-,b0,f0,rfl,hnc,hlast⟩:=arg_cell hr (n - 1) (by omega)
 have hfirst:=(arg_cell hr 0 (by omega)).2
 obtain ⟨_,_,e0,-,hfirst⟩:=hfirst
 cases e0
 rw [Nat.add_zero] at hfirst
 have hb0:b0 < w.heap.size:=by
  obtain ⟨o',c',hv,hx⟩:=hr
  cases hv
  obtain ⟨b',f',ho,hlt,_,_⟩:=hx 0 xs[0] (List.getElem?_eq_getElem (by omega))
  cases ho
  exact hlt
 obtain ⟨t,ht⟩:∃ t,t=xs.getD (n - 1) ⟨#[]⟩:=⟨_,rfl⟩
 obtain ⟨a,ha⟩:∃ a,a=xs.getD 0 ⟨#[]⟩:=⟨_,rfl⟩
 have htz:t.size≤1000000:=by rw [ht];exact hgz (n - 1)
 have haz:a.size≤1000000:=by rw [ha];exact hgz 0
 rw [← ht] at hlast ⊢
 rw [← ha] at hfirst ⊢
 have hB0:Below w.heap.size w (w.alloc (.cells #[.slice (some ⟨b0,f0,none⟩) n c] 28)):=(Below.refl _ w).alloc (Nat.le_refl _) _
 have hbx:=Boxed.new w 28 (.slice (some ⟨b0,f0,none⟩) n c)
 have hr0:=hr.below hB0 (B':=w.heap.size+1) (by omega)
 have hs0:(w.alloc (.cells #[.slice (some ⟨b0,f0,none⟩) n c] 28)).heap.size=w.heap.size+1:=by simp
 have hl1:(w.alloc (.cells #[.slice (some ⟨b0,f0,none⟩) n c] 28)).cell? ⟨b0,f0+(n - 1),none⟩=some (.string t):=(hB0.cell (p:=⟨b0,f0+(n - 1),none⟩) hb0).trans hlast
 have hf1:(w.alloc (.cells #[.slice (some ⟨b0,f0,none⟩) n c] 28)).cell? ⟨b0,f0,none⟩=some (.string a):=(hB0.cell (p:=⟨b0,f0,none⟩) hb0).trans hfirst
 have HW:=Lib.hid (words_own t (by omega))
 have HR:=Lib.hid hr
 have HZ:=Lib.hid hz
 have HT:Hid (∀ x∈wordsT t.data.toList,WordB x∧x.length≤1000000):=fun x hx=>by
  have:=words_memT hx
  rw [size_list] at this
  exact ⟨this.1,by omega⟩
 have hwl:=words_few t.data.toList
 rw [size_list] at hwl
 have HLt:=Lib.hid (And.intro ht ha)
 have HXL:=Lib.hid hxl
 obtain ⟨ws,hws⟩:∃ ws,ws=wordsT t.data.toList:=⟨_,rfl⟩
 have HWS:=Lib.hid hws
 rw [← hws] at HW HT hwl
 have q0:(s.toList == [112,97,116,115,117,98,115,116])=false:=by rw [Lib.toList_data,hs];decide
 have q1:(s.toList == [102,105,108,116,101,114])=false:=by rw [Lib.toList_data,hs];decide
 have q2:(s.toList == [102,105,108,116,101,114,45,111,117,116])=false:=by rw [Lib.toList_data,hs];decide
 have q3:(s.toList == [115,111,114,116])=false:=by rw [Lib.toList_data,hs];decide
 have q4:(s.toList == [102,105,114,115,116,119,111,114,100])=false:=by rw [Lib.toList_data,hs];decide
 have q5:(s.toList == [108,97,115,116,119,111,114,100])=false:=by rw [Lib.toList_data,hs];decide
 have q6:(s.toList == [100,105,114])=false:=by rw [Lib.toList_data,hs];decide
 have q7:(s.toList == [110,111,116,100,105,114])=false:=by rw [Lib.toList_data,hs];decide
 have q8:(s.toList == [115,117,102,102,105,120])=false:=by rw [Lib.toList_data,hs];decide
 have q9:(s.toList == [98,97,115,101,110,97,109,101])=false:=by rw [Lib.toList_data,hs];decide
 have q10:(s.toList == [97,100,100,115,117,102,102,105,120])=false:=by rw [Lib.toList_data,hs];decide
 have q11:(s.toList == [97,100,100,112,114,101,102,105,120])=false:=by rw [Lib.toList_data,hs];decide
 have q12:(s.toList == [106,111,105,110])=true:=by rw [Lib.toList_data,hs];decide
 clear hs hr hz hlast hfirst ht ha hgz hws hxl
 go_enter Tryz.func201,Tryz.ntmps201
 go_wp2_with fail
 generalize w.alloc (.cells #[.slice (some ⟨b0,f0,none⟩) n c] 28)=w0 at hB0 hbx hr0 hs0 hl1 hf1 ⊢
 refine (HW.out w0).mono ?_
 rintro e w1 ⟨v1,rfl,hown,hb1⟩
 have hrd:=owns_reads hown
 obtain ⟨o1,n1,c1,rfl,hn1⟩:∃ o1 n1 c1,v1=.slice o1 n1 c1∧n1=ws.length:=by
  obtain ⟨o',c',hv,_⟩:=hrd
  exact ⟨o',_,c',hv,by rw [List.length_map]⟩
 have hn1b:n1≤1000001:=by omega
 have HN1:=Lib.hid hn1
 clear hn1
 go_wp2_with fail
 refine (values_told o1 n1 c1 (ws.map txt) (by omega) w1 hrd).mono ?_
 rintro e w2 ⟨lv,rfl,hT2,hb2⟩
 have hB1:Below w.heap.size w w1:=hB0.trans (hb1.mono (by omega))
 have hz1:=hb1.size
 have hz2:=hb2.size
 have hB2:Below w.heap.size w w2:=hB1.trans (hb2.mono (by omega))
 have hbx1:Boxed w1 w.heap.size 28 (.slice (some ⟨b0,f0,none⟩) n c):=(hb1.block _ (by omega)).trans hbx
 have hbx2:Boxed w2 w.heap.size 28 (.slice (some ⟨b0,f0,none⟩) n c):=(hb2.block _ (by omega)).trans hbx1
 have hr2:ReadsO w2 w.heap.size (.slice (some ⟨b0,f0,none⟩) n c) xs:=HR.out.below hB2 (Nat.le_refl _)
 have hf2:w2.cell? ⟨b0,f0,none⟩=some (.string a):=((hB2.cell (p:=⟨b0,f0,none⟩) hb0).trans (hB0.cell (p:=⟨b0,f0,none⟩) hb0).symm).trans hf1
 have hbc:=hbx2.cell
 have HQ:Hid (listT nJoin a.data.toList (xs.getD 1 ⟨#[]⟩).data.toList t.data.toList=zipT (wordsT a.data.toList) ws):=by
  show _=_
  rw [HWS.out]
  rfl
 have hwa:=words_few a.data.toList
 rw [size_list] at hwa
 go_wp2_with fail
 refine (words_own a (by omega) w2).mono ?_
 rintro e w3 ⟨v3,rfl,hown3,hb3⟩
 have hrd3:=owns_reads hown3
 have hz3:=hb3.size
 obtain ⟨o3,n3,c3,rfl,hn3⟩:∃ o3 n3 c3,v3=.slice o3 n3 c3∧n3=(wordsT a.data.toList).length:=by
  obtain ⟨o',c',hv,_⟩:=hrd3
  exact ⟨o',_,c',hv,by rw [List.length_map]⟩
 have hn3b:n3≤1000001:=by omega
 clear hn3
 have hB3:Below w.heap.size w w3:=hB2.trans (hb3.mono (by omega))
 have hrw:ReadsO w3 w3.heap.size (.slice o1 n1 c1) (ws.map txt):=(hrd.below hb2 (Nat.le_refl _)).below (hb3.mono hz2) (by omega)
 go_wp2_with fail
 refine (pairs_told o3 o1 n3 n1 c3 c1 _ _ (by omega) (by omega) w3 hrd3 hrw).mono ?_
 rintro e w4 ⟨l4,rfl,hT4,hb4⟩
 have hz4:=hb4.size
 have hB4:Below w.heap.size w w4:=hB3.trans (hb4.mono (by omega))
 go_wp2_with fail
 refine (wholes_told _ l4 _ (fun x hx=>?_) w4 hT4).mono ?_
 ·have hsmall:∀ (l:List BT),(∀ y∈l,y.length≤1000000)→∀ i:Nat,((l.map txt).getD i ⟨#[]⟩).size≤10000000:=fun l hl i=>by
   rw [getD_map,txt_size]
   unfold List.getD
   cases hk:l[i]? with
   | none=>exact Nat.zero_le _
   | some y=>have:=hl y (List.mem_of_getElem? hk);simp only [Option.getD_some];omega
  unfold pairsL at hx
  obtain ⟨i,_,rfl⟩:=List.mem_map.1 hx
  exact ⟨hsmall _ (fun y hy=>by have:=(words_memT hy).2;rw [size_list] at this;omega) i,hsmall _ (fun y hy=>(HT.out y hy).2) i⟩
 rintro e w5 ⟨l5,rfl,hT5,hb5⟩
 have hB5:Below w.heap.size w w5:=hB4.trans (hb5.mono (by omega))
 rw [pairs_zip] at hT5
 go_wp2_with fail
 go_ret
 exact ⟨_,_,rfl,by rw [HQ.out];exact hT5,hB5⟩
end Go.Proofs.YtmfjolmfbdbegaaGreatDoor

namespace Go.Proofs.YtmfjolmfbdbegaaGreatDoor
open Go.RowKit Go.Shelf Go.Sort
set_option maxRecDepth 100000 in
set_option maxHeartbeats 4000000 in
theorem list_dir (s:ByteArray) (hs:s.data.toList=nDir) (o:Option Addr) (n c:Nat) (xs:List ByteArray) (hn:1≤n) (hnb:n≤1000000) (hxl:n=xs.length) (hz:∀ y∈xs,y.size≤1000000) (w:World) (hr:ReadsO w w.heap.size (.slice o n c) xs) :
  Calls Tryz.prog 201 #[.string s,.slice o n c] w (ListPost w (listT nDir (xs.getD 0 ⟨#[]⟩).data.toList (xs.getD 1 ⟨#[]⟩).data.toList (xs.getD (n - 1) ⟨#[]⟩).data.toList)):=by
 have hgz:∀ k,(xs.getD k ⟨#[]⟩).size≤1000000:=fun k=>by
  unfold List.getD
  cases hk:xs[k]? with
  | none=>exact Nat.zero_le _
  | some y=>exact hz y (List.mem_of_getElem? hk)
 obtain ⟨-,b0,f0,rfl,hnc,hlast⟩:=arg_cell hr (n - 1) (by omega)
 have hfirst:=(arg_cell hr 0 (by omega)).2
 obtain ⟨_,_,e0,-,hfirst⟩:=hfirst
 cases e0
 rw [Nat.add_zero] at hfirst
 have hb0:b0 < w.heap.size:=by
  obtain ⟨o',c',hv,hx⟩:=hr
  cases hv
  obtain ⟨b',f',ho,hlt,_,_⟩:=hx 0 xs[0] (List.getElem?_eq_getElem (by omega))
  cases ho
  exact hlt
 obtain ⟨t,ht⟩:∃ t,t=xs.getD (n - 1) ⟨#[]⟩:=⟨_,rfl⟩
 obtain ⟨a,ha⟩:∃ a,a=xs.getD 0 ⟨#[]⟩:=⟨_,rfl⟩
 have htz:t.size≤1000000:=by rw [ht];exact hgz (n - 1)
 have haz:a.size≤1000000:=by rw [ha];exact hgz 0
 rw [← ht] at hlast ⊢
 rw [← ha] at hfirst ⊢
 have hB0:Below w.heap.size w (w.alloc (.cells #[.slice (some ⟨b0,f0,none⟩) n c] 28)):=(Below.refl _ w).alloc (Nat.le_refl _) _
 have hbx:=Boxed.new w 28 (.slice (some ⟨b0,f0,none⟩) n c)
 have hr0:=hr.below hB0 (B':=w.heap.size+1) (by omega)
 have hs0:(w.alloc (.cells #[.slice (some ⟨b0,f0,none⟩) n c] 28)).heap.size=w.heap.size+1:=by simp
 have hl1:(w.alloc (.cells #[.slice (some ⟨b0,f0,none⟩) n c] 28)).cell? ⟨b0,f0+(n - 1),none⟩=some (.string t):=(hB0.cell (p:=⟨b0,f0+(n - 1),none⟩) hb0).trans hlast
 have hf1:(w.alloc (.cells #[.slice (some ⟨b0,f0,none⟩) n c] 28)).cell? ⟨b0,f0,none⟩=some (.string a):=(hB0.cell (p:=⟨b0,f0,none⟩) hb0).trans hfirst
 have HW:=Lib.hid (words_own t (by omega))
 have HR:=Lib.hid hr
 have HZ:=Lib.hid hz
 have HT:Hid (∀ x∈wordsT t.data.toList,WordB x∧x.length≤1000000):=fun x hx=>by
  have:=words_memT hx
  rw [size_list] at this
  exact ⟨this.1,by omega⟩
 have hwl:=words_few t.data.toList
 rw [size_list] at hwl
 have HLt:=Lib.hid (And.intro ht ha)
 have HXL:=Lib.hid hxl
 obtain ⟨ws,hws⟩:∃ ws,ws=wordsT t.data.toList:=⟨_,rfl⟩
 have HWS:=Lib.hid hws
 rw [← hws] at HW HT hwl
 have q0:(s.toList == [112,97,116,115,117,98,115,116])=false:=by rw [Lib.toList_data,hs];decide
 have q1:(s.toList == [102,105,108,116,101,114])=false:=by rw [Lib.toList_data,hs];decide
 have q2:(s.toList == [102,105,108,116,101,114,45,111,117,116])=false:=by rw [Lib.toList_data,hs];decide
 have q3:(s.toList == [115,111,114,116])=false:=by rw [Lib.toList_data,hs];decide
 have q4:(s.toList == [102,105,114,115,116,119,111,114,100])=false:=by rw [Lib.toList_data,hs];decide
 have q5:(s.toList == [108,97,115,116,119,111,114,100])=false:=by rw [Lib.toList_data,hs];decide
 have q6:(s.toList == [100,105,114])=true:=by rw [Lib.toList_data,hs];decide
 clear hs hr hz hlast hfirst ht ha hgz hws hxl
 go_enter Tryz.func201,Tryz.ntmps201
 go_wp2_with fail
 generalize w.alloc (.cells #[.slice (some ⟨b0,f0,none⟩) n c] 28)=w0 at hB0 hbx hr0 hs0 hl1 hf1 ⊢
 refine (HW.out w0).mono ?_
 rintro e w1 ⟨v1,rfl,hown,hb1⟩
 have hrd:=owns_reads hown
 obtain ⟨o1,n1,c1,rfl,hn1⟩:∃ o1 n1 c1,v1=.slice o1 n1 c1∧n1=ws.length:=by
  obtain ⟨o',c',hv,_⟩:=hrd
  exact ⟨o',_,c',hv,by rw [List.length_map]⟩
 have hn1b:n1≤1000001:=by omega
 have HN1:=Lib.hid hn1
 clear hn1
 go_wp2_with fail
 refine (values_told o1 n1 c1 (ws.map txt) (by omega) w1 hrd).mono ?_
 rintro e w2 ⟨lv,rfl,hT2,hb2⟩
 have hB1:Below w.heap.size w w1:=hB0.trans (hb1.mono (by omega))
 have hz1:=hb1.size
 have hz2:=hb2.size
 have hB2:Below w.heap.size w w2:=hB1.trans (hb2.mono (by omega))
 have hbx1:Boxed w1 w.heap.size 28 (.slice (some ⟨b0,f0,none⟩) n c):=(hb1.block _ (by omega)).trans hbx
 have hbx2:Boxed w2 w.heap.size 28 (.slice (some ⟨b0,f0,none⟩) n c):=(hb2.block _ (by omega)).trans hbx1
 have hr2:ReadsO w2 w.heap.size (.slice (some ⟨b0,f0,none⟩) n c) xs:=HR.out.below hB2 (Nat.le_refl _)
 have hf2:w2.cell? ⟨b0,f0,none⟩=some (.string a):=((hB2.cell (p:=⟨b0,f0,none⟩) hb0).trans (hB0.cell (p:=⟨b0,f0,none⟩) hb0).symm).trans hf1
 have hbc:=hbx2.cell
 have HQ:Hid (listT nDir a.data.toList (xs.getD 1 ⟨#[]⟩).data.toList t.data.toList=ws.map dirOf):=by
  show _=_
  rw [HWS.out]
  rfl
 have hOf:OfS 215 #[] (fun x=>txt (dirOf x.data.toList)) w2.heap.size (ws.map txt) w2:=fun x hx U _=>by
  obtain ⟨y,hy,rfl⟩:=List.mem_map.1 hx
  exact dir_any (txt y) (by rw [txt_size];have:=(HT.out y hy).2;omega) U
 go_wp2_with fail
 refine (each_told _ lv 215 #[] _ (ws.map txt) w2 hT2 (enters_of Tryz.func215 (by kernel_rfl) rfl) hOf).mono ?_
 rintro e w3 ⟨l3,rfl,hT3,hb3⟩
 have hB3:Below w.heap.size w w3:=hB2.trans (hb3.mono (by omega))
 have hM:(ws.map txt).map (fun x:ByteArray=>txt (dirOf x.data.toList))=(ws.map dirOf).map txt:=by
  rw [List.map_map,List.map_map]
  exact List.map_congr_left fun y _=>by simp only [Function.comp,txt_data]
 rw [hM] at hT3
 go_wp2_with fail
 go_ret
 exact ⟨_,_,rfl,by rw [HQ.out];exact hT3,hB3⟩
set_option maxRecDepth 100000 in
set_option maxHeartbeats 4000000 in
theorem list_notdir (s:ByteArray) (hs:s.data.toList=nNotdir) (o:Option Addr) (n c:Nat) (xs:List ByteArray) (hn:1≤n) (hnb:n≤1000000) (hxl:n=xs.length) (hz:∀ y∈xs,y.size≤1000000) (w:World) (hr:ReadsO w w.heap.size (.slice o n c) xs) :
  Calls Tryz.prog 201 #[.string s,.slice o n c] w (ListPost w (listT nNotdir (xs.getD 0 ⟨#[]⟩).data.toList (xs.getD 1 ⟨#[]⟩).data.toList (xs.getD (n - 1) ⟨#[]⟩).data.toList)):=by
 have hgz:∀ k,(xs.getD k ⟨#[]⟩).size≤1000000:=fun k=>by
  unfold List.getD
  cases hk:xs[k]? with
  | none=>exact Nat.zero_le _
  | some y=>exact hz y (List.mem_of_getElem? hk)
 obtain ⟨-,b0,f0,rfl,hnc,hlast⟩:=arg_cell hr (n - 1) (by omega)
 have hfirst:=(arg_cell hr 0 (by omega)).2
 obtain ⟨_,_,e0,-,hfirst⟩:=hfirst
 cases e0
 rw [Nat.add_zero] at hfirst
 have hb0:b0 < w.heap.size:=by
  obtain ⟨o',c',hv,hx⟩:=hr
  cases hv
  obtain ⟨b',f',ho,hlt,_,_⟩:=hx 0 xs[0] (List.getElem?_eq_getElem (by omega))
  cases ho
  exact hlt
 obtain ⟨t,ht⟩:∃ t,t=xs.getD (n - 1) ⟨#[]⟩:=⟨_,rfl⟩
 obtain ⟨a,ha⟩:∃ a,a=xs.getD 0 ⟨#[]⟩:=⟨_,rfl⟩
 have htz:t.size≤1000000:=by rw [ht];exact hgz (n - 1)
 have haz:a.size≤1000000:=by rw [ha];exact hgz 0
 rw [← ht] at hlast ⊢
 rw [← ha] at hfirst ⊢
 have hB0:Below w.heap.size w (w.alloc (.cells #[.slice (some ⟨b0,f0,none⟩) n c] 28)):=(Below.refl _ w).alloc (Nat.le_refl _) _
 have hbx:=Boxed.new w 28 (.slice (some ⟨b0,f0,none⟩) n c)
 have hr0:=hr.below hB0 (B':=w.heap.size+1) (by omega)
 have hs0:(w.alloc (.cells #[.slice (some ⟨b0,f0,none⟩) n c] 28)).heap.size=w.heap.size+1:=by simp
 have hl1:(w.alloc (.cells #[.slice (some ⟨b0,f0,none⟩) n c] 28)).cell? ⟨b0,f0+(n - 1),none⟩=some (.string t):=(hB0.cell (p:=⟨b0,f0+(n - 1),none⟩) hb0).trans hlast
 have hf1:(w.alloc (.cells #[.slice (some ⟨b0,f0,none⟩) n c] 28)).cell? ⟨b0,f0,none⟩=some (.string a):=(hB0.cell (p:=⟨b0,f0,none⟩) hb0).trans hfirst
 have HW:=Lib.hid (words_own t (by omega))
 have HR:=Lib.hid hr
 have HZ:=Lib.hid hz
 have HT:Hid (∀ x∈wordsT t.data.toList,WordB x∧x.length≤1000000):=fun x hx=>by
  have:=words_memT hx
  rw [size_list] at this
  exact ⟨this.1,by omega⟩
 have hwl:=words_few t.data.toList
 rw [size_list] at hwl
 have HLt:=Lib.hid (And.intro ht ha)
 have HXL:=Lib.hid hxl
 obtain ⟨ws,hws⟩:∃ ws,ws=wordsT t.data.toList:=⟨_,rfl⟩
 have HWS:=Lib.hid hws
 rw [← hws] at HW HT hwl
 have q0:(s.toList == [112,97,116,115,117,98,115,116])=false:=by rw [Lib.toList_data,hs];decide
 have q1:(s.toList == [102,105,108,116,101,114])=false:=by rw [Lib.toList_data,hs];decide
 have q2:(s.toList == [102,105,108,116,101,114,45,111,117,116])=false:=by rw [Lib.toList_data,hs];decide
 have q3:(s.toList == [115,111,114,116])=false:=by rw [Lib.toList_data,hs];decide
 have q4:(s.toList == [102,105,114,115,116,119,111,114,100])=false:=by rw [Lib.toList_data,hs];decide
 have q5:(s.toList == [108,97,115,116,119,111,114,100])=false:=by rw [Lib.toList_data,hs];decide
 have q6:(s.toList == [100,105,114])=false:=by rw [Lib.toList_data,hs];decide
 have q7:(s.toList == [110,111,116,100,105,114])=true:=by rw [Lib.toList_data,hs];decide
 clear hs hr hz hlast hfirst ht ha hgz hws hxl
 go_enter Tryz.func201,Tryz.ntmps201
 go_wp2_with fail
 generalize w.alloc (.cells #[.slice (some ⟨b0,f0,none⟩) n c] 28)=w0 at hB0 hbx hr0 hs0 hl1 hf1 ⊢
 refine (HW.out w0).mono ?_
 rintro e w1 ⟨v1,rfl,hown,hb1⟩
 have hrd:=owns_reads hown
 obtain ⟨o1,n1,c1,rfl,hn1⟩:∃ o1 n1 c1,v1=.slice o1 n1 c1∧n1=ws.length:=by
  obtain ⟨o',c',hv,_⟩:=hrd
  exact ⟨o',_,c',hv,by rw [List.length_map]⟩
 have hn1b:n1≤1000001:=by omega
 have HN1:=Lib.hid hn1
 clear hn1
 go_wp2_with fail
 refine (values_told o1 n1 c1 (ws.map txt) (by omega) w1 hrd).mono ?_
 rintro e w2 ⟨lv,rfl,hT2,hb2⟩
 have hB1:Below w.heap.size w w1:=hB0.trans (hb1.mono (by omega))
 have hz1:=hb1.size
 have hz2:=hb2.size
 have hB2:Below w.heap.size w w2:=hB1.trans (hb2.mono (by omega))
 have hbx1:Boxed w1 w.heap.size 28 (.slice (some ⟨b0,f0,none⟩) n c):=(hb1.block _ (by omega)).trans hbx
 have hbx2:Boxed w2 w.heap.size 28 (.slice (some ⟨b0,f0,none⟩) n c):=(hb2.block _ (by omega)).trans hbx1
 have hr2:ReadsO w2 w.heap.size (.slice (some ⟨b0,f0,none⟩) n c) xs:=HR.out.below hB2 (Nat.le_refl _)
 have hf2:w2.cell? ⟨b0,f0,none⟩=some (.string a):=((hB2.cell (p:=⟨b0,f0,none⟩) hb0).trans (hB0.cell (p:=⟨b0,f0,none⟩) hb0).symm).trans hf1
 have hbc:=hbx2.cell
 have HQ:Hid (listT nNotdir a.data.toList (xs.getD 1 ⟨#[]⟩).data.toList t.data.toList=neT (ws.map notdirOf)):=by
  show _=_
  rw [HWS.out]
  rfl
 have hOf:OfS 216 #[] (fun x=>txt (notdirOf x.data.toList)) w2.heap.size (ws.map txt) w2:=fun x hx U _=>by
  obtain ⟨y,hy,rfl⟩:=List.mem_map.1 hx
  exact notdir_any (txt y) (by rw [txt_size];have:=(HT.out y hy).2;omega) U
 go_wp2_with fail
 refine (each_told _ lv 216 #[] _ (ws.map txt) w2 hT2 (enters_of Tryz.func216 (by kernel_rfl) rfl) hOf).mono ?_
 rintro e w3 ⟨l3,rfl,hT3,hb3⟩
 have hB3:Below w.heap.size w w3:=hB2.trans (hb3.mono (by omega))
 have hM:(ws.map txt).map (fun x:ByteArray=>txt (notdirOf x.data.toList))=(ws.map notdirOf).map txt:=by
  rw [List.map_map,List.map_map]
  exact List.map_congr_left fun y _=>by simp only [Function.comp,txt_data]
 rw [hM] at hT3
 have hOk:OfK 217 #[] isWord w3.heap.size ((ws.map notdirOf).map txt) w3:=fun x _ U _=>hasByte_any x U
 go_wp2_with fail
 refine (only_told _ l3 217 #[] isWord _ w3 hT3 (enters_of Tryz.func217 (by kernel_rfl) rfl) hOk).mono ?_
 rintro e w4 ⟨l4,rfl,hT4,hb4⟩
 have hB4:Below w.heap.size w w4:=hB3.trans (hb4.mono (by have:=hb3.size;omega))
 rw [ne_filter] at hT4
 go_wp2_with fail
 go_ret
 exact ⟨_,_,rfl,by rw [HQ.out];exact hT4,hB4⟩
set_option maxRecDepth 100000 in
set_option maxHeartbeats 4000000 in
theorem list_suffix (s:ByteArray) (hs:s.data.toList=nSuffix) (o:Option Addr) (n c:Nat) (xs:List ByteArray) (hn:1≤n) (hnb:n≤1000000) (hxl:n=xs.length) (hz:∀ y∈xs,y.size≤1000000) (w:World) (hr:ReadsO w w.heap.size (.slice o n c) xs) :
  Calls Tryz.prog 201 #[.string s,.slice o n c] w (ListPost w (listT nSuffix (xs.getD 0 ⟨#[]⟩).data.toList (xs.getD 1 ⟨#[]⟩).data.toList (xs.getD (n - 1) ⟨#[]⟩).data.toList)):=by
 have hgz:∀ k,(xs.getD k ⟨#[]⟩).size≤1000000:=fun k=>by
  unfold List.getD
  cases hk:xs[k]? with
  | none=>exact Nat.zero_le _
  | some y=>exact hz y (List.mem_of_getElem? hk)
 obtain ⟨-,b0,f0,rfl,hnc,hlast⟩:=arg_cell hr (n - 1) (by omega)
 have hfirst:=(arg_cell hr 0 (by omega)).2
 obtain ⟨_,_,e0,-,hfirst⟩:=hfirst
 cases e0
 rw [Nat.add_zero] at hfirst
 have hb0:b0 < w.heap.size:=by
  obtain ⟨o',c',hv,hx⟩:=hr
  cases hv
  obtain ⟨b',f',ho,hlt,_,_⟩:=hx 0 xs[0] (List.getElem?_eq_getElem (by omega))
  cases ho
  exact hlt
 obtain ⟨t,ht⟩:∃ t,t=xs.getD (n - 1) ⟨#[]⟩:=⟨_,rfl⟩
 obtain ⟨a,ha⟩:∃ a,a=xs.getD 0 ⟨#[]⟩:=⟨_,rfl⟩
 have htz:t.size≤1000000:=by rw [ht];exact hgz (n - 1)
 have haz:a.size≤1000000:=by rw [ha];exact hgz 0
 rw [← ht] at hlast ⊢
 rw [← ha] at hfirst ⊢
 have hB0:Below w.heap.size w (w.alloc (.cells #[.slice (some ⟨b0,f0,none⟩) n c] 28)):=(Below.refl _ w).alloc (Nat.le_refl _) _
 have hbx:=Boxed.new w 28 (.slice (some ⟨b0,f0,none⟩) n c)
 have hr0:=hr.below hB0 (B':=w.heap.size+1) (by omega)
 have hs0:(w.alloc (.cells #[.slice (some ⟨b0,f0,none⟩) n c] 28)).heap.size=w.heap.size+1:=by simp
 have hl1:(w.alloc (.cells #[.slice (some ⟨b0,f0,none⟩) n c] 28)).cell? ⟨b0,f0+(n - 1),none⟩=some (.string t):=(hB0.cell (p:=⟨b0,f0+(n - 1),none⟩) hb0).trans hlast
 have hf1:(w.alloc (.cells #[.slice (some ⟨b0,f0,none⟩) n c] 28)).cell? ⟨b0,f0,none⟩=some (.string a):=(hB0.cell (p:=⟨b0,f0,none⟩) hb0).trans hfirst
 have HW:=Lib.hid (words_own t (by omega))
 have HR:=Lib.hid hr
 have HZ:=Lib.hid hz
 have HT:Hid (∀ x∈wordsT t.data.toList,WordB x∧x.length≤1000000):=fun x hx=>by
  have:=words_memT hx
  rw [size_list] at this
  exact ⟨this.1,by omega⟩
 have hwl:=words_few t.data.toList
 rw [size_list] at hwl
 have HLt:=Lib.hid (And.intro ht ha)
 have HXL:=Lib.hid hxl
 obtain ⟨ws,hws⟩:∃ ws,ws=wordsT t.data.toList:=⟨_,rfl⟩
 have HWS:=Lib.hid hws
 rw [← hws] at HW HT hwl
 have q0:(s.toList == [112,97,116,115,117,98,115,116])=false:=by rw [Lib.toList_data,hs];decide
 have q1:(s.toList == [102,105,108,116,101,114])=false:=by rw [Lib.toList_data,hs];decide
 have q2:(s.toList == [102,105,108,116,101,114,45,111,117,116])=false:=by rw [Lib.toList_data,hs];decide
 have q3:(s.toList == [115,111,114,116])=false:=by rw [Lib.toList_data,hs];decide
 have q4:(s.toList == [102,105,114,115,116,119,111,114,100])=false:=by rw [Lib.toList_data,hs];decide
 have q5:(s.toList == [108,97,115,116,119,111,114,100])=false:=by rw [Lib.toList_data,hs];decide
 have q6:(s.toList == [100,105,114])=false:=by rw [Lib.toList_data,hs];decide
 have q7:(s.toList == [110,111,116,100,105,114])=false:=by rw [Lib.toList_data,hs];decide
 have q8:(s.toList == [115,117,102,102,105,120])=true:=by rw [Lib.toList_data,hs];decide
 clear hs hr hz hlast hfirst ht ha hgz hws hxl
 go_enter Tryz.func201,Tryz.ntmps201
 go_wp2_with fail
 generalize w.alloc (.cells #[.slice (some ⟨b0,f0,none⟩) n c] 28)=w0 at hB0 hbx hr0 hs0 hl1 hf1 ⊢
 refine (HW.out w0).mono ?_
 rintro e w1 ⟨v1,rfl,hown,hb1⟩
 have hrd:=owns_reads hown
 obtain ⟨o1,n1,c1,rfl,hn1⟩:∃ o1 n1 c1,v1=.slice o1 n1 c1∧n1=ws.length:=by
  obtain ⟨o',c',hv,_⟩:=hrd
  exact ⟨o',_,c',hv,by rw [List.length_map]⟩
 have hn1b:n1≤1000001:=by omega
 have HN1:=Lib.hid hn1
 clear hn1
 go_wp2_with fail
 refine (values_told o1 n1 c1 (ws.map txt) (by omega) w1 hrd).mono ?_
 rintro e w2 ⟨lv,rfl,hT2,hb2⟩
 have hB1:Below w.heap.size w w1:=hB0.trans (hb1.mono (by omega))
 have hz1:=hb1.size
 have hz2:=hb2.size
 have hB2:Below w.heap.size w w2:=hB1.trans (hb2.mono (by omega))
 have hbx1:Boxed w1 w.heap.size 28 (.slice (some ⟨b0,f0,none⟩) n c):=(hb1.block _ (by omega)).trans hbx
 have hbx2:Boxed w2 w.heap.size 28 (.slice (some ⟨b0,f0,none⟩) n c):=(hb2.block _ (by omega)).trans hbx1
 have hr2:ReadsO w2 w.heap.size (.slice (some ⟨b0,f0,none⟩) n c) xs:=HR.out.below hB2 (Nat.le_refl _)
 have hf2:w2.cell? ⟨b0,f0,none⟩=some (.string a):=((hB2.cell (p:=⟨b0,f0,none⟩) hb0).trans (hB0.cell (p:=⟨b0,f0,none⟩) hb0).symm).trans hf1
 have hbc:=hbx2.cell
 have HQ:Hid (listT nSuffix a.data.toList (xs.getD 1 ⟨#[]⟩).data.toList t.data.toList=neT (ws.map suffixOf)):=by
  show _=_
  rw [HWS.out]
  rfl
 have hOf:OfS 218 #[] (fun x=>txt (suffixOf x.data.toList)) w2.heap.size (ws.map txt) w2:=fun x hx U _=>by
  obtain ⟨y,hy,rfl⟩:=List.mem_map.1 hx
  exact suffix_any (txt y) (by rw [txt_size];have:=(HT.out y hy).2;omega) U
 go_wp2_with fail
 refine (each_told _ lv 218 #[] _ (ws.map txt) w2 hT2 (enters_of Tryz.func218 (by kernel_rfl) rfl) hOf).mono ?_
 rintro e w3 ⟨l3,rfl,hT3,hb3⟩
 have hB3:Below w.heap.size w w3:=hB2.trans (hb3.mono (by omega))
 have hM:(ws.map txt).map (fun x:ByteArray=>txt (suffixOf x.data.toList))=(ws.map suffixOf).map txt:=by
  rw [List.map_map,List.map_map]
  exact List.map_congr_left fun y _=>by simp only [Function.comp,txt_data]
 rw [hM] at hT3
 have hOk:OfK 217 #[] isWord w3.heap.size ((ws.map suffixOf).map txt) w3:=fun x _ U _=>hasByte_any x U
 go_wp2_with fail
 refine (only_told _ l3 217 #[] isWord _ w3 hT3 (enters_of Tryz.func217 (by kernel_rfl) rfl) hOk).mono ?_
 rintro e w4 ⟨l4,rfl,hT4,hb4⟩
 have hB4:Below w.heap.size w w4:=hB3.trans (hb4.mono (by have:=hb3.size;omega))
 rw [ne_filter] at hT4
 go_wp2_with fail
 go_ret
 exact ⟨_,_,rfl,by rw [HQ.out];exact hT4,hB4⟩
set_option maxRecDepth 100000 in
set_option maxHeartbeats 4000000 in
theorem list_basename (s:ByteArray) (hs:s.data.toList=nBasename) (o:Option Addr) (n c:Nat) (xs:List ByteArray) (hn:1≤n) (hnb:n≤1000000) (hxl:n=xs.length) (hz:∀ y∈xs,y.size≤1000000) (w:World) (hr:ReadsO w w.heap.size (.slice o n c) xs) :
  Calls Tryz.prog 201 #[.string s,.slice o n c] w (ListPost w (listT nBasename (xs.getD 0 ⟨#[]⟩).data.toList (xs.getD 1 ⟨#[]⟩).data.toList (xs.getD (n - 1) ⟨#[]⟩).data.toList)):=by
 have hgz:∀ k,(xs.getD k ⟨#[]⟩).size≤1000000:=fun k=>by
  unfold List.getD
  cases hk:xs[k]? with
  | none=>exact Nat.zero_le _
  | some y=>exact hz y (List.mem_of_getElem? hk)
 obtain ⟨-,b0,f0,rfl,hnc,hlast⟩:=arg_cell hr (n - 1) (by omega)
 have hfirst:=(arg_cell hr 0 (by omega)).2
 obtain ⟨_,_,e0,-,hfirst⟩:=hfirst
 cases e0
 rw [Nat.add_zero] at hfirst
 have hb0:b0 < w.heap.size:=by
  obtain ⟨o',c',hv,hx⟩:=hr
  cases hv
  obtain ⟨b',f',ho,hlt,_,_⟩:=hx 0 xs[0] (List.getElem?_eq_getElem (by omega))
  cases ho
  exact hlt
 obtain ⟨t,ht⟩:∃ t,t=xs.getD (n - 1) ⟨#[]⟩:=⟨_,rfl⟩
 obtain ⟨a,ha⟩:∃ a,a=xs.getD 0 ⟨#[]⟩:=⟨_,rfl⟩
 have htz:t.size≤1000000:=by rw [ht];exact hgz (n - 1)
 have haz:a.size≤1000000:=by rw [ha];exact hgz 0
 rw [← ht] at hlast ⊢
 rw [← ha] at hfirst ⊢
 have hB0:Below w.heap.size w (w.alloc (.cells #[.slice (some ⟨b0,f0,none⟩) n c] 28)):=(Below.refl _ w).alloc (Nat.le_refl _) _
 have hbx:=Boxed.new w 28 (.slice (some ⟨b0,f0,none⟩) n c)
 have hr0:=hr.below hB0 (B':=w.heap.size+1) (by omega)
 have hs0:(w.alloc (.cells #[.slice (some ⟨b0,f0,none⟩) n c] 28)).heap.size=w.heap.size+1:=by simp
 have hl1:(w.alloc (.cells #[.slice (some ⟨b0,f0,none⟩) n c] 28)).cell? ⟨b0,f0+(n - 1),none⟩=some (.string t):=(hB0.cell (p:=⟨b0,f0+(n - 1),none⟩) hb0).trans hlast
 have hf1:(w.alloc (.cells #[.slice (some ⟨b0,f0,none⟩) n c] 28)).cell? ⟨b0,f0,none⟩=some (.string a):=(hB0.cell (p:=⟨b0,f0,none⟩) hb0).trans hfirst
 have HW:=Lib.hid (words_own t (by omega))
 have HR:=Lib.hid hr
 have HZ:=Lib.hid hz
 have HT:Hid (∀ x∈wordsT t.data.toList,WordB x∧x.length≤1000000):=fun x hx=>by
  have:=words_memT hx
  rw [size_list] at this
  exact ⟨this.1,by omega⟩
 have hwl:=words_few t.data.toList
 rw [size_list] at hwl
 have HLt:=Lib.hid (And.intro ht ha)
 have HXL:=Lib.hid hxl
 obtain ⟨ws,hws⟩:∃ ws,ws=wordsT t.data.toList:=⟨_,rfl⟩
 have HWS:=Lib.hid hws
 rw [← hws] at HW HT hwl
 have q0:(s.toList == [112,97,116,115,117,98,115,116])=false:=by rw [Lib.toList_data,hs];decide
 have q1:(s.toList == [102,105,108,116,101,114])=false:=by rw [Lib.toList_data,hs];decide
 have q2:(s.toList == [102,105,108,116,101,114,45,111,117,116])=false:=by rw [Lib.toList_data,hs];decide
 have q3:(s.toList == [115,111,114,116])=false:=by rw [Lib.toList_data,hs];decide
 have q4:(s.toList == [102,105,114,115,116,119,111,114,100])=false:=by rw [Lib.toList_data,hs];decide
 have q5:(s.toList == [108,97,115,116,119,111,114,100])=false:=by rw [Lib.toList_data,hs];decide
 have q6:(s.toList == [100,105,114])=false:=by rw [Lib.toList_data,hs];decide
 have q7:(s.toList == [110,111,116,100,105,114])=false:=by rw [Lib.toList_data,hs];decide
 have q8:(s.toList == [115,117,102,102,105,120])=false:=by rw [Lib.toList_data,hs];decide
 have q9:(s.toList == [98,97,115,101,110,97,109,101])=true:=by rw [Lib.toList_data,hs];decide
 clear hs hr hz hlast hfirst ht ha hgz hws hxl
 go_enter Tryz.func201,Tryz.ntmps201
 go_wp2_with fail
 generalize w.alloc (.cells #[.slice (some ⟨b0,f0,none⟩) n c] 28)=w0 at hB0 hbx hr0 hs0 hl1 hf1 ⊢
 refine (HW.out w0).mono ?_
 rintro e w1 ⟨v1,rfl,hown,hb1⟩
 have hrd:=owns_reads hown
 obtain ⟨o1,n1,c1,rfl,hn1⟩:∃ o1 n1 c1,v1=.slice o1 n1 c1∧n1=ws.length:=by
  obtain ⟨o',c',hv,_⟩:=hrd
  exact ⟨o',_,c',hv,by rw [List.length_map]⟩
 have hn1b:n1≤1000001:=by omega
 have HN1:=Lib.hid hn1
 clear hn1
 go_wp2_with fail
 refine (values_told o1 n1 c1 (ws.map txt) (by omega) w1 hrd).mono ?_
 rintro e w2 ⟨lv,rfl,hT2,hb2⟩
 have hB1:Below w.heap.size w w1:=hB0.trans (hb1.mono (by omega))
 have hz1:=hb1.size
 have hz2:=hb2.size
 have hB2:Below w.heap.size w w2:=hB1.trans (hb2.mono (by omega))
 have hbx1:Boxed w1 w.heap.size 28 (.slice (some ⟨b0,f0,none⟩) n c):=(hb1.block _ (by omega)).trans hbx
 have hbx2:Boxed w2 w.heap.size 28 (.slice (some ⟨b0,f0,none⟩) n c):=(hb2.block _ (by omega)).trans hbx1
 have hr2:ReadsO w2 w.heap.size (.slice (some ⟨b0,f0,none⟩) n c) xs:=HR.out.below hB2 (Nat.le_refl _)
 have hf2:w2.cell? ⟨b0,f0,none⟩=some (.string a):=((hB2.cell (p:=⟨b0,f0,none⟩) hb0).trans (hB0.cell (p:=⟨b0,f0,none⟩) hb0).symm).trans hf1
 have hbc:=hbx2.cell
 have HQ:Hid (listT nBasename a.data.toList (xs.getD 1 ⟨#[]⟩).data.toList t.data.toList=neT (ws.map baseOf)):=by
  show _=_
  rw [HWS.out]
  rfl
 have hOf:OfS 219 #[] (fun x=>txt (baseOf x.data.toList)) w2.heap.size (ws.map txt) w2:=fun x hx U _=>by
  obtain ⟨y,hy,rfl⟩:=List.mem_map.1 hx
  exact basename_any (txt y) (by rw [txt_size];have:=(HT.out y hy).2;omega) U
 go_wp2_with fail
 refine (each_told _ lv 219 #[] _ (ws.map txt) w2 hT2 (enters_of Tryz.func219 (by kernel_rfl) rfl) hOf).mono ?_
 rintro e w3 ⟨l3,rfl,hT3,hb3⟩
 have hB3:Below w.heap.size w w3:=hB2.trans (hb3.mono (by omega))
 have hM:(ws.map txt).map (fun x:ByteArray=>txt (baseOf x.data.toList))=(ws.map baseOf).map txt:=by
  rw [List.map_map,List.map_map]
  exact List.map_congr_left fun y _=>by simp only [Function.comp,txt_data]
 rw [hM] at hT3
 have hOk:OfK 217 #[] isWord w3.heap.size ((ws.map baseOf).map txt) w3:=fun x _ U _=>hasByte_any x U
 go_wp2_with fail
 refine (only_told _ l3 217 #[] isWord _ w3 hT3 (enters_of Tryz.func217 (by kernel_rfl) rfl) hOk).mono ?_
 rintro e w4 ⟨l4,rfl,hT4,hb4⟩
 have hB4:Below w.heap.size w w4:=hB3.trans (hb4.mono (by have:=hb3.size;omega))
 rw [ne_filter] at hT4
 go_wp2_with fail
 go_ret
 exact ⟨_,_,rfl,by rw [HQ.out];exact hT4,hB4⟩
end Go.Proofs.YtmfjolmfbdbegaaGreatDoor

namespace Go.Proofs.YtmfjolmfbdbegaaGreatDoor
open Go.RowKit Go.Shelf Go.Sort
set_option maxRecDepth 100000 in
set_option maxHeartbeats 4000000 in
theorem list_firstword (s:ByteArray) (hs:s.data.toList=nFirstword) (o:Option Addr) (n c:Nat) (xs:List ByteArray) (hn:1≤n) (hnb:n≤1000000) (hxl:n=xs.length) (hz:∀ y∈xs,y.size≤1000000) (w:World) (hr:ReadsO w w.heap.size (.slice o n c) xs) :
  Calls Tryz.prog 201 #[.string s,.slice o n c] w (ListPost w (listT nFirstword (xs.getD 0 ⟨#[]⟩).data.toList (xs.getD 1 ⟨#[]⟩).data.toList (xs.getD (n - 1) ⟨#[]⟩).data.toList)):=by
 have hgz:∀ k,(xs.getD k ⟨#[]⟩).size≤1000000:=fun k=>by
  unfold List.getD
  cases hk:xs[k]? with
  | none=>exact Nat.zero_le _
  | some y=>exact hz y (List.mem_of_getElem? hk)
 obtain ⟨-,b0,f0,rfl,hnc,hlast⟩:=arg_cell hr (n - 1) (by omega)
 have hfirst:=(arg_cell hr 0 (by omega)).2
 obtain ⟨_,_,e0,-,hfirst⟩:=hfirst
 cases e0
 rw [Nat.add_zero] at hfirst
 have hb0:b0 < w.heap.size:=by
  obtain ⟨o',c',hv,hx⟩:=hr
  cases hv
  obtain ⟨b',f',ho,hlt,_,_⟩:=hx 0 xs[0] (List.getElem?_eq_getElem (by omega))
  cases ho
  exact hlt
 obtain ⟨t,ht⟩:∃ t,t=xs.getD (n - 1) ⟨#[]⟩:=⟨_,rfl⟩
 obtain ⟨a,ha⟩:∃ a,a=xs.getD 0 ⟨#[]⟩:=⟨_,rfl⟩
 have htz:t.size≤1000000:=by rw [ht];exact hgz (n - 1)
 have haz:a.size≤1000000:=by rw [ha];exact hgz 0
 rw [← ht] at hlast ⊢
 rw [← ha] at hfirst ⊢
 have hB0:Below w.heap.size w (w.alloc (.cells #[.slice (some ⟨b0,f0,none⟩) n c] 28)):=(Below.refl _ w).alloc (Nat.le_refl _) _
 have hbx:=Boxed.new w 28 (.slice (some ⟨b0,f0,none⟩) n c)
 have hr0:=hr.below hB0 (B':=w.heap.size+1) (by omega)
 have hs0:(w.alloc (.cells #[.slice (some ⟨b0,f0,none⟩) n c] 28)).heap.size=w.heap.size+1:=by simp
 have hl1:(w.alloc (.cells #[.slice (some ⟨b0,f0,none⟩) n c] 28)).cell? ⟨b0,f0+(n - 1),none⟩=some (.string t):=(hB0.cell (p:=⟨b0,f0+(n - 1),none⟩) hb0).trans hlast
 have hf1:(w.alloc (.cells #[.slice (some ⟨b0,f0,none⟩) n c] 28)).cell? ⟨b0,f0,none⟩=some (.string a):=(hB0.cell (p:=⟨b0,f0,none⟩) hb0).trans hfirst
 have HW:=Lib.hid (words_own t (by omega))
 have HR:=Lib.hid hr
 have HZ:=Lib.hid hz
 have HT:Hid (∀ x∈wordsT t.data.toList,WordB x∧x.length≤1000000):=fun x hx=>by
  have:=words_memT hx
  rw [size_list] at this
  exact ⟨this.1,by omega⟩
 have hwl:=words_few t.data.toList
 rw [size_list] at hwl
 have HLt:=Lib.hid (And.intro ht ha)
 have HXL:=Lib.hid hxl
 obtain ⟨ws,hws⟩:∃ ws,ws=wordsT t.data.toList:=⟨_,rfl⟩
 have HWS:=Lib.hid hws
 rw [← hws] at HW HT hwl
 have q0:(s.toList == [112,97,116,115,117,98,115,116])=false:=by rw [Lib.toList_data,hs];decide
 have q1:(s.toList == [102,105,108,116,101,114])=false:=by rw [Lib.toList_data,hs];decide
 have q2:(s.toList == [102,105,108,116,101,114,45,111,117,116])=false:=by rw [Lib.toList_data,hs];decide
 have q3:(s.toList == [115,111,114,116])=false:=by rw [Lib.toList_data,hs];decide
 have q4:(s.toList == [102,105,114,115,116,119,111,114,100])=true:=by rw [Lib.toList_data,hs];decide
 clear hs hr hz hlast hfirst ht ha hgz hws hxl
 go_enter Tryz.func201,Tryz.ntmps201
 go_wp2_with fail
 generalize w.alloc (.cells #[.slice (some ⟨b0,f0,none⟩) n c] 28)=w0 at hB0 hbx hr0 hs0 hl1 hf1 ⊢
 refine (HW.out w0).mono ?_
 rintro e w1 ⟨v1,rfl,hown,hb1⟩
 have hrd:=owns_reads hown
 obtain ⟨o1,n1,c1,rfl,hn1⟩:∃ o1 n1 c1,v1=.slice o1 n1 c1∧n1=ws.length:=by
  obtain ⟨o',c',hv,_⟩:=hrd
  exact ⟨o',_,c',hv,by rw [List.length_map]⟩
 have hn1b:n1≤1000001:=by omega
 have HN1:=Lib.hid hn1
 clear hn1
 go_wp2_with fail
 refine (values_told o1 n1 c1 (ws.map txt) (by omega) w1 hrd).mono ?_
 rintro e w2 ⟨lv,rfl,hT2,hb2⟩
 have hB1:Below w.heap.size w w1:=hB0.trans (hb1.mono (by omega))
 have hz1:=hb1.size
 have hz2:=hb2.size
 have hB2:Below w.heap.size w w2:=hB1.trans (hb2.mono (by omega))
 have hbx1:Boxed w1 w.heap.size 28 (.slice (some ⟨b0,f0,none⟩) n c):=(hb1.block _ (by omega)).trans hbx
 have hbx2:Boxed w2 w.heap.size 28 (.slice (some ⟨b0,f0,none⟩) n c):=(hb2.block _ (by omega)).trans hbx1
 have hr2:ReadsO w2 w.heap.size (.slice (some ⟨b0,f0,none⟩) n c) xs:=HR.out.below hB2 (Nat.le_refl _)
 have hf2:w2.cell? ⟨b0,f0,none⟩=some (.string a):=((hB2.cell (p:=⟨b0,f0,none⟩) hb0).trans (hB0.cell (p:=⟨b0,f0,none⟩) hb0).symm).trans hf1
 have hbc:=hbx2.cell
 have HQ:Hid (listT nFirstword a.data.toList (xs.getD 1 ⟨#[]⟩).data.toList t.data.toList=ws.take 1):=by
  show _=_
  rw [HWS.out]
  rfl
 have hcap:=owns_cap hown
 obtain ⟨k,hk,hkn⟩:∃ k:Nat,min (n1:Int) 1=(k:Int)∧k=min n1 1:=⟨min n1 1,by omega,rfl⟩
 have hkle:k≤n1:=by omega
 have hkc:k≤c1:=by omega
 have HKN:=Lib.hid hkn
 clear hkn
 have hrs:=reads_front (hrd.below hb2 hz2) k hkle
 have hE:ws.take k=ws.take 1:=by
  rw [HKN.out,HN1.out]
  by_cases h:ws.length≤1
  ·rw [List.take_of_length_le (by omega),List.take_of_length_le h]
  ·rw [Nat.min_eq_right (by omega)]
 rw [hE] at hrs
 clear hE
 go_wp2_with fail
 refine (values_told o1 k c1 _ (by omega) w2 hrs).mono ?_
 rintro e w3 ⟨l3,rfl,hT3,hb3⟩
 have hB3:Below w.heap.size w w3:=hB2.trans (hb3.mono (by omega))
 go_wp2_with fail
 go_ret
 exact ⟨_,_,rfl,by rw [HQ.out];exact hT3,hB3⟩
set_option maxRecDepth 100000 in
set_option maxHeartbeats 4000000 in
theorem list_lastword (s:ByteArray) (hs:s.data.toList=nLastword) (o:Option Addr) (n c:Nat) (xs:List ByteArray) (hn:1≤n) (hnb:n≤1000000) (hxl:n=xs.length) (hz:∀ y∈xs,y.size≤1000000) (w:World) (hr:ReadsO w w.heap.size (.slice o n c) xs) :
  Calls Tryz.prog 201 #[.string s,.slice o n c] w (ListPost w (listT nLastword (xs.getD 0 ⟨#[]⟩).data.toList (xs.getD 1 ⟨#[]⟩).data.toList (xs.getD (n - 1) ⟨#[]⟩).data.toList)):=by
 have hgz:∀ k,(xs.getD k ⟨#[]⟩).size≤1000000:=fun k=>by
  unfold List.getD
  cases hk:xs[k]? with
  | none=>exact Nat.zero_le _
  | some y=>exact hz y (List.mem_of_getElem? hk)
 obtain ⟨-,b0,f0,rfl,hnc,hlast⟩:=arg_cell hr (n - 1) (by omega)
 have hfirst:=(arg_cell hr 0 (by omega)).2
 obtain ⟨_,_,e0,-,hfirst⟩:=hfirst
 cases e0
 rw [Nat.add_zero] at hfirst
 have hb0:b0 < w.heap.size:=by
  obtain ⟨o',c',hv,hx⟩:=hr
  cases hv
  obtain ⟨b',f',ho,hlt,_,_⟩:=hx 0 xs[0] (List.getElem?_eq_getElem (by omega))
  cases ho
  exact hlt
 obtain ⟨t,ht⟩:∃ t,t=xs.getD (n - 1) ⟨#[]⟩:=⟨_,rfl⟩
 obtain ⟨a,ha⟩:∃ a,a=xs.getD 0 ⟨#[]⟩:=⟨_,rfl⟩
 have htz:t.size≤1000000:=by rw [ht];exact hgz (n - 1)
 have haz:a.size≤1000000:=by rw [ha];exact hgz 0
 rw [← ht] at hlast ⊢
 rw [← ha] at hfirst ⊢
 have hB0:Below w.heap.size w (w.alloc (.cells #[.slice (some ⟨b0,f0,none⟩) n c] 28)):=(Below.refl _ w).alloc (Nat.le_refl _) _
 have hbx:=Boxed.new w 28 (.slice (some ⟨b0,f0,none⟩) n c)
 have hr0:=hr.below hB0 (B':=w.heap.size+1) (by omega)
 have hs0:(w.alloc (.cells #[.slice (some ⟨b0,f0,none⟩) n c] 28)).heap.size=w.heap.size+1:=by simp
 have hl1:(w.alloc (.cells #[.slice (some ⟨b0,f0,none⟩) n c] 28)).cell? ⟨b0,f0+(n - 1),none⟩=some (.string t):=(hB0.cell (p:=⟨b0,f0+(n - 1),none⟩) hb0).trans hlast
 have hf1:(w.alloc (.cells #[.slice (some ⟨b0,f0,none⟩) n c] 28)).cell? ⟨b0,f0,none⟩=some (.string a):=(hB0.cell (p:=⟨b0,f0,none⟩) hb0).trans hfirst
 have HW:=Lib.hid (words_own t (by omega))
 have HR:=Lib.hid hr
 have HZ:=Lib.hid hz
 have HT:Hid (∀ x∈wordsT t.data.toList,WordB x∧x.length≤1000000):=fun x hx=>by
  have:=words_memT hx
  rw [size_list] at this
  exact ⟨this.1,by omega⟩
 have hwl:=words_few t.data.toList
 rw [size_list] at hwl
 have HLt:=Lib.hid (And.intro ht ha)
 have HXL:=Lib.hid hxl
 obtain ⟨ws,hws⟩:∃ ws,ws=wordsT t.data.toList:=⟨_,rfl⟩
 have HWS:=Lib.hid hws
 rw [← hws] at HW HT hwl
 have q0:(s.toList == [112,97,116,115,117,98,115,116])=false:=by rw [Lib.toList_data,hs];decide
 have q1:(s.toList == [102,105,108,116,101,114])=false:=by rw [Lib.toList_data,hs];decide
 have q2:(s.toList == [102,105,108,116,101,114,45,111,117,116])=false:=by rw [Lib.toList_data,hs];decide
 have q3:(s.toList == [115,111,114,116])=false:=by rw [Lib.toList_data,hs];decide
 have q4:(s.toList == [102,105,114,115,116,119,111,114,100])=false:=by rw [Lib.toList_data,hs];decide
 have q5:(s.toList == [108,97,115,116,119,111,114,100])=true:=by rw [Lib.toList_data,hs];decide
 clear hs hr hz hlast hfirst ht ha hgz hws hxl
 go_enter Tryz.func201,Tryz.ntmps201
 go_wp2_with fail
 generalize w.alloc (.cells #[.slice (some ⟨b0,f0,none⟩) n c] 28)=w0 at hB0 hbx hr0 hs0 hl1 hf1 ⊢
 refine (HW.out w0).mono ?_
 rintro e w1 ⟨v1,rfl,hown,hb1⟩
 have hrd:=owns_reads hown
 obtain ⟨o1,n1,c1,rfl,hn1⟩:∃ o1 n1 c1,v1=.slice o1 n1 c1∧n1=ws.length:=by
  obtain ⟨o',c',hv,_⟩:=hrd
  exact ⟨o',_,c',hv,by rw [List.length_map]⟩
 have hn1b:n1≤1000001:=by omega
 have HN1:=Lib.hid hn1
 clear hn1
 go_wp2_with fail
 refine (values_told o1 n1 c1 (ws.map txt) (by omega) w1 hrd).mono ?_
 rintro e w2 ⟨lv,rfl,hT2,hb2⟩
 have hB1:Below w.heap.size w w1:=hB0.trans (hb1.mono (by omega))
 have hz1:=hb1.size
 have hz2:=hb2.size
 have hB2:Below w.heap.size w w2:=hB1.trans (hb2.mono (by omega))
 have hbx1:Boxed w1 w.heap.size 28 (.slice (some ⟨b0,f0,none⟩) n c):=(hb1.block _ (by omega)).trans hbx
 have hbx2:Boxed w2 w.heap.size 28 (.slice (some ⟨b0,f0,none⟩) n c):=(hb2.block _ (by omega)).trans hbx1
 have hr2:ReadsO w2 w.heap.size (.slice (some ⟨b0,f0,none⟩) n c) xs:=HR.out.below hB2 (Nat.le_refl _)
 have hf2:w2.cell? ⟨b0,f0,none⟩=some (.string a):=((hB2.cell (p:=⟨b0,f0,none⟩) hb0).trans (hB0.cell (p:=⟨b0,f0,none⟩) hb0).symm).trans hf1
 have hbc:=hbx2.cell
 have HQ:Hid (listT nLastword a.data.toList (xs.getD 1 ⟨#[]⟩).data.toList t.data.toList=ws.drop (ws.length - 1)):=by
  show _=_
  rw [HWS.out]
  rfl
 have hcap:=owns_cap hown
 obtain ⟨k,hk,hkn⟩:∃ k:Nat,max ((n1:Int) - 1) 0=(k:Int)∧k=n1 - 1:=⟨n1 - 1,by omega,rfl⟩
 have hkle:k≤n1:=by omega
 have hkc:k≤c1:=by omega
 have HKN:=Lib.hid hkn
 clear hkn
 have hrs:=reads_part (hrd.below hb2 hz2) k n1 hkle (Nat.le_refl _)
 have hE:(ws.take n1).drop k=ws.drop (ws.length - 1):=by
  rw [HKN.out,HN1.out,List.take_length]
 rw [hE] at hrs
 clear hE
 by_cases hn0:1≤n1
 ·have hck:k < c1:=by have:=HKN.out;omega
  have hck2:¬ c1=k:=by omega
  go_wp2_with fail
  refine (values_told _ _ _ _ (by omega) w2 hrs).mono ?_
  rintro e w3 ⟨l3,rfl,hT3,hb3⟩
  have hB3:Below w.heap.size w w3:=hB2.trans (hb3.mono (by omega))
  go_wp2_with fail
  go_ret
  exact ⟨_,_,rfl,by rw [HQ.out];exact hT3,hB3⟩
 ·have hws0:ws.drop (ws.length - 1)=[]:=by
   have h1:=HN1.out
   have h2:ws=[]:=List.eq_nil_of_length_eq_zero (by omega)
   rw [h2];rfl
  rw [hws0] at HQ
  have hk0:k=0:=by omega
  have hn0':n1=0:=by omega
  subst hk0
  subst hn0'
  have hE0:∀ (o':Option Addr) (c':Nat),ReadsO w2 w2.heap.size (.slice o' 0 c') (([]:List BT).map txt):=fun o' c'=>⟨o',c',rfl,by simp⟩
  clear hws0 hrs hn0
  by_cases hc0:c1=0
  ·subst hc0
   go_wp2_with fail
   refine (values_told _ _ _ _ (by omega) w2 (hE0 _ _)).mono ?_
   rintro e w3 ⟨l3,rfl,hT3,hb3⟩
   have hB3:Below w.heap.size w w3:=hB2.trans (hb3.mono (by omega))
   go_wp2_with fail
   go_ret
   exact ⟨_,_,rfl,by rw [HQ.out];exact hT3,hB3⟩
  ·go_wp2_with fail
   refine (values_told _ _ _ _ (by omega) w2 (hE0 _ _)).mono ?_
   rintro e w3 ⟨l3,rfl,hT3,hb3⟩
   have hB3:Below w.heap.size w w3:=hB2.trans (hb3.mono (by omega))
   go_wp2_with fail
   go_ret
   exact ⟨_,_,rfl,by rw [HQ.out];exact hT3,hB3⟩
end Go.Proofs.YtmfjolmfbdbegaaGreatDoor
