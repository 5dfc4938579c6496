/-
  EvalPhony, walked: what is named to be phony is, by bytes, each once, wherever it is named; nothing else is. No condition.
-/
import Derived.Test.YtmfjolmfbdbegaaGreatDoorY8
namespace Go.Proofs.YtmfjolmfbdbegaaGreatDoor
open Go.RowKit Go.Shelf Go.Maps
attribute [local go_sem] Oper.semAt_some
theorem texts_of:∀ xs:List ByteArray,∃ ts:List BT,xs=ts.map txt
 | []=>⟨[],rfl⟩
 | x :: r=>by
  obtain ⟨ts,hts⟩:=texts_of r
  exact ⟨x.data.toList :: ts,by rw [List.map_cons,txt_toList,← hts]⟩
theorem bytesLess_lt12:∀ a b:BT,Op.bytesLess a b=decide (a < b)
 | [],[]=>by simp [Op.bytesLess]
 | [],_ :: _=>by simp [Op.bytesLess]
 | _ :: _,[]=>by simp [Op.bytesLess]
 | a :: r,b :: s=>by
  rw [Op.bytesLess,bytesLess_lt12 r s,Bool.eq_iff_iff]
  simp [List.cons_lt_cons_iff]
theorem less_no12 {a b:BT} (h:b < a):Op.bytesLess (txt a).toList (txt b).toList=false:=by
 rw [bytesLess_lt12,txt_toL,txt_toL]
 exact decide_eq_false fun h'=>bt_irrefl a (bt_trans h' h)
theorem ne_no12 {a b:BT} (h:a≠b):((txt a).toList == (txt b).toList)=false:=by rw [txt_toL,txt_toL,beq_eq_false_iff_ne];exact h
theorem asc_get12 {l:List BT} (h:Asc l) {k:Nat} {x y:BT} (h0:0 < k) (hx:l[k - 1]? = some x) (hy:l[k]? = some y):x < y:=by
 obtain ⟨h1,rfl⟩:=List.getElem?_eq_some_iff.1 hx
 obtain ⟨h2,rfl⟩:=List.getElem?_eq_some_iff.1 hy
 exact List.pairwise_iff_getElem.1 h (k - 1) k h1 h2 (by omega)
theorem ended_snoc (L:List BS) (a:BS):ended (L++[a])=ended L++(a++[10]):=by
 unfold ended
 rw [List.map_append,List.flatten_append]
 simp
theorem phony_snoc (ws:List BT) (x:BT):txt (phonyText (ws++[x]))=((txt (phonyText ws)++⟨#[46,80,72,79,78,89,58,32]⟩)++txt x)++⟨#[10]⟩:=by
 have e1:phonyText (ws++[x])=phonyText ws++((phonyW++58 :: 32 :: x)++[10]):=by
  unfold phonyText
  rw [List.map_append,← List.cons_append]
  exact ended_snoc _ _
 have e2:(⟨#[46,80,72,79,78,89,58,32]⟩:ByteArray)=txt [46,80,72,79,78,89,58,32]:=rfl
 have e3:(⟨#[10]⟩:ByteArray)=txt [10]:=rfl
 rw [e1,e2,e3,txt_append,txt_append,txt_append]
 congr 1
 simp [phonyW]
set_option maxRecDepth 100000 in
set_option maxHeartbeats 8000000 in
theorem evalPhony_walk (v:Value) (xs:List ByteArray) (hn:xs.length≤maxLen) (hz:∀ x∈xs,x.size≤maxLen) (w:World) (hst:Std w) (h:ReadsO w w.heap.size v xs) :
  Calls Tryz.prog 7 #[v] w fun e w'=>e=.returned (.bool true)∧Below w.heap.size w w':=by
 obtain ⟨ts,rfl⟩:=texts_of xs
 obtain ⟨o,c,rfl,hx⟩:=h
 rw [List.length_map] at hn hx ⊢
 obtain ⟨n,hnn⟩:∃ n,n=ts.length:=⟨_,rfl⟩
 rw [← hnn] at hn hx ⊢
 have HX:Hid (∀ k x,ts[k]? = some x→(txt x).size≤maxLen∧∃ b f,o=some ⟨b,f,none⟩∧n≤c∧∀ W,Below w.heap.size w W→W.cell? ⟨b,f+k,none⟩=some (.string (txt x))):=fun k x hk=>by
  obtain ⟨b,f,p1,p2,p3,p4⟩:=hx k (txt x) (by rw [List.getElem?_map,hk];rfl)
  exact ⟨hz _ (List.mem_map.2 ⟨x,List.mem_of_getElem? hk,rfl⟩),b,f,p1,p3,fun W hb=>(hb.cell (p:=⟨b,f+k,none⟩) p2).trans p4⟩
 have HRd:Hid (∀ W,Below w.heap.size w W→ReadsO W W.heap.size (.slice o n c) (ts.map txt)):=fun W hb=>by
  have h0:ReadsO w w.heap.size (.slice o n c) (ts.map txt):=⟨o,c,by rw [List.length_map,hnn],by rw [List.length_map,← hnn];exact hx⟩
  exact h0.below hb hb.size
 have HN:=Lib.hid hnn
 have HSh:=Lib.hid (shown_any w hst)
 have HSt:=Lib.hid hst
 clear hx hz hnn hst
 unfold maxLen at hn
 go_enter Tryz.func7,Tryz.ntmps7
 go_wp2_with fail
 refine HSh.out.mono ?_
 rintro e w1 ⟨rfl,hb1⟩
 have HB1:=Lib.hid hb1
 clear hb1 HSh
 by_cases hbig:20 < n
 ·go_wp2_with fail
  go_ret
  exact ⟨rfl,HB1.out⟩
 have hn20:n≤20:=by omega
 go_wp2_with fail
 go_loopw [4,5,6] (fun s i _ wr=>∃ (k:Nat) (S:ByteArray),k≤n∧S.size≤7+69*k∧s=.string S∧i=.int .i64 k∧Hid (S=txt (phonyText (ts.take k)))∧Hid (Below w.heap.size w wr)∧Hid (∀ x∈ts.take k,plainT x=true∧pathB x=true)) (fun _ i _ _=>n - (intOf i).toNat)
 case atStart=>exact ⟨0,_,Nat.zero_le _,by decide,rfl,rfl,rfl,HB1.out,fun x hx=>by cases hx⟩
 case round =>
  obtain ⟨k,S,hk,hS,rfl,rfl,HS,HB,HA⟩:=hrel
  by_cases hkn:k < n
  ·obtain ⟨x,hx⟩:∃ x,ts[k]? = some x:=⟨_,List.getElem?_eq_getElem (by rw [← HN.out];exact hkn)⟩
   obtain ⟨hxs,b,f,rfl,hnc,hcell⟩:=HX.out k x hx
   have hc:=hcell wr HB.out
   have hki:(k:Int) < (n:Int):=by omega
   have HP:=Lib.hid (plain12_any (txt x) hxs wr)
   have HPa:=Lib.hid (fun W=>path_any (txt x) hxs W)
   rw [txt_data] at HP
   simp only [txt_data] at HPa
   have HX1:=Lib.hid hx
   have HCl:=Lib.hid hcell
   clear hcell hx
   cases hpl:plainT x with
   | false =>
    rw [hpl] at HP
    clear hpl HPa
    go_wp2_with fail
    with_reducible refine HP.out.mono ?_
    rintro e w' ⟨rfl,rfl⟩
    go_wp2_with fail
    go_ret
    exact ⟨rfl,HB.out⟩
   | true =>
    rw [hpl] at HP
    have HPl:=Lib.hid hpl
    clear hpl
    cases hpa:pathB x with
    | false =>
     rw [hpa] at HPa
     clear hpa
     go_wp2_with fail
     with_reducible refine HP.out.mono ?_
     rintro e w' ⟨rfl,rfl⟩
     go_wp2_with fail
     with_reducible refine (HPa.out _).mono ?_
     rintro e w' ⟨rfl,hb'⟩
     have HB2:Hid (Below w.heap.size w w'):=HB.out.trans (hb'.mono HB.out.size)
     clear hb' HP HPa
     go_wp2_with fail
     go_ret
     exact ⟨rfl,HB2.out⟩
    | true =>
     rw [hpa] at HPa
     have HT:Hid (ts.take (k+1)=ts.take k++[x]):=by
      obtain ⟨h1,h2⟩:=List.getElem?_eq_some_iff.1 HX1.out
      show _=_
      rw [List.take_succ_eq_append_getElem h1,h2]
     have HPx:=Lib.hid hpa
     have hx60:x.length≤60:=(plain_safe HPl.out).2
     clear hpa
     go_wp2_with fail
     with_reducible refine HP.out.mono ?_
     rintro e w' ⟨rfl,rfl⟩
     go_wp2_with fail
     with_reducible refine (HPa.out _).mono ?_
     rintro e w' ⟨rfl,hb'⟩
     have HB2:Hid (Below w.heap.size w w'):=HB.out.trans (hb'.mono HB.out.size)
     have hc':=HCl.out w' HB2.out
     clear hb' HP HPa
     go_wp2_with fail
     go_roundw
     case rel =>
      refine ⟨k+1,_,by omega,?_,rfl,by go_num,?_,HB2,fun y hy=>?_⟩
      ·simp only [ByteArray.size_append,txt_size]
       have:(⟨#[46,80,72,79,78,89,58,32]⟩:ByteArray).size=8:=rfl
       have:(⟨#[10]⟩:ByteArray).size=1:=rfl
       omega
      ·show _=_
       rw [HT.out,phony_snoc,HS.out]
      ·rw [HT.out] at hy
       rcases List.mem_append.1 hy with hy | hy
       ·exact HA.out y hy
       ·rw [List.mem_singleton.1 hy];exact ⟨HPl.out,HPx.out⟩
     case measure=>simp [intOf];omega
  ·have htk:ts.take k=ts:=List.take_of_length_le (by rw [← HN.out];omega)
   rw [htk] at HS HA
   have hS2:S=txt (phonyText ts):=HS.out
   have hkn2:k=n:=by omega
   have hR:=run_one wr [109] (phonyText ts) (HSt.out.below HB.out) (by decide) (by rw [hS2,txt_size] at hS;omega)
   rw [run_phony [109] ts (by rw [← HN.out];omega) (fun x hx=>by
    obtain ⟨h1,h2⟩:=HA.out x hx
    refine ⟨(plain_safe h1).1,fun e=>?_,(plain_safe h1).2,h2⟩
    rw [e] at h2
    exact absurd h2 (by decide +kernel)),← hS2] at hR
   have HR:Hid (Calls Tryz.prog 10 #[.slice (some ⟨wr.heap.size,0,none⟩) 1 1,.string ⟨#[109]⟩] (wr.alloc (.cells #[.string ⟨#[109]⟩,.string S] 37)) (RunPost (wr.alloc (.cells #[.string (txt [109]),.string S] 37)) (.ok ⟨[],[⟨[allW],false,[],[[120]],[],[]⟩],ts,[[109]],1+ts.length⟩))):=hR
   have HB2:Hid (Below w.heap.size w (wr.alloc (.cells #[.string (txt [109]),.string S] 37))):=HB.out.alloc HB.out.size _
   clear hR hS2 htk HA HS HB
   go_wp2_with fail
   refine HR.out.mono ?_
   rintro e w2 (⟨f,hf,_⟩ | ⟨st,m,hs,rfl,hrl,hI⟩)
   ·cases hf
   cases hs
   have hI0:In (wr.alloc (.cells #[.string (txt [109]),.string S] 37)) (makeOwns m ⟨[],[⟨[allW],false,[],[[120]],[],[]⟩],ts,[[109]],1+ts.length⟩++[]) w2:=by rw [List.append_nil];exact hI
   obtain ⟨⟨o1,n1,c1,s1⟩,_,_,⟨o4,n4,c4,s4⟩⟩:=hI0.shapesM
   obtain ⟨po,pc,s3⟩:=hI0.textLen (v:=m.pv) (l:=phonyOf ts) (by simp [makeOwns])
   obtain ⟨o2,c2,s2,_⟩:=hI0.rowShape (E := 41) (k:=6) (enc:=encR) (v:=m.rv) (l:=m.rules) (by simp [makeOwns]) (fun _=>rfl)
   have hl1:m.rules.length=1:=by
    have:=congrArg List.length hrl
    rw [List.length_map] at this
    exact this
   rw [hl1] at s2
   obtain ⟨ev,rv,pv,wv,rules⟩:=m
   simp only at s1 s2 s3 s4 hI0
   obtain ⟨q,hq⟩:∃ q,q=(phonyOf ts).length:=⟨_,rfl⟩
   rw [← hq] at s3
   subst s1 s2 s3 s4
   have hrd:=hI0.readsT (v:=.slice po q pc) (l:=phonyOf ts) (by simp [makeOwns])
   have hb0:=hI0.back
   have ef:makeC ⟨.slice o1 n1 c1,.slice o2 1 c2,.slice po q pc,.slice o4 n4 c4,rules⟩ (firstOf [⟨[allW],false,[],[[120]],[],[]⟩])=[.slice o1 n1 c1,.slice o2 1 c2,.slice po q pc,.string ⟨#[97,108,108]⟩,.slice o4 n4 c4]:=by
    rw [show firstOf [⟨[allW],false,[],[[120]],[],[]⟩]=allW from by decide +kernel];rfl
   rw [ef]
   have HBw:Hid (Below w.heap.size w w2):=HB2.out.trans (hb0.mono HB2.out.size)
   have h3:=(In.nil (Below.refl _ w2)).alloc [.slice o1 n1 c1,.slice o2 1 c2,.slice po q pc,.string ⟨#[97,108,108]⟩,.slice o4 n4 c4] 30
   have h4:=h3.alloc [.string ⟨#[]⟩,.int .i64 0] 33
   have hc4:=h4.cells (b:=w2.heap.size) (cs:=[.slice o1 n1 c1,.slice o2 1 c2,.slice po q pc,.string ⟨#[97,108,108]⟩,.slice o4 n4 c4]) (t := 30) (by simp)
   have hb4:=h4.back
   have HQ:Hid (q=(phonyOf ts).length):=hq
   clear hI hI0 hrl hl1 HR ef hb0 h3 h4 HB2 hq
   generalize hW:((w2.alloc (.cells #[.slice o1 n1 c1,.slice o2 1 c2,.slice po q pc,.string ⟨#[97,108,108]⟩,.slice o4 n4 c4] 30)).alloc (.cells #[.string ⟨#[]⟩,.int .i64 0] 33))=W4 at *
   obtain ⟨m0,m1,m2,m3,m4,_⟩:=five_cells12 hc4
   have hml:w2.heap.size < W4.heap.size:=by rw [← hW];simp;omega
   have HC:Hid (∀ W,Below W4.heap.size W4 W→W.cell? ⟨w2.heap.size,2,none⟩=some (.slice po q pc)):=fun W hb=>(hb.cell (p:=⟨w2.heap.size,2,none⟩) hml).trans m2
   have HRp:Hid (∀ W,Below W4.heap.size W4 W→ReadsO W W.heap.size (.slice po q pc) ((phonyOf ts).map txt)):=fun W hb=>(hrd.below hb4 hb4.size).below hb (by have:=hb.size;have:=hb4.size;omega)
   have HB4:Hid (Below w.heap.size w W4):=HBw.out.trans (hb4.mono HBw.out.size)
   have HW:=Lib.hid hW
   clear hW hrd hb4 hml hc4
   have HCp:Hid (∀ j y,(phonyOf ts)[j]? = some y→∃ b f,po=some ⟨b,f,none⟩∧q≤pc∧∀ W,Below W4.heap.size W4 W→W.cell? ⟨b,f+j,none⟩=some (.string (txt y))):=fun j y hj=>by
    obtain ⟨o',c',hv,hx'⟩:=HRp.out W4 (Below.refl _ _)
    rw [List.length_map,← HQ.out] at hv
    cases hv
    obtain ⟨b,f,p1,p2,p3,p4⟩:=hx' j (txt y) (by rw [List.getElem?_map,hj];rfl)
    rw [List.length_map,← HQ.out] at p3
    exact ⟨b,f,p1,p3,fun W hb=>(hb.cell (p:=⟨b,f+j,none⟩) p2).trans p4⟩
   have HIn1:Hid (∀ x W,x∈ts→Below W4.heap.size W4 W→Calls Tryz.prog 15 #[.slice po q pc,.string (txt x)] W fun e w'=>e=.returned (.bool true)∧w'=W):=fun x W hx hb=>by
    have:=in12_any (.slice po q pc) (phonyOf ts) x W (HRp.out W hb) (by
     have:=sort_len ts
     have:=HN.out
     show (sortT ts).length≤_
     omega)
    rw [show decide (x∈phonyOf ts)=true from decide_eq_true ((sort_mem ts x).2 hx)] at this
    exact this.mono fun e w' h=>⟨h.1,h.2.symm⟩
   have HIn2:Hid (∀ x W,x∈phonyOf ts→Below W4.heap.size W4 W→Calls Tryz.prog 15 #[.slice o n c,.string (txt x)] W fun e w'=>e=.returned (.bool true)∧w'=W):=fun x W hx hb=>by
    have:=in12_any (.slice o n c) ts x W (HRd.out W (HB4.out.trans (hb.mono HB4.out.size))) (by have:=HN.out;omega)
    rw [show decide (x∈ts)=true from decide_eq_true ((sort_mem ts x).1 hx)] at this
    exact this.mono fun e w' h=>⟨h.1,h.2.symm⟩
   have HAsc:Hid (Asc (phonyOf ts)):=sort_asc ts
   have hqs:q≤20:=by
    have:=sort_len ts
    have:=HN.out
    have e:q=(sortT ts).length:=HQ.out
    omega
   have HC1:=Lib.hid m2
   clear m2
   go_wp2_with fail
   rw [HW.out]
   go_loopw [10] (fun i w5=>∃ k:Nat,k≤n∧i=.int .i64 k∧Hid (Below W4.heap.size W4 w5)) (fun i _=>n - (intOf i).toNat)
   case atStart=>exact ⟨0,Nat.zero_le _,rfl,Below.refl _ _⟩
   case round =>
    obtain ⟨k,hk,rfl,HBk⟩:=hrel
    by_cases hkn:k < n
    ·obtain ⟨x,hx⟩:∃ x,ts[k]? = some x:=⟨_,List.getElem?_eq_getElem (by rw [← HN.out];exact hkn)⟩
     obtain ⟨_,b,f,rfl,hnc,hcell⟩:=HX.out k x hx
     have hc1:=hcell wr (HB4.out.trans (HBk.out.mono HB4.out.size))
     have hc2:=HC.out wr HBk.out
     have hki:(k:Int) < (n:Int):=by omega
     have hk0:(0:Int)≤(k:Int):=by omega
     have hkc:k < c:=by omega
     have HB8:Hid (∀ nq,Below W4.heap.size W4 (wr.drewN nq)):=fun nq=>below_drewN HBk.out nq
     have HMem:=Lib.hid (List.mem_of_getElem? hx)
     clear hcell hx
     go_wp2_with fail
     go_quiet (first | (go_at_call 15;exact Calls.quiet_of_same (HIn1.out x _ HMem.out (HB8.out _))))
     go_wp2_with fail
     go_roundw
     case rel=>exact ⟨k+1,by omega,by go_num,HB8.out _⟩
     case measure=>simp [intOf];omega
    ·clear HIn1 HC1
     have hc2:=HC.out wr HBk.out
     go_wp2_with fail
     go_loopw [11] (fun i wr=>∃ j:Nat,j≤q∧i=.int .i64 j∧Hid (Below W4.heap.size W4 wr)) (fun i _=>q - (intOf i).toNat)
     case atStart=>exact ⟨0,Nat.zero_le _,rfl,HBk.out⟩
     case round =>
      clear hc2
      obtain ⟨j,hj,rfl,HBj⟩:=hrel
      have hc2:=HC.out wr HBj.out
      by_cases hjq:j < q
      ·obtain ⟨y,hy⟩:∃ y,(phonyOf ts)[j]? = some y:=⟨_,List.getElem?_eq_getElem (by rw [← HQ.out];exact hjq)⟩
       obtain ⟨b,f,rfl,hqc,hcell⟩:=HCp.out j y hy
       have hc1:=hcell wr HBj.out
       have hji:(j:Int) < (q:Int):=by omega
       have hj0:(0:Int)≤(j:Int):=by omega
       have hjc:j < pc:=by omega
       have HB8:Hid (∀ nq,Below W4.heap.size W4 (wr.drewN nq)):=fun nq=>below_drewN HBj.out nq
       have HMem:=Lib.hid (List.mem_of_getElem? hy)
       by_cases hj00:j=0
       ·have hd3:decide (0 < j)=false:=decide_eq_false (by omega)
        have hd4:decide ((0:Int) < (j:Int))=false:=decide_eq_false (by omega)
        have hd5:¬ (0 < j):=by omega
        clear hcell hy hj00
        go_wp2_with fail
        go_quiet (first | (go_at_call 15;exact Calls.quiet_of_same (HIn2.out y _ HMem.out (HB8.out _))))
        go_wp2_with fail
        go_roundw
        case rel=>exact ⟨j+1,by omega,by go_num,HB8.out _⟩
        case measure=>simp [intOf];omega
       ·obtain ⟨z,hzk⟩:∃ z,(phonyOf ts)[j - 1]? = some z:=⟨_,List.getElem?_eq_getElem (by rw [← HQ.out];omega)⟩
        have hzy:=asc_get12 HAsc.out (by omega) hzk hy
        have e1:=less_no12 hzy
        have e2:=ne_no12 (a:=y) (b:=z) (fun h=>bt_irrefl z (h ▸ hzy))
        obtain ⟨b7,f7,r7,_,hcell2⟩:=HCp.out (j - 1) z hzk
        cases r7
        have x2:=hcell2 wr HBj.out
        have hd:(0:Int) < (j:Int):=by omega
        have hd2:0 < j:=by omega
        have hd3:decide (0 < j)=true:=decide_eq_true hd2
        have hd4:decide ((0:Int) < (j:Int))=true:=decide_eq_true hd
        obtain ⟨j1,hj1⟩:∃ j1,j1=j - 1:=⟨_,rfl⟩
        have hw1:IntKind.i64.wrap ((j:Int) - 1)=(j1:Int):=by rw [IntKind.wrap_i64];omega
        have hm1:(0:Int)≤(j1:Int):=by omega
        have hm2:(j1:Int) < (q:Int):=by omega
        have hm3:j1 < pc:=by omega
        have hm4:j1 < q:=by omega
        rw [← hj1] at x2
        clear hcell hcell2 hy hzk hj1 hj00 hzy
        go_wp2_with fail
        go_quiet (first | (go_at_call 15;exact Calls.quiet_of_same (HIn2.out y _ HMem.out (HB8.out _))))
        clear e1 e2 x2 hm1 hm2 hm3 hm4 hw1
        go_wp2_with fail
        go_roundw
        case rel=>exact ⟨j+1,by omega,by go_num,HB8.out _⟩
        case measure=>simp [intOf];omega
      ·have HB9:Hid (Below w.heap.size w wr):=HB4.out.trans (HBj.out.mono HB4.out.size)
       go_wp2_with fail
       go_ret
       exact ⟨rfl,HB9.out⟩
end Go.Proofs.YtmfjolmfbdbegaaGreatDoor
