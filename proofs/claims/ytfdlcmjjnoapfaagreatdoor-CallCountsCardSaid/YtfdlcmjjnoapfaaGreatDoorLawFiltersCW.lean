/-
  CallFilters, the walk: it answers true for every patterns and every text. No condition.
-/
import Derived.OwnWalkIn
import Derived.LoopIn
import Derived.LoopNIn
import Derived.Deep.RegionHeld3
import Derived.Deep.QuietTactic
import Derived.BigQuiet
import Derived.WalkSpells
import Derived.Test.YtfdlcmjjnoapfaaGreatDoorNWs
namespace Go.Proofs.YtfdlcmjjnoapfaaGreatDoor
open Go.RowKit Go.Shelf
attribute [local go_sem] Oper.semAt_some

/-- A block's first two cells hold two texts. -/
def Lies2 (W : World) (k : Nat) (x y : ByteArray) : Prop := W.cell? ⟨k, 0, none⟩ = some (.string x) ∧ W.cell? ⟨k, 1, none⟩ = some (.string y) ∧ k < W.heap.size
theorem Lies2.new (W : World) (x y : ByteArray) : Lies2 (W.alloc (.cells #[.string x, .string y] 9)) W.heap.size x y := by
  have hn := World.alloc_heap_new W (.cells #[.string x, .string y] 9)
  exact ⟨by unfold World.cell?; rw [hn]; rfl, by unfold World.cell?; rw [hn]; rfl, by simp⟩
theorem Lies2.drew {W : World} {k : Nat} {x y : ByteArray} (h : Lies2 W k x y) : Lies2 W.drew k x y := h
theorem of2_at (s : ByteArray) (a c r : BT) (ha : a.length ≤ 1000000) (hc : c.length ≤ 1000000) (h : (callT s.data.toList [a, c]).1 = r) (b : Nat) (w : World) (hst : Std w) (hl : Lies2 w b (txt a) (txt c)) :
    Calls Tryz.prog 18 #[.string s, .slice (some ⟨b, 0, none⟩) 2 2] w fun e w' => e = .returned (.string (txt r)) ∧ Below w.heap.size w w' := by
  have := of_any s (.slice (some ⟨b, 0, none⟩) 2 2) [txt a, txt c] (fun y hy => by simp at hy; rcases hy with rfl | rfl <;> rw [txt_size] <;> assumption) w hst ⟨_, _, rfl, fun k x hk => by
    cases k with
    | zero => simp at hk; subst hk; exact ⟨b, 0, rfl, hl.2.2, Nat.le_refl _, hl.1⟩
    | succ k =>
      cases k with
      | zero => simp at hk; subst hk; exact ⟨b, 0, rfl, hl.2.2, Nat.le_refl _, hl.2.1⟩
      | succ k => simp at hk⟩
  unfold OfPost at this
  rw [List.map_cons, List.map_cons, List.map_nil, txt_data, txt_data, h] at this
  exact this
theorem filter_at {P : BT → Bool} : ∀ (l : List BT) (k : Nat) (x : BT), l[k]? = some x → P x = true → (l.filter P)[((l.take k).filter P).length]? = some x ∧ ((l.take (k + 1)).filter P).length = ((l.take k).filter P).length + 1
  | [], k, x, h, _ => by simp at h
  | y :: r, 0, x, h, hp => by
    simp at h
    subst h
    rw [List.filter_cons_of_pos hp]
    simp [hp]
  | y :: r, k + 1, x, h, hp => by
    obtain ⟨h1, h2⟩ := filter_at r k x (by simpa using h) hp
    rw [List.take_succ_cons, List.take_succ_cons]
    by_cases hy : P y = true
    · rw [List.filter_cons_of_pos hy, List.filter_cons_of_pos hy, List.filter_cons_of_pos hy]
      simp only [List.length_cons, List.getElem?_cons_succ]
      exact ⟨h1, by omega⟩
    · rw [List.filter_cons_of_neg hy, List.filter_cons_of_neg hy, List.filter_cons_of_neg hy]
      exact ⟨h1, h2⟩
theorem filter_skip {P : BT → Bool} (l : List BT) (k : Nat) (x : BT) (h : l[k]? = some x) (hp : P x = false) : ((l.take (k + 1)).filter P).length = ((l.take k).filter P).length := by
  have ht : l.take (k + 1) = l.take k ++ [x] := by rw [List.take_add_one, h]; rfl
  rw [ht, List.filter_append, List.filter_cons_of_neg (by rw [hp]; simp)]
  simp

set_option maxRecDepth 100000 in
set_option maxHeartbeats 8000000 in
theorem callFilters_walk (s0 : ByteArray) (hs0 : s0.size ≤ maxLen) (s1 : ByteArray) (hs1 : s1.size ≤ maxLen) (w : World) (hst : Std w) :
    Calls Tryz.prog 5 #[.string s0, .string s1] w (LawPost w) := by
  unfold maxLen at hs0 hs1
  have HS := Lib.hid hst
  have HSh := Lib.hid (shown_any w hst)
  clear hst
  by_cases a1 : 300 < s0.size
  · clear HS
    go_enter Tryz.func5, Tryz.ntmps5
    go_wp2_with fail
    refine HSh.out.mono ?_
    rintro e w1 ⟨rfl, hb1⟩
    go_wp2_with fail
    go_ret
    exact ⟨rfl, hb1⟩
  by_cases a2 : 1000 < s1.size
  · clear HS
    go_enter Tryz.func5, Tryz.ntmps5
    go_wp2_with fail
    refine HSh.out.mono ?_
    rintro e w1 ⟨rfl, hb1⟩
    go_wp2_with fail
    go_ret
    exact ⟨rfl, hb1⟩
  have y0 : ¬ (300 : Int) < (s0.size : Int) := by omega
  have y1 : ¬ (1000 : Int) < (s1.size : Int) := by omega
  have z0 : s0.data.toList.length ≤ 300 := by rw [size_list]; omega
  have z1 : s1.data.toList.length ≤ 1000 := by rw [size_list]; omega
  have hs9 : s1.size ≤ 1000 := by omega
  have hwt := wt_words s1.data.toList
  obtain ⟨P, hP⟩ : ∃ P : BT → Bool, P = anyL (wordsT s0.data.toList) := ⟨_, rfl⟩
  have HW3 := Lib.hid (fun W => words_told s1 (by omega) W)
  have hwa := words_all s1.data.toList
  have hmx : ∀ x ∈ wordsT s1.data.toList, x.length ≤ 1000 := fun x hx => by have := (words_memT hx).2; omega
  have hnz : (wordsT s1.data.toList).length ≤ 1001 := by have := words_few s1.data.toList; omega
  have hcf := call_filter s0.data.toList s1.data.toList (by omega)
  have hco := call_filterOut s0.data.toList s1.data.toList (by omega)
  have hca : ∀ t : BT, t.length ≤ 1000 → (callT nFilter [s0.data.toList, t]).1 = joinT ((wordsT t).filter P) := fun t ht => by rw [hP]; exact congrArg Prod.fst (call_filter s0.data.toList t (by omega))
  rw [← hP] at hcf hco
  generalize wordsT s1.data.toList = ws at HW3 hwa hmx hnz hcf hco hwt
  have hpt : ∀ (Q : BT → Bool), (joinT (ws.filter Q)).length ≤ 1000 := fun Q => by
    have h1 := wt_join (ws.filter Q)
    have h2 := wt_filter Q ws
    omega
  have hwf : ∀ (Q : BT → Bool), wordsT (joinT (ws.filter Q)) = ws.filter Q := fun Q => words_join _ fun x hx => hwa x (List.mem_filter.1 hx).1
  have H1 : Hid (∀ W, Std W → Calls Tryz.prog 18 #[.string ⟨#[102, 105, 108, 116, 101, 114]⟩, .slice (some ⟨W.heap.size, 0, none⟩) 2 2] (W.alloc (.cells #[.string s0, .string s1] 9)) fun e w' => e = .returned (.string (txt (joinT (ws.filter P)))) ∧ Below W.heap.size W w') := fun W hW => by
    have := of2_is ⟨#[102, 105, 108, 116, 101, 114]⟩ s0.data.toList s1.data.toList _ (by omega) (by omega) (congrArg Prod.fst hcf) W hW
    rw [txt_toList, txt_toList] at this
    exact this
  have H2 : Hid (∀ W, Std W → Calls Tryz.prog 18 #[.string ⟨#[102, 105, 108, 116, 101, 114, 45, 111, 117, 116]⟩, .slice (some ⟨W.heap.size, 0, none⟩) 2 2] (W.alloc (.cells #[.string s0, .string s1] 9)) fun e w' => e = .returned (.string (txt (joinT (ws.filter (fun w => !P w))))) ∧ Below W.heap.size W w') := fun W hW => by
    have := of2_is ⟨#[102, 105, 108, 116, 101, 114, 45, 111, 117, 116]⟩ s0.data.toList s1.data.toList _ (by omega) (by omega) (congrArg Prod.fst hco) W hW
    rw [txt_toList, txt_toList] at this
    exact this
  have HW1 := Lib.hid (fun W => words_toldT (joinT (ws.filter P)) (by have := hpt P; omega) W)
  have HW2 := Lib.hid (fun W => words_toldT (joinT (ws.filter (fun w => !P w))) (by have := hpt (fun w => !P w); omega) W)
  rw [hwf] at HW1 HW2
  have hff : (ws.filter P).filter P = ws.filter P := by rw [List.filter_filter]; congr 1; funext x; simp
  have hfn : (ws.filter (fun w => !P w)).filter P = [] := by
    rw [List.filter_filter, List.filter_eq_nil_iff]
    intro x _
    cases P x <;> simp
  have H5 : Hid (∀ W, Std W → Calls Tryz.prog 18 #[.string ⟨#[102, 105, 108, 116, 101, 114]⟩, .slice (some ⟨W.heap.size, 0, none⟩) 2 2] (W.alloc (.cells #[.string s0, .string (txt (joinT (ws.filter P)))] 9)) fun e w' => e = .returned (.string (txt (joinT (ws.filter P)))) ∧ Below W.heap.size W w') := fun W hW => by
    have h0 := hca (joinT (ws.filter P)) (hpt P)
    rw [hwf, hff] at h0
    have := of2_is ⟨#[102, 105, 108, 116, 101, 114]⟩ s0.data.toList (joinT (ws.filter P)) _ (by omega) (by have := hpt P; omega) h0 W hW
    rw [txt_toList] at this
    exact this
  have H6 : Hid (∀ W, Std W → Calls Tryz.prog 18 #[.string ⟨#[102, 105, 108, 116, 101, 114]⟩, .slice (some ⟨W.heap.size, 0, none⟩) 2 2] (W.alloc (.cells #[.string s0, .string (txt (joinT (ws.filter (fun w => !P w))))] 9)) fun e w' => e = .returned (.string (txt [])) ∧ Below W.heap.size W w') := fun W hW => by
    have h0 := hca (joinT (ws.filter (fun w => !P w))) (hpt _)
    rw [hwf, hfn] at h0
    have := of2_is ⟨#[102, 105, 108, 116, 101, 114]⟩ s0.data.toList (joinT (ws.filter (fun w => !P w))) [] (by omega) (by have := hpt (fun w => !P w); omega) h0 W hW
    rw [txt_toList] at this
    exact this
  have H4 : Hid (∀ x ∈ ws, P x = true → ∀ W b, Std W → Lies2 W b s0 (txt x) → Calls Tryz.prog 18 #[.string ⟨#[102, 105, 108, 116, 101, 114]⟩, .slice (some ⟨b, 0, none⟩) 2 2] W fun e w' => e = .returned (.string (txt x)) ∧ Below W.heap.size W w') := fun x hx hp W b hW hl => by
    have h0 := hca x (hmx x hx)
    rw [word_words (hwa x hx), List.filter_cons_of_pos hp, List.filter_nil, joinT_one] at h0
    refine of2_at ⟨#[102, 105, 108, 116, 101, 114]⟩ s0.data.toList x x (by omega) (by have := hmx x hx; omega) h0 b W hW ?_
    rw [txt_toList]
    exact hl
  have HJ1 := Lib.hid (hpt P)
  have HJ2 := Lib.hid (hpt (fun w => !P w))
  have hiz : (ws.filter P).length ≤ 1001 := Nat.le_trans (List.length_filter_le _ _) hnz
  have hoz : (ws.filter (fun w => !P w)).length ≤ 1001 := Nat.le_trans (List.length_filter_le _ _) hnz
  have HFA : Hid (∀ k x, ws[k]? = some x → P x = true → (ws.filter P)[((ws.take k).filter P).length]? = some x ∧ ((ws.take (k + 1)).filter P).length = ((ws.take k).filter P).length + 1 ∧ ((ws.take (k + 1)).filter (fun w => !P w)).length = ((ws.take k).filter (fun w => !P w)).length) := fun k x h hp =>
    ⟨(filter_at ws k x h hp).1, (filter_at ws k x h hp).2, filter_skip (P := fun w => !P w) ws k x h (by simp [hp])⟩
  have HFB : Hid (∀ k x, ws[k]? = some x → P x = false → (ws.filter (fun w => !P w))[((ws.take k).filter (fun w => !P w)).length]? = some x ∧ ((ws.take (k + 1)).filter (fun w => !P w)).length = ((ws.take k).filter (fun w => !P w)).length + 1 ∧ ((ws.take (k + 1)).filter P).length = ((ws.take k).filter P).length) := fun k x h hp =>
    ⟨(filter_at (P := fun w => !P w) ws k x h (by simp [hp])).1, (filter_at (P := fun w => !P w) ws k x h (by simp [hp])).2, filter_skip ws k x h hp⟩
  have HFI : Hid (∀ y ∈ ws.filter P, P y = true) := fun y hy => (List.mem_filter.1 hy).2
  have HTF : Hid (∀ n, n = ws.length → ((ws.take n).filter P).length = (ws.filter P).length ∧ ((ws.take n).filter (fun w => !P w)).length = (ws.filter (fun w => !P w)).length) := fun n hn => by
    subst hn
    rw [List.take_length]
    exact ⟨rfl, rfl⟩
  clear hcf hco hca hpt hwf hff hfn hP hwt z0 z1 hwa hmx hs0 hs1
  obtain ⟨A, hA⟩ : ∃ A : Nat → Nat, A = fun k => ((ws.take k).filter P).length := ⟨_, rfl⟩
  obtain ⟨B, hB⟩ : ∃ B : Nat → Nat, B = fun k => ((ws.take k).filter (fun w => !P w)).length := ⟨_, rfl⟩
  have hA' : ∀ k, ((ws.take k).filter P).length = A k := fun k => by rw [hA]
  have hB' : ∀ k, ((ws.take k).filter (fun w => !P w)).length = B k := fun k => by rw [hB]
  have hA0 : A 0 = 0 := by rw [hA]; simp
  have hB0 : B 0 = 0 := by rw [hB]; simp
  simp only [hA', hB'] at HFA HFB HTF
  clear hA hB hA' hB'
  generalize ws.filter P = fi at *
  generalize ws.filter (fun w => !P w) = fo at *
  generalize hJi : joinT fi = Ji at *
  generalize hJo : joinT fo = Jo at *
  obtain ⟨n, hn⟩ : ∃ n, n = ws.length := ⟨_, rfl⟩
  obtain ⟨mi, hmi⟩ : ∃ m, m = fi.length := ⟨_, rfl⟩
  obtain ⟨mo, hmo⟩ : ∃ m, m = fo.length := ⟨_, rfl⟩
  rw [← hn] at HW3 hnz
  rw [← hmi] at HW1 hiz HTF
  rw [← hmo] at HW2 hoz HTF
  have HN := Lib.hid hn
  have HMi := Lib.hid hmi
  have HMo := Lib.hid hmo
  have HJi := Lib.hid hJi
  have HJo := Lib.hid hJo
  clear hn hmi hmo hJi hJo
  go_enter Tryz.func5, Tryz.ntmps5
  go_wp2_with fail
  refine HSh.out.mono ?_
  rintro e w1 ⟨rfl, hb1⟩
  have HS1 := Lib.hid (HS.out.below hb1)
  go_wp2_with fail
  refine (H1.out w1 HS1.out).mono ?_
  rintro e w2 ⟨rfl, hb2⟩
  have HS2 := Lib.hid (HS1.out.below hb2)
  have hb12 : Below w.heap.size w w2 := hb1.trans (hb2.mono hb1.size)
  go_wp2_with fail
  refine (HW1.out w2).mono ?_
  rintro e w3 ⟨o6, c6, rfl, hc6, hb3⟩
  have HS3 := Lib.hid (HS2.out.below hb3)
  have hb13 : Below w.heap.size w w3 := hb12.trans (hb3.mono hb12.size)
  go_wp2_with fail
  refine (H2.out w3 HS3.out).mono ?_
  rintro e w4 ⟨rfl, hb4⟩
  have HS4 := Lib.hid (HS3.out.below hb4)
  have hb14 : Below w.heap.size w w4 := hb13.trans (hb4.mono hb13.size)
  go_wp2_with fail
  refine (HW2.out w4).mono ?_
  rintro e w5 ⟨o7, c7, rfl, hc7, hb5⟩
  have HS5 := Lib.hid (HS4.out.below hb5)
  have hb15 : Below w.heap.size w w5 := hb14.trans (hb5.mono hb14.size)
  go_wp2_with fail
  refine (HW3.out w5).mono ?_
  rintro e w6 ⟨o8, c8, rfl, hc8, hb6⟩
  have HS6 := Lib.hid (HS5.out.below hb6)
  have HB16 := Lib.hid (hb15.trans (hb6.mono hb15.size))
  have HSt : Hid (∀ wr, Below w6.heap.size w6 wr → Std wr) := fun wr hb => HS6.out.below hb
  have HCi : Hid (∀ wr, Below w6.heap.size w6 wr → CellsW wr o6 c6 fi) := fun wr hb => (((hc6.below hb4).below hb5).below hb6).below hb
  have HCo : Hid (∀ wr, Below w6.heap.size w6 wr → CellsW wr o7 c7 fo) := fun wr hb => ((hc7.below hb6)).below hb
  have HCw : Hid (∀ wr, Below w6.heap.size w6 wr → CellsW wr o8 c8 ws) := fun wr hb => hc8.below hb
  have HWi := Lib.hid HW1.out
  clear hc6 hc7 hc8 hb1 hb2 hb3 hb4 hb5 hb6 hb12 hb13 hb14 hb15 HS HS1 HS2 HS3 HS4 HS5 HS6 H1 H2 HW1 HW2 HW3 HSh hs9 a1 a2
  have hb06 : Below w6.heap.size w6 w6 := Below.refl _ _
  go_wp2_with fail
  go_loopw [9, 10, 11] (fun av bv iv wr => ∃ k : Nat, k ≤ n ∧ iv = .int .i64 k ∧ av = .int .i64 (A k) ∧ bv = .int .i64 (B k) ∧ Below w6.heap.size w6 wr) (fun _ _ iv _ => n - (intOf iv).toNat)
  case atStart => exact ⟨0, Nat.zero_le _, rfl, by rw [hA0]; rfl, by rw [hB0]; rfl, hb06⟩
  case round =>
    clear hb06 hA0 hB0
    obtain ⟨k, hk, rfl, rfl, rfl, hb⟩ := hrel
    by_cases hkn : k < n
    · obtain ⟨x, hxk⟩ : ∃ x, ws[k]? = some x := ⟨ws[k]'(by rw [← HN.out]; exact hkn), List.getElem?_eq_getElem _⟩
      obtain ⟨b8, f8, r8, hl8, hc8, x8⟩ := HCw.out wr hb k x hxk
      cases r8
      rw [← HN.out] at hc8
      have t1 : k < c8 := by omega
      have t2 : (0 : Int) ≤ (k : Int) := by omega
      have t3 : (k : Int) < (n : Int) := by omega
      have e1 := tq_t (rfl : x = x)
      have HB9 : Hid (Below w6.heap.size w6 wr) := hb
      cases hp : P x with
      | true =>
        obtain ⟨g1, g2, g3⟩ := HFA.out k x hxk hp
        have hak : A k < mi := by rw [HMi.out]; exact (List.getElem?_eq_some_iff.1 g1).1
        obtain ⟨b6, f6, r6, hl6, hc6, x6⟩ := HCi.out wr hb (A k) x g1
        cases r6
        rw [← HMi.out] at hc6
        have HOF := Lib.hid (H4.out x (List.mem_of_getElem? hxk) hp)
        have hbl6 : b6 < w6.heap.size ∨ True := .inr trivial
        clear hbl6
        have G2 := Lib.hid g2
        have G3 := Lib.hid g3
        clear g1 g2 g3 hxk hp H4
        have HKD : Hid (∀ W : World, Below wr.heap.size wr W → Below wr.heap.size wr W.drew) := fun W h => h.trans ⟨rfl, rfl, rfl, Nat.le_refl _, fun _ _ => rfl⟩
        have HKB : Hid (∀ W : World, Below wr.heap.size wr W → W.cell? ⟨b6, f6 + A k, none⟩ = some (.string (txt x)) ∧ W.cell? ⟨b8, f8 + k, none⟩ = some (.string (txt x)) ∧ Below wr.heap.size wr W) := fun W h => ⟨(h.cell (p := ⟨b6, f6 + A k, none⟩) hl6).trans x6, (h.cell (p := ⟨b8, f8 + k, none⟩) hl8).trans x8, h⟩
        have HOG : Hid (∀ W b, Lies2 W b s0 (txt x) → Below wr.heap.size wr W → Calls Tryz.prog 18 #[.string ⟨#[102, 105, 108, 116, 101, 114]⟩, .slice (some ⟨b, 0, none⟩) 2 2] W fun e w' => e = .returned (.string (txt x)) ∧ (w'.cell? ⟨b6, f6 + A k, none⟩ = some (.string (txt x)) ∧ w'.cell? ⟨b8, f8 + k, none⟩ = some (.string (txt x))) ∧ Below wr.heap.size wr w') := fun W b hl h => by
          refine (HOF.out W b (HSt.out W (HB9.out.trans (h.mono HB9.out.size))) hl).mono ?_
          rintro e w' ⟨rfl, hb'⟩
          have := h.trans (hb'.mono h.size)
          exact ⟨rfl, ⟨(HKB.out w' this).1, (HKB.out w' this).2.1⟩, this⟩
        have u1 : A k < c6 := by omega
        have u2 : (0 : Int) ≤ (A k : Int) := by omega
        have u3 : (A k : Int) < (mi : Int) := by omega
        have hbr : Below wr.heap.size wr wr := Below.refl _ _
        generalize A k = a at *
        generalize hBk : B k = b' at *
        clear hb hl6 hl8 hc6 hc8 HOF
        go_wp2_with fail
        go_region_held3 (fun w' => w'.cell? ⟨b6, f6 + a, none⟩ = some (.string (txt x)) ∧ w'.cell? ⟨b8, f8 + k, none⟩ = some (.string (txt x)) ∧ Below wr.heap.size wr w')
          (first | exact ⟨by assumption, by assumption, by assumption⟩ | exact HKB.out _ (HKD.out _ (by assumption)) | (go_split_ands; first | exact ⟨by assumption, by assumption, by assumption⟩ | exact HKB.out _ (HKD.out _ (by assumption)) | exact HKB.out _ (Below.alloc (by assumption) (Below.size (by assumption)) _)))
          ((go_at_call 18; refine (HOG.out _ _ (by first | exact Lies2.new _ _ _ | exact (Lies2.new _ _ _).drew) (by first | assumption | (go_split_ands; assumption))).mono ?_; rintro e w8 ⟨rfl, ⟨hc8, hd8⟩, hb8⟩))
        all_goals
          go_wp2_with fail
          go_roundw
          case rel => exact ⟨k + 1, hkn, by go_num, by rw [G2.out]; go_num, by rw [G3.out], HB9.out.trans (hb8.mono HB9.out.size)⟩
          case measure => simp [intOf]; omega
      | false =>
        obtain ⟨g1, g2, g3⟩ := HFB.out k x hxk hp
        have hbk : B k < mo := by rw [HMo.out]; exact (List.getElem?_eq_some_iff.1 g1).1
        obtain ⟨b7, f7, r7, hl7, hc7, x7⟩ := HCo.out wr hb (B k) x g1
        cases r7
        rw [← HMo.out] at hc7
        have G2 := Lib.hid g2
        have G3 := Lib.hid g3
        have v1 : B k < c7 := by omega
        have v2 : (0 : Int) ≤ (B k : Int) := by omega
        have v3 : (B k : Int) < (mo : Int) := by omega
        have HKB : Hid (∀ W : World, Below wr.heap.size wr W → W.cell? ⟨b7, f7 + B k, none⟩ = some (.string (txt x)) ∧ W.cell? ⟨b8, f8 + k, none⟩ = some (.string (txt x)) ∧ Below w6.heap.size w6 W) := fun W h => ⟨(h.cell (p := ⟨b7, f7 + B k, none⟩) hl7).trans x7, (h.cell (p := ⟨b8, f8 + k, none⟩) hl8).trans x8, HB9.out.trans (h.mono HB9.out.size)⟩
        have HDN : Hid (∀ nq, Below wr.heap.size wr (wr.drewN nq)) := fun nq => below_drewN (Below.refl _ _) nq
        by_cases hai : A k < mi
        · obtain ⟨y, hy⟩ : ∃ y, fi[A k]? = some y := ⟨fi[A k]'(by rw [← HMi.out]; exact hai), List.getElem?_eq_getElem _⟩
          have hpy := HFI.out y (List.mem_of_getElem? hy)
          have e2 := tq_f (fun h : y = x => by rw [h, hp] at hpy; cases hpy)
          obtain ⟨b6, f6, r6, hl6, hc6, x6⟩ := HCi.out wr hb (A k) y hy
          cases r6
          rw [← HMi.out] at hc6
          have u1 : A k < c6 := by omega
          have u2 : (0 : Int) ≤ (A k : Int) := by omega
          have u3 : (A k : Int) < (mi : Int) := by omega
          generalize A k = a at *
          generalize B k = b' at *
          clear hb hl6 hl7 hl8 hc6 hc7 hc8 g1 g2 g3 hxk hp hpy hy H4 x7 hbk
          go_wp2_with fail
          go_quiet (fail)
          obtain ⟨z7, z8, z9⟩ := HKB.out _ (HDN.out nq)
          clear x6 x8 e2
          generalize wr.drewN nq = wq at z7 z8 z9 ⊢
          have HDQ : Hid (∀ nq, Below w6.heap.size w6 (wq.drewN nq)) := fun nq => below_drewN z9 nq
          clear z9
          go_wp2_with fail
          go_quiet (fail)
          go_wp2_with fail
          go_roundw
          case rel => exact ⟨k + 1, hkn, by go_num, by rw [G3.out], by rw [G2.out]; go_num, HDQ.out _⟩
          case measure => simp [intOf]; omega
        · have u3 : ¬ (A k : Int) < (mi : Int) := by omega
          generalize A k = a at *
          generalize B k = b' at *
          clear hb hl7 hl8 hc7 hc8 g1 g2 g3 hxk hp H4 x7 hbk x8
          go_wp2_with fail
          go_quiet (fail)
          obtain ⟨z7, z8, z9⟩ := HKB.out _ (HDN.out nq)
          generalize wr.drewN nq = wq at z7 z8 z9 ⊢
          have HDQ : Hid (∀ nq, Below w6.heap.size w6 (wq.drewN nq)) := fun nq => below_drewN z9 nq
          clear z9
          go_wp2_with fail
          go_quiet (fail)
          go_wp2_with fail
          go_roundw
          case rel => exact ⟨k + 1, hkn, by go_num, by rw [G3.out], by rw [G2.out]; go_num, HDQ.out _⟩
          case measure => simp [intOf]; omega
    · have hkn' : k = n := by omega
      subst k
      obtain ⟨ta, tb⟩ := HTF.out n HN.out
      rw [ta, tb]
      have q7 := Lib.hid (join_told fi o6 c6 wr (HCi.out wr hb) (by rw [← HMi.out]; omega) (by rw [HJi.out]; have := HJ1.out; omega))
      have q8 : Hid (∀ W, Below w6.heap.size w6 W → Calls Tryz.prog 21 #[.slice o7 mo c7] W fun e w' => e = .returned (.string (txt Jo)) ∧ Below W.heap.size W w') := fun W h => by
        have := join_told fo o7 c7 W (HCo.out W h) (by rw [← HMo.out]; omega) (by rw [HJo.out]; have := HJ2.out; omega)
        rw [← HMo.out, HJo.out] at this
        exact this
      rw [← HMi.out, HJi.out] at q7
      have q9 : Hid (∀ W o c, Below w6.heap.size w6 W → CellsW W o c fi → Calls Tryz.prog 20 #[.slice o mi c, .slice o6 mi c6] W fun e w' => e = .returned (.bool true) ∧ Below W.heap.size W w') := fun W o c h hc => by
        have := same_told fi (by rw [← HMi.out]; omega) o c o6 c6 W hc (HCi.out W h)
        rw [← HMi.out] at this
        exact this
      have qw : Hid (∀ W, Calls Tryz.prog 19 #[.string (txt Ji)] W fun e W' => ∃ o c, e = .returned (.slice o mi c) ∧ CellsW W' o c fi ∧ Below W.heap.size W W') := HWi.out
      have HBR := Lib.hid hb
      have hnil : (txt ([] : BT)).toList = [] := txt_toL []
      have hnil2 : (txt ([] : BT)).toList.isEmpty = true := by rw [txt_toL]; rfl
      clear hb HFA HFB HFI HTF H4 HN HMi HMo HJi HJo HJ1 HJ2 ta tb HWi
      go_wp2_with fail
      refine q7.out.mono ?_
      rintro e w7 ⟨rfl, hb7⟩
      have HBR7 := Lib.hid (HBR.out.trans (hb7.mono HBR.out.size))
      clear hb7
      go_wp2_with fail
      refine (H5.out w7 (HSt.out w7 HBR7.out)).mono ?_
      rintro e w8 ⟨rfl, hb8⟩
      have HBR8 := Lib.hid (HBR7.out.trans (hb8.mono HBR7.out.size))
      clear hb8
      go_wp2_with fail
      refine (qw.out w8).mono ?_
      rintro e w9 ⟨o9, c9, rfl, hc9, hb9⟩
      have HBR9 := Lib.hid (HBR8.out.trans (hb9.mono HBR8.out.size))
      have HC9 := Lib.hid hc9
      clear hb9 hc9
      go_wp2_with fail
      refine (q9.out w9 o9 c9 HBR9.out HC9.out).mono ?_
      rintro e w10 ⟨rfl, hb10⟩
      have HBR10 := Lib.hid (HBR9.out.trans (hb10.mono HBR9.out.size))
      clear hb10
      go_wp2_with fail
      refine (q8.out w10 HBR10.out).mono ?_
      rintro e w11 ⟨rfl, hb11⟩
      have HBR11 := Lib.hid (HBR10.out.trans (hb11.mono HBR10.out.size))
      clear hb11
      go_wp2_with fail
      refine (H6.out w11 (HSt.out w11 HBR11.out)).mono ?_
      rintro e w12 ⟨rfl, hb12⟩
      have HBR12 := Lib.hid (HBR11.out.trans (hb12.mono HBR11.out.size))
      clear hb12
      go_wp2_with fail
      go_ret
      exact ⟨by trivial, HB16.out.trans (HBR12.out.mono HB16.out.size)⟩
end Go.Proofs.YtfdlcmjjnoapfaaGreatDoor
