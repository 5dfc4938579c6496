/-
  CallJoins, the walk: it answers true for every prefix and every text. No condition.
-/
import Derived.OwnWalkIn
import Derived.LoopIn
import Derived.LoopNIn
import Derived.Deep.QuietTactic
import Derived.BigQuiet
import Derived.WalkSpells
import Derived.Test.YtfdlcmjjnoapfaaGreatDoorNWs
namespace Go.Proofs.YtfdlcmjjnoapfaaGreatDoor
open Go.RowKit Go.Shelf
attribute [local go_sem] Oper.semAt_some

theorem words_ne {c : UInt8} (hb : blankB c = false) : ∀ {l : BT}, c ∈ l → 0 < (wordsT l).length := by
  intro l hc
  unfold wordsT
  induction l with
  | nil => simp at hc
  | cons x r ih =>
    simp only [pieces]
    split
    · next hx =>
      rw [List.filter_cons_of_neg (by simp)]
      rcases List.mem_cons.1 hc with rfl | h
      · rw [hb] at hx; cases hx
      · exact ih h
    · split
      · rw [List.filter_cons_of_pos (by simp)]; simp
      · simp
theorem word_of {a : BT} (ht : trimOf a = a) (h1 : (wordsT a).length = 1) : WordB a := by
  have hT : Tight a := ht ▸ trim_tight a
  refine ⟨fun h => ?_, fun c hc => ?_⟩
  · rw [h] at h1
    simp [wordsT, pieces] at h1
  · cases hb : blankB c with
    | false => rfl
    | true =>
      exfalso
      obtain ⟨u, v, rfl⟩ := List.append_of_mem hc
      have hw : wordsT (u ++ c :: v) = wordsT u ++ wordsT v := by
        unfold wordsT
        rw [pieces_sepT blankB u c v hb, List.filter_append]
      have hu : 0 < (wordsT u).length := by
        cases u with
        | nil => have := hT.1 c rfl; rw [hb] at this; cases this
        | cons x r => exact words_ne (hT.1 x rfl) (by simp)
      have hv : 0 < (wordsT v).length := by
        rcases List.eq_nil_or_concat v with hn | ⟨r, x, hn⟩
        · subst hn
          have := hT.2 c (by simp)
          rw [hb] at this; cases this
        · rw [List.concat_eq_append] at hn
          subst hn
          exact words_ne (hT.2 x (by rw [show u ++ c :: (r ++ [x]) = (u ++ c :: r) ++ [x] by simp]; exact List.getLast?_concat)) (by simp)
      rw [hw, List.length_append] at h1
      omega
theorem word_app {a b : BT} (ha : WordB a) (hb : WordB b) : WordB (a ++ b) := ⟨fun h => ha.1 (List.append_eq_nil_iff.1 h).1, fun c hc => by
  rcases List.mem_append.1 hc with h | h
  · exact ha.2 c h
  · exact hb.2 c h⟩
theorem zip_self : ∀ l : List BT, zipT l l = l.map (fun w => w ++ w)
  | [] => by unfold zipT; rfl
  | x :: r => by unfold zipT; rw [zip_self r]; rfl
theorem sub_self (a : BT) (ha : a ≠ []) : ∀ (n : Nat) (l : BT), l.length ≤ n → subGo a a 0 l = l
  | _, [], _ => sub_done a a
  | 0, c :: r, h => by simp at h
  | n + 1, c :: r, h => by
    have hr : r.length ≤ n := by simpa using h
    have hpos : 0 < a.length := List.length_pos_iff.2 ha
    by_cases hp : a.isPrefixOf (c :: r) = true
    · rw [sub_hit ha hp, sub_self a ha n _ (by rw [List.length_drop]; simp only [List.length_cons]; omega)]
      obtain ⟨s, hs⟩ := List.isPrefixOf_iff_prefix.1 hp
      rw [← hs, List.drop_left]
    · rw [sub_miss (Bool.eq_false_iff.2 hp), sub_self a ha n r hr]
theorem call_prefix (a t : BT) (h : (joinT ((wordsT t).map (fun w => a ++ w))).length ≤ 4000) : (callT nAddprefix [a, t]).1 = joinT ((wordsT t).map (fun w => a ++ w)) := by
  have : callT nAddprefix [a, t] = finT (some (joinT ((wordsT t).map (fun w => a ++ w)))) := rfl
  rw [this, fin_ok h]
theorem call_suff (a t : BT) (h : (joinT ((wordsT t).map (fun w => w ++ a))).length ≤ 4000) : (callT nAddsuffix [a, t]).1 = joinT ((wordsT t).map (fun w => w ++ a)) := by
  have : callT nAddsuffix [a, t] = finT (some (joinT ((wordsT t).map (fun w => w ++ a)))) := rfl
  rw [this, fin_ok h]
theorem call_join2 (t : BT) (h : (joinT ((wordsT t).map (fun w => w ++ w))).length ≤ 4000) : (callT nJoin [t, t]).1 = joinT ((wordsT t).map (fun w => w ++ w)) := by
  have : callT nJoin [t, t] = finT (some (joinT (zipT (wordsT t) (wordsT t)))) := rfl
  rw [this, zip_self, fin_ok h]
theorem call_sub2 (a t : BT) (ha : a ≠ []) (h : t.length ≤ 4000) : (callT nSubst [a, a, t]).1 = t := by
  have : callT nSubst [a, a, t] = finT (some (subT a a t)) := rfl
  have e : subT a a t = t := by unfold subT; rw [if_neg ha]; exact sub_self a ha _ t (Nat.le_refl _)
  rw [this, e, fin_ok h]
theorem wt_dup : ∀ l : List BT, wt (l.map (fun w => w ++ w)) ≤ 2 * wt l
  | [] => by simp [wt]
  | x :: r => by
    have := wt_dup r
    simp only [List.map_cons, wt, List.length_append]
    omega

set_option maxRecDepth 100000 in
set_option maxHeartbeats 8000000 in
theorem callJoins_walk (s0 : ByteArray) (hs0 : s0.size ≤ maxLen) (s1 : ByteArray) (hs1 : s1.size ≤ maxLen) (w : World) (hst : Std w) :
    Calls Tryz.prog 8 #[.string s0, .string s1] w (LawPost w) := by
  unfold maxLen at hs0 hs1
  have HS := Lib.hid hst
  have HSh := Lib.hid (shown_any w hst)
  clear hst
  by_cases a1 : 100 < s0.size
  · clear HS
    go_enter Tryz.func8, Tryz.ntmps8
    go_wp2_with fail
    refine HSh.out.mono ?_
    rintro e w1 ⟨rfl, hb1⟩
    go_wp2_with fail
    go_ret
    exact ⟨rfl, hb1⟩
  by_cases a2 : 400 < s1.size
  · clear HS
    go_enter Tryz.func8, Tryz.ntmps8
    go_wp2_with fail
    refine HSh.out.mono ?_
    rintro e w1 ⟨rfl, hb1⟩
    go_wp2_with fail
    go_ret
    exact ⟨rfl, hb1⟩
  have y0 : ¬ (100 : Int) < (s0.size : Int) := by omega
  have y1 : ¬ (400 : Int) < (s1.size : Int) := by omega
  have z0 : s0.size ≤ 100 := by omega
  have z1 : s1.size ≤ 400 := by omega
  have HWa := Lib.hid (fun W => words_told s0 (by omega) W)
  have HTa := Lib.hid (fun W => trim_any s0 (by unfold maxLen; omega) W)
  clear a1 a2 hs0 hs1
  by_cases b1 : ¬ (wordsT s0.data.toList).length = 1
  · have b2 : (((wordsT s0.data.toList).length : Int) != 1) = true := by rw [bne_iff_ne]; omega
    have b3 : ¬ ((wordsT s0.data.toList).length : Int) = 1 := by omega
    clear HS
    generalize (wordsT s0.data.toList).length = n0 at *
    go_enter Tryz.func8, Tryz.ntmps8
    go_wp2_with fail
    refine HSh.out.mono ?_
    rintro e w1 ⟨rfl, hb1⟩
    go_wp2_with fail
    refine (HWa.out w1).mono ?_
    rintro e w2 ⟨oa, ca, rfl, _, hb2⟩
    have HB := Lib.hid (hb1.trans (hb2.mono hb1.size))
    clear hb1 hb2
    go_wp2_with fail
    go_ret
    exact ⟨rfl, HB.out⟩
  have b2 : (wordsT s0.data.toList).length = 1 := Decidable.not_not.1 b1
  by_cases b4 : ¬ trimOf s0.data.toList = s0.data.toList
  · have b5 : ((txt (trimOf s0.data.toList)).toList != s0.toList) = true := by rw [txt_toL, Lib.toList_data, bne_iff_ne]; exact b4
    have b6 : ¬ (txt (trimOf s0.data.toList)).toList = s0.toList := by rw [txt_toL, Lib.toList_data]; exact b4
    have b7 : ((txt (trimOf s0.data.toList)).toList == s0.toList) = false := by rw [txt_toL, Lib.toList_data, beq_eq_false_iff_ne]; exact b4
    rw [b2] at HWa
    clear HS b1 b2 b4
    generalize txt (trimOf s0.data.toList) = T at *
    go_enter Tryz.func8, Tryz.ntmps8
    go_wp2_with fail
    refine HSh.out.mono ?_
    rintro e w1 ⟨rfl, hb1⟩
    go_wp2_with fail
    refine (HWa.out w1).mono ?_
    rintro e w2 ⟨oa, ca, rfl, _, hb2⟩
    have HB := Lib.hid (hb1.trans (hb2.mono hb1.size))
    have HZ := Lib.hid hb1.size
    clear hb1 hb2
    go_wp2_with fail
    refine (HTa.out w2).mono ?_
    rintro e w3 ⟨rfl, hb3⟩
    have HB3 := Lib.hid (HB.out.trans (hb3.mono HB.out.size))
    clear hb3
    go_wp2_with fail
    go_ret
    exact ⟨rfl, HB3.out⟩
  have b5 : trimOf s0.data.toList = s0.data.toList := Decidable.not_not.1 b4
  have hwa := word_of b5 b2
  rw [b2] at HWa
  rw [b5, txt_toList] at HTa
  have hself : (s0.toList != s0.toList) = false := by simp
  clear b1 b2 b4 b5
  have z2 : s0.data.toList.length ≤ 100 := by rw [size_list]; exact z0
  have z3 : s1.data.toList.length ≤ 400 := by rw [size_list]; exact z1
  have hwt := wt_words s1.data.toList
  have HW1 := Lib.hid (fun W => words_told s1 (by omega) W)
  have hww := words_all s1.data.toList
  have hnz : (wordsT s1.data.toList).length ≤ 401 := by have := words_few s1.data.toList; omega
  obtain ⟨M, hM⟩ : ∃ M, M = (s0.size + 1) * (wordsT s1.data.toList).length := ⟨_, rfl⟩
  have hMz : M ≤ 101 * 401 := by rw [hM]; exact Nat.mul_le_mul (by omega) hnz
  have hMi : ((s0.size : Int) + 1) * ((wordsT s1.data.toList).length : Int) = (M : Int) := by rw [hM, Int.natCast_mul]; rfl
  by_cases hbig : 4000 < M + s1.size
  · have hbig2 : (4000 : Int) < (M : Int) + (s1.size : Int) := by omega
    clear HS hww hwt hM hwa
    generalize hws : wordsT s1.data.toList = ws at *
    generalize hn : ws.length = n at *
    clear hws hn
    go_enter Tryz.func8, Tryz.ntmps8
    go_wp2_with fail
    refine HSh.out.mono ?_
    rintro e w1 ⟨rfl, hb1⟩
    go_wp2_with fail
    refine (HWa.out w1).mono ?_
    rintro e w2 ⟨oa, ca, rfl, _, hb2⟩
    have HB := Lib.hid (hb1.trans (hb2.mono hb1.size))
    clear hb1 hb2
    go_wp2_with fail
    refine (HTa.out w2).mono ?_
    rintro e w3 ⟨rfl, hb3⟩
    have HB3 := Lib.hid (HB.out.trans (hb3.mono HB.out.size))
    clear hb3
    go_wp2_with fail
    refine (HW1.out w3).mono ?_
    rintro e w4 ⟨o4, c4, rfl, _, hb4⟩
    have HB4 := Lib.hid (HB3.out.trans (hb4.mono HB3.out.size))
    clear hb4
    go_wp2_with fail
    go_ret
    exact ⟨rfl, HB4.out⟩
  have hbig2 : ¬ (4000 : Int) < (M : Int) + (s1.size : Int) := by omega
  have hbz : M + s1.data.toList.length ≤ 4000 := by rw [size_list]; omega
  have hMA : s0.data.toList.length * (wordsT s1.data.toList).length ≤ M := by rw [hM, size_list, Nat.add_mul]; omega
  have lP : (joinT ((wordsT s1.data.toList).map (fun w => s0.data.toList ++ w))).length ≤ 4000 := by
    have h1 := wt_join ((wordsT s1.data.toList).map (fun w => s0.data.toList ++ w))
    have h2 := wt_map (fun w => s0.data.toList ++ w) s0.data.toList.length (wordsT s1.data.toList) (fun x _ => by rw [List.length_append]; omega)
    omega
  have lS : (joinT ((wordsT s1.data.toList).map (fun w => w ++ s0.data.toList))).length ≤ 4000 := by
    have h1 := wt_join ((wordsT s1.data.toList).map (fun w => w ++ s0.data.toList))
    have h2 := wt_map (fun w => w ++ s0.data.toList) s0.data.toList.length (wordsT s1.data.toList) (fun x _ => by rw [List.length_append]; omega)
    omega
  have lD : (joinT ((wordsT s1.data.toList).map (fun w => w ++ w))).length ≤ 4000 := by
    have h1 := wt_join ((wordsT s1.data.toList).map (fun w => w ++ w))
    have h2 := wt_dup (wordsT s1.data.toList)
    omega
  have lJ : (joinT (wordsT s1.data.toList)).length ≤ 4000 := by
    have h1 := wt_join (wordsT s1.data.toList)
    omega
  have H1 : Hid (∀ W, Std W → Calls Tryz.prog 18 #[.string ⟨#[97, 100, 100, 112, 114, 101, 102, 105, 120]⟩, .slice (some ⟨W.heap.size, 0, none⟩) 2 2] (W.alloc (.cells #[.string s0, .string s1] 9)) fun e w' => e = .returned (.string (txt (joinT ((wordsT s1.data.toList).map (fun w => s0.data.toList ++ w))))) ∧ Below W.heap.size W w') := fun W hW => by
    have := of2_is ⟨#[97, 100, 100, 112, 114, 101, 102, 105, 120]⟩ s0.data.toList s1.data.toList _ (by omega) (by omega) (call_prefix _ _ lP) W hW
    rw [txt_toList, txt_toList] at this
    exact this
  have H2 : Hid (∀ W, Std W → Calls Tryz.prog 18 #[.string ⟨#[97, 100, 100, 115, 117, 102, 102, 105, 120]⟩, .slice (some ⟨W.heap.size, 0, none⟩) 2 2] (W.alloc (.cells #[.string s0, .string s1] 9)) fun e w' => e = .returned (.string (txt (joinT ((wordsT s1.data.toList).map (fun w => w ++ s0.data.toList))))) ∧ Below W.heap.size W w') := fun W hW => by
    have := of2_is ⟨#[97, 100, 100, 115, 117, 102, 102, 105, 120]⟩ s0.data.toList s1.data.toList _ (by omega) (by omega) (call_suff _ _ lS) W hW
    rw [txt_toList, txt_toList] at this
    exact this
  have H3 : Hid (∀ W, Std W → Calls Tryz.prog 18 #[.string ⟨#[106, 111, 105, 110]⟩, .slice (some ⟨W.heap.size, 0, none⟩) 2 2] (W.alloc (.cells #[.string s1, .string s1] 9)) fun e w' => e = .returned (.string (txt (joinT ((wordsT s1.data.toList).map (fun w => w ++ w))))) ∧ Below W.heap.size W w') := fun W hW => by
    have := of2_is ⟨#[106, 111, 105, 110]⟩ s1.data.toList s1.data.toList _ (by omega) (by omega) (call_join2 _ lD) W hW
    rw [txt_toList] at this
    exact this
  have H4 : Hid (∀ W, Std W → Calls Tryz.prog 18 #[.string ⟨#[115, 117, 98, 115, 116]⟩, .slice (some ⟨W.heap.size, 0, none⟩) 3 3] (W.alloc (.cells #[.string s0, .string s0, .string s1] 9)) fun e w' => e = .returned (.string s1) ∧ Below W.heap.size W w') := fun W hW => by
    have := of3_is ⟨#[115, 117, 98, 115, 116]⟩ s0.data.toList s0.data.toList s1.data.toList _ (by omega) (by omega) (by omega) (call_sub2 _ _ hwa.1 (by omega)) W hW
    rw [txt_toList, txt_toList] at this
    exact this
  have H5 : Hid (∀ W, Std W → Calls Tryz.prog 18 #[.string ⟨#[115, 116, 114, 105, 112]⟩, .slice (some ⟨W.heap.size, 0, none⟩) 1 1] (W.alloc (.cells #[.string s1] 9)) fun e w' => e = .returned (.string (txt (joinT (wordsT s1.data.toList)))) ∧ Below W.heap.size W w') := fun W hW => by
    have := of1_is ⟨#[115, 116, 114, 105, 112]⟩ s1.data.toList _ (by omega) (congrArg Prod.fst (call_strip s1.data.toList (by omega))) W hW
    rw [txt_toList] at this
    exact this
  have HP := Lib.hid (fun W => words_toldT (joinT ((wordsT s1.data.toList).map (fun w => s0.data.toList ++ w))) (by omega) W)
  have HQ := Lib.hid (fun W => words_toldT (joinT ((wordsT s1.data.toList).map (fun w => w ++ s0.data.toList))) (by omega) W)
  have HD := Lib.hid (fun W => words_toldT (joinT ((wordsT s1.data.toList).map (fun w => w ++ w))) (by omega) W)
  rw [words_join _ (fun y hy => by obtain ⟨z, hz, rfl⟩ := List.mem_map.1 hy; exact word_app hwa (hww z hz)), List.length_map] at HP
  rw [words_join _ (fun y hy => by obtain ⟨z, hz, rfl⟩ := List.mem_map.1 hy; exact word_app (hww z hz) hwa), List.length_map] at HQ
  rw [words_join _ (fun y hy => by obtain ⟨z, hz, rfl⟩ := List.mem_map.1 hy; exact word_app (hww z hz) (hww z hz)), List.length_map] at HD
  have HX : Hid (∀ x ∈ wordsT s1.data.toList, x.length ≤ 400) := fun x hx => by have := (words_memT hx).2; omega
  clear hwt hww hM hbz hMA lP lS lD lJ hwa hbig z2 z3
  generalize joinT ((wordsT s1.data.toList).map (fun w => s0.data.toList ++ w)) = JP at H1 HP
  generalize joinT ((wordsT s1.data.toList).map (fun w => w ++ s0.data.toList)) = JS at H2 HQ
  generalize joinT ((wordsT s1.data.toList).map (fun w => w ++ w)) = JD at H3 HD
  generalize wordsT s1.data.toList = ws at *
  obtain ⟨n, hn⟩ : ∃ n, n = ws.length := ⟨_, rfl⟩
  rw [← hn] at HP HQ HD HW1 hnz hMi
  have HN := Lib.hid hn
  clear hn
  go_enter Tryz.func8, Tryz.ntmps8
  go_wp2_with fail
  refine HSh.out.mono ?_
  rintro e w1 ⟨rfl, hb1⟩
  have HB1 := Lib.hid hb1
  clear hb1 HSh
  go_wp2_with fail
  refine (HWa.out w1).mono ?_
  rintro e w2 ⟨oa, ca, rfl, _, hb2⟩
  have HB2 := Lib.hid (HB1.out.trans (hb2.mono HB1.out.size))
  clear hb2 HWa
  go_wp2_with fail
  refine (HTa.out w2).mono ?_
  rintro e w3 ⟨rfl, hb3⟩
  have HB3 := Lib.hid (HB2.out.trans (hb3.mono HB2.out.size))
  clear hb3 HTa
  go_wp2_with fail
  refine (HW1.out w3).mono ?_
  rintro e w4 ⟨o4, c4, rfl, hc4, hb4⟩
  have HB4 := Lib.hid (HB3.out.trans (hb4.mono HB3.out.size))
  clear hb4 HW1 HB1 HB2 HB3
  go_wp2_with fail
  refine (H1.out w4 (HS.out.below HB4.out)).mono ?_
  rintro e w5 ⟨rfl, hb5⟩
  have HK5 := Lib.hid hb5
  clear hb5 H1
  go_wp2_with fail
  refine (HP.out w5).mono ?_
  rintro e w6 ⟨o6, c6, rfl, hc6, hb6⟩
  have HK6 := Lib.hid (HK5.out.trans (hb6.mono HK5.out.size))
  clear hb6 HK5 HP
  go_wp2_with fail
  refine (H2.out w6 (HS.out.below (HB4.out.trans (HK6.out.mono HB4.out.size)))).mono ?_
  rintro e w7 ⟨rfl, hb7⟩
  have HM7 := Lib.hid hb7
  clear hb7 H2
  go_wp2_with fail
  refine (HQ.out w7).mono ?_
  rintro e w8 ⟨o8, c8, rfl, hc8, hb8⟩
  have HM8 := Lib.hid (HM7.out.trans (hb8.mono HM7.out.size))
  have HK8 := Lib.hid (HK6.out.trans (HM8.out.mono HK6.out.size))
  clear hb8 HM7 HQ
  go_wp2_with fail
  refine (H3.out w8 (HS.out.below (HB4.out.trans (HK8.out.mono HB4.out.size)))).mono ?_
  rintro e w9 ⟨rfl, hb9⟩
  have HL9 := Lib.hid hb9
  clear hb9 H3
  go_wp2_with fail
  refine (HD.out w9).mono ?_
  rintro e w10 ⟨o10, c10, rfl, hc10, hb10⟩
  have HL10 := Lib.hid (HL9.out.trans (hb10.mono HL9.out.size))
  have HB := Lib.hid ((HB4.out.trans (HK8.out.mono HB4.out.size)).trans (HL10.out.mono (Nat.le_trans HB4.out.size HK8.out.size)))
  have HSt : Hid (∀ wr, Below w10.heap.size w10 wr → Std wr) := fun wr hb => HS.out.below (HB.out.trans (hb.mono HB.out.size))
  have HC4 : Hid (∀ wr, Below w10.heap.size w10 wr → CellsW wr o4 c4 ws) := fun wr hb => ((hc4.below HK8.out).below HL10.out).below hb
  have HC6 : Hid (∀ wr, Below w10.heap.size w10 wr → CellsW wr o6 c6 (ws.map (fun w => s0.data.toList ++ w))) := fun wr hb => ((hc6.below HM8.out).below HL10.out).below hb
  have HC8 : Hid (∀ wr, Below w10.heap.size w10 wr → CellsW wr o8 c8 (ws.map (fun w => w ++ s0.data.toList))) := fun wr hb => (hc8.below HL10.out).below hb
  have HC10 : Hid (∀ wr, Below w10.heap.size w10 wr → CellsW wr o10 c10 (ws.map (fun w => w ++ w))) := fun wr hb => hc10.below hb
  clear hb10 HL9 HL10 HD HK6 HK8 HM8 HB4 hc4 hc6 hc8 hc10 HS
  have hb010 : Below w10.heap.size w10 w10 := Below.refl _ _
  have hnn : ((n : Int) != (n : Int)) = false := by simp
  go_wp2_with fail
  go_loopw [10] (fun iv wr => ∃ k : Nat, k ≤ n ∧ iv = .int .i64 k ∧ Below w10.heap.size w10 wr) (fun iv _ => n - (intOf iv).toNat)
  case atStart => exact ⟨0, Nat.zero_le _, rfl, hb010⟩
  case round =>
    clear hb010
    obtain ⟨k, hk, rfl, hb⟩ := hrel
    by_cases hkn : k < n
    · obtain ⟨x, hxk⟩ : ∃ x, ws[k]? = some x := ⟨ws[k]'(by rw [← HN.out]; exact hkn), List.getElem?_eq_getElem _⟩
      have hxl := HX.out x (List.mem_of_getElem? hxk)
      obtain ⟨b4, f4, r4, _, q4, x4⟩ := HC4.out wr hb k x hxk
      obtain ⟨b6, f6, r6, _, q6, x6⟩ := HC6.out wr hb k (s0.data.toList ++ x) (by rw [List.getElem?_map, hxk]; rfl)
      obtain ⟨b8, f8, r8, _, q8, x8⟩ := HC8.out wr hb k (x ++ s0.data.toList) (by rw [List.getElem?_map, hxk]; rfl)
      obtain ⟨b10, f10, r10, _, q10, x10⟩ := HC10.out wr hb k (x ++ x) (by rw [List.getElem?_map, hxk]; rfl)
      cases r4
      cases r6
      cases r8
      cases r10
      rw [← txt_app, txt_toList] at x6 x8
      rw [← txt_app] at x10
      rw [List.length_map, ← HN.out] at q6 q8 q10
      rw [← HN.out] at q4
      have t4 : k < c4 := by omega
      have t6 : k < c6 := by omega
      have t8 : k < c8 := by omega
      have t10 : k < c10 := by omega
      have t1 : (0 : Int) ≤ (k : Int) := by omega
      have t2 : (k : Int) < (n : Int) := by omega
      have hxz : (txt x).size ≤ 400 := by rw [txt_size]; exact hxl
      generalize txt x = X at *
      have e1 : ((s0 ++ X).toList != (s0 ++ X).toList) = false := by simp
      have e2 : ((X ++ s0).toList != (X ++ s0).toList) = false := by simp
      have e3 : ((X ++ X).toList != (X ++ X).toList) = false := by simp
      have l1 : ¬ 9223372036854775807 < s0.size + X.size := by omega
      have l2 : ¬ 9223372036854775807 < X.size + s0.size := by omega
      have l3 : ¬ 9223372036854775807 < X.size + X.size := by omega
      have HB8 : Hid (∀ nq, Below w10.heap.size w10 (wr.drewN nq)) := fun nq => below_drewN hb nq
      clear hb hxk hxl q4 q6 q8 q10
      go_wp2_with fail
      go_quiet (fail)
      go_wp2_with fail
      go_roundw
      case rel => exact ⟨k + 1, hkn, by go_num, HB8.out _⟩
      case measure => simp [intOf]; omega
    · have hkn' : k = n := by omega
      subst k
      have r1 := Lib.hid (H4.out wr (HSt.out wr hb))
      have r2 : Hid (∀ W, Below w10.heap.size w10 W → Calls Tryz.prog 25 #[.slice o4 n c4] W fun e w' => e = .returned (.string (txt (joinT ws))) ∧ W = w') := fun W h => by
        have := (HC4.out W h).reads
        rw [← HN.out] at this
        exact refJoin_any _ ws W this (by rw [← HN.out]; omega) (fun x hx => by have := HX.out x hx; omega)
      have HBR := Lib.hid hb
      have e1 : (s1.toList == s1.toList) = true := by simp
      have e2 := tq_t (rfl : joinT ws = joinT ws)
      clear hb HX HC4 HC6 HC8 HC10 H4
      generalize joinT ws = J at *
      go_wp2_with fail
      refine r1.out.mono ?_
      rintro e w11 ⟨rfl, hb11⟩
      have HBR11 := Lib.hid (HBR.out.trans (hb11.mono HBR.out.size))
      clear hb11
      go_wp2_with fail
      refine (r2.out w11 HBR11.out).mono ?_
      rintro e _ ⟨rfl, rfl⟩
      go_wp2_with fail
      refine (H5.out w11 (HSt.out w11 HBR11.out)).mono ?_
      rintro e w12 ⟨rfl, hb12⟩
      have HBR12 := Lib.hid (HBR11.out.trans (hb12.mono HBR11.out.size))
      clear hb12
      go_wp2_with fail
      go_ret
      exact ⟨by trivial, HB.out.trans (HBR12.out.mono HB.out.size)⟩
end Go.Proofs.YtfdlcmjjnoapfaaGreatDoor
