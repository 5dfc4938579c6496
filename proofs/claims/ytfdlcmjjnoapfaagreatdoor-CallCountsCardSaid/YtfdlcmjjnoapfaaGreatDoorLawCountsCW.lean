/-
  CallCounts, the walk: it answers true for every text and every place. No condition.
-/
import Derived.OwnWalkIn
import Derived.LoopIn
import Derived.LoopNIn
import Derived.Deep.RegionHeld3
import Derived.Deep.QuietTactic
import Derived.BigQuiet
import Derived.Laws.Small
import Derived.WalkSpells
import Derived.Test.YtfdlcmjjnoapfaaGreatDoorNApp
import Derived.Test.YtfdlcmjjnoapfaaGreatDoorNDec
import Derived.Test.YtfdlcmjjnoapfaaGreatDoorLawFiltersCW
namespace Go.Proofs.YtfdlcmjjnoapfaaGreatDoor
open Go.RowKit Go.Shelf
attribute [local go_sem] Oper.semAt_some

theorem first_get {l : List BT} {x : BT} (h : l[0]? = some x) : l.headD [] = x := by
  cases l with
  | nil => cases h
  | cons y r => simpa using h
theorem last_get {l : List BT} {x : BT} (h : l[l.length - 1]? = some x) : l.getLast?.getD [] = x := by
  rw [List.getLast?_eq_getElem?, h]; rfl

set_option maxRecDepth 100000 in
set_option maxHeartbeats 16000000 in
theorem callCounts_walk (s0 : ByteArray) (hs0 : s0.size ≤ maxLen) (i1 : Int) (hi1 : -9223372036854775808 ≤ i1 ∧ i1 ≤ 9223372036854775807) (w : World) (hst : Std w) :
    Calls Tryz.prog 7 #[.string s0, .int .i64 i1] w (LawPost w) := by
  unfold maxLen at hs0
  have HS := Lib.hid hst
  have HSh := Lib.hid (shown_any w hst)
  clear hst
  by_cases a1 : 600 < s0.size
  · clear HS
    go_enter Tryz.func7, Tryz.ntmps7
    go_wp2_with fail
    refine HSh.out.mono ?_
    rintro e w1 ⟨rfl, hb1⟩
    go_wp2_with fail
    go_ret
    exact ⟨rfl, hb1⟩
  have y0 : ¬ (600 : Int) < (s0.size : Int) := by omega
  have z0 : s0.size ≤ 600 := by omega
  have z1 : s0.data.toList.length ≤ 600 := by rw [size_list]; exact z0
  clear a1 hs0
  have hnz : (wordsT s0.data.toList).length ≤ 601 := by have := words_few s0.data.toList; omega
  obtain ⟨n, hn⟩ : ∃ n, n = (wordsT s0.data.toList).length := ⟨_, rfl⟩
  obtain ⟨K, hK⟩ : ∃ K : Nat, K = (max 0 (min i1 (n : Int))).toNat := ⟨_, rfl⟩
  have hKn : K ≤ n := by omega
  have hKi : max 0 (min i1 (n : Int)) = (K : Int) := by omega
  have HW := Lib.hid (fun W => words_told s0 (by omega) W)
  have hww := words_all s0.data.toList
  have hxl : ∀ x ∈ wordsT s0.data.toList, x.length ≤ 600 := fun x hx => by have := (words_memT hx).2; omega
  have H1 : Hid (∀ W, Std W → Calls Tryz.prog 18 #[.string ⟨#[119, 111, 114, 100, 115]⟩, .slice (some ⟨W.heap.size, 0, none⟩) 1 1] (W.alloc (.cells #[.string s0] 9)) fun e w' => e = .returned (.string (txt (decOf n))) ∧ Below W.heap.size W w') := fun W hW => by
    have := of1_is ⟨#[119, 111, 114, 100, 115]⟩ s0.data.toList _ (by omega) (told_count s0.data.toList (by omega)) W hW
    rw [txt_toList, ← hn] at this
    exact this
  have hdl : ∀ m : Nat, m ≤ 99999 → (decOf m).length ≤ 5 := fun m hm => dec_short 4 m (by omega)
  have H2 : Hid (∀ W, Calls Tryz.prog 22 #[.string (txt (decOf n))] W fun e w' => e = .returned (.tuple #[.int .i64 (n : Int), .bool true]) ∧ W = w') := fun W => by
    have := number_any (txt (decOf n)) (by rw [txt_size]; have := hdl n (by omega); unfold maxLen; omega) W
    unfold NumPost at this
    rw [txt_data, (dec_num n (by omega)).1, (dec_num n (by omega)).2] at this
    exact this
  have HD : Hid (∀ m : Nat, m ≤ 99999 → ∀ W, Calls Tryz.prog 23 #[.int .i64 (m : Int)] W fun e w' => e = .returned (.string (txt (decOf m))) ∧ W = w') := fun m hm W => decimal_told m (by omega) W
  have HWd : Hid (∀ k x, (wordsT s0.data.toList)[k]? = some x → k ≤ 9999 → ∀ W b, Std W → Lies2 W b (txt (decOf (k + 1))) s0 → Calls Tryz.prog 18 #[.string ⟨#[119, 111, 114, 100]⟩, .slice (some ⟨b, 0, none⟩) 2 2] W fun e w' => e = .returned (.string (txt x)) ∧ Below W.heap.size W w') := fun k x hx hk W b hW hl => by
    have h0 := told_word (k + 1) s0.data.toList (by omega) (by omega) (by omega)
    rw [Nat.add_sub_cancel, word_nth _ k x hx] at h0
    refine of2_at ⟨#[119, 111, 114, 100]⟩ (decOf (k + 1)) s0.data.toList x (by have := hdl (k + 1) (by omega); omega) (by omega) h0 b W hW ?_
    rw [txt_toList]
    exact hl
  have H3 : Hid (∀ W, Std W → Calls Tryz.prog 18 #[.string ⟨#[119, 111, 114, 100, 108, 105, 115, 116]⟩, .slice (some ⟨W.heap.size, 0, none⟩) 3 3] (W.alloc (.cells #[.string ⟨#[49]⟩, .string (txt (decOf K)), .string s0] 9)) fun e w' => e = .returned (.string (txt (joinT ((wordsT s0.data.toList).take K)))) ∧ Below W.heap.size W w') := fun W hW => by
    have h0 := told_wlist 1 K s0.data.toList (by omega) (by omega) (by omega) (by omega)
    rw [dec_one, Nat.sub_self, List.drop_zero] at h0
    have := of3_is ⟨#[119, 111, 114, 100, 108, 105, 115, 116]⟩ [49] (decOf K) s0.data.toList _ (by decide) (by have := hdl K (by omega); omega) (by omega) h0 W hW
    rw [txt_toList] at this
    exact this
  have H4 : Hid (∀ W, Std W → Calls Tryz.prog 18 #[.string ⟨#[119, 111, 114, 100, 108, 105, 115, 116]⟩, .slice (some ⟨W.heap.size, 0, none⟩) 3 3] (W.alloc (.cells #[.string (txt (decOf (K + 1))), .string (txt (decOf n)), .string s0] 9)) fun e w' => e = .returned (.string (txt (joinT ((wordsT s0.data.toList).drop K)))) ∧ Below W.heap.size W w') := fun W hW => by
    have h0 := told_wlist (K + 1) n s0.data.toList (by omega) (by omega) (by omega) (by omega)
    rw [Nat.add_sub_cancel, hn, List.take_length] at h0
    rw [← hn] at h0
    have := of3_is ⟨#[119, 111, 114, 100, 108, 105, 115, 116]⟩ (decOf (K + 1)) (decOf n) s0.data.toList _ (by have := hdl (K + 1) (by omega); omega) (by have := hdl n (by omega); omega) (by omega) h0 W hW
    rw [txt_toList] at this
    exact this
  have H5 : Hid (∀ W, Std W → Calls Tryz.prog 18 #[.string ⟨#[102, 105, 114, 115, 116, 119, 111, 114, 100]⟩, .slice (some ⟨W.heap.size, 0, none⟩) 1 1] (W.alloc (.cells #[.string s0] 9)) fun e w' => e = .returned (.string (txt ((wordsT s0.data.toList).headD []))) ∧ Below W.heap.size W w') := fun W hW => by
    have := of1_is ⟨#[102, 105, 114, 115, 116, 119, 111, 114, 100]⟩ s0.data.toList _ (by omega) (congrArg Prod.fst (call_first s0.data.toList (by omega))) W hW
    rw [txt_toList] at this
    exact this
  have H6 : Hid (∀ W, Std W → Calls Tryz.prog 18 #[.string ⟨#[108, 97, 115, 116, 119, 111, 114, 100]⟩, .slice (some ⟨W.heap.size, 0, none⟩) 1 1] (W.alloc (.cells #[.string s0] 9)) fun e w' => e = .returned (.string (txt ((wordsT s0.data.toList).getLast?.getD []))) ∧ Below W.heap.size W w') := fun W hW => by
    have := of1_is ⟨#[108, 97, 115, 116, 119, 111, 114, 100]⟩ s0.data.toList _ (by omega) (congrArg Prod.fst (call_last s0.data.toList (by omega))) W hW
    rw [txt_toList] at this
    exact this
  have H7 : Hid (∀ W, Std W → Calls Tryz.prog 18 #[.string ⟨#[119, 111, 114, 100]⟩, .slice (some ⟨W.heap.size, 0, none⟩) 2 2] (W.alloc (.cells #[.string (txt (decOf (n + 1))), .string s0] 9)) fun e w' => e = .returned (.string (txt [])) ∧ Below W.heap.size W w') := fun W hW => by
    have h0 := told_word (n + 1) s0.data.toList (by omega) (by omega) (by omega)
    rw [Nat.add_sub_cancel, List.drop_eq_nil_of_le (by rw [List.length_take]; omega)] at h0
    have := of2_is ⟨#[119, 111, 114, 100]⟩ (decOf (n + 1)) s0.data.toList _ (by have := hdl (n + 1) (by omega); omega) (by omega) h0 W hW
    rw [txt_toList] at this
    exact this
  have H8 : Hid (∀ W, Std W → Calls Tryz.prog 18 #[.string ⟨#[115, 116, 114, 105, 112]⟩, .slice (some ⟨W.heap.size, 0, none⟩) 1 1] (W.alloc (.cells #[.string s0] 9)) fun e w' => e = .returned (.string (txt (joinT (wordsT s0.data.toList)))) ∧ Below W.heap.size W w') := fun W hW => by
    have := of1_is ⟨#[115, 116, 114, 105, 112]⟩ s0.data.toList _ (by omega) (congrArg Prod.fst (call_strip s0.data.toList (by omega))) W hW
    rw [txt_toList] at this
    exact this
  have hjl : (joinT (wordsT s0.data.toList)).length ≤ 600 := by
    have h1 := wt_join (wordsT s0.data.toList)
    have h2 := wt_words s0.data.toList
    omega
  have lA : (joinT ((wordsT s0.data.toList).take K)).length ≤ 600 := by
    have h1 := wt_join ((wordsT s0.data.toList).take K)
    have h2 := wt_take (wordsT s0.data.toList) K
    have h3 := wt_words s0.data.toList
    omega
  have lB : (joinT ((wordsT s0.data.toList).drop K)).length ≤ 600 := by
    have h1 := wt_join ((wordsT s0.data.toList).drop K)
    have h2 := wt_drop (wordsT s0.data.toList) K
    have h3 := wt_words s0.data.toList
    omega
  have HA := Lib.hid (fun W => words_reads (joinT ((wordsT s0.data.toList).take K)) (by omega) W)
  have HB := Lib.hid (fun W => words_reads (joinT ((wordsT s0.data.toList).drop K)) (by omega) W)
  rw [words_join _ (fun x hx => hww x (List.mem_of_mem_take hx))] at HA
  rw [words_join _ (fun x hx => hww x (List.mem_of_mem_drop hx))] at HB
  have HTD : Hid ((wordsT s0.data.toList).take K ++ (wordsT s0.data.toList).drop K = wordsT s0.data.toList) := List.take_append_drop _ _
  have HJL := Lib.hid hjl
  have HXL := Lib.hid hxl
  clear hK hww hxl hjl lA lB hdl z1
  generalize joinT ((wordsT s0.data.toList).take K) = JA at *
  generalize joinT ((wordsT s0.data.toList).drop K) = JB at *
  generalize wordsT s0.data.toList = ws at *
  rw [← hn] at HW hnz
  have HN := Lib.hid hn
  have HKN := Lib.hid hKn
  clear hn hKn
  go_enter Tryz.func7, Tryz.ntmps7
  go_wp2_with fail
  refine HSh.out.mono ?_
  rintro e w1 ⟨rfl, hb1⟩
  have HB1 := Lib.hid hb1
  clear hb1 HSh
  go_wp2_with fail
  refine (HW.out w1).mono ?_
  rintro e w2 ⟨o2, c2, rfl, hc2, hb2⟩
  have HB2 := Lib.hid (HB1.out.trans (hb2.mono HB1.out.size))
  clear hb2 HW
  go_wp2_with fail
  refine (H1.out w2 (HS.out.below HB2.out)).mono ?_
  rintro e w3 ⟨rfl, hb3⟩
  have HB3 := Lib.hid (HB2.out.trans (hb3.mono HB2.out.size))
  have HC : Hid (∀ wr, Below w3.heap.size w3 wr → CellsW wr o2 c2 ws) := fun wr hb => (hc2.below hb3).below hb
  have HSt : Hid (∀ wr, Below w3.heap.size w3 wr → Std wr) := fun wr hb => HS.out.below (HB3.out.trans (hb.mono HB3.out.size))
  clear hb3 H1 hc2 HB1 HB2 HS
  go_wp2_with fail
  refine (H2.out w3).mono ?_
  rintro e _ ⟨rfl, rfl⟩
  have hb03 : Below w3.heap.size w3 w3 := Below.refl _ _
  have hnn : ((n : Int) != (n : Int)) = false := by simp
  go_wp2_with fail
  go_loopw [9] (fun iv wr => ∃ k : Nat, k ≤ n ∧ k ≤ 12 ∧ iv = .int .i64 k ∧ Below w3.heap.size w3 wr) (fun iv _ => 12 - (intOf iv).toNat)
  case atStart => exact ⟨0, Nat.zero_le _, Nat.zero_le _, rfl, hb03⟩
  case round =>
    clear hb03
    obtain ⟨k, hk, hk12, rfl, hb⟩ := hrel
    by_cases hkn : k < n ∧ k < 12
    · obtain ⟨hkn, hkt⟩ := hkn
      obtain ⟨x, hxk⟩ : ∃ x, ws[k]? = some x := ⟨ws[k]'(by rw [← HN.out]; exact hkn), List.getElem?_eq_getElem _⟩
      obtain ⟨b4, f4, r4, hl4, q4, x4⟩ := HC.out wr hb k x hxk
      cases r4
      rw [← HN.out] at q4
      have t4 : k < c2 := by omega
      have t1 : (0 : Int) ≤ (k : Int) := by omega
      have t2 : (k : Int) < (n : Int) := by omega
      have t3 : (k : Int) < 12 := by omega
      have e1 := tn_f (rfl : x = x)
      have HBR := Lib.hid hb
      have HKD : Hid (∀ W : World, Below wr.heap.size wr W → Below wr.heap.size wr W.drew) := fun W h => h.trans ⟨rfl, rfl, rfl, Nat.le_refl _, fun _ _ => rfl⟩
      have HKB : Hid (∀ W : World, Below wr.heap.size wr W → W.cell? ⟨b4, f4 + k, none⟩ = some (.string (txt x)) ∧ Below wr.heap.size wr W) := fun W h => ⟨(h.cell (p := ⟨b4, f4 + k, none⟩) hl4).trans x4, h⟩
      have HOG : Hid (∀ W b, Lies2 W b (txt (decOf (k + 1))) s0 → Below wr.heap.size wr W → Calls Tryz.prog 18 #[.string ⟨#[119, 111, 114, 100]⟩, .slice (some ⟨b, 0, none⟩) 2 2] W fun e w' => e = .returned (.string (txt x)) ∧ w'.cell? ⟨b4, f4 + k, none⟩ = some (.string (txt x)) ∧ Below wr.heap.size wr w') := fun W b hl h => by
        refine (HWd.out k x hxk (by omega) W b (HSt.out W (HBR.out.trans (h.mono HBR.out.size))) hl).mono ?_
        rintro e w' ⟨rfl, hb'⟩
        exact ⟨rfl, HKB.out w' (h.trans (hb'.mono h.size))⟩
      have HDG : Hid (∀ W, W.cell? ⟨b4, f4 + k, none⟩ = some (.string (txt x)) ∧ Below wr.heap.size wr W → Calls Tryz.prog 23 #[.int .i64 ((k : Int) + 1)] W fun e w' => e = .returned (.string (txt (decOf (k + 1)))) ∧ w'.cell? ⟨b4, f4 + k, none⟩ = some (.string (txt x)) ∧ Below wr.heap.size wr w') := fun W h => by
        refine (HD.out (k + 1) (by omega) W).mono ?_
        rintro e _ ⟨rfl, rfl⟩
        exact ⟨rfl, h⟩
      have hbr : Below wr.heap.size wr wr := Below.refl _ _
      have hw1 : IntKind.i64.wrap ((k : Int) + 1) = (k : Int) + 1 := by rw [IntKind.wrap_i64]; omega
      generalize txt (decOf (k + 1)) = D at HOG HDG
      clear hb hxk q4 hl4 hKi hi1 H2 H3 H4 H5 H6 H7 H8 HA HB HTD HJL HXL HWd HD HN HKN hnn
      go_wp2_with fail
      go_region_held3 (fun w' => w'.cell? ⟨b4, f4 + k, none⟩ = some (.string (txt x)) ∧ Below wr.heap.size wr w')
        (first | exact ⟨by assumption, by assumption⟩ | exact HKB.out _ (HKD.out _ (by assumption)) | (go_split_ands; first | exact ⟨by assumption, by assumption⟩ | exact HKB.out _ (HKD.out _ (by assumption)) | exact HKB.out _ (Below.alloc (by assumption) (Below.size (by assumption)) _)))
        (first
          | (go_at_call 23; refine (HDG.out _ (by assumption)).mono ?_; rintro e w7 ⟨rfl, hc7, hb7⟩)
          | (go_at_call 18; refine (HOG.out _ _ (by first | exact Lies2.new _ _ _ | exact (Lies2.new _ _ _).drew) (by first | assumption | (go_split_ands; assumption))).mono ?_; rintro e w8 ⟨rfl, hc8, hb8⟩))
      all_goals
        go_wp2_with fail
        go_roundw
        case rel => exact ⟨k + 1, hkn, hkt, by go_num, HBR.out.trans (hb8.mono HBR.out.size)⟩
        case measure => simp [intOf]; omega
    · have HBR := Lib.hid hb
      have t3 : ¬ ((k : Int) < (n : Int) ∧ (k : Int) < 12) := by omega
      have t4 : (k : Int) < (n : Int) → ¬ (k : Int) < 12 := by omega
      have HDK := Lib.hid (fun W => HD.out K (by have := HKN.out; omega) W)
      have HDK1 : Hid (∀ W, Calls Tryz.prog 23 #[.int .i64 ((K : Int) + 1)] W fun e w' => e = .returned (.string (txt (decOf (K + 1)))) ∧ W = w') := fun W => HD.out (K + 1) (by have := HKN.out; omega) W
      have HDn := Lib.hid (fun W => HD.out n (by omega) W)
      have HDn1 : Hid (∀ W, Calls Tryz.prog 23 #[.int .i64 ((n : Int) + 1)] W fun e w' => e = .returned (.string (txt (decOf (n + 1)))) ∧ W = w') := fun W => HD.out (n + 1) (by omega) W
      have hKz : K ≤ 601 := by have := HKN.out; omega
      have hwK : IntKind.i64.wrap ((K : Int) + 1) = (K : Int) + 1 := by rw [IntKind.wrap_i64]; omega
      have hwN : IntKind.i64.wrap ((n : Int) + 1) = (n : Int) + 1 := by rw [IntKind.wrap_i64]; omega
      clear hb HWd H2 HD hkn
      by_cases hkn : k < n
      · have t5 : ¬ k < 12 := by omega
        have t6 : ¬ (k : Int) < 12 := by omega
        have t7 : (k : Int) < (n : Int) := by omega
        clear t3 t4
        have HJn : Hid (∀ W, Below w3.heap.size w3 W → Calls Tryz.prog 21 #[.slice o2 n c2] W fun e w' => e = .returned (.string (txt (joinT ws))) ∧ Below W.heap.size W w') := fun W h => by
          have := join_told ws o2 c2 W (HC.out W h) (by rw [← HN.out]; omega) (by have := HJL.out; omega)
          rw [← HN.out] at this
          exact this
        have hnil : (txt ([] : BT)).toList = [] := txt_toL []
        have hnil2 : (txt ([] : BT)).toList.isEmpty = true := by rw [txt_toL]; rfl
        have hjj := tq_t (rfl : joinT ws = joinT ws)
        go_wp2_with fail
        refine (HDK.out wr).mono ?_
        rintro e _ ⟨rfl, rfl⟩
        go_wp2_with fail
        refine (H3.out wr (HSt.out wr HBR.out)).mono ?_
        rintro e w5 ⟨rfl, hb5⟩
        have HR5 := Lib.hid (HBR.out.trans (hb5.mono HBR.out.size))
        clear hb5
        go_wp2_with fail
        refine (HDK1.out w5).mono ?_
        rintro e _ ⟨rfl, rfl⟩
        go_wp2_with fail
        refine (HDn.out w5).mono ?_
        rintro e _ ⟨rfl, rfl⟩
        go_wp2_with fail
        refine (H4.out w5 (HSt.out w5 HR5.out)).mono ?_
        rintro e w6 ⟨rfl, hb6⟩
        have HR6 := Lib.hid (HR5.out.trans (hb6.mono HR5.out.size))
        clear hb6 H3 H4 HDK HDK1 HDn
        have hn0 : ¬ n = 0 := by omega
        · have hd : (0 : Int) < (n : Int) := by omega
          obtain ⟨x0, hx0⟩ : ∃ x, ws[0]? = some x := ⟨ws[0]'(by rw [← HN.out]; omega), List.getElem?_eq_getElem _⟩
          obtain ⟨xl, hxl⟩ : ∃ x, ws[ws.length - 1]? = some x := ⟨ws[ws.length - 1]'(by have := HN.out; omega), List.getElem?_eq_getElem _⟩
          rw [first_get hx0] at H5
          rw [last_get hxl] at H6
          obtain ⟨n1, hn1⟩ : ∃ n1, n1 = n - 1 := ⟨_, rfl⟩
          rw [← HN.out, ← hn1] at hxl
          obtain ⟨b4, f4, r4, _, q4, g0⟩ := HC.out w6 HR6.out 0 x0 hx0
          cases r4
          obtain ⟨b9, f9, r9, _, _, gl⟩ := HC.out w6 HR6.out n1 xl hxl
          cases r9
          rw [Nat.add_zero] at g0
          rw [← HN.out] at q4
          have p0 : 0 < c2 := by omega
          have p1 : n1 < c2 := by omega
          have p2 : n1 < n := by omega
          have p3 : 0 < n := by omega
          have hw1 : (n : Int) - 1 = (n1 : Int) := by omega
          have hw2 : IntKind.i64.wrap ((n : Int) - 1) = (n1 : Int) := by rw [IntKind.wrap_i64]; omega
          have q5 := tq_t (rfl : x0 = x0)
          have q6 := tq_t (rfl : xl = xl)
          clear hx0 hxl hn1 hn0 q4
          go_wp2_with fail
          clear g0 gl p0 p1 p2 p3 hw1 hw2
          refine (HA.out _).mono ?_
          rintro e w7 ⟨va, rfl, hra, hb7⟩
          have hown := ownsRow_below (built_none w6) hb7
          have hz7 : w6.heap.size ≤ w7.heap.size := Nat.le_trans (by simp) hb7.size
          have HR7 := Lib.hid (HR6.out.trans ((((Below.refl w6.heap.size w6).alloc (Nat.le_refl _) (.cells #[] 9)).trans (hb7.mono (by simp))).mono HR6.out.size))
          obtain ⟨v1, w8, hrun1, hown1, hbb1⟩ := run_append_reads w6.heap.size _ _ va [] _ hown hra (by simp only [List.length_nil, List.length_map, List.length_take]; have := HN.out; omega) hz7 22
          have HR8 := Lib.hid (HR7.out.trans (hbb1.mono HR6.out.size))
          have HO1 := Lib.hid hown1
          have HZ8 : Hid (w6.heap.size ≤ w8.heap.size) := Nat.le_trans hz7 hbb1.size
          clear hown hra hb7 hz7 hown1 hbb1
          go_wp2_with (first | (at_builtin; refine wpList_append_eq rfl _ _ 22 rfl _ _ _ w8 rfl rfl hrun1 ?_) | fail)
          clear hrun1
          refine (HB.out w8).mono ?_
          rintro e w9 ⟨vb, rfl, hrb, hb9⟩
          obtain ⟨v2, w10, hrun2, hown2, hbb2⟩ := run_append_reads w6.heap.size _ _ vb _ _ (ownsRow_below HO1.out hb9) hrb (by simp only [List.nil_append, List.length_map, List.length_take, List.length_drop]; have := HN.out; omega) (Nat.le_trans HZ8.out hb9.size) 22
          have HR10 := Lib.hid ((HR8.out.trans (hb9.mono HR8.out.size)).trans (hbb2.mono HR6.out.size))
          rw [List.nil_append, ← List.map_append, HTD.out] at hown2
          obtain ⟨o3, c3, rfl, hc3⟩ := cells_of hown2
          have HSame : Hid (Calls Tryz.prog 20 #[.slice o3 n c3, .slice (some ⟨b4, f4, none⟩) n c2] w10 fun e w' => e = .returned (.bool true) ∧ Below w10.heap.size w10 w') := by
            have := same_told ws (by rw [← HN.out]; omega) o3 c3 (some ⟨b4, f4, none⟩) c2 w10 hc3 (HC.out w10 HR10.out)
            rw [← HN.out] at this
            exact this
          rw [← HN.out] at hrun2
          clear hrb hb9 hbb2 hown2 hc3
          go_wp2_with (first | (at_builtin; refine wpList_append_eq rfl _ _ 22 rfl _ _ _ w10 rfl rfl hrun2 ?_) | fail)
          clear hrun2
          refine HSame.out.mono ?_
          rintro e w11 ⟨rfl, hb11⟩
          have HR11 := Lib.hid (HR10.out.trans (hb11.mono HR10.out.size))
          clear hb11 HSame
          go_wp2_with fail
          refine (H5.out w11 (HSt.out w11 HR11.out)).mono ?_
          rintro e w12 ⟨rfl, hb12⟩
          have HR12 := Lib.hid (HR11.out.trans (hb12.mono HR11.out.size))
          clear hb12
          go_wp2_with fail
          refine (H6.out w12 (HSt.out w12 HR12.out)).mono ?_
          rintro e w13 ⟨rfl, hb13⟩
          have HR13 := Lib.hid (HR12.out.trans (hb13.mono HR12.out.size))
          clear hb13
          go_wp2_with fail
          refine (HDn1.out w13).mono ?_
          rintro e _ ⟨rfl, rfl⟩
          go_wp2_with fail
          refine (H7.out w13 (HSt.out w13 HR13.out)).mono ?_
          rintro e w14 ⟨rfl, hb14⟩
          have HR14 := Lib.hid (HR13.out.trans (hb14.mono HR13.out.size))
          clear hb14
          go_wp2_with fail
          refine (H8.out w14 (HSt.out w14 HR14.out)).mono ?_
          rintro e w15 ⟨rfl, hb15⟩
          have HR15 := Lib.hid (HR14.out.trans (hb15.mono HR14.out.size))
          clear hb15
          go_wp2_with fail
          refine (HJn.out w15 HR15.out).mono ?_
          rintro e w16 ⟨rfl, hb16⟩
          have HR16 := Lib.hid (HR15.out.trans (hb16.mono HR15.out.size))
          clear hb16
          go_wp2_with fail
          go_ret
          exact ⟨by trivial, HB3.out.trans (HR16.out.mono HB3.out.size)⟩
      · have t7 : ¬ (k : Int) < (n : Int) := by omega
        clear t3 t4
        have HJn : Hid (∀ W, Below w3.heap.size w3 W → Calls Tryz.prog 21 #[.slice o2 n c2] W fun e w' => e = .returned (.string (txt (joinT ws))) ∧ Below W.heap.size W w') := fun W h => by
          have := join_told ws o2 c2 W (HC.out W h) (by rw [← HN.out]; omega) (by have := HJL.out; omega)
          rw [← HN.out] at this
          exact this
        have hnil : (txt ([] : BT)).toList = [] := txt_toL []
        have hnil2 : (txt ([] : BT)).toList.isEmpty = true := by rw [txt_toL]; rfl
        have hjj := tq_t (rfl : joinT ws = joinT ws)
        go_wp2_with fail
        refine (HDK.out wr).mono ?_
        rintro e _ ⟨rfl, rfl⟩
        go_wp2_with fail
        refine (H3.out wr (HSt.out wr HBR.out)).mono ?_
        rintro e w5 ⟨rfl, hb5⟩
        have HR5 := Lib.hid (HBR.out.trans (hb5.mono HBR.out.size))
        clear hb5
        go_wp2_with fail
        refine (HDK1.out w5).mono ?_
        rintro e _ ⟨rfl, rfl⟩
        go_wp2_with fail
        refine (HDn.out w5).mono ?_
        rintro e _ ⟨rfl, rfl⟩
        go_wp2_with fail
        refine (H4.out w5 (HSt.out w5 HR5.out)).mono ?_
        rintro e w6 ⟨rfl, hb6⟩
        have HR6 := Lib.hid (HR5.out.trans (hb6.mono HR5.out.size))
        clear hb6 H3 H4 HDK HDK1 HDn
        by_cases hn0 : n = 0
        · have hws : ws = [] := List.eq_nil_of_length_eq_zero (by rw [← HN.out]; exact hn0)
          have hd : ¬ (0 : Int) < (n : Int) := by omega
          have e5 : ws.headD [] = [] := by rw [hws]; rfl
          have e6 : ws.getLast?.getD [] = [] := by rw [hws]; rfl
          rw [e5] at H5
          rw [e6] at H6
          clear e5 e6 hws hn0
          go_wp2_with fail
          refine (HA.out _).mono ?_
          rintro e w7 ⟨va, rfl, hra, hb7⟩
          have hown := ownsRow_below (built_none w6) hb7
          have hz7 : w6.heap.size ≤ w7.heap.size := Nat.le_trans (by simp) hb7.size
          have HR7 := Lib.hid (HR6.out.trans ((((Below.refl w6.heap.size w6).alloc (Nat.le_refl _) (.cells #[] 9)).trans (hb7.mono (by simp))).mono HR6.out.size))
          obtain ⟨v1, w8, hrun1, hown1, hbb1⟩ := run_append_reads w6.heap.size _ _ va [] _ hown hra (by simp only [List.length_nil, List.length_map, List.length_take]; have := HN.out; omega) hz7 22
          have HR8 := Lib.hid (HR7.out.trans (hbb1.mono HR6.out.size))
          have HO1 := Lib.hid hown1
          have HZ8 : Hid (w6.heap.size ≤ w8.heap.size) := Nat.le_trans hz7 hbb1.size
          clear hown hra hb7 hz7 hown1 hbb1
          go_wp2_with (first | (at_builtin; refine wpList_append_eq rfl _ _ 22 rfl _ _ _ w8 rfl rfl hrun1 ?_) | fail)
          clear hrun1
          refine (HB.out w8).mono ?_
          rintro e w9 ⟨vb, rfl, hrb, hb9⟩
          obtain ⟨v2, w10, hrun2, hown2, hbb2⟩ := run_append_reads w6.heap.size _ _ vb _ _ (ownsRow_below HO1.out hb9) hrb (by simp only [List.nil_append, List.length_map, List.length_take, List.length_drop]; have := HN.out; omega) (Nat.le_trans HZ8.out hb9.size) 22
          have HR10 := Lib.hid ((HR8.out.trans (hb9.mono HR8.out.size)).trans (hbb2.mono HR6.out.size))
          rw [List.nil_append, ← List.map_append, HTD.out] at hown2
          obtain ⟨o3, c3, rfl, hc3⟩ := cells_of hown2
          have HSame : Hid (Calls Tryz.prog 20 #[.slice o3 n c3, .slice o2 n c2] w10 fun e w' => e = .returned (.bool true) ∧ Below w10.heap.size w10 w') := by
            have := same_told ws (by rw [← HN.out]; omega) o3 c3 o2 c2 w10 hc3 (HC.out w10 HR10.out)
            rw [← HN.out] at this
            exact this
          rw [← HN.out] at hrun2
          clear hrb hb9 hbb2 hown2 hc3
          go_wp2_with (first | (at_builtin; refine wpList_append_eq rfl _ _ 22 rfl _ _ _ w10 rfl rfl hrun2 ?_) | fail)
          clear hrun2
          refine HSame.out.mono ?_
          rintro e w11 ⟨rfl, hb11⟩
          have HR11 := Lib.hid (HR10.out.trans (hb11.mono HR10.out.size))
          clear hb11 HSame
          go_wp2_with fail
          refine (H5.out w11 (HSt.out w11 HR11.out)).mono ?_
          rintro e w12 ⟨rfl, hb12⟩
          have HR12 := Lib.hid (HR11.out.trans (hb12.mono HR11.out.size))
          clear hb12
          go_wp2_with fail
          refine (H6.out w12 (HSt.out w12 HR12.out)).mono ?_
          rintro e w13 ⟨rfl, hb13⟩
          have HR13 := Lib.hid (HR12.out.trans (hb13.mono HR12.out.size))
          clear hb13
          go_wp2_with fail
          refine (HDn1.out w13).mono ?_
          rintro e _ ⟨rfl, rfl⟩
          go_wp2_with fail
          refine (H7.out w13 (HSt.out w13 HR13.out)).mono ?_
          rintro e w14 ⟨rfl, hb14⟩
          have HR14 := Lib.hid (HR13.out.trans (hb14.mono HR13.out.size))
          clear hb14
          go_wp2_with fail
          refine (H8.out w14 (HSt.out w14 HR14.out)).mono ?_
          rintro e w15 ⟨rfl, hb15⟩
          have HR15 := Lib.hid (HR14.out.trans (hb15.mono HR14.out.size))
          clear hb15
          go_wp2_with fail
          refine (HJn.out w15 HR15.out).mono ?_
          rintro e w16 ⟨rfl, hb16⟩
          have HR16 := Lib.hid (HR15.out.trans (hb16.mono HR15.out.size))
          clear hb16
          go_wp2_with fail
          go_ret
          exact ⟨by trivial, HB3.out.trans (HR16.out.mono HB3.out.size)⟩
        · have hd : (0 : Int) < (n : Int) := by omega
          obtain ⟨x0, hx0⟩ : ∃ x, ws[0]? = some x := ⟨ws[0]'(by rw [← HN.out]; omega), List.getElem?_eq_getElem _⟩
          obtain ⟨xl, hxl⟩ : ∃ x, ws[ws.length - 1]? = some x := ⟨ws[ws.length - 1]'(by have := HN.out; omega), List.getElem?_eq_getElem _⟩
          rw [first_get hx0] at H5
          rw [last_get hxl] at H6
          obtain ⟨n1, hn1⟩ : ∃ n1, n1 = n - 1 := ⟨_, rfl⟩
          rw [← HN.out, ← hn1] at hxl
          obtain ⟨b4, f4, r4, _, q4, g0⟩ := HC.out w6 HR6.out 0 x0 hx0
          cases r4
          obtain ⟨b9, f9, r9, _, _, gl⟩ := HC.out w6 HR6.out n1 xl hxl
          cases r9
          rw [Nat.add_zero] at g0
          rw [← HN.out] at q4
          have p0 : 0 < c2 := by omega
          have p1 : n1 < c2 := by omega
          have p2 : n1 < n := by omega
          have p3 : 0 < n := by omega
          have hw1 : (n : Int) - 1 = (n1 : Int) := by omega
          have hw2 : IntKind.i64.wrap ((n : Int) - 1) = (n1 : Int) := by rw [IntKind.wrap_i64]; omega
          have q5 := tq_t (rfl : x0 = x0)
          have q6 := tq_t (rfl : xl = xl)
          clear hx0 hxl hn1 hn0 q4
          go_wp2_with fail
          clear g0 gl p0 p1 p2 p3 hw1 hw2
          refine (HA.out _).mono ?_
          rintro e w7 ⟨va, rfl, hra, hb7⟩
          have hown := ownsRow_below (built_none w6) hb7
          have hz7 : w6.heap.size ≤ w7.heap.size := Nat.le_trans (by simp) hb7.size
          have HR7 := Lib.hid (HR6.out.trans ((((Below.refl w6.heap.size w6).alloc (Nat.le_refl _) (.cells #[] 9)).trans (hb7.mono (by simp))).mono HR6.out.size))
          obtain ⟨v1, w8, hrun1, hown1, hbb1⟩ := run_append_reads w6.heap.size _ _ va [] _ hown hra (by simp only [List.length_nil, List.length_map, List.length_take]; have := HN.out; omega) hz7 22
          have HR8 := Lib.hid (HR7.out.trans (hbb1.mono HR6.out.size))
          have HO1 := Lib.hid hown1
          have HZ8 : Hid (w6.heap.size ≤ w8.heap.size) := Nat.le_trans hz7 hbb1.size
          clear hown hra hb7 hz7 hown1 hbb1
          go_wp2_with (first | (at_builtin; refine wpList_append_eq rfl _ _ 22 rfl _ _ _ w8 rfl rfl hrun1 ?_) | fail)
          clear hrun1
          refine (HB.out w8).mono ?_
          rintro e w9 ⟨vb, rfl, hrb, hb9⟩
          obtain ⟨v2, w10, hrun2, hown2, hbb2⟩ := run_append_reads w6.heap.size _ _ vb _ _ (ownsRow_below HO1.out hb9) hrb (by simp only [List.nil_append, List.length_map, List.length_take, List.length_drop]; have := HN.out; omega) (Nat.le_trans HZ8.out hb9.size) 22
          have HR10 := Lib.hid ((HR8.out.trans (hb9.mono HR8.out.size)).trans (hbb2.mono HR6.out.size))
          rw [List.nil_append, ← List.map_append, HTD.out] at hown2
          obtain ⟨o3, c3, rfl, hc3⟩ := cells_of hown2
          have HSame : Hid (Calls Tryz.prog 20 #[.slice o3 n c3, .slice (some ⟨b4, f4, none⟩) n c2] w10 fun e w' => e = .returned (.bool true) ∧ Below w10.heap.size w10 w') := by
            have := same_told ws (by rw [← HN.out]; omega) o3 c3 (some ⟨b4, f4, none⟩) c2 w10 hc3 (HC.out w10 HR10.out)
            rw [← HN.out] at this
            exact this
          rw [← HN.out] at hrun2
          clear hrb hb9 hbb2 hown2 hc3
          go_wp2_with (first | (at_builtin; refine wpList_append_eq rfl _ _ 22 rfl _ _ _ w10 rfl rfl hrun2 ?_) | fail)
          clear hrun2
          refine HSame.out.mono ?_
          rintro e w11 ⟨rfl, hb11⟩
          have HR11 := Lib.hid (HR10.out.trans (hb11.mono HR10.out.size))
          clear hb11 HSame
          go_wp2_with fail
          refine (H5.out w11 (HSt.out w11 HR11.out)).mono ?_
          rintro e w12 ⟨rfl, hb12⟩
          have HR12 := Lib.hid (HR11.out.trans (hb12.mono HR11.out.size))
          clear hb12
          go_wp2_with fail
          refine (H6.out w12 (HSt.out w12 HR12.out)).mono ?_
          rintro e w13 ⟨rfl, hb13⟩
          have HR13 := Lib.hid (HR12.out.trans (hb13.mono HR12.out.size))
          clear hb13
          go_wp2_with fail
          refine (HDn1.out w13).mono ?_
          rintro e _ ⟨rfl, rfl⟩
          go_wp2_with fail
          refine (H7.out w13 (HSt.out w13 HR13.out)).mono ?_
          rintro e w14 ⟨rfl, hb14⟩
          have HR14 := Lib.hid (HR13.out.trans (hb14.mono HR13.out.size))
          clear hb14
          go_wp2_with fail
          refine (H8.out w14 (HSt.out w14 HR14.out)).mono ?_
          rintro e w15 ⟨rfl, hb15⟩
          have HR15 := Lib.hid (HR14.out.trans (hb15.mono HR14.out.size))
          clear hb15
          go_wp2_with fail
          refine (HJn.out w15 HR15.out).mono ?_
          rintro e w16 ⟨rfl, hb16⟩
          have HR16 := Lib.hid (HR15.out.trans (hb16.mono HR15.out.size))
          clear hb16
          go_wp2_with fail
          go_ret
          exact ⟨by trivial, HB3.out.trans (HR16.out.mono HB3.out.size)⟩
end Go.Proofs.YtfdlcmjjnoapfaaGreatDoor
