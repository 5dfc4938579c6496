/-
  CallSubst, the walk: it answers true for every two parts and every text. No condition.
-/
import Derived.OwnWalkIn
import Derived.LoopIn
import Derived.LoopNIn
import Derived.WalkSpells
import Derived.Test.YtfdlcmjjnoapfaaGreatDoorNWk
namespace Go.Proofs.YtfdlcmjjnoapfaaGreatDoor
open Go.RowKit Go.Shelf
attribute [local go_sem] Oper.semAt_some

/-- How often a part is put. -/
def hitGo (a : BT) : Nat → BT → Nat
  | _, [] => 0
  | k + 1, _ :: r => hitGo a k r
  | 0, c :: r => if a.isPrefixOf (c :: r) then 1 + hitGo a (a.length - 1) r else hitGo a 0 r
theorem hit_done (a : BT) : hitGo a 0 [] = 0 := by unfold hitGo; rfl
theorem hit_skip (a : BT) : ∀ (k : Nat) (l : BT), hitGo a k l = hitGo a 0 (l.drop k)
  | 0, l => by rw [List.drop_zero]
  | k + 1, [] => by rw [List.drop_nil]; unfold hitGo; rfl
  | k + 1, c :: r => by
    conv => lhs; unfold hitGo
    rw [hit_skip a k r]; rfl
theorem hit_hit {a l : BT} (ha : a ≠ []) (h : a.isPrefixOf l = true) : hitGo a 0 l = 1 + hitGo a 0 (l.drop a.length) := by
  cases l with
  | nil => cases a with
    | nil => exact absurd rfl ha
    | cons x y => simp [List.isPrefixOf] at h
  | cons c r =>
    conv => lhs; unfold hitGo
    rw [if_pos h, hit_skip]
    cases a with
    | nil => exact absurd rfl ha
    | cons x y => rfl
theorem hit_miss {a r : BT} {c : UInt8} (h : a.isPrefixOf (c :: r) = false) : hitGo a 0 (c :: r) = hitGo a 0 r := by
  conv => lhs; unfold hitGo
  rw [if_neg (by rw [h]; simp)]
theorem hit_few {a : BT} (ha : a ≠ []) : ∀ (n : Nat) (l : BT), l.length ≤ n → hitGo a 0 l ≤ l.length
  | _, [], _ => by rw [hit_done]; exact Nat.zero_le _
  | 0, c :: r, h => by simp at h
  | n + 1, c :: r, h => by
    have hr : r.length ≤ n := by simpa using h
    have hpos : 0 < a.length := List.length_pos_iff.2 ha
    by_cases hp : a.isPrefixOf (c :: r) = true
    · rw [hit_hit ha hp]
      have hd : ((c :: r).drop a.length).length ≤ n := by rw [List.length_drop]; simp; omega
      have := hit_few ha n _ hd
      rw [List.length_drop] at this
      simp only [List.length_cons] at this ⊢
      omega
    · rw [hit_miss (Bool.eq_false_iff.2 hp)]
      have := hit_few ha n r hr
      simp only [List.length_cons]
      omega
theorem sub_len {a b : BT} (ha : a ≠ []) : ∀ (n : Nat) (l : BT), l.length ≤ n → (subGo a b 0 l).length + hitGo a 0 l * a.length = l.length + hitGo a 0 l * b.length
  | _, [], _ => by rw [hit_done, sub_done]; simp
  | 0, c :: r, h => by simp at h
  | n + 1, c :: r, h => by
    have hr : r.length ≤ n := by simpa using h
    have hpos : 0 < a.length := List.length_pos_iff.2 ha
    by_cases hp : a.isPrefixOf (c :: r) = true
    · have hle : a.length ≤ (c :: r).length := (List.isPrefixOf_iff_prefix.1 hp).length_le
      rw [hit_hit ha hp, sub_hit ha hp, List.length_append]
      have hd : ((c :: r).drop a.length).length ≤ n := by rw [List.length_drop]; simp; omega
      have := sub_len (b := b) ha n _ hd
      rw [List.length_drop] at this
      rw [Nat.add_mul, Nat.add_mul]
      omega
    · rw [hit_miss (Bool.eq_false_iff.2 hp), sub_miss (Bool.eq_false_iff.2 hp)]
      have := sub_len (b := b) ha n r hr
      simp only [List.length_cons]
      omega
theorem hit_short {a : BT} : ∀ l : BT, l.length < a.length → hitGo a 0 l = 0
  | [], _ => hit_done a
  | c :: r, h => by
    have hp : a.isPrefixOf (c :: r) = false := Bool.eq_false_iff.2 fun hp => by
      have := (List.isPrefixOf_iff_prefix.1 hp).length_le
      omega
    rw [hit_miss hp]
    exact hit_short r (by simp only [List.length_cons] at h; omega)
theorem hit_zero {a : BT} (ha : a ≠ []) : ∀ l : BT, hitGo a 0 l = 0 → ∀ j, a.isPrefixOf (l.drop j) = false
  | [], _, j => by
    rw [List.drop_nil]
    cases a with
    | nil => exact absurd rfl ha
    | cons x y => rfl
  | c :: r, h, j => by
    have hp : a.isPrefixOf (c :: r) = false := Bool.eq_false_iff.2 fun hp => by rw [hit_hit ha hp] at h; omega
    rw [hit_miss hp] at h
    cases j with
    | zero => exact hp
    | succ j => exact hit_zero ha r h j
theorem sub_none {a b : BT} : ∀ l : BT, (∀ j, j ≤ l.length → a.isPrefixOf (l.drop j) = false) → subGo a b 0 l = l
  | [], _ => sub_done a b
  | c :: r, h => by
    rw [sub_miss (h 0 (Nat.zero_le _)), sub_none r fun j hj => h (j + 1) (by simp only [List.length_cons]; omega)]
theorem found_hit {a t : BT} (ha : a ≠ []) (h : foundB a t = true) : 0 < hitGo a 0 t := by
  rcases Nat.eq_zero_or_pos (hitGo a 0 t) with h0 | h0
  · unfold foundB at h
    rw [List.any_eq_true] at h
    obtain ⟨j, _, hj⟩ := h
    rw [hit_zero ha t h0 j] at hj
    cases hj
  · exact h0
theorem found_not {a b t : BT} (h : foundB a t = false) : subGo a b 0 t = t := sub_none t fun j hj => by
  unfold foundB at h
  rw [List.any_eq_false] at h
  exact Bool.eq_false_iff.2 (h j (List.mem_range.2 (by omega)))
theorem subst_told (a b t : BT) : (callT nSubst [a, b, t]).1 = if (subT a b t).length ≤ 4000 then subT a b t else [] := by
  have : callT nSubst [a, b, t] = finT (some (subT a b t)) := rfl
  rw [this]
  unfold finT
  simp only
  split <;> rfl
theorem found_told (a t : BT) (h : a.length ≤ 4000) : (callT nFindstring [a, t]).1 = if foundB a t = true then a else [] := by
  have : callT nFindstring [a, t] = finT (some (if foundB a t = true then a else [])) := rfl
  rw [this, fin_ok]
  split
  · exact h
  · simp
theorem mul_near (m B A : Int) (hm0 : 0 ≤ m) (hm : m ≤ 300) (hB : 0 ≤ B) (hB1 : B ≤ 50) (hA : 0 ≤ A) (hA1 : A ≤ 50) : -15000 ≤ m * (B - A) ∧ m * (B - A) ≤ 15000 := by
  have h1 : m * (B - A) ≤ m * 50 := Int.mul_le_mul_of_nonneg_left (by omega) hm0
  have h2 : m * (-50) ≤ m * (B - A) := Int.mul_le_mul_of_nonneg_left (by omega) hm0
  omega

set_option maxRecDepth 100000 in
set_option maxHeartbeats 4000000 in
theorem callSubst_walk (s0 : ByteArray) (hs0 : s0.size ≤ maxLen) (s1 : ByteArray) (hs1 : s1.size ≤ maxLen) (s2 : ByteArray) (hs2 : s2.size ≤ maxLen) (w : World) (hst : Std w) :
    Calls Tryz.prog 9 #[.string s0, .string s1, .string s2] w (LawPost w) := by
  unfold maxLen at hs0 hs1 hs2
  have HS := Lib.hid hst
  have HSh := Lib.hid (shown_any w hst)
  clear hst
  by_cases a1 : 50 < s0.size
  · clear HS
    go_enter Tryz.func9, Tryz.ntmps9
    go_wp2_with fail
    refine HSh.out.mono ?_
    rintro e w1 ⟨rfl, hb1⟩
    go_wp2_with fail
    go_ret
    exact ⟨rfl, hb1⟩
  by_cases a2 : 50 < s1.size
  · clear HS
    go_enter Tryz.func9, Tryz.ntmps9
    go_wp2_with fail
    refine HSh.out.mono ?_
    rintro e w1 ⟨rfl, hb1⟩
    go_wp2_with fail
    go_ret
    exact ⟨rfl, hb1⟩
  by_cases a3 : 300 < s2.size
  · clear HS
    go_enter Tryz.func9, Tryz.ntmps9
    go_wp2_with fail
    refine HSh.out.mono ?_
    rintro e w1 ⟨rfl, hb1⟩
    go_wp2_with fail
    go_ret
    exact ⟨rfl, hb1⟩
  have z0 : s0.size ≤ 50 := by omega
  have z1 : s1.size ≤ 50 := by omega
  have z2 : s2.size ≤ 300 := by omega
  have y0 : ¬ (50 : Int) < (s0.size : Int) := by omega
  have y1 : ¬ (50 : Int) < (s1.size : Int) := by omega
  have y2 : ¬ (300 : Int) < (s2.size : Int) := by omega
  clear a1 a2 a3 hs0 hs1 hs2
  have H1 : Hid (∀ W, Std W → Calls Tryz.prog 18 #[.string ⟨#[115, 117, 98, 115, 116]⟩, .slice (some ⟨W.heap.size, 0, none⟩) 3 3] (W.alloc (.cells #[.string s0, .string s1, .string s2] 9)) fun e w' => e = .returned (.string (txt (callT nSubst [s0.data.toList, s1.data.toList, s2.data.toList]).1)) ∧ Below W.heap.size W w') := fun W hW => by
    have := of3_is ⟨#[115, 117, 98, 115, 116]⟩ s0.data.toList s1.data.toList s2.data.toList (callT nSubst [s0.data.toList, s1.data.toList, s2.data.toList]).1 (by rw [size_list]; omega) (by rw [size_list]; omega) (by rw [size_list]; omega) rfl W hW
    rw [txt_toList, txt_toList, txt_toList] at this
    exact this
  have H2 : Hid (∀ W, Std W → Calls Tryz.prog 18 #[.string ⟨#[102, 105, 110, 100, 115, 116, 114, 105, 110, 103]⟩, .slice (some ⟨W.heap.size, 0, none⟩) 2 2] (W.alloc (.cells #[.string s0, .string s2] 9)) fun e w' => e = .returned (.string (txt (callT nFindstring [s0.data.toList, s2.data.toList]).1)) ∧ Below W.heap.size W w') := fun W hW => by
    have := of2_is ⟨#[102, 105, 110, 100, 115, 116, 114, 105, 110, 103]⟩ s0.data.toList s2.data.toList (callT nFindstring [s0.data.toList, s2.data.toList]).1 (by rw [size_list]; omega) (by rw [size_list]; omega) rfl W hW
    rw [txt_toList, txt_toList] at this
    exact this
  rw [subst_told] at H1
  rw [found_told _ _ (by rw [size_list]; omega)] at H2
  by_cases h0 : s0.data.toList = []
  · have hV : (if (subT s0.data.toList s1.data.toList s2.data.toList).length ≤ 4000 then subT s0.data.toList s1.data.toList s2.data.toList else []) = s2.data.toList := by
      unfold subT
      rw [if_pos h0, if_pos (by rw [size_list]; omega)]
    have h0' : (s0.toList == []) = true := by rw [Lib.toList_data, h0]; rfl
    have h0e : s0.toList.isEmpty = true := by rw [Lib.toList_data, h0]; rfl
    have h00 : s0.toList = [] := by rw [Lib.toList_data, h0]
    rw [hV, txt_toList] at H1
    clear H2 hV h0
    go_enter Tryz.func9, Tryz.ntmps9
    go_wp2_with fail
    refine HSh.out.mono ?_
    rintro e w1 ⟨rfl, hb1⟩
    have HS1 := Lib.hid (HS.out.below hb1)
    go_wp2_with fail
    refine (H1.out w1 HS1.out).mono ?_
    rintro e w2 ⟨rfl, hb2⟩
    have hB := hb1.trans (hb2.mono hb1.size)
    go_wp2_with fail
    go_ret
    exact ⟨rfl, hB⟩
  have hE : s0.toList.isEmpty = false := by rw [Lib.toList_data]; simpa using h0
  have hE' : (s0.toList == []) = false := by rw [Lib.toList_data, beq_eq_false_iff_ne]; exact h0
  have hE2 : ¬ s0.toList = [] := by rw [Lib.toList_data]; exact h0
  have hap : 0 < s0.size := by rw [← size_list]; exact List.length_pos_iff.2 h0
  have HNe := Lib.hid h0
  cases hF : foundB s0.data.toList s2.data.toList with
  | false =>
    have hV : (if (subT s0.data.toList s1.data.toList s2.data.toList).length ≤ 4000 then subT s0.data.toList s1.data.toList s2.data.toList else []) = s2.data.toList := by
      unfold subT
      rw [if_neg h0, found_not hF, if_pos (by rw [size_list]; omega)]
    rw [hV, txt_toList] at H1
    rw [hF, if_neg (by simp)] at H2
    clear hV h0 hF
    go_enter Tryz.func9, Tryz.ntmps9
    go_wp2_with fail
    refine HSh.out.mono ?_
    rintro e w1 ⟨rfl, hb1⟩
    have HS1 := Lib.hid (HS.out.below hb1)
    go_wp2_with fail
    refine (H1.out w1 HS1.out).mono ?_
    rintro e w2 ⟨rfl, hb2⟩
    have HS2 := Lib.hid (HS1.out.below hb2)
    have hB := hb1.trans (hb2.mono hb1.size)
    go_wp2_with fail
    refine (H2.out w2 HS2.out).mono ?_
    rintro e w3 ⟨rfl, hb3⟩
    have hB3 := hB.trans (hb3.mono hB.size)
    have he0 : (txt ([] : BT)).toList = [] := txt_toL []
    go_wp2_with fail
    go_ret
    exact ⟨rfl, hB3⟩
  | true =>
    rw [hF, if_pos rfl, txt_toList] at H2
    have HHit := Lib.hid (found_hit h0 hF)
    have HV : Hid (subT s0.data.toList s1.data.toList s2.data.toList = subGo s0.data.toList s1.data.toList 0 s2.data.toList) := by
      show _ = _
      unfold subT
      rw [if_neg h0]
    have HLen := Lib.hid (sub_len (b := s1.data.toList) h0 _ s2.data.toList (Nat.le_refl _))
    have HFew := Lib.hid (hit_few h0 _ s2.data.toList (Nat.le_refl _))
    rw [← HV.out, size_list, size_list, size_list] at HLen
    rw [size_list] at HFew
    generalize subT s0.data.toList s1.data.toList s2.data.toList = S at H1 HLen
    obtain ⟨R, hR⟩ : ∃ R : BT, R = if S.length ≤ 4000 then S else [] := ⟨_, rfl⟩
    rw [← hR] at H1
    have HR := Lib.hid hR
    clear h0 hF HV hR
    go_enter Tryz.func9, Tryz.ntmps9
    go_wp2_with fail
    refine HSh.out.mono ?_
    rintro e w1 ⟨rfl, hb1⟩
    have HS1 := Lib.hid (HS.out.below hb1)
    go_wp2_with fail
    refine (H1.out w1 HS1.out).mono ?_
    rintro e w2 ⟨rfl, hb2⟩
    have HS2 := Lib.hid (HS1.out.below hb2)
    have hB := hb1.trans (hb2.mono hb1.size)
    go_wp2_with fail
    refine (H2.out w2 HS2.out).mono ?_
    rintro e w3 ⟨rfl, hb3⟩
    have HB3 := Lib.hid (hB.trans (hb3.mono hB.size))
    clear H1 H2 HS HS1 HS2 hb1 hb2 hb3 hB HSh
    go_wp2_with fail
    go_loopw [9, 10] (fun m i wr => ∃ (k n : Nat), k ≤ s2.size ∧ i = .int .i64 k ∧ m = .int .i64 n ∧ n ≤ 300 ∧ n + hitGo s0.data.toList 0 (s2.data.toList.drop k) = hitGo s0.data.toList 0 s2.data.toList ∧ wr = w3) (fun _ i _ => s2.size - (intOf i).toNat)
    case atStart => exact ⟨0, 0, Nat.zero_le _, rfl, rfl, by omega, by simp, rfl⟩
    case round =>
      obtain ⟨k, n, hk, rfl, rfl, hn, hN, rfl⟩ := hrel
      have HN := Lib.hid hN
      clear hN
      by_cases hfit : k + s0.size ≤ s2.size
      · have heq := part_eq s0 s2 k hfit
        have c0 : (k : Int) + (s0.size : Int) ≤ (s2.size : Int) := by omega
        have c1 : (k : Int) ≤ (k : Int) + (s0.size : Int) := by omega
        have c2 : (0 : Int) ≤ (k : Int) + (s0.size : Int) := by omega
        have hge : s2.data.toList.drop k = s2[k] :: s2.data.toList.drop (k + 1) := List.drop_eq_getElem_cons (by rw [size_list]; omega)
        by_cases hp : s0.data.toList.isPrefixOf (s2.data.toList.drop k) = true
        · rw [hp] at heq
          have HN2 : Hid (n + 1 + hitGo s0.data.toList 0 (s2.data.toList.drop (k + s0.size)) = hitGo s0.data.toList 0 s2.data.toList) := by
            show _ = _
            have := HN.out
            rw [hit_hit HNe.out hp, List.drop_drop, size_list] at this
            omega
          have hn2 : n + 1 ≤ 300 := by have := HN2.out; have := HFew.out; omega
          clear hp hge HN
          go_wp2_with fail
          go_roundw
          case rel => exact ⟨k + s0.size, n + 1, hfit, by go_num, by go_num, hn2, HN2.out, by trivial⟩
          case measure => simp [intOf]; omega
        · have hp' : s0.data.toList.isPrefixOf (s2.data.toList.drop k) = false := Bool.eq_false_iff.2 hp
          rw [hp'] at heq
          have HN2 : Hid (n + hitGo s0.data.toList 0 (s2.data.toList.drop (k + 1)) = hitGo s0.data.toList 0 s2.data.toList) := by
            show _ = _
            have := HN.out
            rw [hge] at hp' this
            rw [hit_miss hp'] at this
            exact this
          clear hp hp' hge HN
          go_wp2_with fail
          go_roundw
          case rel => exact ⟨k + 1, n, by omega, by go_num, rfl, hn, HN2.out, by trivial⟩
          case measure => simp [intOf]; omega
      · have hz : hitGo s0.data.toList 0 (s2.data.toList.drop k) = 0 := hit_short _ (by rw [List.length_drop, size_list, size_list]; omega)
        have hnh : n = hitGo s0.data.toList 0 s2.data.toList := by have := HN.out; omega
        have hn0 : 0 < n := by have := HHit.out; omega
        have hlen := HLen.out
        rw [← hnh] at hlen
        have hnear := mul_near (n : Int) (s1.size : Int) (s0.size : Int) (by omega) (by omega) (by omega) (by omega) (by omega) (by omega)
        have hmul : (n : Int) * ((s1.size : Int) - (s0.size : Int)) = (S.length : Int) - (s2.size : Int) := by
          rw [Int.mul_sub]
          have h1 : ((S.length + n * s0.size : Nat) : Int) = ((s2.size + n * s1.size : Nat) : Int) := by rw [hlen]
          rw [Int.natCast_add, Int.natCast_add, Int.natCast_mul, Int.natCast_mul] at h1
          omega
        rw [hmul] at hnear
        have hR := HR.out
        have d0 : ¬ (k : Int) + (s0.size : Int) ≤ (s2.size : Int) := by omega
        have d1 : (0 : Int) < (n : Int) := by omega
        have d2 : (s2.size : Int) + ((S.length : Int) - (s2.size : Int)) = (S.length : Int) := by omega
        clear hz hnh HN HNe HFew HHit HLen hlen HR
        by_cases hS : S.length ≤ 4000
        · rw [if_pos hS] at hR
          subst hR
          have hsz : (txt R).size = R.length := txt_size R
          have hs9 : R.length ≤ 4000 := hS
          go_wp2_with fail
          go_ret
          exact ⟨rfl, HB3.out⟩
        · rw [if_neg hS] at hR
          subst hR
          have hsz : (txt ([] : BT)).size = 0 := txt_size []
          have he0 : (txt ([] : BT)).toList = [] := txt_toL []
          have hs9 : (4000 : Int) < (S.length : Int) := by omega
          have hs8 : ((0 : Int) == (S.length : Int)) = false := by rw [beq_eq_false_iff_ne]; omega
          have hs7 : ¬ (0 : Int) = (S.length : Int) := by omega
          go_wp2_with fail
          go_ret
          exact ⟨rfl, HB3.out⟩
end Go.Proofs.YtfdlcmjjnoapfaaGreatDoor
