/-
  ParseWhole, over what each call of Parse and of Cut tells: it answers true, and turns nothing that lay there. For every text, every sign.
-/
import Derived.Test.YtldddecaeloohaaDoorPSh
namespace Go.Proofs.YtldddecaeloohaaDoor
open Go.RowKit Go.Shelf
attribute [local go_sem] Oper.semAt_some

/-- A cut at one sign, whose row the call makes. -/
theorem CutC.one (HC : CutC) (g : ByteArray) (hg : g.size ≤ 10000) (z : ByteArray) (hz : z.size ≤ 100000) (W : World) (q : Nat) (hq : q = W.heap.size) : Calls Tryd.prog 19 #[.string z, .slice (some ⟨q, 0, none⟩) 1 1] (W.alloc (.cells #[.string g] 9)) fun e w' =>
    e = .returned (.tuple #[.string (txt (cutOf [g.data.toList] z.data.toList).1), .string (txt (cutOf [g.data.toList] z.data.toList).2.1), .string (txt (cutOf [g.data.toList] z.data.toList).2.2)]) ∧ Below W.heap.size W w' := by
  subst hq
  have hh := World.alloc_heap_new W (.cells #[.string g] 9)
  have hr : ReadsO (W.alloc (.cells #[.string g] 9)) (W.alloc (.cells #[.string g] 9)).heap.size (.slice (some ⟨W.heap.size, 0, none⟩) 1 1) ([g.data.toList].map txt) := by
    refine ⟨_, _, rfl, fun k x hk => ⟨W.heap.size, 0, rfl, by simp, by simp, ?_⟩⟩
    match k, hk with
    | 0, hk => cases hk; rw [Lib.cell_of_heap hh, txt_toList]; rfl
    | k + 1, hk => simp at hk
  refine (HC _ [g.data.toList] z _ hr (by simp) (by simp; omega) hz).mono ?_
  rintro e w' ⟨rfl, hb⟩
  exact ⟨rfl, ((Below.refl _ W).alloc (Nat.le_refl _) _).trans (hb.mono (by simp))⟩

set_option maxRecDepth 100000 in
set_option maxHeartbeats 16000000 in
theorem parseWhole_over (HP : ParseC) (HC : CutC) (s0 : ByteArray) (_hs0 : s0.size ≤ maxLen) (s1 : ByteArray) (_hs1 : s1.size ≤ maxLen) (w : World) : Calls Tryd.prog 6 #[.string s0, .string s1] w (LawPost w) := by
  have HSh := Lib.hid (shown9_at HP w w (Below.refl _ _))
  have hsm : s0.size ≤ 9223372036854775807 := _hs0
  have hsm1 : s1.size ≤ 9223372036854775807 := _hs1
  by_cases h1000 : 1000 < s0.size
  · have d1 : decide ((1000 : Int) < (s0.size : Int)) = true := decide_eq_true (by omega)
    go_enter Tryd.func6, Tryd.ntmps6
    go_wp2_with (go_at_call 10; refine HSh.out.mono ?_; rintro e w1 ⟨rfl, hb1⟩)
    go_ret
    exact ⟨rfl, hb1⟩
  have d1 : decide ((1000 : Int) < (s0.size : Int)) = false := decide_eq_false (by omega)
  by_cases h20 : 20 < s1.size
  · have d2 : decide ((20 : Int) < (s1.size : Int)) = true := decide_eq_true (by omega)
    go_enter Tryd.func6, Tryd.ntmps6
    go_wp2_with (go_at_call 10; refine HSh.out.mono ?_; rintro e w1 ⟨rfl, hb1⟩)
    go_ret
    exact ⟨rfl, hb1⟩
  have d2 : decide ((20 : Int) < (s1.size : Int)) = false := decide_eq_false (by omega)
  have H1 := Lib.hid (HC.one s1 (by omega) s0 (by omega))
  have hw1 := cut_whole [s1.data.toList] s0.data.toList
  obtain ⟨a, ha⟩ : ∃ y, y = (cutOf [s1.data.toList] s0.data.toList).1 := ⟨_, rfl⟩
  obtain ⟨x, hx⟩ : ∃ y, y = (cutOf [s1.data.toList] s0.data.toList).2.1 := ⟨_, rfl⟩
  obtain ⟨b, hb⟩ : ∃ y, y = (cutOf [s1.data.toList] s0.data.toList).2.2 := ⟨_, rfl⟩
  rw [← ha, ← hx, ← hb] at H1
  unfold Whole at hw1
  rw [← ha, ← hx, ← hb] at hw1
  go_enter Tryd.func6, Tryd.ntmps6
  go_wp2_with (go_at_call 10; refine HSh.out.mono ?_; rintro e w1 ⟨rfl, hb1⟩)
  refine (H1.out w1 _ rfl).mono ?_
  rintro e w2 ⟨rfl, hb2⟩
  have HB2 := Lib.hid (hb1.trans (hb2.mono hb1.size))
  clear H1 HSh hb1 hb2
  rcases hw1 with ⟨h1, h2, h3⟩ | ⟨h1, h2, h3⟩
  · have e1 : (txt x).toList.isEmpty = true := by rw [txt_toL, h1]; rfl
    have e2 : ((txt a).toList == s0.toList) = true := by rw [txt_toL, Lib.toList_data, h2]; simp
    have e3 : (txt b).toList.isEmpty = true := by rw [txt_toL, h3]; rfl
    clear h1 h2 h3 ha hx hb
    go_wp2
    go_ret
    exact ⟨rfl, HB2.out⟩
  · have hxs : x = s1.data.toList := by simpa using h1
    have e1 : (txt x).toList.isEmpty = false := by rw [txt_toL]; simpa using h2
    have hlen := congrArg List.length h3
    simp only [List.length_append, size_list] at hlen
    -- ahead of it
    have H2 := Lib.hid (HC.one s1 (by omega) (txt a) (by rw [txt_size]; omega))
    rw [txt_data] at H2
    obtain ⟨y, hy⟩ : ∃ y, y = (cutOf [s1.data.toList] a).2.1 := ⟨_, rfl⟩
    obtain ⟨y1, hy1⟩ : ∃ y, y = (cutOf [s1.data.toList] a).1 := ⟨_, rfl⟩
    obtain ⟨y3, hy3⟩ : ∃ y, y = (cutOf [s1.data.toList] a).2.2 := ⟨_, rfl⟩
    rw [← hy, ← hy1, ← hy3] at H2
    have hyc : y = [] ∨ 1 < s1.size := by
      by_cases h1s : 1 < s1.size
      · exact .inr h1s
      · have hs1 : s1.data.toList.length = 1 := by
          rw [size_list]
          have : 0 < x.length := List.length_pos_iff.2 h2
          rw [hxs, size_list] at this; omega
        obtain ⟨q, hq⟩ : ∃ q, s1.data.toList = [q] := by
          match hs : s1.data.toList, hs1 with
          | [q], _ => exact ⟨q, rfl⟩
        refine .inl ?_
        rw [hy, ha, hq]
        exact cut_none q _ (by rw [← hq, ← hx]; exact h2)
    have e4 : ((txt x).toList == s1.toList) = true := by rw [txt_toL, Lib.toList_data, hxs]; simp
    have e5 : (txt y).toList.isEmpty = false → decide ((1 : Int) < (s1.size : Int)) = true := fun h => by
      rcases hyc with h0 | h0
      · rw [txt_toL, h0] at h; exact absurd h (by simp)
      · exact decide_eq_true (by omega)
    have H3 := Lib.hid h3
    clear hy hy1 hy3 ha hx hb h1 h2 hxs h3 hyc
    go_wp2_with (fail)
    refine (H2.out w2 _ rfl).mono ?_
    rintro e w3 ⟨rfl, hb3⟩
    have HB3 := Lib.hid (HB2.out.trans (hb3.mono HB2.out.size))
    clear H2 HB2 hb3
    go_wp2_with (fail)
    have hzd : (({ data := #[36, 40] } : ByteArray) ++ s0 ++ ({ data := #[41] } : ByteArray)).data.toList = [36, 40] ++ s0.data.toList ++ [41] := by simp
    have hzs : (({ data := #[36, 40] } : ByteArray) ++ s0 ++ ({ data := #[41] } : ByteArray)).size ≤ 1003 := by
      rw [← size_list, hzd]; simp only [List.length_append, size_list, List.length_cons, List.length_nil]; omega
    have H4 := HC.one s1 (by omega) (({ data := #[36, 40] } : ByteArray) ++ s0 ++ ({ data := #[41] } : ByteArray)) (by omega) w3 _ rfl
    have hw3 := cut_whole [s1.data.toList] (({ data := #[36, 40] } : ByteArray) ++ s0 ++ ({ data := #[41] } : ByteArray)).data.toList
    unfold Whole at hw3
    obtain ⟨t, ht⟩ : ∃ q, q = (cutOf [s1.data.toList] (({ data := #[36, 40] } : ByteArray) ++ s0 ++ ({ data := #[41] } : ByteArray)).data.toList).1 := ⟨_, rfl⟩
    obtain ⟨u, hu⟩ : ∃ q, q = (cutOf [s1.data.toList] (({ data := #[36, 40] } : ByteArray) ++ s0 ++ ({ data := #[41] } : ByteArray)).data.toList).2.1 := ⟨_, rfl⟩
    obtain ⟨v, hv⟩ : ∃ q, q = (cutOf [s1.data.toList] (({ data := #[36, 40] } : ByteArray) ++ s0 ++ ({ data := #[41] } : ByteArray)).data.toList).2.2 := ⟨_, rfl⟩
    rw [← ht, ← hu, ← hv] at H4 hw3
    clear ht hu hv
    refine H4.mono ?_
    rintro e w4 ⟨rfl, hb4⟩
    have HB4 := Lib.hid (HB3.out.trans (hb4.mono HB3.out.size))
    clear H4 HB3 hb4
    have sa : (txt a).size ≤ 1000 := by rw [txt_size]; omega
    have sx : (txt x).size ≤ 1000 := by rw [txt_size]; omega
    have sb : (txt b).size ≤ 1000 := by rw [txt_size]; omega
    have sax : (txt a ++ txt x).size ≤ 2000 := by rw [ByteArray.size_append]; omega
    have E1 : ((txt a ++ txt x ++ txt b).toList == s0.toList) = true := by
      rw [Lib.toList_data, Lib.toList_data, ← H3.out]; simp [txt_data]
    have e6 : ((txt y).toList.isEmpty || decide ((1 : Int) < (s1.size : Int))) = true := by
      cases hq : (txt y).toList.isEmpty
      · rw [e5 hq]; rfl
      · rfl
    clear e5
    rcases hw3 with ⟨h1, h2, h3⟩ | ⟨h1, h2, h3⟩
    · have f1 : (txt u).toList.isEmpty = true := by rw [txt_toL, h1]; rfl
      have f2 : ((txt t).toList == (({ data := #[36, 40] } : ByteArray) ++ s0 ++ ({ data := #[41] } : ByteArray)).toList) = true := by rw [txt_toL, Lib.toList_data, h2]; simp
      have f3 : (txt v).toList.isEmpty = true := by rw [txt_toL, h3]; rfl
      clear h1 h2 h3 H3 hlen
      cases hq : (txt y).toList.isEmpty
      · have e7 : decide ((1 : Int) < (s1.size : Int)) = true := by rw [hq] at e6; exact e6
        clear e6
        go_wp2
        go_ret
        exact ⟨rfl, HB4.out⟩
      · clear e6
        go_wp2
        go_ret
        exact ⟨rfl, HB4.out⟩
    · have hus : u = s1.data.toList := by simpa using h1
      have f1 : (txt u).toList.isEmpty = false := by rw [txt_toL]; simpa using h2
      have f2 : ((txt u).toList == s1.toList) = true := by rw [txt_toL, Lib.toList_data, hus]; simp
      have hl2 := congrArg List.length h3
      rw [size_list] at hl2
      simp only [List.length_append] at hl2
      have su : (txt u).size ≤ 2000 := by rw [txt_size]; omega
      have st : (txt t).size ≤ 2000 := by rw [txt_size]; omega
      have sv : (txt v).size ≤ 2000 := by rw [txt_size]; omega
      have stu : (txt t ++ txt u).size ≤ 4000 := by rw [ByteArray.size_append]; omega
      have f3 : ((txt t ++ txt u ++ txt v).toList == (({ data := #[36, 40] } : ByteArray) ++ s0 ++ ({ data := #[41] } : ByteArray)).toList) = true := by
        rw [Lib.toList_data, Lib.toList_data, ← h3]; simp [txt_data]
      clear h1 h2 h3 hus H3 hlen hl2
      cases hq : (txt y).toList.isEmpty
      · have e7 : decide ((1 : Int) < (s1.size : Int)) = true := by rw [hq] at e6; exact e6
        clear e6
        go_wp2
        go_ret
        exact ⟨rfl, HB4.out⟩
      · clear e6
        go_wp2
        go_ret
        exact ⟨rfl, HB4.out⟩
end Go.Proofs.YtldddecaeloohaaDoor
