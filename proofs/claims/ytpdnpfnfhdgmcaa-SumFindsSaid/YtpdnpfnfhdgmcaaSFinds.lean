/-
  SumFinds: a text in which one byte is another one has another sum: for every number, text, place and byte. No condition.
-/
import Derived.Test.YtpdnpfnfhdgmcaaRowP
import Derived.Test.YtpdnpfnfhdgmcaaSRef
namespace Go.Proofs.Ytpdnpfnfhdgmcaa
open Go.ChangeShapes Go.WideShapes Go.ChangeAt Go.RowKit

theorem cut_at_list (l : List UInt8) (k : Nat) (h : k < l.length) : l = l.take k ++ l[k] :: l.drop (k + 1) := by
  rw [← List.drop_eq_getElem_cons h, List.take_append_drop]
theorem txt_app (a b : List UInt8) : txt a ++ txt b = txt (a ++ b) := by
  rw [← txt_toList (txt a ++ txt b)]; simp [ByteArray.data_append, txt]
theorem str_eq (a b : ByteArray) : (a.toList == b.toList) = decide (a = b) := by
  rw [Bool.eq_iff_iff]
  simp only [beq_iff_eq, decide_eq_true_eq]
  refine ⟨fun h => ?_, fun h => by rw [h]⟩
  rw [Lib.toList_data, Lib.toList_data] at h
  rw [← txt_toList a, ← txt_toList b, h]

set_option maxRecDepth 100000 in
set_option maxHeartbeats 2000000 in
theorem sumFinds_walk (n : Nat) (hn : n < 4294967296) (s : ByteArray) (hs : s.size ≤ maxLen) (at' : Int) (hat : -9223372036854775808 ≤ at' ∧ at' ≤ 9223372036854775807) (c : UInt8) (w : World) : Calls Try.prog 5 #[.int .u32 n, .string s, .int .i64 at', .int .u8 c.toNat] w (LawPost w) := by
  have HW := Lib.hid shown_any
  obtain ⟨hat1, hat2⟩ := hat
  by_cases h1 : 3000 < s.size
  · have e1 : decide (3000 < (s.size : Int)) = true := by simp; omega
    clear hs
    go_enter Try.func5, Try.ntmps5
    go_wp2_with (go_at_call 8; refine (HW.out _).mono ?_; rintro e w1 ⟨rfl, hb1⟩)
    go_ret
    exact ⟨rfl, hb1⟩
  have e1 : decide (3000 < (s.size : Int)) = false := by simp; omega
  by_cases h2 : at' < 0
  · have e2 : decide (at' < 0) = true := by simp; omega
    clear hs
    go_enter Try.func5, Try.ntmps5
    go_wp2_with (go_at_call 8; refine (HW.out _).mono ?_; rintro e w1 ⟨rfl, hb1⟩)
    go_ret
    exact ⟨rfl, hb1⟩
  have e2 : decide (at' < 0) = false := by simp; omega
  by_cases h3 : (s.size : Int) ≤ at'
  · have e3 : decide ((s.size : Int) ≤ at') = true := by simp; omega
    clear hs
    go_enter Try.func5, Try.ntmps5
    go_wp2_with (go_at_call 8; refine (HW.out _).mono ?_; rintro e w1 ⟨rfl, hb1⟩)
    go_ret
    exact ⟨rfl, hb1⟩
  have e3 : decide ((s.size : Int) ≤ at') = false := by simp; omega
  obtain ⟨k, rfl⟩ : ∃ k : Nat, at' = (k : Int) := Int.eq_ofNat_of_zero_le (by omega)
  have hk : k < s.size := by omega
  have hk' : k < s.data.toList.length := by rw [Array.length_toList]; exact hk
  obtain ⟨t, ht⟩ : ∃ t, t = s.extract 0 k ++ txt [c] ++ s.extract (k + 1) s.size := ⟨_, rfl⟩
  have htl : t = txt (s.data.toList.take k ++ c :: s.data.toList.drop (k + 1)) := by
    rw [ht, extract_txt, extract_txt, take_rest, txt_app, txt_app]; simp
  have htz : t.size = s.size := by
    rw [htl, txt_size]
    simp only [List.length_append, List.length_take, List.length_cons, List.length_drop]
    rw [Array.length_toList] at *
    show min k s.size + (s.size - (k + 1) + 1) = s.size
    omega
  have htz1 : t.size ≤ 3000 := by omega
  have hkey : ((addN n s.data.toList = addN n t.data.toList) ↔ s = t) ∧ ((txt (hexN (addN 1 s.data.toList)) = txt (hexN (addN 1 t.data.toList))) ↔ s = t) := by
    have hne : ∀ m, addN m s.data.toList = addN m t.data.toList → s = t := by
      intro m e
      rw [htl, txt_data] at e
      have hc : s.data.toList[k] = c := by
        refine Classical.byContradiction fun hcn => ?_
        refine add_apart m (s.data.toList.take k) (s.data.toList.drop (k + 1)) hcn ?_
        rw [← cut_at_list s.data.toList k hk']
        exact e
      rw [htl, ← hc, ← cut_at_list s.data.toList k hk', txt_toList]
    exact ⟨⟨hne n, fun h => by rw [h]⟩, ⟨fun h => hne 1 (hex_inj (add_lt _ _) (add_lt _ _) (txt_inj h)), fun h => by rw [h]⟩⟩
  have HA := Lib.hid (add_any n hn s hs)
  have HB := Lib.hid (add_any n hn t (by unfold maxLen; omega))
  have HC := Lib.hid (of_any s hs)
  have HD := Lib.hid (of_any t (by unfold maxLen; omega))
  have HE := Lib.hid (hex_any (addN 1 s.data.toList) (add_lt _ _))
  have HF := Lib.hid (hex_any (addN 1 t.data.toList) (add_lt _ _))
  have HT := Lib.hid ht
  have c1 : ((addN n s.data.toList : Int) == (addN n t.data.toList : Int)) = decide (s = t) := by
    rw [Bool.eq_iff_iff]; simp only [beq_iff_eq, decide_eq_true_eq]; rw [← hkey.1]; omega
  have c2 : ((txt (hexN (addN 1 s.data.toList))).toList == (txt (hexN (addN 1 t.data.toList))).toList) = decide (s = t) := by
    rw [str_eq, Bool.eq_iff_iff]; simp only [decide_eq_true_eq]; exact hkey.2
  have c3 : (s.toList == t.toList) = decide (s = t) := str_eq s t
  have HQ1 := Lib.hid c1
  have HQ2 := Lib.hid c2
  have HQ3 := Lib.hid c3
  clear ht htl htz hkey c1 c2 c3 hs hk'
  generalize addN n s.data.toList = k1 at *
  generalize addN n t.data.toList = k2 at *
  generalize addN 1 s.data.toList = k3 at *
  generalize addN 1 t.data.toList = k4 at *
  generalize txt (hexN k3) = x3 at *
  generalize txt (hexN k4) = x4 at *
  generalize decide (s = t) = b at *
  go_enter Try.func5, Try.ntmps5
  go_wp2_with fail
  refine (HW.out _).mono ?_
  rintro e w1 ⟨rfl, hb1⟩
  have hcv : (convert 30 9 (.slice (some ⟨w1.heap.size, 0, none⟩) 1 1)).run Try.prog (w1.alloc (.cells #[.int .u8 c.toNat] 5)).drew = .ok (.string (txt [c])) (w1.alloc (.cells #[.int .u8 c.toNat] 5)).drew := conv_new_drew w1 [c] 5 1
  have hk1 : k ≤ s.size := by omega
  have hk2 : k + 1 ≤ s.size := by omega
  go_wp2_with fail
  go_region
  rw [← HT.out]
  have hb2 : Below w1.heap.size w1 (w1.alloc (.cells #[.int .u8 c.toNat] 5)).drew := ((Below.refl _ _).alloc (Nat.le_refl _) _).drew
  clear hcv HT
  generalize (w1.alloc (.cells #[.int .u8 c.toNat] 5)).drew = w2 at *
  have c1 := HQ1.out
  have c2 := HQ2.out
  have c3 := HQ3.out
  clear HQ1 HQ2 HQ3
  go_wp2_with fail
  refine (HA.out _).mono ?_
  rintro e w3 ⟨rfl, hb3⟩
  go_wp2_with fail
  refine (HB.out _).mono ?_
  rintro e w4 ⟨rfl, hb4⟩
  go_wp2_with fail
  refine (HC.out _).mono ?_
  rintro e w5 ⟨rfl, hb5⟩
  go_wp2_with fail
  refine (HE.out _).mono ?_
  rintro e w6 ⟨rfl, hb6⟩
  go_wp2_with fail
  refine (HD.out _).mono ?_
  rintro e w7 ⟨rfl, hb7⟩
  go_wp2_with fail
  refine (HF.out _).mono ?_
  rintro e w8 ⟨rfl, hb8⟩
  go_wp2_with fail
  go_ret
  exact ⟨rfl, below3 hb1 hb2 (below3 hb3 hb4 (below3 hb5 hb6 (below2 hb7 hb8)))⟩

set_option maxRecDepth 100000 in
theorem sumFinds_lifted (os : Os) (started : os.Started) (H : Type) (enc : TypeId × Value → H) :
    ReturnsInHanded {} Try.checked os 5 .any (Rows.sumFindsSpec.pre6 enc Try.prog Try.f5 Rows.sumFindsRow.domain false) (Rows.sumFindsSpec.post enc Try.prog Try.f5 false true false false) := by
  refine returnsInHanded_of_change (C := Try.checked) own_knob started (by kernel_rfl) Try.func5
    (ChangeSpec.witness6 (enc := enc) (C := Try.checked) false ⟨#[], #[.int .u32 0, .string ⟨#[]⟩, .int .i64 0, .int .u8 0], []⟩ 8 (by kernel_rfl) (by kernel_rfl) (by kernel_rfl) (by kernel_rfl)) ?_
  intro W base args ds gs before hval0 hW _ _
  have hval : ∀ (j : Nat) t v, Try.f5.params[j]? = some t → args[j]? = some v → Value.okWide Try.prog W .any base t v := hval0
  have hW' := hW
  obtain ⟨p, q, hA0, hV, rfl, hfz, hnd⟩ := hW
  have hA : DataW.TrodAll enc Try.prog W 0 (fun _ => true) true Try.f5.params.toList args.toList ds p := hA0
  rw [Try.params5] at hA hval
  obtain ⟨v0, v1, v2, v3, d0, d1, d2, d3, p0, p1, p2, p3, rfl, rfl, rfl, h0, h1, h2, h3⟩ := trodAll_four hA
  obtain ⟨rfl, rfl⟩ := trodVars_none hV
  clear hA0 hval0
  simp only [List.append_nil] at hW'
  obtain ⟨i0, rfl, rfl, rfl, ws0⟩ := open_int Try.underlying22 (hval 0 22 v0 rfl rfl) h0
  obtain ⟨n0, rfl⟩ : ∃ n : Nat, i0 = (n : Int) := Int.eq_ofNat_of_zero_le (bounds_u32 ws0).1
  obtain ⟨s1, rfl, rfl, rfl, ws1⟩ := Go.ChangeMaps.open_string Try.underlying9 (hval 1 9 v1 rfl rfl) h1
  obtain ⟨i2, rfl, rfl, rfl, ws2⟩ := open_int Try.underlying3 (hval 2 3 v2 rfl rfl) h2
  obtain ⟨i3, rfl, rfl, rfl, ws3⟩ := open_int Try.underlying5 (hval 3 5 v3 rfl rfl) h3
  obtain ⟨c3, rfl⟩ : ∃ c : UInt8, i3 = (c.toNat : Int) := ⟨UInt8.ofNat i3.toNat, by have := bounds_u8 ws3; simp; omega⟩
  refine (sumFinds_walk n0 (by have := (bounds_u32 ws0).2; omega) s1 ws1 i2 (bounds_i64 ws2) c3 W ).mono fun e W' h => ⟨.bool true, h.1, ?_⟩
  exact post_true_at hW' rfl (by kernel_rfl) Try.underlying4 rfl (trodAll_mk4 (shut_int Try.underlying22 ws0) (Go.ChangeMaps.shut_string Try.underlying9 ws1) (shut_int Try.underlying3 ws2) (shut_int Try.underlying5 ws3)) h.2

theorem sumFinds_holds : Rows.SumFindsSaid :=
  OpenClaim.holds_of_wide 5 Try.f5 rfl rfl rfl rfl rfl rfl rfl ⟨rfl, rfl, rfl, rfl, rfl⟩ rfl rfl rfl rfl rfl (by kernel_rfl) Try.func5 (by kernel_rfl)
    (of_decide_eq_true (by kernel_rfl)) (by unfold Func.isWrapper; first | (rw [if_pos (by decide +kernel)]; kernel_rfl) | (rw [if_neg (by decide +kernel)]; exact ⟨rfl, rfl⟩))
    (fun os started H enc _ => sumFinds_lifted os started H enc)

end Go.Proofs.Ytpdnpfnfhdgmcaa
