/-
  SumJoins: a sum goes on, however a text is cut: for every number and every list of texts. No condition.
-/
import Derived.Test.YtpdnpfnfhdgmcaaRowP
import Derived.Test.YtpdnpfnfhdgmcaaRowL
import Derived.Test.YtpdnpfnfhdgmcaaSRef
namespace Go.Proofs.Ytpdnpfnfhdgmcaa
open Go.ChangeShapes Go.WideShapes Go.ChangeAt Go.RowKit

def catL (xs : List ByteArray) : List UInt8 := (xs.map fun x => x.data.toList).flatten
theorem cat_take (xs : List ByteArray) (k : Nat) (h : k < xs.length) : catL (xs.take (k + 1)) = catL (xs.take k) ++ xs[k].data.toList := by
  unfold catL
  rw [List.take_succ_eq_append_getElem h, List.map_append, List.flatten_append]
  simp only [List.map_cons, List.map_nil, List.flatten_cons, List.flatten_nil, List.append_nil]
theorem txt_app (a b : List UInt8) : txt a ++ txt b = txt (a ++ b) := by
  rw [← txt_toList (txt a ++ txt b)]; simp [ByteArray.data_append, txt]

set_option maxRecDepth 100000 in
set_option maxHeartbeats 2000000 in
theorem sumJoins_walk (n : Nat) (hn : n < 4294967296) (v : Value) (xs : List ByteArray) (hy : xs.length * 16 ≤ 140737488351232) (hz : ∀ x ∈ xs, x.size ≤ maxLen) (w : World) (hr : RowOf w w.heap.size v xs) : Calls Try.prog 4 #[.int .u32 n, v] w (LawPost w) := by
  have HW := Lib.hid shown_any
  have HX : Hid (∀ wr, Below w.heap.size w wr → ReadsO wr wr.heap.size v xs) := fun wr hb => hr.reads.below hb hb.size
  obtain ⟨o, cp, rfl, _⟩ := hr.reads
  clear hr
  by_cases h1 : 20 < xs.length
  · have e1 : decide (20 < (xs.length : Int)) = true := by simp; omega
    clear hz
    go_enter Try.func4, Try.ntmps4
    go_wp2_with (go_at_call 8; refine (HW.out _).mono ?_; rintro e w1 ⟨rfl, hb1⟩)
    go_ret
    exact ⟨rfl, hb1⟩
  have e1 : decide (20 < (xs.length : Int)) = false := by simp; omega
  have HZ := Lib.hid hz
  clear hz
  go_enter Try.func4, Try.ntmps4
  go_wp2_with fail
  refine (HW.out _).mono ?_
  rintro e w1 ⟨rfl, hb1⟩
  go_wp2_with fail
  go_loopw [6, 7, 8] (fun vs vk i wr => ∃ (k m : Nat) (t : ByteArray), k ≤ xs.length ∧ i = .int .i64 k ∧ vk = .int .u32 m ∧ vs = .string t ∧ t.size ≤ 300 * k ∧ m < 4294967296 ∧ Hid (t = txt (catL (xs.take k))) ∧ Hid (0 < k → m = addN n t.data.toList) ∧ Hid (k = 0 → m = n) ∧ Below w.heap.size w wr) (fun _ _ i _ => xs.length - (intOf i).toNat)
  case atStart => exact ⟨0, n, _, Nat.zero_le _, rfl, rfl, rfl, by decide, hn, rfl, fun h => absurd h (Nat.lt_irrefl _), fun _ => rfl, hb1⟩
  case round =>
    obtain ⟨k, m, t, hk, rfl, rfl, rfl, ht, hm, HT, HM, HM0, hB⟩ := hrel
    by_cases hlt : k < xs.length
    · obtain ⟨o', c', hv', hcell0⟩ := HX.out wr hB
      cases hv'
      obtain ⟨b, f, rfl, hbB, hkc, hcell⟩ := hcell0 k xs[k] (List.getElem?_eq_getElem hlt)
      clear hcell0
      have hkc' : k < cp := by omega
      have hxm := HZ.out xs[k] (List.getElem_mem hlt)
      generalize hx : xs[k] = x at *
      have HXK := Lib.hid hx
      clear hx
      by_cases h3 : 300 < x.size
      · have e3 : decide (300 < (x.size : Int)) = true := by simp; omega
        go_wp2_with fail
        go_ret
        exact ⟨rfl, hB⟩
      · have e3 : decide (300 < (x.size : Int)) = false := by simp; omega
        have HA := Lib.hid (add_any m hm x hxm)
        have hml := add_lt m x.data.toList
        have HT2 : Hid (t ++ x = txt (catL (xs.take (k + 1)))) := by
          show _ = _; rw [cat_take xs k hlt, HT.out, HXK.out, ← txt_app, txt_toList]
        have hz2 : (t ++ x).size = t.size + x.size := ByteArray.size_append ..
        have hz3 : (t ++ x).size ≤ 300 * (k + 1) := by omega
        have hz4 : ¬ 9223372036854775807 < t.size + x.size := by omega
        have HM2 : Hid (addN m x.data.toList = addN n (t ++ x).data.toList) := by
          show _ = _
          rw [ByteArray.data_append, Array.toList_append, add_append]
          by_cases h0 : k = 0
          · subst h0
            have e0 : t.data.toList = [] := by rw [HT.out, txt_data]; rfl
            rw [HM0.out rfl, e0]
            unfold addN
            rw [halves_join (run_low (halves_low n) _)]
            rfl
          · rw [HM.out (by omega)]
        clear hz2 HT HXK HM HM0
        go_wp2_with fail
        refine (HA.out _).mono ?_
        rintro e w3 ⟨rfl, hb3⟩
        generalize addN m x.data.toList = m2 at *
        go_wp2_with fail
        go_roundw
        case rel => exact ⟨k + 1, m2, t ++ x, hlt, by go_num, rfl, rfl, hz3, hml, HT2, fun _ => HM2.out, (fun h => absurd h (Nat.succ_ne_zero _)), below2 hB hb3⟩
        case measure => simp [intOf]; omega
    · obtain rfl : k = xs.length := by omega
      by_cases h0 : xs.length = 0
      · have e0 : ((xs.length : Int) == 0) = true := by rw [h0]; rfl
        clear h0
        go_wp2_with fail
        go_ret
        exact ⟨rfl, hB⟩
      · have e0 : ((xs.length : Int) == 0) = false := by simp; exact fun h => h0 (by rw [h]; rfl)
        have ha := add_any n hn t (by unfold maxLen; omega)
        rw [← HM.out (by omega)] at ha
        have HA := Lib.hid ha
        clear ha h0
        go_wp2_with fail
        refine (HA.out _).mono ?_
        rintro e w3 ⟨rfl, hb3⟩
        go_wp2_with fail
        go_ret
        exact ⟨rfl, below2 hB hb3⟩

set_option maxRecDepth 100000 in
theorem sumJoins_lifted (os : Os) (started : os.Started) (H : Type) (enc : TypeId × Value → H) :
    ReturnsInHanded {} Try.checked os 4 .any (Rows.sumJoinsSpec.pre6 enc Try.prog Try.f4 Rows.sumJoinsRow.domain false) (Rows.sumJoinsSpec.post enc Try.prog Try.f4 false true false false) := by
  refine returnsInHanded_of_change_sized (C := Try.checked) own_knob started (by kernel_rfl) Try.func4
    (ChangeSpec.witness6 (enc := enc) (C := Try.checked) false ⟨#[], #[.int .u32 0, .slice none 0 0], []⟩ 8 (by kernel_rfl) (by kernel_rfl) (by kernel_rfl) (by kernel_rfl)) ?_
  intro W base args ds gs before hval0 hW _ hsz0 _
  have hval : ∀ (j : Nat) t v, Try.f4.params[j]? = some t → args[j]? = some v → Value.okWide Try.prog W .any base t v := hval0
  have hsz : (DataW.weightsEach Try.prog (Try.f4.params.toList ++ Rows.sumJoinsSpec.plain.varTypes Try.prog) (ds ++ gs)).all (· ≤ reachBytes) = true := hsz0
  have hW' := hW
  obtain ⟨p, q, hA0, hV, rfl, hfz, hnd⟩ := hW
  have hA : DataW.TrodAll enc Try.prog W 0 (fun _ => true) true Try.f4.params.toList args.toList ds p := hA0
  rw [Try.params4] at hA hval
  obtain ⟨v0, v1, d0, d1, p0, p1, rfl, rfl, rfl, h0, h1⟩ := trodAll_two hA
  obtain ⟨rfl, rfl⟩ := trodVars_none hV
  clear hA0 hval0 hsz0
  simp only [List.append_nil] at hW'
  have hlt := fun x hx => hW'.lt x hx
  obtain ⟨i0, rfl, rfl, rfl, ws0⟩ := open_int Try.underlying22 (hval 0 22 v0 rfl rfl) h0
  obtain ⟨n0, rfl⟩ : ∃ n : Nat, i0 = (n : Int) := Int.eq_ofNat_of_zero_le (bounds_u32 ws0).1
  obtain ⟨⟨xs1, hn1, hz1, hr1, hd1⟩, hback1⟩ := open_list (hval 1 28 v1 rfl rfl) h1 (fun x hx => hlt x (by simp [hx]))
  have hy1 := sized_list hsz (j := 1) (by kernel_rfl) rfl hd1
  refine (sumJoins_walk n0 (by have := (bounds_u32 ws0).2; omega) v1 xs1 hy1 hz1 W hr1).mono fun e W' h => ⟨.bool true, h.1, ?_⟩
  exact post_true_at hW' rfl (by kernel_rfl) Try.underlying4 rfl (trodAll_mk2 (shut_int Try.underlying22 ws0) (hback1 W' h.2)) h.2

theorem sumJoins_holds : Rows.SumJoinsSaid :=
  OpenClaim.holds_of_wide 4 Try.f4 rfl rfl rfl rfl rfl rfl rfl ⟨rfl, rfl, rfl, rfl, rfl⟩ rfl rfl rfl rfl rfl (by kernel_rfl) Try.func4 (by kernel_rfl)
    (of_decide_eq_true (by kernel_rfl)) (by unfold Func.isWrapper; first | (rw [if_pos (by decide +kernel)]; kernel_rfl) | (rw [if_neg (by decide +kernel)]; exact ⟨rfl, rfl⟩))
    (fun os started H enc _ => sumJoins_lifted os started H enc)

end Go.Proofs.Ytpdnpfnfhdgmcaa
