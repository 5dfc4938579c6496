/-
  TextLines: lines have no line feed; with one behind each of them, they are the text, or the text with one more: for every text. No condition.
-/
import Derived.Test.YtebamellddoaeaaRow
import Derived.Test.YtebamellddoaeaaRefPath
namespace Go.Proofs.Ytebamellddoaeaa
open Go.ChangeShapes Go.WideShapes Go.ChangeAt Go.RowKit

theorem append_list (a b : ByteArray) : (a ++ b).data.toList = a.data.toList ++ b.data.toList := by rw [ByteArray.data_append, Array.toList_append]
/-- The lines, each with a line feed behind. -/
def fed (ls : List ByteArray) : List UInt8 := ls.flatMap (fun x => x.data.toList ++ [10])
theorem fed_snoc (ls : List ByteArray) (x : ByteArray) : fed (ls ++ [x]) = fed ls ++ x.data.toList ++ [10] := by simp [fed]

theorem pieces_fed (l : List UInt8) : (pieces nlB l).flatMap (· ++ [10]) = l ++ [10] := by
  induction l with
  | nil => rfl
  | cons c r ih =>
    simp only [pieces]
    split
    · rename_i h
      have : c = 10 := by
        simp only [nlB, decide_eq_true_eq] at h
        exact UInt8.toNat_inj.1 (by rw [h]; rfl)
      rw [List.flatMap_cons, ih, this]; rfl
    · split
      · rename_i h; rw [h] at ih; simpa using ih
      · rename_i h; exact absurd h (pieces_ne nlB r)
theorem pieces_clean (p : UInt8 → Bool) (l : List UInt8) : ∀ x ∈ pieces p l, ∀ c ∈ x, p c = false := by
  induction l with
  | nil => intro x hx; simp [pieces] at hx; subst hx; simp
  | cons c r ih =>
    simp only [pieces]
    split
    · intro x hx
      rcases List.mem_cons.1 hx with rfl | hx
      · simp
      · exact ih x hx
    · rename_i hc
      split
      · rename_i h t e
        rw [e] at ih
        intro x hx
        rcases List.mem_cons.1 hx with rfl | hx
        · intro y hy
          rcases List.mem_cons.1 hy with rfl | hy
          · simpa using hc
          · exact ih h (by simp) y hy
        · exact ih x (by simp [hx])
      · rename_i e; exact absurd e (pieces_ne p r)
theorem map_fed (ps : List (List UInt8)) : fed (ps.map txt) = ps.flatMap (· ++ [10]) := by
  simp [fed, List.flatMap_map]
theorem lines_clean (l : List UInt8) : ∀ x ∈ linesOf l, ∀ c ∈ x.data.toList, nlB c = false := by
  intro x hx
  have hmem : x ∈ (pieces nlB l).map txt := by
    unfold linesOf at hx
    split at hx
    · exact List.dropLast_subset _ hx
    · exact hx
  obtain ⟨p, hp, rfl⟩ := List.mem_map.1 hmem
  rw [txt_data]
  exact pieces_clean nlB l p hp
theorem lines_fed (l : List UInt8) : fed (linesOf l) = l ∨ (fed (linesOf l) = l ++ [10] ∧ l ≠ []) := by
  obtain ⟨ini, last, hq⟩ : ∃ ini last, pieces nlB l = ini ++ [last] := by
    rcases List.eq_nil_or_concat (pieces nlB l) with h | ⟨a, b, h⟩
    · exact absurd h (pieces_ne nlB l)
    · exact ⟨a, b, by simpa using h⟩
  have hf := pieces_fed l
  rw [hq] at hf
  have e : linesOf l = if last = [] then ini.map txt else ini.map txt ++ [txt last] := by
    unfold linesOf; rw [hq]; simp
  rw [e]
  by_cases h : last = []
  · left
    subst h
    rw [if_pos rfl, map_fed]
    rw [List.flatMap_append] at hf
    have : ini.flatMap (· ++ [10]) ++ [10] = l ++ [10] := by simpa using hf
    exact List.append_cancel_right this
  · right
    rw [if_neg h]
    refine ⟨?_, ?_⟩
    · rw [show ini.map txt ++ [txt last] = (ini ++ [last]).map txt by simp, map_fed]; exact hf
    · intro e
      subst e
      have : pieces nlB [] = [[]] := rfl
      rw [this] at hq
      cases ini with
      | nil => simp at hq; exact h hq
      | cons a b => simp at hq
theorem fed_len (ls : List ByteArray) (l : List UInt8) (k : Nat) (h : fed ls = l ∨ fed ls = l ++ [10]) : (fed (ls.take k)).length ≤ l.length + 1 := by
  have h1 : (fed (ls.take k)).length ≤ (fed ls).length := by
    have : fed ls = fed (ls.take k) ++ fed (ls.drop k) := by unfold fed; rw [← List.flatMap_append, List.take_append_drop]
    rw [this, List.length_append]; omega
  rcases h with h | h <;> rw [h] at h1
  · omega
  · simpa using h1

set_option maxRecDepth 100000 in
set_option maxHeartbeats 2000000 in
theorem textLines_out (s : ByteArray) (h : 1000 < s.size) (w : World) : Calls Try.prog 6 #[.string s] w fun e w' => e = .returned (.bool true) ∧ Below w.heap.size w w' := by
  have e1 : decide (1000 < (s.size : Int)) = true := by simp; omega
  go_enter Try.func6, Try.ntmps6
  go_wp2_with fail
  refine (shown_any w).mono ?_
  rintro e w1 ⟨rfl, hb1⟩
  go_wp2_with fail
  go_ret
  exact ⟨rfl, hb1⟩

theorem reads_slice {W : World} {B : Nat} {v : Value} {xs : List ByteArray} (h : Reads W B v xs) : ∃ o c, v = .slice o xs.length c ∧ (∀ k x, xs[k]? = some x → ∃ b f, o = some ⟨b, f, none⟩ ∧ k < c ∧ W.cell? ⟨b, f + k, none⟩ = some (.string x)) := by
  rcases h with ⟨rfl, rfl⟩ | ⟨b, o, c, rfl, _, hc, hx⟩
  · exact ⟨none, 0, rfl, by simp⟩
  · exact ⟨some ⟨b, o, none⟩, c, rfl, fun k x hk => ⟨b, o, rfl, by have := (List.getElem?_eq_some_iff.1 hk).1; omega, hx k x hk⟩⟩

set_option maxRecDepth 100000 in
set_option maxHeartbeats 4000000 in
theorem textLines_in (s : ByteArray) (hs : s.size ≤ 1000) (w : World) : Calls Try.prog 6 #[.string s] w fun e w' => e = .returned (.bool true) ∧ Below w.heap.size w w' := by
  have hsl := size_list s
  have e1 : decide (1000 < (s.size : Int)) = false := by simp; omega
  have hfed := lines_fed s.data.toList
  have hcl := lines_clean s.data.toList
  have hll : (linesOf s.data.toList).length ≤ s.size + 1 := by
    have h1 := pieces_len nlB s.data.toList
    rw [hsl] at h1
    unfold linesOf
    split
    · simp; omega
    · simpa using h1
  have hlen := fun k => fed_len (linesOf s.data.toList) s.data.toList k (hfed.imp id (·.1))
  obtain ⟨ls, hls⟩ : ∃ ls, ls = linesOf s.data.toList := ⟨_, rfl⟩
  rw [← hls] at hfed hcl hll hlen
  rw [hsl] at hlen
  have HF := Lib.hid hfed
  have HC := Lib.hid hcl
  have HN := Lib.hid hlen
  have HS := Lib.hid hls
  clear hfed hcl hlen hls hsl
  go_enter Try.func6, Try.ntmps6
  go_wp2_with fail
  refine (shown_any w).mono ?_
  rintro e w1 ⟨rfl, hb1⟩
  go_wp2_with fail
  have hc := lines_any s (by omega) w1
  rw [← HS.out] at hc
  refine hc.mono ?_
  rintro e w2 ⟨v, rfl, hr, hb2⟩
  clear hc
  have hb12 := hb1.trans (hb2.mono hb1.size)
  obtain ⟨o, c, rfl, hx⟩ := reads_slice hr
  have HX := Lib.hid hx
  clear hx hr
  go_wp2_with fail
  go_loop [5, 6, 7] (fun t i _ => ∃ k : Nat, k ≤ ls.length ∧ i = .int .i64 k ∧ t = .string (txt (fed (ls.take k)))) (fun _ i _ => ls.length - (intOf i).toNat)
  case atStart => exact ⟨0, Nat.zero_le _, rfl, rfl⟩
  case round =>
    obtain ⟨k, hk, rfl, rfl⟩ := hrel
    by_cases hlt : k < ls.length
    · obtain ⟨b, f, rfl, hkc, hcell⟩ := HX.out k ls[k] (List.getElem?_eq_getElem hlt)
      have hnx : fed (ls.take (k + 1)) = fed (ls.take k) ++ ls[k].data.toList ++ [10] := by rw [List.take_succ_eq_append_getElem hlt, fed_snoc]
      have hln := HN.out (k + 1)
      rw [hnx] at hln
      have hcx := HC.out ls[k] (List.getElem_mem hlt)
      generalize ls[k] = x at hcell hnx hln hcx
      have hxs : (fed (ls.take k)).length + x.size + 1 ≤ s.size + 1 := by
        have := size_list x
        simp only [List.length_append, List.length_cons, List.length_nil] at hln
        omega
      have HNX := Lib.hid hnx
      have HCX := Lib.hid hcx
      clear hnx hln hcx
      go_wp2_with fail
      go_loop [7] (fun i => ∃ m : Nat, m ≤ x.size ∧ i = .int .i64 m) (fun i => x.size - (intOf i).toNat)
      case atStart => exact ⟨0, Nat.zero_le _, rfl⟩
      case round =>
        obtain ⟨m, hm, rfl⟩ := hrel
        by_cases hlm : m < x.size
        · have hne : ((x[m].toNat : Int) == 10) = false := by
            have h' : m < x.data.toList.length := by rw [Array.length_toList]; exact hlm
            have := HCX.out x.data.toList[m] (List.getElem_mem h')
            have hg : x.data.toList[m] = x[m] := by rw [Array.getElem_toList]; rfl
            rw [hg] at this
            simp only [nlB, decide_eq_false_iff_not] at this
            simp; omega
          go_wp2_with fail
          go_round
          case rel => exact ⟨m + 1, by omega, by go_num⟩
          case measure => simp [intOf]; omega
        · have hcat : ¬ 9223372036854775807 < (fed (ls.take k)).length + x.size := by omega
          have hcat2 : ¬ 9223372036854775807 < (fed (ls.take k)).length + x.size + 1 := by omega
          go_wp2_with fail
          go_round
          case rel =>
            refine ⟨k + 1, hlt, by go_num, ?_⟩
            rw [HNX.out, ← txt_append, ← txt_append, txt_toList]
            rfl
          case measure => simp [intOf]; omega
    · have hkk : ls.take k = ls := List.take_of_length_le (by omega)
      have HK := Lib.hid hkk
      clear hkk
      have hsz : ¬ 9223372036854775807 < s.size + 1 := by omega
      have hF := HF.out
      rcases hF with hF | ⟨hF, hne⟩
      · have f1 : ((txt (fed (ls.take k))).toList == s.toList) = true := by
          rw [str_eq, HK.out, hF, txt_toList]; simp
        clear hF
        go_wp2_with fail
        go_ret
        exact ⟨rfl, hb12⟩
      · have f1 : ((txt (fed (ls.take k))).toList == s.toList) = false := by
          rw [txt_toL, HK.out, hF, Lib.toList_data]
          simp
        have f2 : ((txt (fed (ls.take k))).toList == (s ++ ByteArray.mk #[10]).toList) = true := by
          rw [txt_toL, HK.out, hF, Lib.toList_data, append_list]; simp
        have f3 : s.toList.isEmpty = false := by rw [Lib.toList_data]; simpa using hne
        clear hF hne
        go_wp2_with fail
        go_ret
        exact ⟨rfl, hb12⟩

theorem textLines_walk (s : ByteArray) (_hs : s.size ≤ maxLen) (w : World) : Calls Try.prog 6 #[.string s] w fun e w' => e = .returned (.bool true) ∧ Below w.heap.size w w' := by
  by_cases h : 1000 < s.size
  · exact textLines_out s h w
  · exact textLines_in s (by omega) w

set_option maxRecDepth 100000 in
theorem textLines_lifted (os : Os) (started : os.Started) (H : Type) (enc : TypeId × Value → H) :
    ReturnsInHanded {} Try.checked os 6 .any (Rows.textLinesSpec.pre6 enc Try.prog Try.f6 Rows.textLinesRow.domain false) (Rows.textLinesSpec.post enc Try.prog Try.f6 false true false false) := by
  refine returnsInHanded_of_change (C := Try.checked) own_knob started (by kernel_rfl) Try.func6
    (ChangeSpec.witness6 (enc := enc) (C := Try.checked) false ⟨#[], #[.string ⟨#[]⟩], []⟩ 8 (by kernel_rfl) (by kernel_rfl) (by kernel_rfl) (by kernel_rfl)) ?_
  intro W base args ds gs before hval0 hW _ _
  have hval : ∀ (j : Nat) t v, Try.f6.params[j]? = some t → args[j]? = some v → Value.okWide Try.prog W .any base t v := hval0
  have hW' := hW
  obtain ⟨p, q, hA0, hV, rfl, hfz, hnd⟩ := hW
  have hA : DataW.TrodAll enc Try.prog W 0 (fun _ => true) true Try.f6.params.toList args.toList ds p := hA0
  rw [Try.params6] at hA hval
  obtain ⟨v0, d0, rfl, rfl, h0⟩ := trodAll_one hA
  obtain ⟨s0, rfl, rfl, rfl, ws0⟩ := Go.ChangeMaps.open_string Try.underlying9 (hval 0 9 v0 rfl rfl) h0
  obtain ⟨rfl, rfl⟩ := trodVars_none hV
  clear hA0 hval0
  simp only [List.append_nil] at hW'
  refine (textLines_walk s0 ws0 W).mono fun e W' h => ⟨.bool true, h.1, ?_⟩
  exact post_true hW' rfl (by kernel_rfl) Try.underlying4 rfl (fun sp _ => trodAll_mk1 (Go.ChangeMaps.shut_string Try.underlying9 ws0)) h.2

theorem textLines_holds : Rows.TextLinesSaid :=
  OpenClaim.holds_of_wide 6 Try.f6 rfl rfl rfl rfl rfl rfl rfl ⟨rfl, rfl, rfl, rfl, rfl⟩ rfl rfl rfl rfl rfl (by kernel_rfl) Try.func6 (by kernel_rfl)
    (of_decide_eq_true (by kernel_rfl)) (by unfold Func.isWrapper; first | (rw [if_pos (by decide +kernel)]; kernel_rfl) | (rw [if_neg (by decide +kernel)]; exact ⟨rfl, rfl⟩))
    (fun os started H enc _ => textLines_lifted os started H enc)

end Go.Proofs.Ytebamellddoaeaa
