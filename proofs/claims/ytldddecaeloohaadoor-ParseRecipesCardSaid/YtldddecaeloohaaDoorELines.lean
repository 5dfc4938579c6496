/-
  What text.Lines answers, for every text; a list that reads as some texts. No condition.
-/
import Derived.Test.YtldddecaeloohaaDoorEGather
namespace Go.Proofs.YtldddecaeloohaaDoor
open Go.RowKit Go.Shelf

/-- The value v reads as the texts xs, out of blocks below B. -/
def Reads (W : World) (B : Nat) (v : Value) (xs : List ByteArray) : Prop :=
  (v = .slice none 0 0 ∧ xs = []) ∨ ∃ b o c, v = .slice (some ⟨b, o, none⟩) xs.length c ∧ b < B ∧ xs.length ≤ c ∧ ∀ j x, xs[j]? = some x → W.cell? ⟨b, o + j, none⟩ = some (.string x)

theorem Reads.below {W W' : World} {B B' : Nat} {v : Value} {xs : List ByteArray} (h : Reads W B v xs) (hb : Below B W W') (hB : B ≤ B') : Reads W' B' v xs := by
  rcases h with h | ⟨b, o, c, hv, hlt, hc, hx⟩
  · exact .inl h
  · exact .inr ⟨b, o, c, hv, by omega, hc, fun j x hj => (hb.cell (p := ⟨b, o + j, none⟩) hlt).trans (hx j x hj)⟩

theorem Reads.of_owns {W : World} {base : Nat} {v : Value} {xs : List ByteArray} (h : W.ownsRow base 9 1 v xs.length (xs.map Value.string)) : Reads W W.heap.size v xs := by
  rcases h.2 with ⟨hv, hn⟩ | ⟨g, cap, cur, hv, hb, hg, hk, hm, hs, ht⟩
  · exact .inl ⟨hv, List.eq_nil_of_length_eq_zero hn⟩
  · refine .inr ⟨g, 0, cap, hv, (Array.getElem?_eq_some_iff.1 hg).1, hk, fun j x hj => ?_⟩
    have hj' : j < xs.length := (List.getElem?_eq_some_iff.1 hj).1
    have e1 : (xs.map Value.string)[j]? = some (.string x) := by rw [List.getElem?_map, hj]; rfl
    rw [← ht, List.getElem?_take_of_lt (by omega)] at e1
    have e2 : cur[j]? = some (.string x) := by rw [← Array.getElem?_toList]; exact e1
    simp [World.cell?, hg, e2]

theorem pieces_len (p : UInt8 → Bool) (l : List UInt8) : (pieces p l).length ≤ l.length + 1 := by
  induction l with
  | nil => simp [pieces]
  | cons c r ih =>
    simp only [pieces]
    split
    · simpa using ih
    · split
      · rename_i h; rw [h] at ih; simp at ih ⊢; omega
      · simp

theorem size_list (s : ByteArray) : s.data.toList.length = s.size := by rw [Array.length_toList]; rfl

theorem reads_last {W : World} {B : Nat} {v : Value} {ini : List ByteArray} {last : ByteArray} (h : Reads W B v (ini ++ [last])) :
    ∃ b o c, v = .slice (some ⟨b, o, none⟩) (ini.length + 1) c ∧ ini.length + 1 ≤ c ∧ W.cell? ⟨b, o + ini.length, none⟩ = some (.string last) ∧ Reads W B (.slice (some ⟨b, o, none⟩) ini.length c) ini := by
  rcases h with ⟨_, h⟩ | ⟨b, o, c, hv, hlt, hc, hx⟩
  · simp at h
  · refine ⟨b, o, c, by simpa using hv, by simpa using hc, hx ini.length last (by simp), .inr ⟨b, o, c, rfl, hlt, by simp at hc; omega, fun j x hj => hx j x ?_⟩⟩
    rw [List.getElem?_append_left (List.getElem?_eq_some_iff.1 hj).1]; exact hj

set_option maxHeartbeats 1000000 in
theorem lines_any (s : ByteArray) (hs : s.size ≤ 8796093022207) (w : World) :
    Calls Tryd.prog 22 #[.string s] w fun e W' => ∃ v, e = .returned v ∧ Reads W' W'.heap.size v (linesOf s.data.toList) ∧ Below w.heap.size w W' := by
  have hm : s.size ≤ maxLen := by unfold maxLen; omega
  have hl := pieces_len nlB s.data.toList
  rw [size_list] at hl
  have bS := (Boxed.new w 9 (.string s)).alloc (.cells #[.func (.func 40) #[] #[]] 70)
  have bC := Boxed.new (w.alloc (.cells #[.string s] 9)) 70 (.func (.func 40) #[] #[])
  rw [World.size_alloc] at bC
  have hG := gather_any 52 #[.pointer (some ⟨w.heap.size, 0, none⟩), .pointer (some ⟨w.heap.size + 1, 0, none⟩)] (enters_of Tryd.func52 (by kernel_rfl) rfl) (fun j => j = w.heap.size ∨ j = w.heap.size + 1) ((pieces nlB s.data.toList).map txt)
    ((w.alloc (.cells #[.string s] 9)).alloc (.cells #[.func (.func 40) #[] #[]] 70)) w.heap.size (by simp; omega)
    (fun n => between1_tells n s hm nlB 40 (enters_of Tryd.func40 (by kernel_rfl) rfl) isNewline_any w.heap.size (w.heap.size + 1) _ bS bC) (by rintro k (rfl | rfl) <;> simp <;> omega) (by rw [List.length_map]; omega)
  obtain ⟨ini, last, hq⟩ : ∃ ini last, pieces nlB s.data.toList = ini ++ [last] := by
    rcases List.eq_nil_or_concat (pieces nlB s.data.toList) with h | ⟨a, b, h⟩
    · exact absurd h (pieces_ne nlB s.data.toList)
    · exact ⟨a, b, by simpa using h⟩
  have HL : Hid (linesOf s.data.toList = if last = [] then ini.map txt else ini.map txt ++ [txt last]) := by
    show linesOf s.data.toList = _
    unfold linesOf
    rw [hq]
    simp
  rw [hq] at hG hl
  have HG : Hid (Calls Tryd.prog 38 #[.func (.func 52) #[] #[.pointer (some ⟨w.heap.size, 0, none⟩), .pointer (some ⟨w.heap.size + 1, 0, none⟩)]] ((w.alloc (.cells #[.string s] 9)).alloc (.cells #[.func (.func 40) #[] #[]] 70)) fun e W' =>
      ∃ b o c, e = .returned (.slice (some ⟨b, o, none⟩) (ini.length + 1) c) ∧ ini.length + 1 ≤ c ∧ W'.cell? ⟨b, o + ini.length, none⟩ = some (.string (txt last)) ∧ Reads W' W'.heap.size (.slice (some ⟨b, o, none⟩) ini.length c) (ini.map txt) ∧ Reads W' W'.heap.size (.slice (some ⟨b, o, none⟩) (ini.length + 1) c) (ini.map txt ++ [txt last]) ∧ Below w.heap.size w W') := by
    refine hG.mono ?_
    rintro e W' ⟨v, rfl, hr, hb⟩
    have hrd := Reads.of_owns hr
    rw [List.map_append, List.map_cons, List.map_nil] at hrd
    have hrd' := hrd
    obtain ⟨b, o, c, rfl, hc, hcell, hini⟩ := reads_last hrd'
    rw [List.length_map] at hc hcell hini hrd
    exact ⟨b, o, c, by rw [List.length_map], hc, hcell, hini, hrd, (((Below.refl _ w).alloc (Nat.le_refl _) _).alloc (by simp) _).trans hb⟩
  have hil : ini.length + 1 ≤ s.size + 1 := by simpa using hl
  clear hG hq bS bC hl
  by_cases he : last = []
  · have h1 : (txt last).toList = [] := by rw [txt_toL]; exact he
    have HE := Lib.hid he; clear he
    go_enter Tryd.func22, Tryd.ntmps22
    go_wp2_with fail
    refine (between_any s 40 w).mono ?_
    rintro e w' ⟨rfl, rfl⟩
    go_wp2_with fail
    refine HG.out.mono ?_
    rintro e w' ⟨b, o, c, rfl, hc, hcell, hini, hall, hb⟩
    go_wp2_with fail
    go_ret
    exact ⟨_, rfl, by rw [HL.out, if_pos HE.out]; exact hini, hb⟩
  · have h1 : (txt last).toList.isEmpty = false := by rw [txt_toL]; simpa using he
    have HE := Lib.hid he; clear he
    go_enter Tryd.func22, Tryd.ntmps22
    go_wp2_with fail
    refine (between_any s 40 w).mono ?_
    rintro e w' ⟨rfl, rfl⟩
    go_wp2_with fail
    refine HG.out.mono ?_
    rintro e w' ⟨b, o, c, rfl, hc, hcell, hini, hall, hb⟩
    go_wp2_with fail
    go_ret
    exact ⟨_, rfl, by rw [HL.out, if_neg HE.out]; exact hall, hb⟩

end Go.Proofs.YtldddecaeloohaaDoor
