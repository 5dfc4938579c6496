/-
  The small functions of package call: of one word, of one place. For texts of at most 10 million bytes. No condition.
-/
import Derived.Lib.LaidTab
import Derived.WalkSmall
import Derived.Test.YtbngoodjgijmgaaGreatDoorNShelf
import Derived.Test.YtbngoodjgijmgaaGreatDoorHX
import Derived.Test.YtbngoodjgijmgaaGreatDoorNI
import Derived.Test.YtbngoodjgijmgaaGreatDoorNEachP
namespace Go.Proofs.YtbngoodjgijmgaaGreatDoor
open Go.RowKit Go.Shelf

/-- What package variables of Go's library hold. -/
structure Std (w : World) : Prop where
  tab : Lib.TabIs Tryz.prog w "internal/strconv.uint64pow10" .u64 Lib.pow10Tab
  mx : ∃ m, w.cell? ⟨0, 0, none⟩ = some (.int .i64 m)
  tl : 3 < w.heap.size
  ml : 0 < w.heap.size
theorem Std.kept {w W : World} {B : Nat} (h : Std w) (hk : Kept (fun k => k < B) w W) (hB : w.heap.size ≤ B) : Std W := by
  have h1 := h.tl
  have h2 := h.ml
  have h3 := hk.size
  refine ⟨?_, ?_, by omega, by omega⟩
  · have := h.tab
    unfold Lib.TabIs World.var? at this ⊢
    have hg : Tryz.prog.globalNamed "internal/strconv.uint64pow10" = some 3 := by kernel_rfl
    rw [hg] at this ⊢
    simp only [Option.bind_some] at this ⊢
    rw [hk.same 3 (show (3 : Nat) < B by omega) h1]
    exact this
  · obtain ⟨m, hm⟩ := h.mx
    exact ⟨m, (kept_cell hk (a := ⟨0, 0, none⟩) (show (0 : Nat) < B by omega) h2).trans hm⟩
theorem Std.below {w W : World} (h : Std w) (hb : Below w.heap.size w W) : Std W := h.kept (below_kept hb) (Nat.le_refl _)

theorem lastByte_any (s : ByteArray) (c : UInt8) (hs : s.size ≤ 10000000) (w : World) : Calls Tryz.prog 204 #[.string s, .int .u8 (c.toNat : Int)] w fun e w' => e = .returned (.int .i64 (lastIn c s.data.toList 0 s.size)) ∧ w' = w := by
  have := libLastIndexByte s (c.toNat : Int) (by omega) w
  unfold Lib.lastIndexByte at this
  rw [last_lib s c s.size (Nat.le_refl _)] at this
  exact this

set_option maxHeartbeats 400000 in
theorem base_any (s : ByteArray) (hs : s.size ≤ 10000000) (w : World) : Calls Tryz.prog 178 #[.string s] w fun e w' => e = .returned (.int .i64 (slashAt s.data.toList + 1)) ∧ w' = w := by
  have hb := last_bound 47 s.data.toList 0 s.size
  have HC := Lib.hid (lastByte_any s 47 hs w)
  have HS : Hid (slashAt s.data.toList = lastIn 47 s.data.toList 0 s.size) := by show _ = _; unfold slashAt; rw [size_list]
  generalize lastIn 47 s.data.toList 0 s.size = q at hb HC HS
  go_enter Tryz.func178, Tryz.ntmps178
  go_wp2_with (go_at_call 204; refine HC.out.mono ?_; rintro e w' ⟨rfl, rfl⟩)
  go_ret
  exact ⟨by rw [HS.out]; go_num, rfl⟩
theorem last_ge (c : UInt8) (s : BT) (f : Nat) : ∀ k : Nat, lastIn c s f k < 0 ∨ (f : Int) ≤ lastIn c s f k
  | 0 => .inl (by unfold lastIn; decide)
  | k + 1 => by
    unfold lastIn
    split
    · next h => right; omega
    · exact last_ge c s f k
set_option maxHeartbeats 1000000 in
theorem dot_any (s : ByteArray) (hs : s.size ≤ 10000000) (w : World) : Calls Tryz.prog 179 #[.string s] w fun e w' => e = .returned (.int .i64 (if dotAt s.data.toList < 0 then (s.size : Int) else dotAt s.data.toList)) ∧ ∃ n, w' = w.drewN n := by
  have hb1 := last_bound 47 s.data.toList 0 s.size
  have hS : slashAt s.data.toList = lastIn 47 s.data.toList 0 s.size := by unfold slashAt; rw [size_list]
  have HB := Lib.hid (base_any s hs)
  obtain ⟨f, hf⟩ : ∃ f : Nat, slashAt s.data.toList + 1 = (f : Int) := ⟨(slashAt s.data.toList + 1).toNat, by omega⟩
  have hfs : f ≤ s.size := by omega
  have hft : (slashAt s.data.toList + 1).toNat = f := by rw [hf]; rfl
  have hz : (s.extract f s.size).size = s.size - f := by rw [ByteArray.size_extract]; omega
  have hd : (s.extract f s.size).data.toList = s.data.toList.drop f := Lib.extract_to_end s f
  have hL := lastByte_any (s.extract f s.size) 46 (by omega)
  have hld := last_drop 46 s.data.toList f (s.size - f)
  rw [hz, hd, hld, show f + (s.size - f) = s.size by omega] at hL
  have hD : dotAt s.data.toList = lastIn 46 s.data.toList f s.size := by unfold dotAt; rw [hft, size_list]
  rw [← hD] at hL
  have hb2 := last_bound 46 s.data.toList f s.size
  have hb3 := last_ge 46 s.data.toList f s.size
  rw [← hD] at hb2 hb3
  rw [hf] at HB
  clear hS hb1 hft hd hld hz hD hf
  generalize dotAt s.data.toList = d at *
  by_cases h0 : d < 0
  · rw [if_pos h0] at hL ⊢
    have HL := Lib.hid hL
    clear hL
    go_enter Tryz.func179, Tryz.ntmps179
    go_wp2_with (first
      | (go_at_call 178; refine (HB.out _).mono ?_; rintro e w' ⟨rfl, rfl⟩)
      | (go_at_call 204; refine (HL.out _).mono ?_; rintro e w' ⟨rfl, rfl⟩))
    go_ret
    exact ⟨rfl, 0, rfl⟩
  · have hfd : (f : Int) ≤ d := by omega
    have hsum : (f : Int) + (d - (f : Int)) = d := by omega
    rw [if_neg h0] at hL ⊢
    have HL := Lib.hid hL
    clear hL
    go_enter Tryz.func179, Tryz.ntmps179
    go_wp2_with (first
      | (go_at_call 178; refine (HB.out _).mono ?_; rintro e w' ⟨rfl, rfl⟩)
      | (go_at_call 204; refine (HL.out _).mono ?_; rintro e w' ⟨rfl, rfl⟩))
    go_ret
    exact ⟨rfl, 0, rfl⟩

/-! ### of one word -/
set_option maxHeartbeats 1000000 in
theorem dir_any (s : ByteArray) (hs : s.size ≤ 10000000) (w : World) : Calls Tryz.prog 135 #[.string s] w fun e w' => e = .returned (.string (txt (dirOf s.data.toList))) ∧ ∃ n, w' = w.drewN n := by
  have hb1 := last_bound 47 s.data.toList 0 s.size
  have hS : slashAt s.data.toList = lastIn 47 s.data.toList 0 s.size := by unfold slashAt; rw [size_list]
  rw [← hS] at hb1
  have HB := Lib.hid (base_any s hs)
  obtain ⟨f, hf⟩ : ∃ f : Nat, slashAt s.data.toList + 1 = (f : Int) := ⟨(slashAt s.data.toList + 1).toNat, by omega⟩
  have hft : (slashAt s.data.toList + 1).toNat = f := by rw [hf]; rfl
  have hfs : f ≤ s.size := by omega
  rw [hf] at HB
  by_cases h0 : f = 0
  · have HD : Hid (dirOf s.data.toList = [46, 47]) := by show _ = _; unfold dirOf; rw [if_pos (by omega)]
    subst h0
    clear hS hb1 hf hft
    go_enter Tryz.func135, Tryz.ntmps135
    go_wp2_with (go_at_call 178; refine (HB.out _).mono ?_; rintro e w' ⟨rfl, rfl⟩)
    go_ret
    exact ⟨by rw [HD.out]; rfl, 0, rfl⟩
  · have HD : Hid (txt (dirOf s.data.toList) = s.extract 0 f) := by
      show _ = _
      unfold dirOf
      rw [if_neg (by omega), hft, extract_txt, List.drop_zero, Nat.sub_zero]
    clear hS hb1 hf hft
    go_enter Tryz.func135, Tryz.ntmps135
    go_wp2_with (go_at_call 178; refine (HB.out _).mono ?_; rintro e w' ⟨rfl, rfl⟩)
    go_ret
    exact ⟨by rw [HD.out]; rfl, 0, rfl⟩
set_option maxHeartbeats 1000000 in
theorem notdir_any (s : ByteArray) (hs : s.size ≤ 10000000) (w : World) : Calls Tryz.prog 136 #[.string s] w fun e w' => e = .returned (.string (txt (notdirOf s.data.toList))) ∧ ∃ n, w' = w.drewN n := by
  have hb1 := last_bound 47 s.data.toList 0 s.size
  have hS : slashAt s.data.toList = lastIn 47 s.data.toList 0 s.size := by unfold slashAt; rw [size_list]
  rw [← hS] at hb1
  have HB := Lib.hid (base_any s hs)
  obtain ⟨f, hf⟩ : ∃ f : Nat, slashAt s.data.toList + 1 = (f : Int) := ⟨(slashAt s.data.toList + 1).toNat, by omega⟩
  have hft : (slashAt s.data.toList + 1).toNat = f := by rw [hf]; rfl
  have hfs : f ≤ s.size := by omega
  rw [hf] at HB
  have HD : Hid (txt (notdirOf s.data.toList) = s.extract f s.size) := by
    show _ = _
    unfold notdirOf
    rw [hft, extract_txt, take_rest]
  clear hS hb1 hf hft
  go_enter Tryz.func136, Tryz.ntmps136
  go_wp2_with (go_at_call 178; refine (HB.out _).mono ?_; rintro e w' ⟨rfl, rfl⟩)
  go_ret
  exact ⟨by rw [HD.out]; rfl, 0, rfl⟩
set_option maxHeartbeats 1000000 in
theorem suffix_any (s : ByteArray) (hs : s.size ≤ 10000000) (w : World) : Calls Tryz.prog 138 #[.string s] w fun e w' => e = .returned (.string (txt (suffixOf s.data.toList))) ∧ ∃ n, w' = w.drewN n := by
  have hb := last_bound 46 s.data.toList (slashAt s.data.toList + 1).toNat s.size
  have hD : dotAt s.data.toList = lastIn 46 s.data.toList (slashAt s.data.toList + 1).toNat s.size := by unfold dotAt; rw [size_list]
  rw [← hD] at hb
  have HB := Lib.hid (dot_any s hs)
  obtain ⟨f, hf⟩ : ∃ f : Nat, (if dotAt s.data.toList < 0 then (s.size : Int) else dotAt s.data.toList) = (f : Int) := ⟨(if dotAt s.data.toList < 0 then (s.size : Int) else dotAt s.data.toList).toNat, by split <;> omega⟩
  have hfs : f ≤ s.size := by split at hf <;> omega
  have HX : Hid (txt (suffixOf s.data.toList) = s.extract f s.size) := by
    show _ = _
    unfold suffixOf
    rw [extract_txt, take_rest]
    by_cases h : dotAt s.data.toList < 0
    · rw [if_pos h] at hf ⊢
      rw [List.drop_eq_nil_of_le (by rw [size_list]; omega)]
    · rw [if_neg h] at hf ⊢
      rw [hf]; rfl
  rw [hf] at HB
  clear hD hb hf
  go_enter Tryz.func138, Tryz.ntmps138
  go_wp2_with (go_at_call 179; refine (HB.out _).mono ?_; rintro e w' ⟨rfl, q, rfl⟩)
  go_ret
  exact ⟨by rw [HX.out]; rfl, q, rfl⟩
set_option maxHeartbeats 1000000 in
theorem basename_any (s : ByteArray) (hs : s.size ≤ 10000000) (w : World) : Calls Tryz.prog 139 #[.string s] w fun e w' => e = .returned (.string (txt (baseOf s.data.toList))) ∧ ∃ n, w' = w.drewN n := by
  have hb := last_bound 46 s.data.toList (slashAt s.data.toList + 1).toNat s.size
  have hD : dotAt s.data.toList = lastIn 46 s.data.toList (slashAt s.data.toList + 1).toNat s.size := by unfold dotAt; rw [size_list]
  rw [← hD] at hb
  have HB := Lib.hid (dot_any s hs)
  obtain ⟨f, hf⟩ : ∃ f : Nat, (if dotAt s.data.toList < 0 then (s.size : Int) else dotAt s.data.toList) = (f : Int) := ⟨(if dotAt s.data.toList < 0 then (s.size : Int) else dotAt s.data.toList).toNat, by split <;> omega⟩
  have hfs : f ≤ s.size := by split at hf <;> omega
  have HX : Hid (txt (baseOf s.data.toList) = s.extract 0 f) := by
    show _ = _
    unfold baseOf
    rw [extract_txt, List.drop_zero, Nat.sub_zero]
    by_cases h : dotAt s.data.toList < 0
    · rw [if_pos h] at hf ⊢
      rw [List.take_of_length_le (by rw [size_list]; omega)]
    · rw [if_neg h] at hf ⊢
      rw [hf]; rfl
  rw [hf] at HB
  clear hD hb hf
  go_enter Tryz.func139, Tryz.ntmps139
  go_wp2_with (go_at_call 179; refine (HB.out _).mono ?_; rintro e w' ⟨rfl, q, rfl⟩)
  go_ret
  exact ⟨by rw [HX.out]; rfl, q, rfl⟩
set_option maxHeartbeats 400000 in
theorem hasByte_any (s : ByteArray) (w : World) : Calls Tryz.prog 137 #[.string s] w fun e w' => e = .returned (.bool (isWord s)) ∧ ∃ n, w' = w.drewN n := by
  go_enter Tryz.func137, Tryz.ntmps137
  go_wp2
  go_ret
  exact ⟨by unfold isWord; cases h : s.toList <;> rfl, 0, rfl⟩
set_option maxHeartbeats 1000000 in
theorem whole_any (x : Pr) (h1 : x.1.size ≤ 10000000) (h2 : x.2.size ≤ 10000000) (w : World) : Calls Tryz.prog 144 #[.agg #[.string x.1, .string x.2]] w fun e w' => e = .returned (.string (x.1 ++ x.2)) ∧ Below w.heap.size w w' := by
  go_enter Tryz.func144, Tryz.ntmps144
  go_wp2
  go_ret
  exact ⟨rfl, (Below.refl _ w).alloc (Nat.le_refl _) _⟩
theorem at_any (v : Value) (xs : List ByteArray) (k : Nat) (B : Nat) (w : World) (hr : ReadsO w B v xs) :
    Calls Tryz.prog 182 #[v, .int .i64 (k : Int)] w fun e w' => e = .returned (.string (xs.getD k ⟨#[]⟩)) ∧ w' = w := by
  obtain ⟨o, c, rfl, hx⟩ := hr
  by_cases h : k < xs.length
  · obtain ⟨b, f, rfl, _, hc, hcell⟩ := hx k xs[k] (List.getElem?_eq_getElem h)
    have HV : Hid (xs.getD k ⟨#[]⟩ = xs[k]) := by show _ = _; simp [List.getD, h]
    clear hx
    go_enter Tryz.func182, Tryz.ntmps182
    go_wp2
    go_ret
    exact ⟨by rw [HV.out]; rfl, rfl⟩
  · have HV : Hid (xs.getD k ⟨#[]⟩ = ⟨#[]⟩) := by show _ = _; simp [List.getD, h]
    clear hx
    go_enter Tryz.func182, Tryz.ntmps182
    go_wp2
    go_ret
    exact ⟨by rw [HV.out]; rfl, rfl⟩
set_option maxHeartbeats 400000 in
theorem short_any (s : ByteArray) (hs : s.size ≤ 1000000000) (w : World) : Calls Tryz.prog 99 #[.string s] w fun e w' => e = .returned (.tuple #[.string (txt (finT (some s.data.toList)).1), .int .i64 (finT (some s.data.toList)).2]) ∧ w' = w := by
  by_cases h : s.size ≤ 4000
  · have HF : Hid (finT (some s.data.toList) = (s.data.toList, 0)) := by show _ = _; unfold finT; simp only; rw [if_pos (by rw [size_list]; exact h)]
    go_enter Tryz.func99, Tryz.ntmps99
    go_wp2
    go_ret2
    exact ⟨by rw [HF.out, txt_toList]; rfl, rfl⟩
  · have HF : Hid (finT (some s.data.toList) = ([], 3)) := by show _ = _; unfold finT; simp only; rw [if_neg (by rw [size_list]; exact h)]
    go_enter Tryz.func99, Tryz.ntmps99
    go_wp2
    go_ret2
    exact ⟨by rw [HF.out]; rfl, rfl⟩
end Go.Proofs.YtbngoodjgijmgaaGreatDoor
