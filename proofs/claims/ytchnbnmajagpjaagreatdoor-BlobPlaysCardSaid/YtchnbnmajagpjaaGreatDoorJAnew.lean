/-
  replace and Anew, at a tree that stands first.
-/
import Derived.Deep.QuietTactic
import Derived.BigQuiet
import Derived.Test.YtchnbnmajagpjaaGreatDoorJTog
import Derived.Test.YtchnbnmajagpjaaGreatDoorCT
namespace Go.Proofs.YtchnbnmajagpjaaGreatDoor
open Go.RowKit Go.Shelf Go.Maps

def bes (p : ByteArray) : ByteArray := p ++ ⟨#[46, 110, 101, 119]⟩
theorem bes_list (p : ByteArray) : (bes p).data.toList = besideL p.data.toList := by
  unfold bes besideL NEW
  rw [ByteArray.data_append, Array.toList_append]
theorem bes_size (p : ByteArray) : (bes p).size = p.size + 4 := ByteArray.size_append ..
def LLtxt (ls : LL) : List (List ByteArray) := ls.map fun x => x.map txt
theorem raw_txt (ls : LL) : rawLL (LLtxt ls) = ls := by
  unfold rawLL LLtxt rawOf
  rw [List.map_map]
  conv => rhs; rw [← List.map_id ls]
  refine List.map_congr_left fun x _ => ?_
  show (x.map txt).map (fun y => y.data.toList) = x
  rw [List.map_map]
  conv => rhs; rw [← List.map_id x]
  exact List.map_congr_left fun y _ => txt_data y
theorem fit_sizes {x : List BS} (h : Fit x) : ∀ y ∈ x, y.length ≤ 12991 := by
  intro y hy
  have h1 : (quoteOf y ++ [32]).length ≤ (bodyOf x).length := by
    unfold bodyOf
    rw [List.length_flatMap]
    exact le_sum_mem (List.mem_map.2 ⟨y, hy, rfl⟩)
  rw [List.length_append] at h1
  have h2 := (quote_len y).1
  have h3 := h.2.2
  omega
theorem fits_ok {ls : LL} (h : ∀ x ∈ ls, Fit x) : ∀ xs ∈ LLtxt ls, xs.length ≤ maxLen ∧ ∀ x ∈ xs, x.size ≤ 1000000 := by
  intro xs hx
  obtain ⟨y, hy, rfl⟩ := List.mem_map.1 hx
  refine ⟨by rw [List.length_map]; have := (h y hy).2.1; unfold maxLen; omega, fun z hz => ?_⟩
  obtain ⟨u, hu, rfl⟩ := List.mem_map.1 hz
  rw [txt_size]
  have := fit_sizes (h y hy) u hu
  omega
theorem scan_lists (s : BS) : ((scanOf s).map fun x => x.1.map txt) = LLtxt (listsOf s) := by unfold LLtxt listsOf; rw [List.map_map]; rfl
theorem built_one {w : World} {v : Value} {xs : List ByteArray} (h : ReadsO w w.heap.size v xs) : ReadsLL (w.alloc (.cells #[v] 39)) (w.alloc (.cells #[v] 39)).heap.size (.slice (some ⟨w.heap.size, 0, none⟩) 1 1) [xs] := by
  refine ⟨some ⟨w.heap.size, 0, none⟩, 1, rfl, fun i ys hi => ?_⟩
  have hi0 : i = 0 := by
    have := (List.getElem?_eq_some_iff.1 hi).1
    simp at this; exact this
  subst hi0
  cases hi
  have e1 := World.alloc_heap_new w (.cells #[v] 39)
  exact ⟨w.heap.size, 0, v, rfl, by simp, Nat.le_refl _, cell_at e1 rfl, h.below ((Below.refl _ _).alloc (Nat.le_refl _) _) (by simp)⟩

/-- Written beside, and renamed. -/
def repN (room : Int) (S : St) (p s : BS) : Int × St :=
  if (opW room S (besideL p) s).1 = 0 then opN (opW room S (besideL p) s).2 (besideL p) p else opW room S (besideL p) s
theorem Good.rep {room : Int} {n : Nat} {S : St} (h : Good room n S) (p s : BS) : Good room (n + 2) (repN room S p s).2 := by
  unfold repN
  split
  · exact (h.opW _ _).opN _ _
  · exact (h.opW _ _).more (by omega)
theorem jAnew_rep (room : Int) (S : St) (p : BS) (all : LL) : jAnew room S p all =
    if pathB (besideL p) = true then
      if putC all = 0 then
        if (repN room S p (linesOfAll all)).1 = 0 then (0, opS (repN room S p (linesOfAll all)).2) else ((repN room S p (linesOfAll all)).1, (opR (repN room S p (linesOfAll all)).2 (besideL p)).2)
      else (putC all, S)
    else (1, S) := by
  unfold jAnew repN
  by_cases h : (opW room S (besideL p) (linesOfAll all)).1 = 0
  · simp only [if_pos h]
  · simp only [if_neg h]

set_option maxRecDepth 100000 in
set_option maxHeartbeats 4000000 in
theorem beside_any (p : ByteArray) (hp : p.size ≤ 1048000) (w : World) : Calls Tryz.prog 53 #[.string p] w fun e w' => e = .returned (.string (bes p)) ∧ w = w' := by
  have e3 : ¬ 9223372036854775807 < p.size + 4 := by omega
  go_enter Tryz.func53, Tryz.ntmps53
  go_wp2
  go_ret
  exact ⟨rfl, rfl⟩
set_option maxRecDepth 100000 in
set_option maxHeartbeats 4000000 in
theorem isRight_any (b : Nat) (p : ByteArray) (hp : p.size ≤ 1048000) (w : World) : Calls Tryz.prog 45 #[.pointer (some ⟨b, 0, none⟩), .string p] w fun e w' => e = .returned (.bool (pathB (besideL p.data.toList))) ∧ Below w.heap.size w w' := by
  have HB := Lib.hid (beside_any p hp)
  have hP := path_any (bes p) (by rw [bes_size]; unfold maxLen; omega)
  rw [bes_list] at hP
  have HP := Lib.hid hP
  clear hP
  generalize bes p = q at *
  generalize pathB (besideL p.data.toList) = c at *
  go_enter Tryz.func45, Tryz.ntmps45
  go_wp2_with (first
    | (go_at_call 53; refine (HB.out _).mono ?_; rintro e w1 ⟨rfl, rfl⟩)
    | (go_at_call 69; refine (HP.out _).mono ?_; rintro e w2 ⟨rfl, hb⟩))
  go_ret
  exact ⟨rfl, hb⟩

section
variable {w1 : World} {Z : Nat → Prop} {room : Int} {w : World} {l : List Ent} {b n : Nat} {S : St}
set_option maxRecDepth 100000 in
set_option maxHeartbeats 4000000 in
theorem At.jreplace (h : At w1 Z room ((false, b, S) :: l) w) (hg : Good room n S) (hn : n < 268435400) (p s : ByteArray) (hp : p.size ≤ 1048000) (hs : s.size ≤ 1048576) :
    Calls Tryz.prog 55 #[.pointer (some ⟨b, 0, none⟩), .string p, .string s] w fun r w' => r = .returned (.int .i64 (repN room S p.data.toList s.data.toList).1) ∧ At w1 Z room ((false, b, (repN room S p.data.toList s.data.toList).2) :: l) w' := by
  have HB := Lib.hid (beside_any p hp)
  have hbs : (bes p).size ≤ 1048576 := by rw [bes_size]; omega
  have hW := h.write hg (by omega) (bes p) s hbs hs
  have hgW := hg.opW (besideL p.data.toList) s.data.toList
  rw [bes_list] at hW
  have hR : ∀ W, At w1 Z room ((false, b, (opW room S (besideL p.data.toList) s.data.toList).2) :: l) W → Calls Tryz.prog 85 #[.pointer (some ⟨b, 0, none⟩), .string (bes p), .string p] W fun r w' => r = .returned (.int .i64 (opN (opW room S (besideL p.data.toList) s.data.toList).2 (besideL p.data.toList) p.data.toList).1) ∧ At w1 Z room ((false, b, (opN (opW room S (besideL p.data.toList) s.data.toList).2 (besideL p.data.toList) p.data.toList).2) :: l) w' := by
    intro W hW
    have := hW.rename hgW (by omega) (bes p) p hbs (by omega)
    rwa [bes_list] at this
  unfold repN
  generalize opW room S (besideL p.data.toList) s.data.toList = OW at *
  obtain ⟨cW, SW⟩ := OW
  generalize opN (cW, SW).2 (besideL p.data.toList) p.data.toList = ON at *
  obtain ⟨cN, SN⟩ := ON
  generalize bes p = q at *
  have HW := Lib.hid hW
  have HR := Lib.hid hR
  clear h hW hR
  by_cases h0 : cW = 0
  · subst h0
    show Calls _ _ _ _ fun r w' => r = .returned (.int .i64 cN) ∧ At w1 Z room ((false, b, SN) :: l) w'
    go_enter Tryz.func55, Tryz.ntmps55
    go_wp2_with (first
      | (go_at_call 53; refine (HB.out _).mono ?_; rintro e w2 ⟨rfl, rfl⟩)
      | (go_at_call 84; refine HW.out.mono ?_; rintro e w3 ⟨rfl, h3⟩)
      | (go_at_call 85; refine (HR.out _ h3).mono ?_; rintro e w4 ⟨rfl, h4⟩))
    go_ret
    exact ⟨rfl, h4⟩
  · have e0 : (cW != 0) = true := by simpa using h0
    rw [if_neg h0]
    clear h0
    show Calls _ _ _ _ fun r w' => r = .returned (.int .i64 cW) ∧ At w1 Z room ((false, b, SW) :: l) w'
    go_enter Tryz.func55, Tryz.ntmps55
    go_wp2_with (first
      | (go_at_call 53; refine (HB.out _).mono ?_; rintro e w2 ⟨rfl, rfl⟩)
      | (go_at_call 84; refine HW.out.mono ?_; rintro e w3 ⟨rfl, h3⟩))
    go_ret
    exact ⟨rfl, h3⟩

set_option maxRecDepth 100000 in
set_option maxHeartbeats 4000000 in
theorem At.janew (h : At w1 Z room ((false, b, S) :: l) w) (hg : Good room n S) (hn : n < 268435400) (p : ByteArray) (hp : p.size ≤ 1048000) (v : Value) (xss : List (List ByteArray)) (hr : ReadsLL w w.heap.size v xss) (hx : xss.length ≤ maxLen) (hm : ∀ xs ∈ xss, xs.length ≤ maxLen ∧ ∀ x ∈ xs, x.size ≤ 1000000) (hb : Mod (rawLL xss)) :
    Calls Tryz.prog 31 #[.pointer (some ⟨b, 0, none⟩), .string p, v] w fun r w' => r = .returned (.int .i64 (jAnew room S p.data.toList (rawLL xss)).1) ∧ At w1 Z room ((false, b, (jAnew room S p.data.toList (rawLL xss)).2) :: l) w' := by
  have HB := Lib.hid (beside_any p hp)
  have hbs : (bes p).size ≤ 1048576 := by rw [bes_size]; omega
  have HQ : Hid (Calls Tryz.prog 45 #[.pointer (some ⟨b, 0, none⟩), .string p] w fun e w' => e = .returned (.bool (pathB (besideL p.data.toList))) ∧ At w1 Z room ((false, b, S) :: l) w' ∧ ReadsLL w' w'.heap.size v xss) :=
    (isRight_any b p hp w).mono fun _ _ k => ⟨k.1, h.below k.2, hr.below k.2 k.2.size⟩
  have HT : Hid (∀ W, At w1 Z room ((false, b, S) :: l) W → ReadsLL W W.heap.size v xss → Calls Tryz.prog 46 #[.func (.func 47) #[] #[], v] W fun e w' => e = .returned (.tuple #[.string (togT (rawLL xss)), .int .i64 (putC (rawLL xss))]) ∧ At w1 Z room ((false, b, S) :: l) w') :=
    fun W h1 h2 => (together_any v xss W h2 hx hm hb).mono fun _ _ k => ⟨k.1, h1.below k.2⟩
  rw [jAnew_rep]
  clear h hr
  by_cases hpb : pathB (besideL p.data.toList) = true
  · rw [if_pos hpb]
    rw [hpb] at HQ
    by_cases hpc : putC (rawLL xss) = 0
    · rw [if_pos hpc]
      have ht : togT (rawLL xss) = txt (linesOfAll (rawLL xss)) := by unfold togT; rw [if_pos hpc]
      have hts : (txt (linesOfAll (rawLL xss))).size ≤ 1048576 := by
        rw [txt_size]
        have := hb (rawLL xss).length (by rw [List.take_length]; exact fit_putC hpc)
        rwa [List.take_length] at this
      rw [ht, hpc] at HT
      have hgR := hg.rep p.data.toList (linesOfAll (rawLL xss))
      have HP : Hid (∀ W, At w1 Z room ((false, b, S) :: l) W → Calls Tryz.prog 55 #[.pointer (some ⟨b, 0, none⟩), .string p, .string (txt (linesOfAll (rawLL xss)))] W fun r w' => r = .returned (.int .i64 (repN room S p.data.toList (linesOfAll (rawLL xss))).1) ∧ At w1 Z room ((false, b, (repN room S p.data.toList (linesOfAll (rawLL xss))).2) :: l) w') := by
        intro W hW
        have := hW.jreplace hg hn p (txt (linesOfAll (rawLL xss))) hp hts
        rwa [txt_data] at this
      have HX : Hid (∀ W, At w1 Z room ((false, b, (repN room S p.data.toList (linesOfAll (rawLL xss))).2) :: l) W → Calls Tryz.prog 52 #[.pointer (some ⟨b, 0, none⟩), .string (bes p)] W fun r w' => (∃ c, r = .returned (.int .i64 c)) ∧ At w1 Z room ((false, b, (opR (repN room S p.data.toList (linesOfAll (rawLL xss))).2 (besideL p.data.toList)).2) :: l) w') := by
        intro W hW
        have := hW.remove hgR (by omega) (bes p) hbs
        rw [bes_list] at this
        exact this.mono fun _ _ k => ⟨⟨_, k.1⟩, k.2⟩
      have HS : Hid (∀ W, At w1 Z room ((false, b, (repN room S p.data.toList (linesOfAll (rawLL xss))).2) :: l) W → Calls Tryz.prog 26 #[.pointer (some ⟨b, 0, none⟩)] W fun r w' => r = .returned (.tuple #[]) ∧ At w1 Z room ((false, b, opS (repN room S p.data.toList (linesOfAll (rawLL xss))).2) :: l) w') :=
        fun W hW => hW.sync hgR
      clear ht hts hgR hpb hpc hm hb hx hbs hg
      generalize repN room S p.data.toList (linesOfAll (rawLL xss)) = R at *
      generalize txt (linesOfAll (rawLL xss)) = t at *
      obtain ⟨cR, SR⟩ := R
      generalize bes p = q at *
      by_cases h0 : cR = 0
      · subst h0
        rw [if_pos rfl]
        generalize opS (0, SR).2 = S9 at *
        go_enter Tryz.func31, Tryz.ntmps31
        go_wp2_with (first
          | (go_at_call 45; refine HQ.out.mono ?_; rintro e w2 ⟨rfl, h2, hr2⟩)
          | (go_at_call 46; refine (HT.out _ h2 hr2).mono ?_; rintro e w3 ⟨rfl, h3⟩)
          | (go_at_call 55; refine (HP.out _ h3).mono ?_; rintro e w4 ⟨rfl, h4⟩)
          | (go_at_call 26; refine (HS.out _ h4).mono ?_; rintro e w5 ⟨rfl, h5⟩))
        go_ret
        exact ⟨rfl, h5⟩
      · have e0 : (cR != 0) = true := by simpa using h0
        rw [if_neg h0]
        clear h0
        generalize (opR (cR, SR).2 (besideL p.data.toList)).2 = S9 at *
        go_enter Tryz.func31, Tryz.ntmps31
        go_wp2_with (first
          | (go_at_call 45; refine HQ.out.mono ?_; rintro e w2 ⟨rfl, h2, hr2⟩)
          | (go_at_call 46; refine (HT.out _ h2 hr2).mono ?_; rintro e w3 ⟨rfl, h3⟩)
          | (go_at_call 55; refine (HP.out _ h3).mono ?_; rintro e w4 ⟨rfl, h4⟩)
          | (go_at_call 53; refine (HB.out _).mono ?_; rintro e w5 ⟨rfl, rfl⟩)
          | (go_at_call 52; refine (HX.out _ h4).mono ?_; rintro e w6 ⟨⟨c6, rfl⟩, h6⟩))
        go_ret
        exact ⟨rfl, h6⟩
    · rw [if_neg hpc]
      have e0 : (putC (rawLL xss) != 0) = true := by simpa using hpc
      clear hpb hpc hm hb hx hbs hg
      generalize putC (rawLL xss) = cd at *
      generalize togT (rawLL xss) = t at *
      go_enter Tryz.func31, Tryz.ntmps31
      go_wp2_with (first
        | (go_at_call 45; refine HQ.out.mono ?_; rintro e w2 ⟨rfl, h2, hr2⟩)
        | (go_at_call 46; refine (HT.out _ h2 hr2).mono ?_; rintro e w3 ⟨rfl, h3⟩))
      go_ret
      exact ⟨rfl, h3⟩
  · rw [if_neg hpb]
    have e0 : pathB (besideL p.data.toList) = false := by simpa using hpb
    rw [e0] at HQ
    clear hpb e0 hm hb hx hbs hg HT
    go_enter Tryz.func31, Tryz.ntmps31
    go_wp2_with (go_at_call 45; refine HQ.out.mono ?_; rintro e w2 ⟨rfl, h2, hr2⟩)
    go_ret
    exact ⟨rfl, h2⟩
end

end Go.Proofs.YtchnbnmajagpjaaGreatDoor
