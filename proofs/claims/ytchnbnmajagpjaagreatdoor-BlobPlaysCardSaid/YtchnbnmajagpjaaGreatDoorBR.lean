/-
  The document's own rows of files: way, Find, used, blocked, drop: for any row.
  The document's own rows of files: drop, put: for any row.
  The document's own after: files behind a change. For any row, any change.
  The document's own after: a file renamed.
-/
import Derived.Deep.RegionHeld3
import Derived.Test.YtchnbnmajagpjaaGreatDoorCH
import Derived.Test.YtchnbnmajagpjaaGreatDoorBA
namespace Go.Proofs.YtchnbnmajagpjaaGreatDoor
open Go.RowKit Go.Shelf Go.Maps

theorem rowRF : RowT 75 80 3 :=
  rowT_of (.agg #[.string ⟨#[]⟩, .string ⟨#[]⟩, .int .i64 0]) 40 Tryz.underlying75 (by kernel_rfl) (by decide) rfl (by decide)
def rfCells (y : BS × FD) : List Value := [.string (txt y.1), .string (txt y.2.1), .int .i64 y.2.2]
abbrev RowF (w : World) (P : Nat → Prop) (v : Value) (l : Fs) : Prop := RowR 80 3 rfCells w P v l
theorem rf_one (y : BS × FD) : ∀ u ∈ rfCells y, u.oneCell' = true := by simp [rfCells, Value.oneCell']
/-- The row's cells. -/
def RowC (w : World) (g : Nat) (l : Fs) : Prop := ∀ i y, l[i]? = some y → w.cell? ⟨g, i * 3, none⟩ = some (.string (txt y.1)) ∧ w.cell? ⟨g, i * 3 + 1, none⟩ = some (.string (txt y.2.1)) ∧ w.cell? ⟨g, i * 3 + 2, none⟩ = some (.int .i64 y.2.2)
theorem RowR.cells {w : World} {P : Nat → Prop} {v : Value} {l : Fs} (h : RowF w P v l) : (l = [] ∧ v = .slice none 0 0) ∨ ∃ g c, v = .slice (some ⟨g, 0, none⟩) l.length c ∧ P g ∧ g < w.heap.size ∧ RowC w g l := by
  rcases h.1.2 with ⟨rfl, h0⟩ | ⟨g, cap, cur, rfl, _, hgg, _⟩
  · exact .inl ⟨List.eq_nil_of_length_eq_zero h0, rfl⟩
  · right
    refine ⟨g, cap, rfl, h.2 g (by simp [Value.ownBlock]), (Array.getElem?_eq_some_iff.1 hgg).1, fun i y hy => ?_⟩
    obtain ⟨o, c, hv, _, _, _, hcs⟩ := h.shape (fun _ => rfl)
    obtain ⟨g', hg', hc⟩ := hcs i y hy
    cases hv
    cases hg'
    exact ⟨hc 0 (by omega), hc 1 (by omega), hc 2 (by omega)⟩
theorem RowC.below {w w' : World} {g B : Nat} {l : Fs} (h : RowC w g l) (hb : Below B w w') (hg : g < B) : RowC w' g l := fun i y hy => by
  obtain ⟨h1, h2, h3⟩ := h i y hy
  exact ⟨(hb.cell (p := ⟨g, i * 3, none⟩) hg).trans h1, (hb.cell (p := ⟨g, i * 3 + 1, none⟩) hg).trans h2, (hb.cell (p := ⟨g, i * 3 + 2, none⟩) hg).trans h3⟩
theorem RowC.kept {w w' : World} {g : Nat} {l : Fs} (h : RowC w g l) (hk : w'.heap[g]? = w.heap[g]?) : RowC w' g l := fun i y hy => by
  obtain ⟨h1, h2, h3⟩ := h i y hy
  unfold World.cell? at h1 h2 h3 ⊢
  rw [hk]
  exact ⟨h1, h2, h3⟩

/-! ### way -/
theorem way_no1 {a b : ByteArray} (h : ¬ a.size < b.size) : way a.data.toList b.data.toList = false := by
  unfold way
  rw [Bool.eq_false_iff]
  intro h'
  have := (List.isPrefixOf_iff_prefix.1 h').length_le
  rw [List.length_append, size_list, size_list] at this
  have e : ([47] : BS).length = 1 := rfl
  omega
theorem way_no2 {a b : ByteArray} (h : b.extract 0 a.size ≠ a) : way a.data.toList b.data.toList = false := by
  rw [way_cut]
  cases hp : preB a b with
  | false => rfl
  | true => exact absurd (pre_take hp).2.1 h
theorem way_yes {a b : ByteArray} (h1 : a.size < b.size) (h2 : b.extract 0 a.size = a) : way a.data.toList b.data.toList = decide (b[a.size].toNat = 47) := by
  have hp : preB a b = true := by
    unfold preB
    rw [List.isPrefixOf_iff_prefix, ← h2, extract_txt, txt_data, List.drop_zero, Nat.sub_zero]
    exact List.take_prefix _ _
  have hc : cutT b a = b.extract a.size b.size := by unfold cutT; rw [hp]; rfl
  have hd : (b.extract a.size b.size).data.toList = b[a.size] :: (b.data.toList.drop (a.size + 1)) := by
    have hl : a.size < b.data.toList.length := by rw [size_list]; exact h1
    rw [extract_txt, txt_data, List.take_of_length_le (by rw [List.length_drop, size_list]; exact Nat.le_refl _), List.drop_eq_getElem_cons hl, Array.getElem_toList]; rfl
  rw [way_cut, hp, Bool.true_and, hc]
  unfold preB
  rw [hd, Bool.eq_iff_iff, List.isPrefixOf_iff_prefix]
  show [47] <+: _ ↔ _
  rw [List.cons_prefix_cons, decide_eq_true_eq]
  constructor
  · rintro ⟨h, _⟩; rw [← h]; rfl
  · intro h; exact ⟨(UInt8.toNat_inj.1 (by rw [h]; rfl)).symm, List.nil_prefix⟩

set_option maxRecDepth 100000 in
set_option maxHeartbeats 1000000 in
theorem refWay_any (a b : ByteArray) (_ha : a.size ≤ maxLen) (w : World) : Calls Tryz.prog 106 #[.string a, .string b] w fun e w' => e = .returned (.bool (wayB a b)) ∧ w = w' := by
  unfold wayB
  by_cases h1 : a.size < b.size
  · have i1 : (a.size : Int) < (b.size : Int) := by omega
    have i2 : ¬ ((b.size : Int) < (a.size : Int)) := by omega
    by_cases h2 : b.extract 0 a.size = a
    · rw [way_yes h1 h2]
      have e2 : ((b.extract 0 a.size).toList == a.toList) = true := by rw [str_eq]; simp [h2]
      have hb := nat_beq b[a.size].toNat 47
      clear h2
      go_enter Tryz.func106, Tryz.ntmps106
      go_wp2
      go_ret
      exact ⟨ret_bool (by first | exact hb | simp_all), rfl⟩
    · rw [way_no2 h2]
      have e2 : ((b.extract 0 a.size).toList == a.toList) = false := by rw [str_eq]; simp [h2]
      clear h2
      go_enter Tryz.func106, Tryz.ntmps106
      go_wp2
      go_ret
      exact ⟨ret_bool (by first | rfl | simp_all), rfl⟩
  · rw [way_no1 h1]
    have i1 : ¬ (a.size : Int) < (b.size : Int) := by omega
    go_enter Tryz.func106, Tryz.ntmps106
    go_wp2
    go_ret
    exact ⟨ret_bool (by first | rfl | simp_all), rfl⟩


/-! ### Find -/
def FindI (l : Fs) (p : BS) (i : Int) : Prop := (i = -1 ∧ look l p = none) ∨ ∃ (k : Nat) (v : FD), i = (k : Int) ∧ l[k]? = some (p, v) ∧ look l p = some v
def NotIn (l : Fs) (p : BS) (k : Nat) : Prop := ∀ j, j < k → ∀ y : BS × FD, l[j]? = some y → y.1 ≠ p
theorem NotIn.step {l : Fs} {p : BS} {k : Nat} (h : NotIn l p k) {y : BS × FD} (hy : l[k]? = some y) (hne : y.1 ≠ p) : NotIn l p (k + 1) := fun j hj z hz => by
  rcases Nat.lt_succ_iff_lt_or_eq.1 hj with h' | h'
  · exact h j h' z hz
  · subst h'; rw [hy] at hz; cases hz; exact hne
theorem find_at {l : Fs} {p : BS} {k : Nat} (h : NotIn l p k) {v : FD} (hk : l[k]? = some (p, v)) : look l p = some v := by
  induction l generalizing k with
  | nil => simp at hk
  | cons y r ih =>
    cases k with
    | zero =>
      simp at hk
      subst hk
      simp [look]
    | succ k =>
      have hne := h 0 (by omega) y rfl
      have hr := ih (k := k) (fun j hj z hz => h (j + 1) (by omega) z (by simpa using hz)) (by simpa using hk)
      unfold look at hr ⊢
      rw [List.find?_cons]
      simp only [decide_eq_false hne]
      exact hr
theorem find_no {l : Fs} {p : BS} (h : NotIn l p l.length) : look l p = none := look_none.2 (fun y hy => by
  obtain ⟨j, hj, he⟩ := List.getElem_of_mem hy
  exact h j hj y (by rw [List.getElem?_eq_getElem hj, he]))

set_option maxRecDepth 100000 in
set_option maxHeartbeats 4000000 in
theorem find_nil (p : ByteArray) (w : World) : Calls Tryz.prog 66 #[.slice none 0 0, .string p] w fun e w' => e = .returned (.int .i64 (-1)) ∧ w = w' := by
  go_enter Tryz.func66, Tryz.ntmps66
  go_wp2
  refine wp_loop_rounds 1 ?_
  rw [rounds_succ]
  go_wp2
  go_ret
  exact ⟨rfl, rfl⟩

set_option maxRecDepth 100000 in
set_option maxHeartbeats 4000000 in
theorem find_some (g c : Nat) (l : Fs) (p : ByteArray) (w : World) (hc : RowC w g l) (hln : l.length < 1073741824) : Calls Tryz.prog 66 #[.slice (some ⟨g, 0, none⟩) l.length c, .string p] w fun e w' => (∃ i, e = .returned (.int .i64 i) ∧ FindI l p.data.toList i) ∧ w = w' := by
  have HC := Lib.hid hc
  clear hc
  go_enter Tryz.func66, Tryz.ntmps66
  go_wp2
  go_loop [5] (fun i => ∃ k : Nat, k ≤ l.length ∧ i = .int .i64 k ∧ Hid (NotIn l p.data.toList k)) (fun i => l.length - (intOf i).toNat)
  case atStart => exact ⟨0, Nat.zero_le _, rfl, fun j hj => by omega⟩
  case round =>
    obtain ⟨k, hk, rfl, HN⟩ := hrel
    by_cases hlt : k < l.length
    · obtain ⟨⟨yp, yt, ym⟩, hy⟩ : ∃ y, l[k]? = some y := ⟨_, List.getElem?_eq_getElem hlt⟩
      obtain ⟨e0, e1, e2⟩ := HC.out k _ hy
      obtain ⟨sp, hsp⟩ : ∃ sp : ByteArray, sp = txt yp := ⟨_, rfl⟩
      obtain ⟨st, hst⟩ : ∃ st : ByteArray, st = txt yt := ⟨_, rfl⟩
      have hspd : sp.data.toList = yp := by rw [hsp, txt_data]
      have hstd : st.data.toList = yt := by rw [hst, txt_data]
      simp only [← hsp, ← hst] at e0 e1 e2
      have hi1 : (0 : Int) ≤ (k : Int) := by omega
      have hi2 : (k : Int) < (l.length : Int) := by omega
      by_cases hpe : sp = p
      · have hq : (sp.toList == p.toList) = true := by rw [str_eq]; simp [hpe]
        have HF : Hid (FindI l p.data.toList (k : Int)) := .inr ⟨k, (yt, ym), rfl, by rw [hy, ← hspd, hpe], find_at HN.out (by rw [hy, ← hspd, hpe])⟩
        clear hy hspd hstd hsp hst hpe e1 e2
        go_wp2
        go_ret
        exact ⟨⟨_, rfl, HF.out⟩, rfl⟩
      · have hq : (sp.toList == p.toList) = false := by rw [str_eq]; simp [hpe]
        have HN2 : Hid (NotIn l p.data.toList (k + 1)) := HN.out.step hy (fun (e : yp = p.data.toList) => hpe (by rw [← txt_toList sp, hspd, e, txt_toList]))
        clear hy hspd hstd hsp hst hpe e1 e2
        go_wp2
        go_round
        case rel => exact ⟨k + 1, hlt, by go_num, HN2⟩
        case measure => simp [intOf]; omega
    · have hkl : k = l.length := by omega
      have hni : NotIn l p.data.toList l.length := by rw [← hkl]; exact HN.out
      have HF : Hid (FindI l p.data.toList (-1)) := .inl ⟨rfl, find_no hni⟩
      clear hkl hni
      go_wp2
      go_ret
      exact ⟨⟨_, rfl, HF.out⟩, rfl⟩

theorem refFind_any (v : Value) (P : Nat → Prop) (l : Fs) (p : ByteArray) (w : World) (h : RowF w P v l) (hln : l.length < 1073741824) : Calls Tryz.prog 66 #[v, .string p] w fun e w' => (∃ i, e = .returned (.int .i64 i) ∧ FindI l p.data.toList i) ∧ w = w' := by
  rcases h.cells with ⟨rfl, rfl⟩ | ⟨g, c, rfl, _, _, hc⟩
  · exact (find_nil p w).mono (fun e w' hr => ⟨⟨_, hr.1, .inl ⟨rfl, rfl⟩⟩, hr.2⟩)
  · exact find_some g c l p w hc hln

/-! ### used -/
theorem used_take {l : Fs} {k : Nat} {y : BS × FD} (hy : l[k]? = some y) : used (l.take (k + 1)) = used (l.take k) + y.2.1.length := by
  rw [List.take_add_one, hy]
  unfold used
  rw [List.map_append, List.sum_append]; simp
theorem used_le (l : Fs) (k : Nat) : used (l.take k) ≤ used l := by
  have h : used (l.take k ++ l.drop k) = used (l.take k) + used (l.drop k) := by
    unfold used
    rw [List.map_append, List.sum_append]
  rw [List.take_append_drop] at h
  omega

set_option maxRecDepth 100000 in
set_option maxHeartbeats 4000000 in
theorem rused_nil  (w : World) : Calls Tryz.prog 63 #[.slice none 0 0] w fun e w' => e = .returned (.int .i64 0) ∧ w = w' := by
  go_enter Tryz.func63, Tryz.ntmps63
  go_wp2
  refine wp_loop_rounds 1 ?_
  rw [rounds_succ]
  go_wp2
  go_ret
  exact ⟨rfl, rfl⟩

set_option maxRecDepth 100000 in
set_option maxHeartbeats 4000000 in
theorem rused_some (g c : Nat) (l : Fs) (w : World) (hc : RowC w g l) (hln : l.length < 1073741824) (hu : used l < 4611686018427387904) : Calls Tryz.prog 63 #[.slice (some ⟨g, 0, none⟩) l.length c] w fun e w' => e = .returned (.int .i64 (used l : Nat)) ∧ w = w' := by
  have HC := Lib.hid hc
  clear hc
  go_enter Tryz.func63, Tryz.ntmps63
  go_wp2
  go_loop [4, 3] (fun i a => ∃ k u : Nat, k ≤ l.length ∧ i = .int .i64 k ∧ a = .int .i64 u ∧ u < 4611686018427387904 ∧ Hid (u = used (l.take k))) (fun i _ => l.length - (intOf i).toNat)
  case atStart => exact ⟨0, 0, Nat.zero_le _, rfl, rfl, by omega, rfl⟩
  case round =>
    obtain ⟨k, u, hk, rfl, rfl, hu1, HN⟩ := hrel
    by_cases hlt : k < l.length
    · obtain ⟨⟨yp, yt, ym⟩, hy⟩ : ∃ y, l[k]? = some y := ⟨_, List.getElem?_eq_getElem hlt⟩
      obtain ⟨e0, e1, e2⟩ := HC.out k _ hy
      obtain ⟨sp, hsp⟩ : ∃ sp : ByteArray, sp = txt yp := ⟨_, rfl⟩
      obtain ⟨st, hst⟩ : ∃ st : ByteArray, st = txt yt := ⟨_, rfl⟩
      have hspd : sp.data.toList = yp := by rw [hsp, txt_data]
      have hstd : st.data.toList = yt := by rw [hst, txt_data]
      simp only [← hsp, ← hst] at e0 e1 e2
      have hi1 : (0 : Int) ≤ (k : Int) := by omega
      have hi2 : (k : Int) < (l.length : Int) := by omega
      have hux := used_take hy
      have hle := used_le l (k + 1)
      have hstl : st.size = yt.length := by rw [← size_list, hstd]
      have HN2 : Hid (u + st.size = used (l.take (k + 1))) := by show _ = _; rw [hux, ← HN.out, hstl]
      have hub : u + st.size < 4611686018427387904 := by have := HN2.out; omega
      clear hy hspd hstd hsp hst e0 e2 hux hle hstl
      go_wp2
      go_round
      case rel => exact ⟨k + 1, u + st.size, hlt, by go_num, by simp, hub, HN2⟩
      case measure => simp [intOf]; omega
    · have hfin : u = used l := by rw [HN.out, List.take_of_length_le (by omega)]
      subst hfin
      go_wp2
      go_ret
      exact ⟨rfl, rfl⟩

theorem rused_any (v : Value) (P : Nat → Prop) (l : Fs) (w : World) (h : RowF w P v l) (hln : l.length < 1073741824) (hu : used l < 4611686018427387904) : Calls Tryz.prog 63 #[v] w fun e w' => e = .returned (.int .i64 (used l : Nat)) ∧ w = w' := by
  rcases h.cells with ⟨rfl, rfl⟩ | ⟨g, c, rfl, _, _, hc⟩
  · exact rused_nil w
  · exact rused_some g c l w hc hln hu

/-! ### blocked -/
def NotBlk (l : Fs) (p : BS) (k : Nat) : Prop := blocked (l.take k) p = false
theorem NotBlk.step {l : Fs} {p : BS} {k : Nat} (h : NotBlk l p k) {y : BS × FD} (hy : l[k]? = some y) (h1 : way y.1 p = false) (h2 : way p y.1 = false) : NotBlk l p (k + 1) := by
  unfold NotBlk at *
  rw [List.take_add_one, hy]
  unfold blocked at *
  rw [List.any_append, h]; simp [h1, h2]
theorem blk_at {l : Fs} {p : BS} {k : Nat} {y : BS × FD} (hy : l[k]? = some y) (h : way y.1 p = true ∨ way p y.1 = true) : blocked l p = true := by
  unfold blocked
  rw [List.any_eq_true]
  refine ⟨y, List.mem_of_getElem? hy, ?_⟩
  rcases h with h | h <;> simp [h]

set_option maxRecDepth 100000 in
set_option maxHeartbeats 4000000 in
theorem rblk_nil (p : ByteArray) (w : World) : Calls Tryz.prog 89 #[.slice none 0 0, .string p] w fun e w' => e = .returned (.bool false) ∧ w = w' := by
  go_enter Tryz.func89, Tryz.ntmps89
  go_wp2
  refine wp_loop_rounds 1 ?_
  rw [rounds_succ]
  go_wp2
  go_ret
  exact ⟨rfl, rfl⟩

set_option maxRecDepth 100000 in
set_option maxHeartbeats 4000000 in
theorem rblk_some (g c : Nat) (l : Fs) (p : ByteArray) (w : World) (hc : RowC w g l) (hln : l.length < 1073741824) (hp : p.size ≤ maxLen) (hpl : ∀ y ∈ l, y.1.length ≤ 1048576) : Calls Tryz.prog 89 #[.slice (some ⟨g, 0, none⟩) l.length c, .string p] w fun e w' => e = .returned (.bool (blocked l p.data.toList)) ∧ w = w' := by
  have HC := Lib.hid hc
  have HPL := Lib.hid hpl
  have HW : Hid (∀ (a b : ByteArray) (w : World), a.size ≤ maxLen → Calls Tryz.prog 106 #[.string a, .string b] w fun e w' => e = .returned (.bool (wayB a b)) ∧ w = w') := fun a b w h => refWay_any a b h w
  clear hc hpl
  go_enter Tryz.func89, Tryz.ntmps89
  go_wp2
  go_loop [5] (fun i => ∃ k : Nat, k ≤ l.length ∧ i = .int .i64 k ∧ Hid (NotBlk l p.data.toList k)) (fun i => l.length - (intOf i).toNat)
  case atStart => exact ⟨0, Nat.zero_le _, rfl, rfl⟩
  case round =>
    obtain ⟨k, hk, rfl, HN⟩ := hrel
    by_cases hlt : k < l.length
    · obtain ⟨⟨yp, yt, ym⟩, hy⟩ : ∃ y, l[k]? = some y := ⟨_, List.getElem?_eq_getElem hlt⟩
      obtain ⟨e0, e1, e2⟩ := HC.out k _ hy
      obtain ⟨sp, hsp⟩ : ∃ sp : ByteArray, sp = txt yp := ⟨_, rfl⟩
      obtain ⟨st, hst⟩ : ∃ st : ByteArray, st = txt yt := ⟨_, rfl⟩
      have hspd : sp.data.toList = yp := by rw [hsp, txt_data]
      have hstd : st.data.toList = yt := by rw [hst, txt_data]
      simp only [← hsp, ← hst] at e0 e1 e2
      have hi1 : (0 : Int) ≤ (k : Int) := by omega
      have hi2 : (k : Int) < (l.length : Int) := by omega
      have hsz : sp.size ≤ maxLen := by
        have := HPL.out _ (List.mem_of_getElem? hy)
        rw [← size_list, hspd]; unfold maxLen; simp only at this; omega
      cases h1 : wayB sp p with
      | true =>
        have HT : Hid (blocked l p.data.toList = true) := blk_at hy (.inl (by rw [← hspd]; exact h1))
        clear hy hspd hstd hsp hst e1 e2
        go_wp2_with (go_at_call 106; refine (HW.out _ _ _ (by assumption)).mono ?_; rintro e w' ⟨rfl, rfl⟩)
        go_ret
        exact ⟨by rw [HT.out]; rfl, rfl⟩
      | false =>
        cases h2 : wayB p sp with
        | true =>
          have HT : Hid (blocked l p.data.toList = true) := blk_at hy (.inr (by rw [← hspd]; exact h2))
          clear hy hspd hstd hsp hst e1 e2
          go_wp2_with (go_at_call 106; refine (HW.out _ _ _ (by assumption)).mono ?_; rintro e w' ⟨rfl, rfl⟩)
          go_ret
          exact ⟨by rw [HT.out]; rfl, rfl⟩
        | false =>
          have HN2 : Hid (NotBlk l p.data.toList (k + 1)) := HN.out.step hy (by rw [← hspd]; exact h1) (by rw [← hspd]; exact h2)
          clear hy hspd hstd hsp hst e1 e2
          go_wp2_with (go_at_call 106; refine (HW.out _ _ _ (by assumption)).mono ?_; rintro e w' ⟨rfl, rfl⟩)
          go_round
          case rel => exact ⟨k + 1, hlt, by go_num, HN2⟩
          case measure => simp [intOf]; omega
    · have HT : Hid (blocked l p.data.toList = false) := by have := HN.out; unfold NotBlk at this; rwa [List.take_of_length_le (by omega)] at this
      go_wp2
      go_ret
      exact ⟨by rw [HT.out]; rfl, rfl⟩

theorem rblk_any (v : Value) (P : Nat → Prop) (l : Fs) (p : ByteArray) (w : World) (h : RowF w P v l) (hln : l.length < 1073741824) (hp : p.size ≤ maxLen) (hpl : ∀ y ∈ l, y.1.length ≤ 1048576) : Calls Tryz.prog 89 #[v, .string p] w fun e w' => e = .returned (.bool (blocked l p.data.toList)) ∧ w = w' := by
  rcases h.cells with ⟨rfl, rfl⟩ | ⟨g, c, rfl, _, _, hc⟩
  · exact rblk_nil p w
  · exact rblk_some g c l p w hc hln hp hpl

end Go.Proofs.YtchnbnmajagpjaaGreatDoor

namespace Go.Proofs.YtchnbnmajagpjaaGreatDoor
open Go.RowKit Go.Shelf Go.Maps

theorem rowf_push {w0 wr : World} {v : Value} {l : Fs} (h : RowF wr (fun n => w0.heap.size ≤ n) v l) (hb : Below w0.heap.size w0 wr) (hl : l.length < 1099511627776) (y : BS × FD) (a b : ByteArray) (ha : a = txt y.1) (hbb : b = txt y.2.1) :
    ∃ v' w', (Builtin.append_ #[75, 75] 75 #[v, .slice (some ⟨wr.heap.size, 0, none⟩) 1 1]).run Tryz.prog (wr.alloc (.cells #[.string a, .string b, .int .i64 y.2.2] 80)) = .ok v' w' ∧ RowF w' (fun n => w0.heap.size ≤ n) v' (l ++ [y]) ∧ Below w0.heap.size w0 w' ∧ ∃ o n c, v' = .slice o n c := by
  subst ha hbb
  have hT : Turned (fun _ => False) wr (wr.alloc (.cells #[.string (txt y.1), .string (txt y.2.1), .int .i64 y.2.2] 80)) := Turned.alloc _ _ _
  obtain ⟨v', w', r1, r2, r3, o, c, r4⟩ := (h.kept hT (fun _ _ => id)).push rowRF y rfl (rf_one y) wr.heap.size 1 (0, 0) (World.alloc_heap_new wr _) hl 75
  have hs := hb.size
  refine ⟨v', w', r1, r2.wider (fun n hn => hn.elim id (fun h => by rw [h]; simp; omega)), (hb.alloc hs _).trans (r3.below (by simp; omega) (fun n hn => hn)), o, _, c, r4⟩
theorem rowf_push_d {w0 wr : World} {v : Value} {l : Fs} (h : RowF wr (fun n => w0.heap.size ≤ n) v l) (hb : Below w0.heap.size w0 wr) (hl : l.length < 1099511627776) (y : BS × FD) (a b : ByteArray) (ha : a = txt y.1) (hbb : b = txt y.2.1) :
    ∃ v' w', (Builtin.append_ #[75, 75] 75 #[v, .slice (some ⟨wr.heap.size, 0, none⟩) 1 1]).run Tryz.prog (wr.alloc (.cells #[.string a, .string b, .int .i64 y.2.2] 80)).drew = .ok v' w' ∧ RowF w' (fun n => w0.heap.size ≤ n) v' (l ++ [y]) ∧ Below w0.heap.size w0 w' ∧ ∃ o n c, v' = .slice o n c := by
  subst ha hbb
  have hT : Turned (fun _ => False) wr (wr.alloc (.cells #[.string (txt y.1), .string (txt y.2.1), .int .i64 y.2.2] 80)).drew := (Turned.alloc _ _ _).trans (Turned.drew _ _)
  obtain ⟨v', w', r1, r2, r3, o, c, r4⟩ := (h.kept hT (fun _ _ => id)).push rowRF y rfl (rf_one y) wr.heap.size 1 (0, 0) (World.alloc_heap_new wr _) hl 75
  have hs := hb.size
  refine ⟨v', w', r1, r2.wider (fun n hn => hn.elim id (fun h => by rw [h]; simp; omega)), (below_drew (hb.alloc hs _)).trans (r3.below (by simp; omega) (fun n hn => hn)), o, _, c, r4⟩
theorem drp_take {l : Fs} {p : BS} {k : Nat} {y : BS × FD} (hy : l[k]? = some y) : drp p (l.take (k + 1)) = drp p (l.take k) ++ (if y.1 = p then [] else [y]) := by
  rw [List.take_add_one, hy]
  unfold drp
  rw [List.filter_append]
  by_cases h : y.1 = p
  · simp [h]
  · simp [h]
theorem bytesLess_lt : ∀ a b : BS, Op.bytesLess a b = decide (a < b)
  | [], [] => by simp [Op.bytesLess]
  | [], _ :: _ => by simp [Op.bytesLess]
  | _ :: _, [] => by simp [Op.bytesLess]
  | a :: r, b :: s => by
    rw [Op.bytesLess, bytesLess_lt r s, Bool.eq_iff_iff]
    simp [List.cons_lt_cons_iff]
theorem less_t {a b : ByteArray} (h : a.data.toList < b.data.toList) : Op.bytesLess a.toList b.toList = true := by rw [bytesLess_lt, Lib.toList_data, Lib.toList_data]; exact decide_eq_true h
theorem less_f {a b : ByteArray} (h : ¬ a.data.toList < b.data.toList) : Op.bytesLess a.toList b.toList = false := by rw [bytesLess_lt, Lib.toList_data, Lib.toList_data]; exact decide_eq_false h
theorem drp_len {α : Type} (p : BS) (l : List (BS × α)) : (drp p l).length ≤ l.length := List.length_filter_le _ _

set_option maxRecDepth 100000 in
set_option maxHeartbeats 4000000 in
theorem drop_nil (p : ByteArray) (w : World) : Calls Tryz.prog 68 #[.slice none 0 0, .string p] w fun e w' => e = .returned (.slice none 0 0) ∧ w = w' := by
  go_enter Tryz.func68, Tryz.ntmps68
  go_wp2
  refine wp_loop_rounds 1 ?_
  rw [rounds_succ]
  go_wp2
  go_ret
  exact ⟨rfl, rfl⟩

set_option maxRecDepth 100000 in
set_option maxHeartbeats 4000000 in
theorem drop_some (g c : Nat) (l : Fs) (p : ByteArray) (w : World) (hc : RowC w g l) (hgl : g < w.heap.size) (hln : l.length < 1073741824) : Calls Tryz.prog 68 #[.slice (some ⟨g, 0, none⟩) l.length c, .string p] w fun e w' =>
    ∃ v, e = .returned v ∧ RowF w' (fun n => w.heap.size ≤ n) v (drp p.data.toList l) ∧ Below w.heap.size w w' := by
  have HC := Lib.hid hc
  clear hc
  go_enter Tryz.func68, Tryz.ntmps68
  go_wp2
  go_loopw [6, 5] (fun i v wr => ∃ k : Nat, k ≤ l.length ∧ i = .int .i64 k ∧ Hid (RowF wr (fun n => w.heap.size ≤ n) v (drp p.data.toList (l.take k))) ∧ Below w.heap.size w wr) (fun i _ _ => l.length - (intOf i).toNat)
  case atStart => exact ⟨0, Nat.zero_le _, rfl, RowR.nil _ _ _ _ _, Below.refl _ _⟩
  case round =>
    obtain ⟨k, hk, rfl, HR, hb⟩ := hrel
    by_cases hlt : k < l.length
    · obtain ⟨⟨yp, yt, ym⟩, hy⟩ : ∃ y, l[k]? = some y := ⟨_, List.getElem?_eq_getElem hlt⟩
      obtain ⟨e0, e1, e2⟩ := (HC.out.below hb hgl) k _ hy
      obtain ⟨sp, hsp⟩ : ∃ sp : ByteArray, sp = txt yp := ⟨_, rfl⟩
      obtain ⟨st, hst⟩ : ∃ st : ByteArray, st = txt yt := ⟨_, rfl⟩
      have hspd : sp.data.toList = yp := by rw [hsp, txt_data]
      have hstd : st.data.toList = yt := by rw [hst, txt_data]
      simp only [← hsp, ← hst] at e0 e1 e2
      have hi1 : (0 : Int) ≤ (k : Int) := by omega
      have hi2 : (k : Int) < (l.length : Int) := by omega
      have hdt := drp_take (p := p.data.toList) hy
      by_cases hpe : sp = p
      · have hq : (!sp.toList == p.toList) = false := str_ne_f hpe
        rw [if_pos (show yp = p.data.toList by rw [← hspd, hpe]), List.append_nil] at hdt
        rw [← hdt] at HR
        clear hy hspd hstd hsp hst hpe hdt
        go_wp2
        go_roundw
        case rel => exact ⟨k + 1, hlt, by go_num, HR, hb⟩
        case measure => simp [intOf]; omega
      · have hq : (!sp.toList == p.toList) = true := str_ne_t hpe
        rw [if_neg (show ¬ yp = p.data.toList from fun e => hpe (by rw [← txt_toList sp, hspd, e, txt_toList]))] at hdt
        obtain ⟨v', w', hrun, hr', hb', vo, vn, vc, rfl⟩ := rowf_push HR.out hb (by have := drp_len p.data.toList (l.take k); rw [List.length_take] at this; omega) (yp, yt, ym) sp st hsp hst
        rw [← hdt] at hr'
        have HR' := Lib.hid hr'
        clear hy hspd hstd hsp hst hpe hdt hr' HR
        go_wp2_with (first
          | (at_builtin; refine wpList_append_eq rfl _ _ 75 rfl _ _ _ w' rfl rfl hrun ?_)
          | go_in)
        go_roundw
        case rel => exact ⟨k + 1, hlt, by go_num, HR', hb'⟩
        case measure => simp [intOf]; omega
    · have hkl : l.take k = l := List.take_of_length_le (by omega)
      rw [hkl] at HR
      clear hkl
      go_wp2
      go_ret
      exact ⟨_, rfl, HR.out, hb⟩

theorem drop_any (v : Value) (P : Nat → Prop) (l : Fs) (p : ByteArray) (w : World) (h : RowF w P v l) (hln : l.length < 1073741824) : Calls Tryz.prog 68 #[v, .string p] w fun e w' =>
    ∃ v', e = .returned v' ∧ RowF w' (fun n => w.heap.size ≤ n) v' (drp p.data.toList l) ∧ Below w.heap.size w w' := by
  rcases h.cells with ⟨rfl, rfl⟩ | ⟨g, c, rfl, _, hgl, hc⟩
  · refine (drop_nil p w).mono ?_
    rintro e w' ⟨rfl, rfl⟩
    exact ⟨_, rfl, RowR.nil _ _ _ _ _, Below.refl _ _⟩
  · exact drop_some g c l p w hc hgl hln

/-! ### put -/
/-- What is still to come, the new file with it if it has not been laid. -/
def PutAt (f : BS × FD) (l : Fs) (done : Bool) (k : Nat) (out : Fs) : Prop := out ++ (if done then l.drop k else ins f (l.drop k)) = ins f l
theorem PutAt.start (f : BS × FD) (l : Fs) : PutAt f l false 0 [] := rfl
theorem PutAt.len {f : BS × FD} {l : Fs} {d : Bool} {k : Nat} {out : Fs} (h : PutAt f l d k out) : out.length ≤ l.length + 1 := by
  have := congrArg List.length h
  rw [List.length_append, ins_length] at this
  omega
theorem PutAt.pass {f : BS × FD} {l : Fs} {d : Bool} {k : Nat} {out : Fs} (h : PutAt f l d k out) {y : BS × FD} (hy : l[k]? = some y) (hd : d = true ∨ ¬ f.1 < y.1) : PutAt f l d (k + 1) (out ++ [y]) := by
  have hk : k < l.length := (List.getElem?_eq_some_iff.1 hy).1
  have e : l.drop k = y :: l.drop (k + 1) := by rw [List.drop_eq_getElem_cons hk]; congr 1; exact (List.getElem?_eq_some_iff.1 hy).2
  unfold PutAt at *
  rw [e] at h
  rw [← h]
  cases d with
  | true => simp
  | false =>
    rcases hd with hd | hd
    · cases hd
    · simp [ins, hd]
theorem PutAt.lay {f : BS × FD} {l : Fs} {k : Nat} {out : Fs} (h : PutAt f l false k out) {y : BS × FD} (hy : l[k]? = some y) (hlt : f.1 < y.1) : PutAt f l true (k + 1) (out ++ [f] ++ [y]) := by
  have hk : k < l.length := (List.getElem?_eq_some_iff.1 hy).1
  have e : l.drop k = y :: l.drop (k + 1) := by rw [List.drop_eq_getElem_cons hk]; congr 1; exact (List.getElem?_eq_some_iff.1 hy).2
  unfold PutAt at *
  rw [e] at h
  rw [← h]
  simp [ins, hlt]
theorem PutAt.done {f : BS × FD} {l : Fs} {d : Bool} {k : Nat} {out : Fs} (h : PutAt f l d k out) (hk : l.length ≤ k) : if d then out = ins f l else out ++ [f] = ins f l := by
  unfold PutAt at h
  rw [List.drop_of_length_le hk] at h
  cases d <;> simpa [ins] using h

set_option maxRecDepth 100000 in
set_option maxHeartbeats 4000000 in
theorem fput_any (v : Value) (P : Nat → Prop) (l : Fs) (p t : ByteArray) (m : Int) (w : World) (h : RowF w P v l) (hln : l.length < 1073741824) : Calls Tryz.prog 67 #[v, .agg #[.string p, .string t, .int .i64 m]] w fun e w' =>
    ∃ v', e = .returned v' ∧ RowF w' (fun n => w.heap.size ≤ n) v' (put (p.data.toList, t.data.toList, m) l) ∧ Below w.heap.size w w' := by
  obtain ⟨W, hW⟩ : ∃ W, W = w.alloc (.cells #[.string p, .string t, .int .i64 m] 80) := ⟨_, rfl⟩
  have hW0 : Below w.heap.size w W := by rw [hW]; exact (Below.refl _ w).alloc (Nat.le_refl _) _
  have hx0 : W.heap[w.heap.size]? = some (.cells #[.string p, .string t, .int .i64 m] 80 (0, 0)) := by rw [hW]; exact World.alloc_heap_new w _
  have hWs : W.heap.size = w.heap.size + 1 := by rw [hW]; simp
  have hrow : RowF W P v l := h.kept (turned_below hW0) (fun _ _ => id)
  have y0 : W.cell? ⟨w.heap.size, 0, none⟩ = some (.string p) := by rw [Lib.cell_of_heap hx0]; rfl
  have HD := Lib.hid (drop_any v P l p W hrow hln)
  clear h hrow hW0
  subst hW
  go_enter Tryz.func67, Tryz.ntmps67
  go_wp2_with (go_at_call 68; refine (HD.out).mono ?_; rintro e w1 ⟨vd, rfl, hrd, hbd⟩)
  obtain ⟨ld, hld⟩ : ∃ ld, ld = drp p.data.toList l := ⟨_, rfl⟩
  have hput : put (p.data.toList, t.data.toList, m) l = ins (p.data.toList, t.data.toList, m) ld := by rw [hld]; rfl
  have HPUT := Lib.hid hput
  have hldl : ld.length < 1073741824 := by rw [hld]; exact Nat.lt_of_le_of_lt (drp_len _ _) hln
  rw [← hld] at hrd
  have hb0 : Below w.heap.size w w1 := ((Below.refl _ w).alloc (Nat.le_refl _) _).trans (hbd.mono (by simp))
  have hx1 : w1.heap[w.heap.size]? = some (.cells #[.string p, .string t, .int .i64 m] 80 (0, 0)) := (hbd.block _ (by simp)).trans hx0
  have hw1s : w.heap.size < w1.heap.size := (Array.getElem?_eq_some_iff.1 hx1).1
  -- the box and the rest's row stay, whatever is laid behind
  have HX : Hid (∀ wr, Below w1.heap.size w1 wr → wr.cell? ⟨w.heap.size, 0, none⟩ = some (.string p) ∧ wr.cell? ⟨w.heap.size, 1, none⟩ = some (.string t) ∧ wr.cell? ⟨w.heap.size, 2, none⟩ = some (.int .i64 m)) := by
    intro wr hb
    have hx := (hb.block _ hw1s).trans hx1
    exact ⟨by rw [Lib.cell_of_heap hx]; rfl, by rw [Lib.cell_of_heap hx]; rfl, by rw [Lib.cell_of_heap hx]; rfl⟩
  have hcs := hrd.cells
  clear hld hput hrd hbd hx0 hx1 y0 hWs
  rcases hcs with ⟨rfl, rfl⟩ | ⟨g, c, rfl, hg1, hgl, hc⟩
  · obtain ⟨x0, x1, x2⟩ := HX.out _ (Below.refl _ w1)
    obtain ⟨v', w2, hrun, hr', hb', vo, vn, vc, rfl⟩ := rowf_push (RowR.nil _ _ rfCells w1 (fun n => w1.heap.size ≤ n)) (Below.refl _ w1) (by simp) (p.data.toList, t.data.toList, m) p t (txt_toList p).symm (txt_toList t).symm
    have HR' := Lib.hid hr'
    clear hr' HX hw1s
    refine wp_loop_rounds 1 ?_
    rw [rounds_succ]
    go_wp2_with (first
      | (at_builtin; refine wpList_append_eq rfl _ _ 75 rfl _ _ _ w2 rfl rfl hrun ?_)
      | go_in)
    go_ret
    refine ⟨_, rfl, ?_, hb0.trans (hb'.mono hb0.size)⟩
    rw [HPUT.out]
    exact HR'.out.wider (fun n hn => Nat.le_trans hb0.size hn)
  · have HC := Lib.hid hc
    clear hc
    go_loopw [8, 6, 7] (fun i v d wr => ∃ (k : Nat) (out : Fs) (dn : Bool), k ≤ ld.length ∧ i = .int .i64 k ∧ d = .bool dn ∧ Hid (PutAt (p.data.toList, t.data.toList, m) ld dn k out) ∧ Hid (RowF wr (fun n => w1.heap.size ≤ n) v out) ∧ Below w1.heap.size w1 wr) (fun i _ _ _ => ld.length - (intOf i).toNat)
    case atStart => exact ⟨0, [], false, Nat.zero_le _, rfl, rfl, PutAt.start _ _, RowR.nil _ _ _ _ _, Below.refl _ _⟩
    case round =>
      obtain ⟨k, out, dn, hk, rfl, rfl, HP, HR, hb⟩ := hrel
      obtain ⟨x0, x1, x2⟩ := HX.out _ hb
      have hol := HP.out.len
      by_cases hlt : k < ld.length
      · obtain ⟨⟨yp, yt, ym⟩, hy⟩ : ∃ y, ld[k]? = some y := ⟨_, List.getElem?_eq_getElem hlt⟩
        obtain ⟨e0, e1, e2⟩ := (HC.out.below hb hgl) k _ hy
        obtain ⟨sp, hsp⟩ : ∃ sp : ByteArray, sp = txt yp := ⟨_, rfl⟩
        obtain ⟨st, hst⟩ : ∃ st : ByteArray, st = txt yt := ⟨_, rfl⟩
        have hspd : sp.data.toList = yp := by rw [hsp, txt_data]
        simp only [← hsp, ← hst] at e0 e1 e2
        have hi1 : (0 : Int) ≤ (k : Int) := by omega
        have hi2 : (k : Int) < (ld.length : Int) := by omega
        have x0d : wr.drew.cell? ⟨w.heap.size, 0, none⟩ = some (.string p) := x0
        have x1d : wr.drew.cell? ⟨w.heap.size, 1, none⟩ = some (.string t) := x1
        have x2d : wr.drew.cell? ⟨w.heap.size, 2, none⟩ = some (.int .i64 m) := x2
        have e0d : wr.drew.cell? ⟨g, k * 3, none⟩ = some (.string sp) := e0
        have e1d : wr.drew.cell? ⟨g, k * 3 + 1, none⟩ = some (.string st) := e1
        have e2d : wr.drew.cell? ⟨g, k * 3 + 2, none⟩ = some (.int .i64 ym) := e2
        by_cases hcase : dn = false ∧ p.data.toList < yp
        · obtain ⟨rfl, hless⟩ := hcase
          have hq := less_t (a := p) (b := sp) (by rw [hspd]; exact hless)
          obtain ⟨v2, w2, hrun, hr2, hb2, vo, vn, vc, rfl⟩ := rowf_push_d HR.out hb (by omega) (p.data.toList, t.data.toList, m) p t (txt_toList p).symm (txt_toList t).symm
          obtain ⟨v3, w3, hrun2, hr3, hb3, uo, un, uc, rfl⟩ := rowf_push hr2 hb2 (by rw [List.length_append]; simp; omega) (yp, yt, ym) sp st hsp hst
          have HP2 := Lib.hid (HP.out.lay hy hless)
          have HR3 := Lib.hid hr3
          obtain ⟨f0, f1, f2⟩ := (HC.out.below hb2 hgl) k _ hy
          simp only [← hsp, ← hst] at f0 f1 f2
          clear hr2 hr3 hy hsp hst hspd hless HP HR hol
          go_wp2
          go_region_held3 (fun w' => w'.cell? ⟨w.heap.size, 0, none⟩ = some (.string p) ∧ w'.cell? ⟨g, k * 3, none⟩ = some (.string sp)) (first | exact ⟨by assumption, by assumption⟩) (first | fail)
          go_wp2_with (first
            | (at_builtin; refine wpList_append_eq rfl _ _ 75 rfl _ _ _ w2 rfl rfl hrun ?_)
            | (at_builtin; refine wpList_append_eq rfl _ _ 75 rfl _ _ _ w3 rfl rfl hrun2 ?_)
            | go_in)
          go_roundw
          case rel => exact ⟨k + 1, _, true, hlt, by go_num, rfl, HP2, HR3, hb3⟩
          case measure => simp [intOf]; omega
        · have HP2 := Lib.hid (HP.out.pass hy (by
            cases dn with
            | true => exact .inl rfl
            | false => exact .inr (fun h => hcase ⟨rfl, h⟩)))
          cases dn with
          | true =>
            have HSP := Lib.hid hsp
            have HST := Lib.hid hst
            have hol2 : out.length < 1099511627776 := by omega
            clear hy hsp hst hspd HP hol hcase
            go_wp2
            go_quiet (fail)
            have hb4 := below_drewN hb nq
            have hR4 := RowR.kept HR.out (Turned.drewN (fun _ => False) wr nq) (fun _ _ => id)
            have f0 : (wr.drewN nq).cell? ⟨g, k * 3, none⟩ = some (.string sp) := e0
            have f1 : (wr.drewN nq).cell? ⟨g, k * 3 + 1, none⟩ = some (.string st) := e1
            have f2 : (wr.drewN nq).cell? ⟨g, k * 3 + 2, none⟩ = some (.int .i64 ym) := e2
            clear e0 e1 e2 x0 x1 x2 x0d x1d x2d e0d e1d e2d HR hb
            generalize wr.drewN nq = w4 at hb4 hR4 f0 f1 f2 ⊢
            obtain ⟨v2, w2, hrun, hr2, hb2, vo, vn, vc, rfl⟩ := rowf_push hR4 hb4 hol2 (yp, yt, ym) sp st HSP.out HST.out
            have HR2 := Lib.hid hr2
            clear hr2 hR4 HSP HST
            go_wp2_with (first
              | (at_builtin; refine wpList_append_eq rfl _ _ 75 rfl _ _ _ w2 rfl rfl hrun ?_)
              | go_in)
            go_roundw
            case rel => exact ⟨k + 1, _, true, hlt, by go_num, rfl, HP2, HR2, hb2⟩
            case measure => simp [intOf]; omega
          | false =>
            obtain ⟨v2, w2, hrun, hr2, hb2, vo, vn, vc, rfl⟩ := rowf_push_d HR.out hb (by omega) (yp, yt, ym) sp st hsp hst
            have HR2 := Lib.hid hr2
            have hq := less_f (a := p) (b := sp) (by rw [hspd]; exact fun h => hcase ⟨rfl, h⟩)
            clear hr2 hy hsp hst hspd HP HR hol hcase
            go_wp2
            go_region_held3 (fun w' => w'.cell? ⟨w.heap.size, 0, none⟩ = some (.string p) ∧ w'.cell? ⟨g, k * 3, none⟩ = some (.string sp)) (first | exact ⟨by assumption, by assumption⟩) (first | fail)
            go_wp2_with (first
              | (at_builtin; refine wpList_append_eq rfl _ _ 75 rfl _ _ _ w2 rfl rfl hrun ?_)
              | go_in)
            go_roundw
            case rel => exact ⟨k + 1, _, false, hlt, by go_num, rfl, HP2, HR2, hb2⟩
            case measure => simp [intOf]; omega
      · have hdone := HP.out.done (by omega)
        cases dn with
        | true =>
          have hE := HR.out
          rw [show out = ins (p.data.toList, t.data.toList, m) ld from hdone] at hE
          have HE := Lib.hid hE
          clear hE
          clear hdone hol HP HR
          go_wp2
          go_ret
          refine ⟨_, rfl, ?_, hb0.trans (hb.mono hb0.size)⟩
          rw [HPUT.out]
          exact HE.out.wider (fun n hn => Nat.le_trans hb0.size hn)
        | false =>
          have h1 : out ++ [(p.data.toList, t.data.toList, m)] = ins (p.data.toList, t.data.toList, m) ld := hdone
          obtain ⟨v2, w2, hrun, hr2, hb2, vo, vn, vc, rfl⟩ := rowf_push HR.out hb (by omega) (p.data.toList, t.data.toList, m) p t (txt_toList p).symm (txt_toList t).symm
          rw [h1] at hr2
          have HE := Lib.hid hr2
          clear hdone hol HP HR h1 hr2
          go_wp2_with (first
            | (at_builtin; refine wpList_append_eq rfl _ _ 75 rfl _ _ _ w2 rfl rfl hrun ?_)
            | go_in)
          go_ret
          refine ⟨_, rfl, ?_, hb0.trans (hb2.mono hb0.size)⟩
          rw [HPUT.out]
          exact HE.out.wider (fun n hn => Nat.le_trans hb0.size hn)

end Go.Proofs.YtchnbnmajagpjaaGreatDoor

namespace Go.Proofs.YtchnbnmajagpjaaGreatDoor
open Go.RowKit Go.Shelf Go.Maps

theorem find_none (v : Value) (P : Nat → Prop) (l : Fs) (p : ByteArray) (w : World) (h : RowF w P v l) (hln : l.length < 1073741824) (hl : look l p.data.toList = none) : Calls Tryz.prog 66 #[v, .string p] w fun e w' => e = .returned (.int .i64 (-1)) ∧ w = w' := by
  refine (refFind_any v P l p w h hln).mono ?_
  rintro e w' ⟨⟨i, rfl, hf⟩, rfl⟩
  rcases hf with ⟨rfl, _⟩ | ⟨k, u, _, _, hu⟩
  · exact ⟨rfl, rfl⟩
  · rw [hl] at hu; cases hu
theorem find_hit (v : Value) (P : Nat → Prop) (l : Fs) (p : ByteArray) (w : World) (h : RowF w P v l) (hln : l.length < 1073741824) {u : FD} (hl : look l p.data.toList = some u) : Calls Tryz.prog 66 #[v, .string p] w fun e w' => ∃ k : Nat, e = .returned (.int .i64 k) ∧ l[k]? = some (p.data.toList, u) ∧ w = w' := by
  refine (refFind_any v P l p w h hln).mono ?_
  rintro e w' ⟨⟨i, rfl, hf⟩, rfl⟩
  rcases hf with ⟨_, hn⟩ | ⟨k, u', rfl, hk, hu⟩
  · rw [hl] at hn; cases hn
  · rw [hl] at hu; cases hu
    exact ⟨k, rfl, hk, rfl⟩

theorem RowR.below {α : Type} {E : TypeId} {k : Nat} {enc : α → List Value} {w w' : World} {P : Nat → Prop} {v : Value} {l : List α} {B : Nat} (h : RowR E k enc w P v l) (hb : Below B w w') (hB : w.heap.size ≤ B) : RowR E k enc w' P v l :=
  by
    refine ⟨⟨h.1.1, ?_⟩, h.2⟩
    rcases h.1.2 with hn | ⟨g, cap, cur, r1, r2, r3, r4⟩
    · exact .inl hn
    · exact .inr ⟨g, cap, cur, r1, r2, (hb.block g (Nat.lt_of_lt_of_le (Array.getElem?_eq_some_iff.1 r3).1 hB)).trans r3, r4⟩

theorem after3_some {l : Fs} {p a : BS} {t : Int} {v : FD} (h : look l p = some v) : after l (3, p, a, t) = put (a, v) (drp p l) := by
  unfold after
  rw [if_neg (show ¬ (3 : Nat) = 0 by decide), if_neg (show ¬ (3 : Nat) = 1 by decide), if_neg (show ¬ (3 : Nat) = 2 by decide)]
  show (match look l p with | none => l | some v => put (a, v) (drp p l)) = _
  rw [h]

/-- How after answers. -/
def AfterP (P : Nat → Prop) (l' : Fs) (w : World) (e : Ending) (w' : World) : Prop := ∃ v', e = .returned v' ∧ RowF w' (fun n => P n ∨ w.heap.size ≤ n) v' l' ∧ Below w.heap.size w w'

set_option maxRecDepth 100000 in
set_option maxHeartbeats 800000 in
theorem after0_none (v : Value) (P : Nat → Prop) (l : Fs) (p s : ByteArray) (t : Int) (w : World) (h : RowF w P v l) (hln : l.length < 1073741824) (hl : look l p.data.toList = none) (_hs1 : s.size ≤ 1073741824)  :
    Calls Tryz.prog 44 #[v, .agg #[.int .i64 1, .string p, .string s, .int .i64 t]] w fun e w' => AfterP P (after l (0, p.data.toList, s.data.toList, t)) w e w' := by
  have hB : Below w.heap.size w (w.alloc (.cells #[.int .i64 1, .string p, .string s, .int .i64 t] 101)) := (Below.refl _ w).alloc (Nat.le_refl _) _
  have hrow := h.kept (turned_below hB) (fun _ _ => id)
  have hs : (w.alloc (.cells #[.int .i64 1, .string p, .string s, .int .i64 t] 101)).heap.size = w.heap.size + 1 := by simp
  have HF := Lib.hid (find_none v P l p _ hrow hln hl)
  have HP := Lib.hid (fput_any v P l p s t (w.alloc (.cells #[.int .i64 1, .string p, .string s, .int .i64 t] 101)) hrow hln)
  clear h hrow hl
  go_enter Tryz.func44, Tryz.ntmps44
  go_wp2_with (first
    | (go_at_call 66; refine (HF.out).mono ?_; rintro e w1 ⟨rfl, rfl⟩)
    | (go_at_call 67; refine (HP.out).mono ?_; rintro e w2 ⟨v2, rfl, hr2, hb2⟩))
  go_ret
  refine ⟨_, rfl, ?_, hB.trans (hb2.mono (by simp))⟩
  exact hr2.wider (fun n hn => .inr (by simp at hn; omega))

set_option maxRecDepth 100000 in
set_option maxHeartbeats 800000 in
theorem after0_hit (v : Value) (P : Nat → Prop) (l : Fs) (p s : ByteArray) (t : Int) (w : World) (h : RowF w P v l) (hln : l.length < 1073741824) (u : FD) (hl : look l p.data.toList = some u) (_hs1 : s.size ≤ 1073741824) (hu1 : u.1.length ≤ 1073741824) :
    Calls Tryz.prog 44 #[v, .agg #[.int .i64 1, .string p, .string s, .int .i64 t]] w fun e w' => AfterP P (after l (0, p.data.toList, s.data.toList, t)) w e w' := by
  have hB : Below w.heap.size w (w.alloc (.cells #[.int .i64 1, .string p, .string s, .int .i64 t] 101)) := (Below.refl _ w).alloc (Nat.le_refl _) _
  have hrow := h.kept (turned_below hB) (fun _ _ => id)
  have hs : (w.alloc (.cells #[.int .i64 1, .string p, .string s, .int .i64 t] 101)).heap.size = w.heap.size + 1 := by simp
  have HF := Lib.hid (find_hit v P l p _ hrow hln hl)
  have hcells := hrow.cells
  obtain ⟨ut, um⟩ := u
  obtain ⟨st, hst⟩ : ∃ st : ByteArray, st = txt ut := ⟨_, rfl⟩
  have hstd : st.data.toList = ut := by rw [hst, txt_data]
  have hsts : st.size ≤ 1073741824 := by rw [← size_list, hstd]; exact hu1
  rcases hcells with ⟨hl0, _⟩ | ⟨g, c, hv, hPg, hgl, hc⟩
  · rw [hl0] at hl; cases hl
  subst hv
  have HC : Hid (∀ wq, Below (w.alloc (.cells #[.int .i64 1, .string p, .string s, .int .i64 t] 101)).heap.size (w.alloc (.cells #[.int .i64 1, .string p, .string s, .int .i64 t] 101)) wq → ∀ k : Nat, l[k]? = some (p.data.toList, ut, um) → wq.cell? ⟨g, k * 3 + 1, none⟩ = some (.string st) ∧ wq.cell? ⟨g, k * 3 + 2, none⟩ = some (.int .i64 um)) := by
    intro wq hb k hk
    obtain ⟨_, h1, h2⟩ := (hc.below hb hgl) k _ hk
    exact ⟨by rw [hst]; exact h1, h2⟩
  clear hst
  have HP := Lib.hid (fput_any (.slice (some ⟨g, 0, none⟩) l.length c) P l p s t (w.alloc (.cells #[.int .i64 1, .string p, .string s, .int .i64 t] 101)) hrow hln)
  clear h hrow hl hstd hc
  go_enter Tryz.func44, Tryz.ntmps44
  go_wp2_with (first
    | (go_at_call 66; refine (HF.out).mono ?_; rintro e w1 ⟨k, rfl, hk, rfl⟩; have e1 := (HC.out _ (Below.refl _ _) k hk).1; have hkl := (List.getElem?_eq_some_iff.1 hk).1; have hi0 : ¬ ((k : Int) < 0) := (by omega); have hi1 : (0 : Int) ≤ (k : Int) := (by omega); have hi2 : (k : Int) < (l.length : Int) := (by omega); clear hk)
    | (go_at_call 67; refine (HP.out).mono ?_; rintro e w2 ⟨v2, rfl, hr2, hb2⟩))
  go_ret
  refine ⟨_, rfl, ?_, hB.trans (hb2.mono (by simp))⟩
  exact hr2.wider (fun n hn => .inr (by simp at hn; omega))

set_option maxRecDepth 100000 in
set_option maxHeartbeats 800000 in
theorem after1_none (v : Value) (P : Nat → Prop) (l : Fs) (p s : ByteArray) (t : Int) (w : World) (h : RowF w P v l) (hln : l.length < 1073741824) (hl : look l p.data.toList = none) (hs1 : s.size ≤ 1073741824)  :
    Calls Tryz.prog 44 #[v, .agg #[.int .i64 2, .string p, .string s, .int .i64 t]] w fun e w' => AfterP P (after l (1, p.data.toList, s.data.toList, t)) w e w' := by
  have hB : Below w.heap.size w (w.alloc (.cells #[.int .i64 2, .string p, .string s, .int .i64 t] 101)) := (Below.refl _ w).alloc (Nat.le_refl _) _
  have hrow := h.kept (turned_below hB) (fun _ _ => id)
  have hs : (w.alloc (.cells #[.int .i64 2, .string p, .string s, .int .i64 t] 101)).heap.size = w.heap.size + 1 := by simp
  have HF := Lib.hid (find_none v P l p _ hrow hln hl)
  have HP : Hid (∀ tx : ByteArray, tx.data.toList = s.data.toList → Calls Tryz.prog 67 #[v, .agg #[.string p, .string tx, .int .i64 t]] (w.alloc (.cells #[.int .i64 2, .string p, .string s, .int .i64 t] 101)) fun e w' => ∃ v', e = .returned v' ∧ RowF w' (fun n => (w.alloc (.cells #[.int .i64 2, .string p, .string s, .int .i64 t] 101)).heap.size ≤ n) v' (put (p.data.toList, s.data.toList, t) l) ∧ Below (w.alloc (.cells #[.int .i64 2, .string p, .string s, .int .i64 t] 101)).heap.size (w.alloc (.cells #[.int .i64 2, .string p, .string s, .int .i64 t] 101)) w') := by
    intro tx htx
    have := fput_any v P l p tx t (w.alloc (.cells #[.int .i64 2, .string p, .string s, .int .i64 t] 101)) hrow hln
    rwa [htx] at this
  have htx : s.data.toList = textOf l p.data.toList ++ s.data.toList := by
    unfold textOf
    rw [hl]
    rfl
  have HTX := Lib.hid htx
  have hbig : ¬ 9223372036854775807 < ((0 : Nat) : Int) + (s.size : Int) := by omega
  have hbig2 : ¬ 9223372036854775807 < 0 + s.size := by omega
  clear htx
  clear h hrow hl
  go_enter Tryz.func44, Tryz.ntmps44
  go_wp2_with (first
    | (go_at_call 66; refine (HF.out).mono ?_; rintro e w1 ⟨rfl, rfl⟩)
    | (go_at_call 67; refine (HP.out _ (by simp [ByteArray.data_append])).mono ?_; rintro e w2 ⟨v2, rfl, hr2, hb2⟩))
  go_ret
  refine ⟨_, rfl, ?_, hB.trans (hb2.mono (by simp))⟩
  rw [after1, ← HTX.out]
  exact hr2.wider (fun n hn => .inr (by simp at hn; omega))

set_option maxRecDepth 100000 in
set_option maxHeartbeats 800000 in
theorem after1_hit (v : Value) (P : Nat → Prop) (l : Fs) (p s : ByteArray) (t : Int) (w : World) (h : RowF w P v l) (hln : l.length < 1073741824) (u : FD) (hl : look l p.data.toList = some u) (hs1 : s.size ≤ 1073741824) (hu1 : u.1.length ≤ 1073741824) :
    Calls Tryz.prog 44 #[v, .agg #[.int .i64 2, .string p, .string s, .int .i64 t]] w fun e w' => AfterP P (after l (1, p.data.toList, s.data.toList, t)) w e w' := by
  have hB : Below w.heap.size w (w.alloc (.cells #[.int .i64 2, .string p, .string s, .int .i64 t] 101)) := (Below.refl _ w).alloc (Nat.le_refl _) _
  have hrow := h.kept (turned_below hB) (fun _ _ => id)
  have hs : (w.alloc (.cells #[.int .i64 2, .string p, .string s, .int .i64 t] 101)).heap.size = w.heap.size + 1 := by simp
  have HF := Lib.hid (find_hit v P l p _ hrow hln hl)
  have hcells := hrow.cells
  obtain ⟨ut, um⟩ := u
  obtain ⟨st, hst⟩ : ∃ st : ByteArray, st = txt ut := ⟨_, rfl⟩
  have hstd : st.data.toList = ut := by rw [hst, txt_data]
  have hsts : st.size ≤ 1073741824 := by rw [← size_list, hstd]; exact hu1
  rcases hcells with ⟨hl0, _⟩ | ⟨g, c, hv, hPg, hgl, hc⟩
  · rw [hl0] at hl; cases hl
  subst hv
  have HC : Hid (∀ wq, Below (w.alloc (.cells #[.int .i64 2, .string p, .string s, .int .i64 t] 101)).heap.size (w.alloc (.cells #[.int .i64 2, .string p, .string s, .int .i64 t] 101)) wq → ∀ k : Nat, l[k]? = some (p.data.toList, ut, um) → wq.cell? ⟨g, k * 3 + 1, none⟩ = some (.string st) ∧ wq.cell? ⟨g, k * 3 + 2, none⟩ = some (.int .i64 um)) := by
    intro wq hb k hk
    obtain ⟨_, h1, h2⟩ := (hc.below hb hgl) k _ hk
    exact ⟨by rw [hst]; exact h1, h2⟩
  clear hst
  have HP : Hid (∀ tx : ByteArray, tx.data.toList = st.data.toList ++ s.data.toList → Calls Tryz.prog 67 #[(.slice (some ⟨g, 0, none⟩) l.length c), .agg #[.string p, .string tx, .int .i64 t]] (w.alloc (.cells #[.int .i64 2, .string p, .string s, .int .i64 t] 101)) fun e w' => ∃ v', e = .returned v' ∧ RowF w' (fun n => (w.alloc (.cells #[.int .i64 2, .string p, .string s, .int .i64 t] 101)).heap.size ≤ n) v' (put (p.data.toList, st.data.toList ++ s.data.toList, t) l) ∧ Below (w.alloc (.cells #[.int .i64 2, .string p, .string s, .int .i64 t] 101)).heap.size (w.alloc (.cells #[.int .i64 2, .string p, .string s, .int .i64 t] 101)) w') := by
    intro tx htx
    have := fput_any (.slice (some ⟨g, 0, none⟩) l.length c) P l p tx t (w.alloc (.cells #[.int .i64 2, .string p, .string s, .int .i64 t] 101)) hrow hln
    rwa [htx] at this
  have htx : st.data.toList ++ s.data.toList = textOf l p.data.toList ++ s.data.toList := by
    unfold textOf
    rw [hl]
    show _ = ut ++ _
    rw [hstd]
  have HTX := Lib.hid htx
  have hbig : ¬ 9223372036854775807 < (st.size : Int) + (s.size : Int) := by omega
  have hbig2 : ¬ 9223372036854775807 < st.size + s.size := by omega
  clear htx
  clear h hrow hl hstd hc
  go_enter Tryz.func44, Tryz.ntmps44
  go_wp2_with (first
    | (go_at_call 66; refine (HF.out).mono ?_; rintro e w1 ⟨k, rfl, hk, rfl⟩; have e1 := (HC.out _ (Below.refl _ _) k hk).1; have hkl := (List.getElem?_eq_some_iff.1 hk).1; have hi0 : ¬ ((k : Int) < 0) := (by omega); have hi1 : (0 : Int) ≤ (k : Int) := (by omega); have hi2 : (k : Int) < (l.length : Int) := (by omega); clear hk)
    | (go_at_call 67; refine (HP.out _ (by rw [ByteArray.data_append, Array.toList_append])).mono ?_; rintro e w2 ⟨v2, rfl, hr2, hb2⟩))
  go_ret
  refine ⟨_, rfl, ?_, hB.trans (hb2.mono (by simp))⟩
  rw [after1, ← HTX.out]
  exact hr2.wider (fun n hn => .inr (by simp at hn; omega))

set_option maxRecDepth 100000 in
set_option maxHeartbeats 800000 in
theorem after2_none (v : Value) (P : Nat → Prop) (l : Fs) (p s : ByteArray) (t : Int) (w : World) (h : RowF w P v l) (hln : l.length < 1073741824) (hl : look l p.data.toList = none) (_hs1 : s.size ≤ 1073741824)  :
    Calls Tryz.prog 44 #[v, .agg #[.int .i64 3, .string p, .string s, .int .i64 t]] w fun e w' => AfterP P (after l (2, p.data.toList, s.data.toList, t)) w e w' := by
  have hB : Below w.heap.size w (w.alloc (.cells #[.int .i64 3, .string p, .string s, .int .i64 t] 101)) := (Below.refl _ w).alloc (Nat.le_refl _) _
  have hrow := h.kept (turned_below hB) (fun _ _ => id)
  have hs : (w.alloc (.cells #[.int .i64 3, .string p, .string s, .int .i64 t] 101)).heap.size = w.heap.size + 1 := by simp
  have HF := Lib.hid (find_none v P l p _ hrow hln hl)
  have HP := Lib.hid (drop_any v P l p (w.alloc (.cells #[.int .i64 3, .string p, .string s, .int .i64 t] 101)) hrow hln)
  clear h hrow hl
  go_enter Tryz.func44, Tryz.ntmps44
  go_wp2_with (first
    | (go_at_call 66; refine (HF.out).mono ?_; rintro e w1 ⟨rfl, rfl⟩)
    | (go_at_call 68; refine (HP.out).mono ?_; rintro e w2 ⟨v2, rfl, hr2, hb2⟩))
  go_ret
  exact ⟨_, rfl, hr2.wider (fun n hn => .inr (by simp at hn; omega)), hB.trans (hb2.mono (by simp))⟩

set_option maxRecDepth 100000 in
set_option maxHeartbeats 800000 in
theorem after2_hit (v : Value) (P : Nat → Prop) (l : Fs) (p s : ByteArray) (t : Int) (w : World) (h : RowF w P v l) (hln : l.length < 1073741824) (u : FD) (hl : look l p.data.toList = some u) (_hs1 : s.size ≤ 1073741824) (hu1 : u.1.length ≤ 1073741824) :
    Calls Tryz.prog 44 #[v, .agg #[.int .i64 3, .string p, .string s, .int .i64 t]] w fun e w' => AfterP P (after l (2, p.data.toList, s.data.toList, t)) w e w' := by
  have hB : Below w.heap.size w (w.alloc (.cells #[.int .i64 3, .string p, .string s, .int .i64 t] 101)) := (Below.refl _ w).alloc (Nat.le_refl _) _
  have hrow := h.kept (turned_below hB) (fun _ _ => id)
  have hs : (w.alloc (.cells #[.int .i64 3, .string p, .string s, .int .i64 t] 101)).heap.size = w.heap.size + 1 := by simp
  have HF := Lib.hid (find_hit v P l p _ hrow hln hl)
  have hcells := hrow.cells
  obtain ⟨ut, um⟩ := u
  obtain ⟨st, hst⟩ : ∃ st : ByteArray, st = txt ut := ⟨_, rfl⟩
  have hstd : st.data.toList = ut := by rw [hst, txt_data]
  have hsts : st.size ≤ 1073741824 := by rw [← size_list, hstd]; exact hu1
  rcases hcells with ⟨hl0, _⟩ | ⟨g, c, hv, hPg, hgl, hc⟩
  · rw [hl0] at hl; cases hl
  subst hv
  have HC : Hid (∀ wq, Below (w.alloc (.cells #[.int .i64 3, .string p, .string s, .int .i64 t] 101)).heap.size (w.alloc (.cells #[.int .i64 3, .string p, .string s, .int .i64 t] 101)) wq → ∀ k : Nat, l[k]? = some (p.data.toList, ut, um) → wq.cell? ⟨g, k * 3 + 1, none⟩ = some (.string st) ∧ wq.cell? ⟨g, k * 3 + 2, none⟩ = some (.int .i64 um)) := by
    intro wq hb k hk
    obtain ⟨_, h1, h2⟩ := (hc.below hb hgl) k _ hk
    exact ⟨by rw [hst]; exact h1, h2⟩
  clear hst
  have HP := Lib.hid (drop_any (.slice (some ⟨g, 0, none⟩) l.length c) P l p (w.alloc (.cells #[.int .i64 3, .string p, .string s, .int .i64 t] 101)) hrow hln)
  clear h hrow hl hstd hc
  go_enter Tryz.func44, Tryz.ntmps44
  go_wp2_with (first
    | (go_at_call 66; refine (HF.out).mono ?_; rintro e w1 ⟨k, rfl, hk, rfl⟩; have e1 := (HC.out _ (Below.refl _ _) k hk).1; have hkl := (List.getElem?_eq_some_iff.1 hk).1; have hi0 : ¬ ((k : Int) < 0) := (by omega); have hi1 : (0 : Int) ≤ (k : Int) := (by omega); have hi2 : (k : Int) < (l.length : Int) := (by omega); clear hk)
    | (go_at_call 68; refine (HP.out).mono ?_; rintro e w2 ⟨v2, rfl, hr2, hb2⟩))
  go_ret
  exact ⟨_, rfl, hr2.wider (fun n hn => .inr (by simp at hn; omega)), hB.trans (hb2.mono (by simp))⟩

set_option maxRecDepth 100000 in
set_option maxHeartbeats 800000 in
theorem after3_none (v : Value) (P : Nat → Prop) (l : Fs) (p s : ByteArray) (t : Int) (w : World) (h : RowF w P v l) (hln : l.length < 1073741824) (hl : look l p.data.toList = none) (_hs1 : s.size ≤ 1073741824)  :
    Calls Tryz.prog 44 #[v, .agg #[.int .i64 4, .string p, .string s, .int .i64 t]] w fun e w' => AfterP P (after l (3, p.data.toList, s.data.toList, t)) w e w' := by
  have hB : Below w.heap.size w (w.alloc (.cells #[.int .i64 4, .string p, .string s, .int .i64 t] 101)) := (Below.refl _ w).alloc (Nat.le_refl _) _
  have hrow := h.kept (turned_below hB) (fun _ _ => id)
  have hs : (w.alloc (.cells #[.int .i64 4, .string p, .string s, .int .i64 t] 101)).heap.size = w.heap.size + 1 := by simp
  have HF := Lib.hid (find_none v P l p _ hrow hln hl)
  have ha : after l (3, p.data.toList, s.data.toList, t) = l := by
    unfold after
    simp only [Ch.kind, Ch.path, hl]
    rfl
  rw [ha]
  have HR := Lib.hid hrow
  clear h hrow hl ha
  go_enter Tryz.func44, Tryz.ntmps44
  go_wp2_with (go_at_call 66; refine (HF.out).mono ?_; rintro e w1 ⟨rfl, rfl⟩)
  go_ret
  exact ⟨_, rfl, HR.out.wider (fun n hn => .inl hn), hB⟩

end Go.Proofs.YtchnbnmajagpjaaGreatDoor

namespace Go.Proofs.YtchnbnmajagpjaaGreatDoor
open Go.RowKit Go.Shelf Go.Maps

set_option maxRecDepth 100000 in
set_option maxHeartbeats 800000 in
theorem after3_hit (v : Value) (P : Nat → Prop) (l : Fs) (p s : ByteArray) (t : Int) (w : World) (h : RowF w P v l) (hln : l.length < 1073741824) (u : FD) (hl : look l p.data.toList = some u) (_hs1 : s.size ≤ 1073741824) (hu1 : u.1.length ≤ 1073741824) :
    Calls Tryz.prog 44 #[v, .agg #[.int .i64 4, .string p, .string s, .int .i64 t]] w fun e w' => AfterP P (after l (3, p.data.toList, s.data.toList, t)) w e w' := by
  have hB : Below w.heap.size w (w.alloc (.cells #[.int .i64 4, .string p, .string s, .int .i64 t] 101)) := (Below.refl _ w).alloc (Nat.le_refl _) _
  have hrow := h.kept (turned_below hB) (fun _ _ => id)
  have hs : (w.alloc (.cells #[.int .i64 4, .string p, .string s, .int .i64 t] 101)).heap.size = w.heap.size + 1 := by simp
  have HF := Lib.hid (find_hit v P l p _ hrow hln hl)
  have hcells := hrow.cells
  obtain ⟨ut, um⟩ := u
  obtain ⟨st, hst⟩ : ∃ st : ByteArray, st = txt ut := ⟨_, rfl⟩
  have hstd : st.data.toList = ut := by rw [hst, txt_data]
  have hsts : st.size ≤ 1073741824 := by rw [← size_list, hstd]; exact hu1
  rcases hcells with ⟨hl0, _⟩ | ⟨g, c, hv, hPg, hgl, hc⟩
  · rw [hl0] at hl; cases hl
  subst hv
  have HC : Hid (∀ wq, Below (w.alloc (.cells #[.int .i64 4, .string p, .string s, .int .i64 t] 101)).heap.size (w.alloc (.cells #[.int .i64 4, .string p, .string s, .int .i64 t] 101)) wq → ∀ k : Nat, l[k]? = some (p.data.toList, ut, um) → wq.cell? ⟨g, k * 3 + 1, none⟩ = some (.string st) ∧ wq.cell? ⟨g, k * 3 + 2, none⟩ = some (.int .i64 um)) := by
    intro wq hb k hk
    obtain ⟨_, h1, h2⟩ := (hc.below hb hgl) k _ hk
    exact ⟨by rw [hst]; exact h1, h2⟩
  clear hst
  have ha : after l (3, p.data.toList, s.data.toList, t) = put (s.data.toList, st.data.toList, um) (drp p.data.toList l) := by rw [after3_some hl, hstd]
  rw [ha]
  have HD : Hid (∀ wq, Below (w.alloc (.cells #[.int .i64 4, .string p, .string s, .int .i64 t] 101)).heap.size (w.alloc (.cells #[.int .i64 4, .string p, .string s, .int .i64 t] 101)) wq → Calls Tryz.prog 68 #[.slice (some ⟨g, 0, none⟩) l.length c, .string p] wq fun e w' => ∃ o n cc, e = .returned (.slice o n cc) ∧ Below (w.alloc (.cells #[.int .i64 4, .string p, .string s, .int .i64 t] 101)).heap.size (w.alloc (.cells #[.int .i64 4, .string p, .string s, .int .i64 t] 101)) w' ∧ RowF w' (fun n => w.heap.size ≤ n) (.slice o n cc) (drp p.data.toList l)) := by
    intro wq hb
    refine (drop_any _ P l p wq (hrow.below hb (Nat.le_refl _)) hln).mono ?_
    rintro e w' ⟨v', rfl, hr, hb'⟩
    have hq := hb.size
    obtain ⟨o, cc, rfl, _⟩ := hr.shape (fun _ => rfl)
    exact ⟨o, _, cc, rfl, hb.trans (hb'.mono hq), hr.wider (fun n hn => by simp at hq; omega)⟩
  have HP : Hid (∀ wq vq, Below (w.alloc (.cells #[.int .i64 4, .string p, .string s, .int .i64 t] 101)).heap.size (w.alloc (.cells #[.int .i64 4, .string p, .string s, .int .i64 t] 101)) wq → RowF wq (fun n => w.heap.size ≤ n) vq (drp p.data.toList l) → Calls Tryz.prog 67 #[vq, .agg #[.string s, .string st, .int .i64 um]] wq fun e w' => ∃ o n cc, e = .returned (.slice o n cc) ∧ Below (w.alloc (.cells #[.int .i64 4, .string p, .string s, .int .i64 t] 101)).heap.size (w.alloc (.cells #[.int .i64 4, .string p, .string s, .int .i64 t] 101)) w' ∧ RowF w' (fun n => w.heap.size ≤ n) (.slice o n cc) (put (s.data.toList, st.data.toList, um) (drp p.data.toList l))) := by
    intro wq vq hb hr0
    refine (fput_any vq _ (drp p.data.toList l) s st um wq hr0 (Nat.lt_of_le_of_lt (drp_len _ _) hln)).mono ?_
    rintro e w' ⟨v', rfl, hr, hb'⟩
    have hq := hb.size
    obtain ⟨o, cc, rfl, _⟩ := hr.shape (fun _ => rfl)
    exact ⟨o, _, cc, rfl, hb.trans (hb'.mono hq), hr.wider (fun n hn => by simp at hq; omega)⟩
  obtain ⟨W, hW⟩ : ∃ W, W = (w.alloc (.cells #[.int .i64 4, .string p, .string s, .int .i64 t] 101)) := ⟨_, rfl⟩
  have hx0 : W.heap[w.heap.size]? = some (.cells #[.int .i64 4, .string p, .string s, .int .i64 t] 101 (0, 0)) := by rw [hW]; exact World.alloc_heap_new w _
  have hwl : w.heap.size < W.heap.size := (Array.getElem?_eq_some_iff.1 hx0).1
  have HX : Hid (∀ wq, Below W.heap.size W wq → wq.cell? ⟨w.heap.size, 1, none⟩ = some (.string p) ∧ wq.cell? ⟨w.heap.size, 2, none⟩ = some (.string s)) := by
    intro wq hb
    have hx := (hb.block _ hwl).trans hx0
    exact ⟨by rw [Lib.cell_of_heap hx]; rfl, by rw [Lib.cell_of_heap hx]; rfl⟩
  have HW := Lib.hid hW
  rw [← hW] at HC HD HP HF
  have mixed := lays169.mixed
  clear h hrow hl hstd hc ha hx0 hwl
  have HL : Hid (∀ k : Nat, l[k]? = some (p.data.toList, ut, um) → ∀ wq, Below W.heap.size W wq → wq.cell? ⟨w.heap.size, 1, none⟩ = some (.string p) ∧ wq.cell? ⟨w.heap.size, 2, none⟩ = some (.string s) ∧ wq.cell? ⟨g, k * 3 + 1, none⟩ = some (.string st) ∧ wq.cell? ⟨g, k * 3 + 2, none⟩ = some (.int .i64 um)) :=
    fun k hk wq hb => ⟨(HX.out wq hb).1, (HX.out wq hb).2, (HC.out wq hb k hk).1, (HC.out wq hb k hk).2⟩
  subst hW
  go_enter Tryz.func44, Tryz.ntmps44
  go_wp2_with (go_at_call 66; refine (HF.out).mono ?_; rintro e w1 ⟨k, rfl, hk, rfl⟩; have HLk := Lib.hid (HL.out k hk); have e1 := (HC.out _ (Below.refl _ _) k hk).1; have hkl := (List.getElem?_eq_some_iff.1 hk).1; have hi0 : ¬ ((k : Int) < 0) := (by omega); have hi1 : (0 : Int) ≤ (k : Int) := (by omega); have hi2 : (k : Int) < (l.length : Int) := (by omega); have hbd := below_drew (Below.refl (w.alloc (.cells #[.int .i64 4, .string p, .string s, .int .i64 t] 101)).heap.size (w.alloc (.cells #[.int .i64 4, .string p, .string s, .int .i64 t] 101))); have hq4 := HLk.out _ hbd; clear hk)
  have hfin : w.heap.size ≤ (w.alloc (.cells #[.int .i64 4, .string p, .string s, .int .i64 t] 101)).heap.size := by simp
  clear hs HX HL HC HF e1
  generalize (w.alloc (.cells #[.int .i64 4, .string p, .string s, .int .i64 t] 101)) = W at *
  go_region_held3 (fun w' => w'.cell? ⟨w.heap.size, 1, none⟩ = some (.string p) ∧ w'.cell? ⟨w.heap.size, 2, none⟩ = some (.string s) ∧ w'.cell? ⟨g, k * 3 + 1, none⟩ = some (.string st) ∧ w'.cell? ⟨g, k * 3 + 2, none⟩ = some (.int .i64 um))
    (first | exact HLk.out _ hbd | exact HLk.out _ hb5 | exact HLk.out _ hb6 | exact HLk.out _ (by assumption))
    (first
      | (go_at_call 68; refine (HD.out _ hbd).mono ?_; rintro r w5 ⟨o5, n5, c5, rfl, hb5, hr5⟩)
      | (go_at_call 67; refine (HP.out _ _ hb5 hr5).mono ?_; rintro r w6 ⟨o6, n6, c6, rfl, hb6, hr6⟩))
  have HR6 := Lib.hid hr6
  clear hr6 hr5
  go_wp2
  go_ret
  exact ⟨_, rfl, HR6.out.wider (fun n hn => .inr hn), hB.trans (hb6.mono hfin)⟩

/-- A change as the document keeps it. -/
def rcCells (c : Ch) : List Value := [.int .i64 ((c.kind + 1 : Nat) : Int), .string (txt c.path), .string (txt c.arg), .int .i64 (if c.kind ≤ 1 then c.time else 0)]
theorem after_any (v : Value) (P : Nat → Prop) (l : Fs) (c : Ch) (w : World) (h : RowF w P v l) (hln : l.length < 1073741824) (hk : c.kind ≤ 3) (ha : c.arg.length ≤ 1073741824) (hT : ∀ y ∈ l, y.2.1.length ≤ 1073741824) :
    Calls Tryz.prog 44 #[v, .agg (rcCells c).toArray] w fun e w' => AfterP P (after l c) w e w' := by
  obtain ⟨k, p, a, t⟩ := c
  have hk' : k ≤ 3 := hk
  have ha' : (txt a).size ≤ 1073741824 := by rw [txt_size]; exact ha
  rcases (show k = 0 ∨ k = 1 ∨ k = 2 ∨ k = 3 by omega) with rfl | rfl | rfl | rfl <;> cases hl : look l p with
  | none =>
    first
      | (have := after0_none v P l (txt p) (txt a) t w h hln (by rw [txt_data]; exact hl) ha'; rw [txt_data, txt_data] at this; exact this)
      | (have := after1_none v P l (txt p) (txt a) t w h hln (by rw [txt_data]; exact hl) ha'; rw [txt_data, txt_data] at this; exact this)
      | (have := after2_none v P l (txt p) (txt a) 0 w h hln (by rw [txt_data]; exact hl) ha'; rw [txt_data, txt_data] at this; exact this)
      | (have := after3_none v P l (txt p) (txt a) 0 w h hln (by rw [txt_data]; exact hl) ha'; rw [txt_data, txt_data] at this; exact this)
  | some u =>
    have hu := hT _ (look_mem hl)
    first
      | (have := after0_hit v P l (txt p) (txt a) t w h hln u (by rw [txt_data]; exact hl) ha' hu; rw [txt_data, txt_data] at this; exact this)
      | (have := after1_hit v P l (txt p) (txt a) t w h hln u (by rw [txt_data]; exact hl) ha' hu; rw [txt_data, txt_data] at this; exact this)
      | (have := after2_hit v P l (txt p) (txt a) 0 w h hln u (by rw [txt_data]; exact hl) ha' hu; rw [txt_data, txt_data] at this; exact this)
      | (have := after3_hit v P l (txt p) (txt a) 0 w h hln u (by rw [txt_data]; exact hl) ha' hu; rw [txt_data, txt_data] at this; exact this)

end Go.Proofs.YtchnbnmajagpjaaGreatDoor
