/-
  The document's own rows of files: way, Find, used, blocked, drop: for any row.
-/
import Derived.Test.YtginlknlkbhgaaaFCrash2
import Derived.Test.YtginlknlkbhgaaaFRefPath
namespace Go.Proofs.Ytginlknlkbhgaaa
open Go.RowKit Go.Shelf Go.Maps

theorem rowRF : RowT 76 81 3 :=
  rowT_of (.agg #[.string ⟨#[]⟩, .string ⟨#[]⟩, .int .i64 0]) 40 Try.underlying76 (by kernel_rfl) (by decide) rfl (by decide)
def rfCells (y : BS × FD) : List Value := [.string (txt y.1), .string (txt y.2.1), .int .i64 y.2.2]
abbrev RowF (w : World) (P : Nat → Prop) (v : Value) (l : Fs) : Prop := RowR 81 3 rfCells w P v l
theorem rf_one (y : BS × FD) : ∀ u ∈ rfCells y, u.oneCell' = true := by simp [rfCells, Value.oneCell']
/-- The row's cells. -/
def RowC (w : World) (g : Nat) (l : Fs) : Prop := ∀ i y, l[i]? = some y → w.cell? ⟨g, i * 3, none⟩ = some (.string (txt y.1)) ∧ w.cell? ⟨g, i * 3 + 1, none⟩ = some (.string (txt y.2.1)) ∧ w.cell? ⟨g, i * 3 + 2, none⟩ = some (.int .i64 y.2.2)
theorem RowR.cells {w : World} {P : Nat → Prop} {v : Value} {l : Fs} (h : RowF w P v l) : (l = [] ∧ v = .slice none 0 0) ∨ ∃ g c, v = .slice (some ⟨g, 0, none⟩) l.length c ∧ P g ∧ g < w.heap.size ∧ RowC w g l := by
  rcases h.1.2 with ⟨rfl, h0⟩ | ⟨g, cap, cur, rfl, _, hgg, _⟩
  · exact .inl ⟨List.eq_nil_of_length_eq_zero h0, rfl⟩
  · right
    refine ⟨g, cap, rfl, h.2 g (by simp [Value.ownBlock]), (Array.getElem?_eq_some_iff.1 hgg).1, fun i y hy => ?_⟩
    obtain ⟨o, c, hv, _, _, _, hcs⟩ := h.shape (fun _ => rfl)
    obtain ⟨g', hg', hc⟩ := hcs i y hy
    cases hv
    cases hg'
    exact ⟨hc 0 (by omega), hc 1 (by omega), hc 2 (by omega)⟩
theorem RowC.below {w w' : World} {g B : Nat} {l : Fs} (h : RowC w g l) (hb : Below B w w') (hg : g < B) : RowC w' g l := fun i y hy => by
  obtain ⟨h1, h2, h3⟩ := h i y hy
  exact ⟨(hb.cell (p := ⟨g, i * 3, none⟩) hg).trans h1, (hb.cell (p := ⟨g, i * 3 + 1, none⟩) hg).trans h2, (hb.cell (p := ⟨g, i * 3 + 2, none⟩) hg).trans h3⟩
theorem RowC.kept {w w' : World} {g : Nat} {l : Fs} (h : RowC w g l) (hk : w'.heap[g]? = w.heap[g]?) : RowC w' g l := fun i y hy => by
  obtain ⟨h1, h2, h3⟩ := h i y hy
  unfold World.cell? at h1 h2 h3 ⊢
  rw [hk]
  exact ⟨h1, h2, h3⟩

/-! ### way -/
theorem way_no1 {a b : ByteArray} (h : ¬ a.size < b.size) : way a.data.toList b.data.toList = false := by
  unfold way
  rw [Bool.eq_false_iff]
  intro h'
  have := (List.isPrefixOf_iff_prefix.1 h').length_le
  rw [List.length_append, size_list, size_list] at this
  have e : ([47] : BS).length = 1 := rfl
  omega
theorem way_no2 {a b : ByteArray} (h : b.extract 0 a.size ≠ a) : way a.data.toList b.data.toList = false := by
  rw [way_cut]
  cases hp : preB a b with
  | false => rfl
  | true => exact absurd (pre_take hp).2.1 h
theorem way_yes {a b : ByteArray} (h1 : a.size < b.size) (h2 : b.extract 0 a.size = a) : way a.data.toList b.data.toList = decide (b[a.size].toNat = 47) := by
  have hp : preB a b = true := by
    unfold preB
    rw [List.isPrefixOf_iff_prefix, ← h2, extract_txt, txt_data, List.drop_zero, Nat.sub_zero]
    exact List.take_prefix _ _
  have hc : cutT b a = b.extract a.size b.size := by unfold cutT; rw [hp]; rfl
  have hd : (b.extract a.size b.size).data.toList = b[a.size] :: (b.data.toList.drop (a.size + 1)) := by
    have hl : a.size < b.data.toList.length := by rw [size_list]; exact h1
    rw [extract_txt, txt_data, List.take_of_length_le (by rw [List.length_drop, size_list]; exact Nat.le_refl _), List.drop_eq_getElem_cons hl, Array.getElem_toList]; rfl
  rw [way_cut, hp, Bool.true_and, hc]
  unfold preB
  rw [hd, Bool.eq_iff_iff, List.isPrefixOf_iff_prefix]
  show [47] <+: _ ↔ _
  rw [List.cons_prefix_cons, decide_eq_true_eq]
  constructor
  · rintro ⟨h, _⟩; rw [← h]; rfl
  · intro h; exact ⟨(UInt8.toNat_inj.1 (by rw [h]; rfl)).symm, List.nil_prefix⟩

set_option maxRecDepth 100000 in
set_option maxHeartbeats 1000000 in
theorem refWay_any (a b : ByteArray) (_ha : a.size ≤ maxLen) (w : World) : Calls Try.prog 72 #[.string a, .string b] w fun e w' => e = .returned (.bool (wayB a b)) ∧ w = w' := by
  unfold wayB
  by_cases h1 : a.size < b.size
  · have i1 : (a.size : Int) < (b.size : Int) := by omega
    have i2 : ¬ ((b.size : Int) < (a.size : Int)) := by omega
    by_cases h2 : b.extract 0 a.size = a
    · rw [way_yes h1 h2]
      have e2 : ((b.extract 0 a.size).toList == a.toList) = true := by rw [str_eq]; simp [h2]
      have hb := nat_beq b[a.size].toNat 47
      clear h2
      go_enter Try.func72, Try.ntmps72
      go_wp2
      go_ret
      exact ⟨ret_bool (by first | exact hb | simp_all), rfl⟩
    · rw [way_no2 h2]
      have e2 : ((b.extract 0 a.size).toList == a.toList) = false := by rw [str_eq]; simp [h2]
      clear h2
      go_enter Try.func72, Try.ntmps72
      go_wp2
      go_ret
      exact ⟨ret_bool (by first | rfl | simp_all), rfl⟩
  · rw [way_no1 h1]
    have i1 : ¬ (a.size : Int) < (b.size : Int) := by omega
    go_enter Try.func72, Try.ntmps72
    go_wp2
    go_ret
    exact ⟨ret_bool (by first | rfl | simp_all), rfl⟩


/-! ### Find -/
def FindI (l : Fs) (p : BS) (i : Int) : Prop := (i = -1 ∧ look l p = none) ∨ ∃ (k : Nat) (v : FD), i = (k : Int) ∧ l[k]? = some (p, v) ∧ look l p = some v
def NotIn (l : Fs) (p : BS) (k : Nat) : Prop := ∀ j, j < k → ∀ y : BS × FD, l[j]? = some y → y.1 ≠ p
theorem NotIn.step {l : Fs} {p : BS} {k : Nat} (h : NotIn l p k) {y : BS × FD} (hy : l[k]? = some y) (hne : y.1 ≠ p) : NotIn l p (k + 1) := fun j hj z hz => by
  rcases Nat.lt_succ_iff_lt_or_eq.1 hj with h' | h'
  · exact h j h' z hz
  · subst h'; rw [hy] at hz; cases hz; exact hne
theorem find_at {l : Fs} {p : BS} {k : Nat} (h : NotIn l p k) {v : FD} (hk : l[k]? = some (p, v)) : look l p = some v := by
  induction l generalizing k with
  | nil => simp at hk
  | cons y r ih =>
    cases k with
    | zero =>
      simp at hk
      subst hk
      simp [look]
    | succ k =>
      have hne := h 0 (by omega) y rfl
      have hr := ih (k := k) (fun j hj z hz => h (j + 1) (by omega) z (by simpa using hz)) (by simpa using hk)
      unfold look at hr ⊢
      rw [List.find?_cons]
      simp only [decide_eq_false hne]
      exact hr
theorem find_no {l : Fs} {p : BS} (h : NotIn l p l.length) : look l p = none := look_none.2 (fun y hy => by
  obtain ⟨j, hj, he⟩ := List.getElem_of_mem hy
  exact h j hj y (by rw [List.getElem?_eq_getElem hj, he]))

set_option maxRecDepth 100000 in
set_option maxHeartbeats 4000000 in
theorem find_nil (p : ByteArray) (w : World) : Calls Try.prog 49 #[.slice none 0 0, .string p] w fun e w' => e = .returned (.int .i64 (-1)) ∧ w = w' := by
  go_enter Try.func49, Try.ntmps49
  go_wp2
  refine wp_loop_rounds 1 ?_
  rw [rounds_succ]
  go_wp2
  go_ret
  exact ⟨rfl, rfl⟩

set_option maxRecDepth 100000 in
set_option maxHeartbeats 4000000 in
theorem find_some (g c : Nat) (l : Fs) (p : ByteArray) (w : World) (hc : RowC w g l) (hln : l.length < 1073741824) : Calls Try.prog 49 #[.slice (some ⟨g, 0, none⟩) l.length c, .string p] w fun e w' => (∃ i, e = .returned (.int .i64 i) ∧ FindI l p.data.toList i) ∧ w = w' := by
  have HC := Lib.hid hc
  clear hc
  go_enter Try.func49, Try.ntmps49
  go_wp2
  go_loop [5] (fun i => ∃ k : Nat, k ≤ l.length ∧ i = .int .i64 k ∧ Hid (NotIn l p.data.toList k)) (fun i => l.length - (intOf i).toNat)
  case atStart => exact ⟨0, Nat.zero_le _, rfl, fun j hj => by omega⟩
  case round =>
    obtain ⟨k, hk, rfl, HN⟩ := hrel
    by_cases hlt : k < l.length
    · obtain ⟨⟨yp, yt, ym⟩, hy⟩ : ∃ y, l[k]? = some y := ⟨_, List.getElem?_eq_getElem hlt⟩
      obtain ⟨e0, e1, e2⟩ := HC.out k _ hy
      obtain ⟨sp, hsp⟩ : ∃ sp : ByteArray, sp = txt yp := ⟨_, rfl⟩
      obtain ⟨st, hst⟩ : ∃ st : ByteArray, st = txt yt := ⟨_, rfl⟩
      have hspd : sp.data.toList = yp := by rw [hsp, txt_data]
      have hstd : st.data.toList = yt := by rw [hst, txt_data]
      simp only [← hsp, ← hst] at e0 e1 e2
      have hi1 : (0 : Int) ≤ (k : Int) := by omega
      have hi2 : (k : Int) < (l.length : Int) := by omega
      by_cases hpe : sp = p
      · have hq : (sp.toList == p.toList) = true := by rw [str_eq]; simp [hpe]
        have HF : Hid (FindI l p.data.toList (k : Int)) := .inr ⟨k, (yt, ym), rfl, by rw [hy, ← hspd, hpe], find_at HN.out (by rw [hy, ← hspd, hpe])⟩
        clear hy hspd hstd hsp hst hpe e1 e2
        go_wp2
        go_ret
        exact ⟨⟨_, rfl, HF.out⟩, rfl⟩
      · have hq : (sp.toList == p.toList) = false := by rw [str_eq]; simp [hpe]
        have HN2 : Hid (NotIn l p.data.toList (k + 1)) := HN.out.step hy (fun (e : yp = p.data.toList) => hpe (by rw [← txt_toList sp, hspd, e, txt_toList]))
        clear hy hspd hstd hsp hst hpe e1 e2
        go_wp2
        go_round
        case rel => exact ⟨k + 1, hlt, by go_num, HN2⟩
        case measure => simp [intOf]; omega
    · have hkl : k = l.length := by omega
      have hni : NotIn l p.data.toList l.length := by rw [← hkl]; exact HN.out
      have HF : Hid (FindI l p.data.toList (-1)) := .inl ⟨rfl, find_no hni⟩
      clear hkl hni
      go_wp2
      go_ret
      exact ⟨⟨_, rfl, HF.out⟩, rfl⟩

theorem refFind_any (v : Value) (P : Nat → Prop) (l : Fs) (p : ByteArray) (w : World) (h : RowF w P v l) (hln : l.length < 1073741824) : Calls Try.prog 49 #[v, .string p] w fun e w' => (∃ i, e = .returned (.int .i64 i) ∧ FindI l p.data.toList i) ∧ w = w' := by
  rcases h.cells with ⟨rfl, rfl⟩ | ⟨g, c, rfl, _, _, hc⟩
  · exact (find_nil p w).mono (fun e w' hr => ⟨⟨_, hr.1, .inl ⟨rfl, rfl⟩⟩, hr.2⟩)
  · exact find_some g c l p w hc hln

/-! ### used -/
theorem used_take {l : Fs} {k : Nat} {y : BS × FD} (hy : l[k]? = some y) : used (l.take (k + 1)) = used (l.take k) + y.2.1.length := by
  rw [List.take_add_one, hy]
  unfold used
  rw [List.map_append, List.sum_append]; simp
theorem used_le (l : Fs) (k : Nat) : used (l.take k) ≤ used l := by
  have h : used (l.take k ++ l.drop k) = used (l.take k) + used (l.drop k) := by
    unfold used
    rw [List.map_append, List.sum_append]
  rw [List.take_append_drop] at h
  omega

set_option maxRecDepth 100000 in
set_option maxHeartbeats 4000000 in
theorem rused_nil  (w : World) : Calls Try.prog 61 #[.slice none 0 0] w fun e w' => e = .returned (.int .i64 0) ∧ w = w' := by
  go_enter Try.func61, Try.ntmps61
  go_wp2
  refine wp_loop_rounds 1 ?_
  rw [rounds_succ]
  go_wp2
  go_ret
  exact ⟨rfl, rfl⟩

set_option maxRecDepth 100000 in
set_option maxHeartbeats 4000000 in
theorem rused_some (g c : Nat) (l : Fs) (w : World) (hc : RowC w g l) (hln : l.length < 1073741824) (hu : used l < 4611686018427387904) : Calls Try.prog 61 #[.slice (some ⟨g, 0, none⟩) l.length c] w fun e w' => e = .returned (.int .i64 (used l : Nat)) ∧ w = w' := by
  have HC := Lib.hid hc
  clear hc
  go_enter Try.func61, Try.ntmps61
  go_wp2
  go_loop [4, 3] (fun i a => ∃ k u : Nat, k ≤ l.length ∧ i = .int .i64 k ∧ a = .int .i64 u ∧ u < 4611686018427387904 ∧ Hid (u = used (l.take k))) (fun i _ => l.length - (intOf i).toNat)
  case atStart => exact ⟨0, 0, Nat.zero_le _, rfl, rfl, by omega, rfl⟩
  case round =>
    obtain ⟨k, u, hk, rfl, rfl, hu1, HN⟩ := hrel
    by_cases hlt : k < l.length
    · obtain ⟨⟨yp, yt, ym⟩, hy⟩ : ∃ y, l[k]? = some y := ⟨_, List.getElem?_eq_getElem hlt⟩
      obtain ⟨e0, e1, e2⟩ := HC.out k _ hy
      obtain ⟨sp, hsp⟩ : ∃ sp : ByteArray, sp = txt yp := ⟨_, rfl⟩
      obtain ⟨st, hst⟩ : ∃ st : ByteArray, st = txt yt := ⟨_, rfl⟩
      have hspd : sp.data.toList = yp := by rw [hsp, txt_data]
      have hstd : st.data.toList = yt := by rw [hst, txt_data]
      simp only [← hsp, ← hst] at e0 e1 e2
      have hi1 : (0 : Int) ≤ (k : Int) := by omega
      have hi2 : (k : Int) < (l.length : Int) := by omega
      have hux := used_take hy
      have hle := used_le l (k + 1)
      have hstl : st.size = yt.length := by rw [← size_list, hstd]
      have HN2 : Hid (u + st.size = used (l.take (k + 1))) := by show _ = _; rw [hux, ← HN.out, hstl]
      have hub : u + st.size < 4611686018427387904 := by have := HN2.out; omega
      clear hy hspd hstd hsp hst e0 e2 hux hle hstl
      go_wp2
      go_round
      case rel => exact ⟨k + 1, u + st.size, hlt, by go_num, by simp, hub, HN2⟩
      case measure => simp [intOf]; omega
    · have hfin : u = used l := by rw [HN.out, List.take_of_length_le (by omega)]
      subst hfin
      go_wp2
      go_ret
      exact ⟨rfl, rfl⟩

theorem rused_any (v : Value) (P : Nat → Prop) (l : Fs) (w : World) (h : RowF w P v l) (hln : l.length < 1073741824) (hu : used l < 4611686018427387904) : Calls Try.prog 61 #[v] w fun e w' => e = .returned (.int .i64 (used l : Nat)) ∧ w = w' := by
  rcases h.cells with ⟨rfl, rfl⟩ | ⟨g, c, rfl, _, _, hc⟩
  · exact rused_nil w
  · exact rused_some g c l w hc hln hu

/-! ### blocked -/
def NotBlk (l : Fs) (p : BS) (k : Nat) : Prop := blocked (l.take k) p = false
theorem NotBlk.step {l : Fs} {p : BS} {k : Nat} (h : NotBlk l p k) {y : BS × FD} (hy : l[k]? = some y) (h1 : way y.1 p = false) (h2 : way p y.1 = false) : NotBlk l p (k + 1) := by
  unfold NotBlk at *
  rw [List.take_add_one, hy]
  unfold blocked at *
  rw [List.any_append, h]; simp [h1, h2]
theorem blk_at {l : Fs} {p : BS} {k : Nat} {y : BS × FD} (hy : l[k]? = some y) (h : way y.1 p = true ∨ way p y.1 = true) : blocked l p = true := by
  unfold blocked
  rw [List.any_eq_true]
  refine ⟨y, List.mem_of_getElem? hy, ?_⟩
  rcases h with h | h <;> simp [h]

set_option maxRecDepth 100000 in
set_option maxHeartbeats 4000000 in
theorem rblk_nil (p : ByteArray) (w : World) : Calls Try.prog 58 #[.slice none 0 0, .string p] w fun e w' => e = .returned (.bool false) ∧ w = w' := by
  go_enter Try.func58, Try.ntmps58
  go_wp2
  refine wp_loop_rounds 1 ?_
  rw [rounds_succ]
  go_wp2
  go_ret
  exact ⟨rfl, rfl⟩

set_option maxRecDepth 100000 in
set_option maxHeartbeats 4000000 in
theorem rblk_some (g c : Nat) (l : Fs) (p : ByteArray) (w : World) (hc : RowC w g l) (hln : l.length < 1073741824) (hp : p.size ≤ maxLen) (hpl : ∀ y ∈ l, y.1.length ≤ 1048576) : Calls Try.prog 58 #[.slice (some ⟨g, 0, none⟩) l.length c, .string p] w fun e w' => e = .returned (.bool (blocked l p.data.toList)) ∧ w = w' := by
  have HC := Lib.hid hc
  have HPL := Lib.hid hpl
  have HW : Hid (∀ (a b : ByteArray) (w : World), a.size ≤ maxLen → Calls Try.prog 72 #[.string a, .string b] w fun e w' => e = .returned (.bool (wayB a b)) ∧ w = w') := fun a b w h => refWay_any a b h w
  clear hc hpl
  go_enter Try.func58, Try.ntmps58
  go_wp2
  go_loop [5] (fun i => ∃ k : Nat, k ≤ l.length ∧ i = .int .i64 k ∧ Hid (NotBlk l p.data.toList k)) (fun i => l.length - (intOf i).toNat)
  case atStart => exact ⟨0, Nat.zero_le _, rfl, rfl⟩
  case round =>
    obtain ⟨k, hk, rfl, HN⟩ := hrel
    by_cases hlt : k < l.length
    · obtain ⟨⟨yp, yt, ym⟩, hy⟩ : ∃ y, l[k]? = some y := ⟨_, List.getElem?_eq_getElem hlt⟩
      obtain ⟨e0, e1, e2⟩ := HC.out k _ hy
      obtain ⟨sp, hsp⟩ : ∃ sp : ByteArray, sp = txt yp := ⟨_, rfl⟩
      obtain ⟨st, hst⟩ : ∃ st : ByteArray, st = txt yt := ⟨_, rfl⟩
      have hspd : sp.data.toList = yp := by rw [hsp, txt_data]
      have hstd : st.data.toList = yt := by rw [hst, txt_data]
      simp only [← hsp, ← hst] at e0 e1 e2
      have hi1 : (0 : Int) ≤ (k : Int) := by omega
      have hi2 : (k : Int) < (l.length : Int) := by omega
      have hsz : sp.size ≤ maxLen := by
        have := HPL.out _ (List.mem_of_getElem? hy)
        rw [← size_list, hspd]; unfold maxLen; simp only at this; omega
      cases h1 : wayB sp p with
      | true =>
        have HT : Hid (blocked l p.data.toList = true) := blk_at hy (.inl (by rw [← hspd]; exact h1))
        clear hy hspd hstd hsp hst e1 e2
        go_wp2_with (go_at_call 72; refine (HW.out _ _ _ (by assumption)).mono ?_; rintro e w' ⟨rfl, rfl⟩)
        go_ret
        exact ⟨by rw [HT.out]; rfl, rfl⟩
      | false =>
        cases h2 : wayB p sp with
        | true =>
          have HT : Hid (blocked l p.data.toList = true) := blk_at hy (.inr (by rw [← hspd]; exact h2))
          clear hy hspd hstd hsp hst e1 e2
          go_wp2_with (go_at_call 72; refine (HW.out _ _ _ (by assumption)).mono ?_; rintro e w' ⟨rfl, rfl⟩)
          go_ret
          exact ⟨by rw [HT.out]; rfl, rfl⟩
        | false =>
          have HN2 : Hid (NotBlk l p.data.toList (k + 1)) := HN.out.step hy (by rw [← hspd]; exact h1) (by rw [← hspd]; exact h2)
          clear hy hspd hstd hsp hst e1 e2
          go_wp2_with (go_at_call 72; refine (HW.out _ _ _ (by assumption)).mono ?_; rintro e w' ⟨rfl, rfl⟩)
          go_round
          case rel => exact ⟨k + 1, hlt, by go_num, HN2⟩
          case measure => simp [intOf]; omega
    · have HT : Hid (blocked l p.data.toList = false) := by have := HN.out; unfold NotBlk at this; rwa [List.take_of_length_le (by omega)] at this
      go_wp2
      go_ret
      exact ⟨by rw [HT.out]; rfl, rfl⟩

theorem rblk_any (v : Value) (P : Nat → Prop) (l : Fs) (p : ByteArray) (w : World) (h : RowF w P v l) (hln : l.length < 1073741824) (hp : p.size ≤ maxLen) (hpl : ∀ y ∈ l, y.1.length ≤ 1048576) : Calls Try.prog 58 #[v, .string p] w fun e w' => e = .returned (.bool (blocked l p.data.toList)) ∧ w = w' := by
  rcases h.cells with ⟨rfl, rfl⟩ | ⟨g, c, rfl, _, _, hc⟩
  · exact rblk_nil p w
  · exact rblk_some g c l p w hc hln hp hpl

end Go.Proofs.Ytginlknlkbhgaaa
