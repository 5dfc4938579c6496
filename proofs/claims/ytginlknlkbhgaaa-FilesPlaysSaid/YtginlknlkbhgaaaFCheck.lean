/-
  What would err if a file came to have so many bytes: for any tree.
-/
import Derived.IntWalk
import Derived.Test.YtginlknlkbhgaaaFDo
namespace Go.Proofs.Ytginlknlkbhgaaa
open Go.RowKit Go.Shelf Go.Maps

def checkC (room : Int) (now : Fs) (p : BS) (n : Nat) : Int :=
  if pathB p = false then 1 else if 16777216 < n then 3 else if blocked now p = true then 5
  else if room < (used now : Int) - ((textOf now p).length : Int) + (n : Int) then 6 else if 200 ≤ now.length ∧ (look now p).isSome = false then 6 else 0

theorem fileOr_text (L : FVs) (p : ByteArray) : (fileOr L p).1 = textOf (strip L) p.data.toList := by
  unfold textOf fileOr
  rw [strip_look]
  cases look L p.data.toList <;> rfl
theorem le_sum_mem : ∀ {l : List Nat} {x : Nat}, x ∈ l → x ≤ l.sum
  | [], _, h => by simp at h
  | y :: r, x, h => by
    rcases List.mem_cons.1 h with rfl | h
    · simp
    · have := le_sum_mem h; simp; omega
theorem text_used (now : Fs) (p : BS) : (textOf now p).length ≤ used now := by
  unfold textOf
  cases hl : look now p with
  | none => simp
  | some v =>
    have hm := look_mem hl
    show v.1.length ≤ _
    unfold used
    exact le_sum_mem (List.mem_map.2 ⟨_, hm, rfl⟩)

theorem path_t (s : ByteArray) (hs : s.size ≤ maxLen) (w : World) (h : pathB s.data.toList = true) : Calls Try.prog 50 #[.string s] w fun e w' => e = .returned (.bool true) ∧ Below w.heap.size w w' := by
  have := path_any s hs w; rwa [h] at this
theorem path_f (s : ByteArray) (hs : s.size ≤ maxLen) (w : World) (h : pathB s.data.toList = false) : Calls Try.prog 50 #[.string s] w fun e w' => e = .returned (.bool false) ∧ Below w.heap.size w w' := by
  have := path_any s hs w; rwa [h] at this

section
variable (bt : Nat) (p : ByteArray) (n : Nat) (room clock : Int) (nm sm : Option Nat) (pv : Value) (LN : FVs) (w : World)

set_option maxRecDepth 100000 in
set_option maxHeartbeats 1000000 in
theorem check_arg (hp : p.size ≤ maxLen) (h : pathB p.data.toList = false) :
    Calls Try.prog 36 #[.pointer (some ⟨bt, 0, none⟩), .string p, .int .i64 n] w fun r w' => r = .returned (.int .i64 1) ∧ Below w.heap.size w w' := by
  have HP := Lib.hid (path_f p hp w h)
  clear h
  go_enter Try.func36, Try.ntmps36
  go_wp2_with (go_at_call 50; refine (HP.out).mono ?_; rintro e w1 ⟨rfl, hb⟩)
  go_ret
  exact ⟨rfl, hb⟩

set_option maxRecDepth 100000 in
set_option maxHeartbeats 1000000 in
theorem check_long (hp : p.size ≤ maxLen) (h : pathB p.data.toList = true) (hn : 16777216 < n) :
    Calls Try.prog 36 #[.pointer (some ⟨bt, 0, none⟩), .string p, .int .i64 n] w fun r w' => r = .returned (.int .i64 3) ∧ Below w.heap.size w w' := by
  have HP := Lib.hid (path_t p hp w h)
  have e1 : decide ((16777216 : Int) < (n : Int)) = true := by simp; omega
  clear h
  go_enter Try.func36, Try.ntmps36
  go_wp2_with (go_at_call 50; refine (HP.out).mono ?_; rintro e w1 ⟨rfl, hb⟩)
  go_ret
  exact ⟨rfl, hb⟩

theorem field0 (a : ByteArray) (t : Int) (q : Option Addr) (W : World) : (Instr.field 85 (.agg #[.string a, .int .i64 t, .pointer q]) 0).run Try.prog W = .ok (.string a) W := by kernel_rfl

/-- The tree and its map are there, whatever was laid behind. -/
def CkAt (w0 w : World) : Prop := Below w0.heap.size w0 w
theorem CkAt.step {w0 a b : World} (h : CkAt w0 a) (k : Below a.heap.size a b) : CkAt w0 b := h.trans (k.mono h.size)
theorem MapV.below {w w' : World} {B : Nat} {m : Option Nat} {L : FVs} (h : MapV w m L) (hb : Below B w w') (hB : w.heap.size ≤ B) : MapV w' m L :=
  h.kept (fun b hm => by
    rcases h with ⟨hx, _⟩ | ⟨c, hx, hM⟩
    · rw [hx] at hm; cases hm
    · rw [hx] at hm; cases hm; exact hb.block _ (Nat.lt_of_lt_of_le hM.lt hB))

set_option maxRecDepth 100000 in
set_option maxHeartbeats 1000000 in
theorem check_there (ht : TreeC w bt room clock nm sm pv) (hM : MapV w nm LN) (hp : p.size ≤ maxLen) (h : pathB p.data.toList = true) (hn : ¬ 16777216 < n) (hbk : blocked (strip LN) p.data.toList = true) :
    Calls Try.prog 36 #[.pointer (some ⟨bt, 0, none⟩), .string p, .int .i64 n] w fun r w' => r = .returned (.int .i64 5) ∧ Below w.heap.size w w' := by
  have HP := Lib.hid (path_t p hp w h)
  have HC : Hid (∀ w1, CkAt w w1 → Calls Try.prog 51 #[.map nm, .string p, .string p] w1 fun e w' => e = .returned (.bool true) ∧ CkAt w w') := by
    intro w1 h1
    have := collide_any nm LN p p w1 (hM.below h1 (Nat.le_refl _))
    rw [blocked_drp, ← strip_blocked, hbk] at this
    exact this.mono (fun e w' h => ⟨h.1, h1.step h.2⟩)
  have HT : Hid (∀ w1, CkAt w w1 → w1.cell? ⟨bt, 2, none⟩ = some (.map nm)) := fun w1 h1 => (ht.below h1 ht.lt).cell.2.2.1
  have e1 : decide ((16777216 : Int) < (n : Int)) = false := by simp; omega
  clear h ht hM hbk hn
  go_enter Try.func36, Try.ntmps36
  go_wp2_with (first
    | (go_at_call 50; refine (HP.out).mono ?_; rintro e w1 ⟨rfl, hb⟩; have hbc : CkAt w w1 := hb; have c2 := HT.out w1 hb)
    | (go_at_call 51; refine (HC.out _ (by assumption)).mono ?_; rintro e w2 ⟨rfl, hb2⟩))
  go_ret
  exact ⟨rfl, hb2⟩

set_option maxRecDepth 100000 in
set_option maxHeartbeats 4000000 in
theorem check_rest (ht : TreeC w bt room clock nm sm pv) (hM : MapV w nm LN) (hp : p.size ≤ maxLen) (h : pathB p.data.toList = true) (hn : ¬ 16777216 < n) (hbk : blocked (strip LN) p.data.toList = false) (hu : used (strip LN) < 4611686018427387904) (_hr0 : 0 ≤ room) (_hr1 : room < 4611686018427387904) (R : Int)
    (hR : (room < (used (strip LN) : Int) - ((textOf (strip LN) p.data.toList).length : Int) + (n : Int) ∧ R = 6) ∨ (¬ room < (used (strip LN) : Int) - ((textOf (strip LN) p.data.toList).length : Int) + (n : Int) ∧ ((200 ≤ (strip LN).length ∧ (look (strip LN) p.data.toList).isSome = false ∧ R = 6) ∨ (¬ (200 ≤ (strip LN).length ∧ (look (strip LN) p.data.toList).isSome = false) ∧ R = 0)))) :
    Calls Try.prog 36 #[.pointer (some ⟨bt, 0, none⟩), .string p, .int .i64 n] w fun r w' => r = .returned (.int .i64 R) ∧ Below w.heap.size w w' := by
  obtain ⟨vt, vm, ve, hv⟩ : ∃ vt vm ve, fileOr LN p = (vt, vm, ve) := ⟨_, _, _, rfl⟩
  have hvt : textOf (strip LN) p.data.toList = vt := by rw [← fileOr_text, hv]
  have htu := text_used (strip LN) p.data.toList
  rw [hvt] at hR htu
  obtain ⟨U, hU⟩ : ∃ U, U = used (strip LN) := ⟨_, rfl⟩
  have HP := Lib.hid (path_t p hp w h)
  have HC : Hid (∀ w1, CkAt w w1 → Calls Try.prog 51 #[.map nm, .string p, .string p] w1 fun e w' => e = .returned (.bool false) ∧ CkAt w w') := by
    intro w1 h1
    have := collide_any nm LN p p w1 (hM.below h1 (Nat.le_refl _))
    rw [blocked_drp, ← strip_blocked, hbk] at this
    exact this.mono (fun e w' h => ⟨h.1, h1.step h.2⟩)
  have HT : Hid (∀ w1, CkAt w w1 → w1.cell? ⟨bt, 2, none⟩ = some (.map nm) ∧ w1.cell? ⟨bt, 0, none⟩ = some (.int .i64 room)) := fun w1 h1 => ⟨(ht.below h1 ht.lt).cell.2.2.1, (ht.below h1 ht.lt).cell.1⟩
  have HL : Hid (∀ w1, CkAt w w1 → (Instr.lookup 64 (.map nm) (.string p) false).run Try.prog w1 = .ok (.agg #[.string (txt vt), .int .i64 vm, .pointer (endA ve)]) w1) := by
    intro w1 h1
    have := (hM.below h1 (Nat.le_refl _)).look p hp
    rwa [hv] at this
  have HN : Hid (∀ w1, CkAt w w1 → ∀ ty, (Builtin.len_ #[64] ty #[.map nm]).run Try.prog w1 = .ok (.int .i64 LN.length) w1) := fun w1 h1 ty => (hM.below h1 (Nat.le_refl _)).len ty
  have HH : Hid (∀ w1, CkAt w w1 → Calls Try.prog 48 #[.map nm, .string p] w1 fun e w' => e = .returned (.bool (look (strip LN) p.data.toList).isSome) ∧ CkAt w w') := by
    intro w1 h1
    have := has_any nm LN p hp w1 (hM.below h1 (Nat.le_refl _))
    rw [show (look LN p.data.toList).isSome = (look (strip LN) p.data.toList).isSome by rw [strip_look]; cases look LN p.data.toList <;> rfl] at this
    exact this.mono (fun e w' h => ⟨h.1, h1.step h.2⟩)
  have HU : Hid (∀ w1, CkAt w w1 → Calls Try.prog 30 #[.pointer (some ⟨bt, 0, none⟩)] w1 fun e w' => e = .returned (.int .i64 (U : Nat)) ∧ w'.cell? ⟨bt, 0, none⟩ = some (.int .i64 room) ∧ w'.cell? ⟨bt, 2, none⟩ = some (.map nm) ∧ CkAt w w') := by
    intro w1 h1
    have := used_any bt nm LN w1 (ht.below h1 ht.lt) (hM.below h1 (Nat.le_refl _)) hu
    rw [hU]
    exact this.mono (fun e w' h => ⟨h.1, (ht.below (h1.step h.2) ht.lt).cell.1, (ht.below (h1.step h.2) ht.lt).cell.2.2.1, h1.step h.2⟩)
  have e1 : decide ((16777216 : Int) < (n : Int)) = false := by simp; omega
  have w1e : IntKind.i64.wrap ((U : Int) - (vt.length : Int)) = (U : Int) - (vt.length : Int) := IntWalk.i64_in _ (by omega)
  have w2e : IntKind.i64.wrap ((U : Int) - (vt.length : Int) + (n : Int)) = (U : Int) - (vt.length : Int) + (n : Int) := IntWalk.i64_in _ (by omega)
  rw [← hU] at hR
  rw [strip_length] at hR
  obtain ⟨hs, hhs⟩ : ∃ hs, hs = (look (strip LN) p.data.toList).isSome := ⟨_, rfl⟩
  rw [← hhs] at HH hR
  have W1E := Lib.hid w1e
  have W2E := Lib.hid w2e
  have HR := Lib.hid hR
  have mixed := lays169.mixed
  have hfl := field0
  clear h ht hM hbk hn htu hu hU hv hvt hR w1e w2e hhs
  go_enter Try.func36, Try.ntmps36
  go_wp2_with (first
    | (go_at_call 50; refine (HP.out).mono ?_; rintro e w1 ⟨rfl, hb⟩; have hbc : CkAt w w1 := hb; have c2 := (HT.out w1 hb).1)
    | (go_at_call 51; refine (HC.out _ (by assumption)).mono ?_; rintro e w2 ⟨rfl, hb2⟩; have hb2d : CkAt w w2.drew := below_drew hb2; have k2 := (HT.out w2.drew hb2d).1; have k0 := (HT.out w2.drew hb2d).2; have kl := HL.out w2.drew hb2d))
  go_region_held3 (fun w' => w'.cell? ⟨bt, 0, none⟩ = some (.int .i64 room) ∧ w'.cell? ⟨bt, 2, none⟩ = some (.map nm) ∧ (Instr.lookup 64 (.map nm) (.string p) false).run Try.prog w' = .ok (.agg #[.string (txt vt), .int .i64 vm, .pointer (endA ve)]) w' ∧ CkAt w w')
    (first | exact ⟨by assumption, by assumption, by assumption, by assumption⟩)
    (first | (go_at_call 30; refine (HU.out _ (by assumption)).mono ?_; rintro r w3 ⟨rfl, j0, j2, hb3⟩; have jl := HL.out w3 hb3))
  all_goals (
    rw [W1E.out, W2E.out]
    have hn3 := HN.out w3 hb3
    have HH3 := Lib.hid (HH.out w3 hb3)
    clear HU HT HL HN HH W1E W2E kl jl k0 k2 hfl
    rcases HR.out with ⟨h6, rfl⟩ | ⟨h6, hrest⟩
    · have e9 : decide (room < (U : Int) - (vt.length : Int) + (n : Int)) = true := decide_eq_true (by omega)
      clear HH3 HR
      go_wp2
      go_ret
      exact ⟨rfl, hb3⟩
    · have e9 : decide (room < (U : Int) - (vt.length : Int) + (n : Int)) = false := decide_eq_false (by omega)
      have h6' : ¬ room < (U : Int) - (vt.length : Int) + (n : Int) := by omega
      clear HR
      rcases hrest with ⟨h7, h8, rfl⟩ | ⟨h7, rfl⟩
      · have e10 : decide ((200 : Int) ≤ (LN.length : Int)) = true := by simp; omega
        have e11 : (200 : Int) ≤ (LN.length : Int) := by omega
        subst h8
        clear h7
        go_wp2_with (go_at_call 48; refine (HH3.out).mono ?_; rintro e w4 ⟨rfl, hb4⟩)
        go_ret
        exact ⟨rfl, hb4⟩
      · by_cases h8 : 200 ≤ LN.length
        · have e10 : decide ((200 : Int) ≤ (LN.length : Int)) = true := by simp; omega
          have e11 : (200 : Int) ≤ (LN.length : Int) := by omega
          have h9 : hs = true := by cases hs <;> simp_all
          subst h9
          clear h7 h8
          go_wp2_with (go_at_call 48; refine (HH3.out).mono ?_; rintro e w4 ⟨rfl, hb4⟩)
          go_ret
          exact ⟨rfl, hb4⟩
        · have e10 : decide ((200 : Int) ≤ (LN.length : Int)) = false := by simp; omega
          have e11 : ¬ (200 : Int) ≤ (LN.length : Int) := by omega
          clear h7 h8 HH3
          go_wp2
          go_ret
          exact ⟨rfl, hb3⟩)
end

end Go.Proofs.Ytginlknlkbhgaaa
