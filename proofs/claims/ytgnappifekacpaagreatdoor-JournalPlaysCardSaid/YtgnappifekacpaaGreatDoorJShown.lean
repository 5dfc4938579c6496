/-
  The chapter's example, as the statements' own shown asks it.
-/
import Derived.Deep.QuietTactic
import Derived.BigQuiet
import Derived.Test.YtgnappifekacpaaGreatDoorJBox
namespace Go.Proofs.YtgnappifekacpaaGreatDoor
open Go.RowKit Go.Shelf Go.Maps

def sjA : List BS := [[97]]
def sjB : List BS := [[98]]
def sj0 : St := (0, [], [], [])
def sj1 : St := (opA 1000 sj0 [106] (lineOf sjA)).2
def sj2 : St := opS sj1
def sj3 : St := (opA 1000 sj2 [106] (lineOf sjB)).2
def sj4 : St := opC sj3 0 5
theorem sj_fitA : Fit sjA := ⟨by decide, by decide, by decide⟩
theorem sj_fitB : Fit sjB := ⟨by decide, by decide, by decide⟩
theorem sj_path : pathB (besideL [106]) = true ∧ pathB [106] = true := by decide +kernel
theorem sj_c1 : (opA 1000 sj0 [106] (lineOf sjA)).1 = 0 := by decide +kernel
theorem sj_c3 : (opA 1000 sj2 [106] (lineOf sjB)).1 = 0 := by decide +kernel
theorem sj_text : textOf sj4.now [106] = linesOfAll [sjA] ++ (lineOf sjB).take 5 := by decide +kernel
theorem sj_keys : sj4.now.all (fun y => decide (y.1 ∈ ([[106], besideL [106]] : List BS))) = true ∧ used sj4.now ≤ 100 := by decide +kernel
theorem sj_calm : ∀ a ∈ ([[106], besideL [106]] : List BS), ∀ b ∈ ([[106], besideL [106]] : List BS), way a b = false := by decide +kernel
theorem gj0 : Good 1000 0 sj0 := Good.new (by omega) (by omega)
theorem gj1 : Good 1000 1 sj1 := gj0.opA _ _
theorem gj2 : Good 1000 1 sj2 := gj1.opS
theorem gj3 : Good 1000 2 sj3 := gj2.opA _ _
theorem gj4 : Good 1000 2 sj4 := gj3.opC _ _
theorem sj_lists : listsOf (textOf sj4.now [106]) = [sjA] := by
  rw [sj_text]
  refine lists_of [sjA] _ (by intro x hx; simp at hx; rw [hx]; exact sj_fitA) fun xs r e => ?_
  rw [take_none _ (cut_no_nl sjB 5 (by rw [line_len]; decide))] at e
  cases e
theorem sj_open : (jOpen 1000 sj4 [106]).1 = [sjA] ∧ (jOpen 1000 sj4 [106]).2.1 = 0 := by
  have hk : Keys [[106], besideL [106]] sj4.now := fun y hy => by simpa using (List.all_eq_true.1 sj_keys.1) y hy
  have hl : (textOf sj4.now [106]).length ≤ 100 := Nat.le_trans (text_used _ _) sj_keys.2
  have hu := sj_keys.2
  have := open_ok (Ns := [[106], besideL [106]]) (p := [106]) gj4 hk sj_calm (by simp) (by simp) (by simp) sj_path.2 sj_path.1 (by omega) (by omega)
  exact ⟨this.lists.trans sj_lists, this.code⟩
theorem sj_short (q : BS) : (textOf sj4.now q).length ≤ 1000000 := by
  have h1 := text_used sj4.now q
  have h2 := sj_keys.2
  omega
theorem bes_j : bes ⟨#[106]⟩ = ⟨#[106, 46, 110, 101, 119]⟩ := by decide
section
variable {w W1 W : World} {pb bt bm b : Nat} {Z : Nat → Prop} {l : List Ent}
theorem sj_add1 (h : Bx w pb bt bm W1 Z 1000 ((false, b, sj0) :: l) W) {a : Nat} (ha : a = W.heap.size) : Calls Tryz.prog 12 #[.pointer (some ⟨b, 0, none⟩), .string ⟨#[106]⟩, .slice (some ⟨a, 0, none⟩) 1 1] (W.alloc (.cells #[.string ⟨#[97]⟩] 9)) fun r w' => r = .returned (.int .i64 0) ∧ Bx w pb bt bm W1 Z 1000 ((false, b, sj1) :: l) w' := by
  subst ha
  have hr := built_readsO W [⟨#[97]⟩]
  have := (Bx.below h ((Below.refl _ W).alloc (Nat.le_refl _) (.cells #[.string ⟨#[97]⟩] 9))).jadd gj0 (by omega) ⟨#[106]⟩ (by decide) (.slice (some ⟨W.heap.size, 0, none⟩) 1 1) [⟨#[97]⟩] (by rw [World.size_alloc]; exact hr) ⟨by show 1 ≤ maxLen; decide, by intro x hx; simp at hx; subst hx; decide⟩
  rw [show rawOf [⟨#[97]⟩] = sjA from rfl, show (⟨#[106]⟩ : ByteArray).data.toList = [106] from rfl, jAdd_eq sj_path.1 sj_fitA, sj_c1] at this
  exact this
theorem sj_add2 (h : Bx w pb bt bm W1 Z 1000 ((false, b, sj2) :: l) W) {a : Nat} (ha : a = W.heap.size) : Calls Tryz.prog 12 #[.pointer (some ⟨b, 0, none⟩), .string ⟨#[106]⟩, .slice (some ⟨a, 0, none⟩) 1 1] (W.alloc (.cells #[.string ⟨#[98]⟩] 9)) fun r w' => r = .returned (.int .i64 0) ∧ Bx w pb bt bm W1 Z 1000 ((false, b, sj3) :: l) w' := by
  subst ha
  have hr := built_readsO W [⟨#[98]⟩]
  have := (Bx.below h ((Below.refl _ W).alloc (Nat.le_refl _) (.cells #[.string ⟨#[98]⟩] 9))).jadd gj2 (by omega) ⟨#[106]⟩ (by decide) (.slice (some ⟨W.heap.size, 0, none⟩) 1 1) [⟨#[98]⟩] (by rw [World.size_alloc]; exact hr) ⟨by show 1 ≤ maxLen; decide, by intro x hx; simp at hx; subst hx; decide⟩
  rw [show rawOf [⟨#[98]⟩] = sjB from rfl, show (⟨#[106]⟩ : ByteArray).data.toList = [106] from rfl, jAdd_eq sj_path.1 sj_fitB, sj_c3] at this
  exact this
theorem sj_opened (h : Bx w pb bt bm W1 Z 1000 ((false, b, sj4) :: l) W) : Calls Tryz.prog 15 #[.pointer (some ⟨b, 0, none⟩), .string ⟨#[106]⟩] W fun r w' => ∃ o c w5 Z5 S5, r = .returned (.tuple #[.slice o 1 c, .int .i64 0]) ∧ ReadsFF (fun n => ¬ Z5 n) w5 (.slice o 1 c) [[⟨#[97]⟩]] ∧ Bx w pb bt bm w5 Z5 1000 ((false, b, S5) :: l) w' := by
  refine (Bx.jopen h gj4 (by omega) ⟨#[106]⟩ (by decide) sj_short).mono fun r w' k => ?_
  obtain ⟨o, c, w5, Z5, k1, k2, k3, _⟩ := k
  rw [show (⟨#[106]⟩ : ByteArray).data.toList = [106] from rfl] at k1 k2 k3
  rw [sj_open.1, sj_open.2] at k1
  rw [sj_open.1] at k2
  exact ⟨o, c, w5, Z5, _, k1, k2, k3⟩
end

set_option maxRecDepth 100000 in
set_option maxHeartbeats 4000000 in
theorem shown_any (w : World) : Calls Tryz.prog 8 #[] w fun e w' => e = .returned (.bool true) ∧ Below w.heap.size w w' := by
  have HN := Lib.hid (begun_ok 1000 (by omega) (by omega) w)
  have HB := Lib.hid (beside_any ⟨#[106]⟩ (by decide))
  rw [bes_j] at HB
  have HS : Hid (∀ (W : World) (o : Option Addr) (c : Nat), ReadsLL W W.heap.size (.slice o 1 c) [[⟨#[97]⟩]] → Calls Tryz.prog 17 #[.slice o 1 c, .slice (some ⟨W.heap.size + 1, 0, none⟩) 1 1] ((W.alloc (.cells #[.string ⟨#[97]⟩] 9)).alloc (.cells #[.slice (some ⟨W.heap.size, 0, none⟩) 1 1] 37)) fun e w' => e = .returned (.bool true) ∧ Below W.heap.size W w') := by
    intro W o c hr
    have hb : Below W.heap.size W ((W.alloc (.cells #[.string ⟨#[97]⟩] 9)).alloc (.cells #[.slice (some ⟨W.heap.size, 0, none⟩) 1 1] 37)) := ((Below.refl _ _).alloc (Nat.le_refl _) _).alloc (by simp) _
    have := sameAll_any (.slice o 1 c) (.slice (some ⟨W.heap.size + 1, 0, none⟩) 1 1) [[⟨#[97]⟩]] [[⟨#[97]⟩]] (W.heap.size + 2) _ (hr.below hb (by omega)) (built_readsLL W ⟨#[97]⟩) (by decide) (by intro xs hx; simp at hx; subst hx; decide)
    rw [decide_eq_true rfl] at this
    exact this.mono fun _ _ k => ⟨k.1, hb.trans (k.2.mono (by simp; omega))⟩
  go_enter Tryz.func8, Tryz.ntmps8
  go_wp2_with (first
    | (go_at_call 10; refine (HN.out).mono ?_; rintro e w1 ⟨bt, bm, rfl, hB⟩; have h0 := Box.bx (began hB); have hb0 := bxAt h0; clear hB)
    | (go_at_call 12; with_reducible refine (sj_add1 h0 (by simp)).mono ?_; rintro e w2 ⟨rfl, h1⟩; have hb1 := bxAt h1)
    | (go_at_call 20; with_reducible refine (Bx.sync h1 gj1).mono ?_; rintro e w3 ⟨rfl, h2⟩; have hb2 := bxAt h2)
    | (go_at_call 12; with_reducible refine (sj_add2 h2 (by simp)).mono ?_; rintro e w4 ⟨rfl, h3⟩; have hb3 := bxAt h3)
    | (go_at_call 22; with_reducible refine (Bx.crash h3 gj3 0 5 (by omega)).mono ?_; rintro e w5 ⟨rfl, h4⟩; have hb4 := bxAt h4)
    | (go_at_call 15; with_reducible refine (sj_opened h4).mono ?_; rintro e w6 ⟨o, c, w7, Z7, S7, rfl, hr6, h6⟩; have hr7 := ReadsFF.reads (Bx.reads h6 hr6))
    | (go_at_call 17; refine (HS.out _ _ _ hr7).mono ?_; rintro e w8 ⟨rfl, h8⟩)
    | (go_at_call 35; refine (HB.out _).mono ?_; rintro e w9 ⟨rfl, rfl⟩))
  go_ret
  exact ⟨rfl, (bxBack h6).trans (h8.mono (bxBack h6).size)⟩

end Go.Proofs.YtgnappifekacpaaGreatDoor
