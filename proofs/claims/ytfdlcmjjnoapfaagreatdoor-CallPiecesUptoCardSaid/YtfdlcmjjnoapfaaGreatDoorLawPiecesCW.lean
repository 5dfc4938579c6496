/-
  CallPieces, the walk: it answers true for every text of bulk at most 1048576. No other condition.
-/
import Derived.OwnWalkIn
import Derived.Deep.RegionHeld3
import Derived.Deep.QuietTactic
import Derived.BigQuiet
import Derived.WalkSpells
import Derived.Test.YtfdlcmjjnoapfaaGreatDoorNWm
namespace Go.Proofs.YtfdlcmjjnoapfaaGreatDoor
open Go.RowKit Go.Shelf
attribute [local go_sem] Oper.semAt_some

set_option maxRecDepth 100000 in
set_option maxHeartbeats 4000000 in
theorem callPieces_walk (s0 : ByteArray) (hs0 : s0.size ≤ maxLen) (w : World) (hst : Std w) (hbulk : s0.data.toList.length + 1 ≤ 1048576) :
    Calls Tryz.prog 6 #[.string s0] w (LawPost w) := by
  rw [size_list] at hbulk
  unfold maxLen at hs0
  have HS := Lib.hid hst
  have HSh := Lib.hid (shown_any w hst)
  have HW := Lib.hid (fun W => words_told s0 (by omega) W)
  have HM : Hid (∀ x ∈ wordsT s0.data.toList, WordB x ∧ x.length ≤ s0.size) := fun x hx => by rw [← size_list]; exact words_memT hx
  clear hst hbulk
  generalize wordsT s0.data.toList = ws at HW HM
  go_enter Tryz.func6, Tryz.ntmps6
  go_wp2_with fail
  refine HSh.out.mono ?_
  rintro e w1 ⟨rfl, hb1⟩
  have HS1 := Lib.hid (HS.out.below hb1)
  go_wp2_with fail
  refine (HW.out w1).mono ?_
  rintro e w2 ⟨o, c, rfl, hc2, hb2⟩
  have hb12 : Below w.heap.size w w2 := hb1.trans (hb2.mono hb1.size)
  have HS2 := Lib.hid (HS1.out.below hb2)
  clear HS1 HS HSh HW
  by_cases a1 : 500 < s0.size
  · go_wp2_with fail
    go_ret
    exact ⟨rfl, hb12⟩
  by_cases a2 : ¬ ws.length = 1
  · have a3 : ((ws.length : Int) != 1) = true := by rw [bne_iff_ne]; omega
    have a4 : ((ws.length : Int) == 1) = false := by rw [beq_eq_false_iff_ne]; omega
    clear hs0
    go_wp2_with fail
    go_ret
    exact ⟨rfl, hb12⟩
  obtain ⟨x, rfl⟩ := List.length_eq_one_iff.1 (Decidable.not_not.1 a2)
  obtain ⟨b, f, rfl, hbl, hcl, hcell⟩ := hc2 0 x rfl
  obtain ⟨hx, hxl⟩ := HM.out x (by simp)
  have hxs : x.length ≤ 500 := by omega
  rw [List.length_singleton] at hcl ⊢
  rw [Nat.add_zero] at hcell
  have H1 := Lib.hid (fun W => of1_is ⟨#[100, 105, 114]⟩ x (dirOf x) (by omega) (congrArg Prod.fst (call_dir1 hx (by omega))) W)
  have H2 := Lib.hid (fun W => of1_is ⟨#[110, 111, 116, 100, 105, 114]⟩ x (notdirOf x) (by omega) (congrArg Prod.fst (call_notdir1 hx (by omega))) W)
  have hSt : ∀ W, Below w2.heap.size w2 W → Std W := fun W h => HS2.out.below h
  have hC : ∀ W W' : World, W.cell? ⟨b, f, none⟩ = some (.string (txt x)) → Below w2.heap.size w2 W → Below W.heap.size W W' → W'.cell? ⟨b, f, none⟩ = some (.string (txt x)) := fun W W' h h1 h2 => (h2.cell (p := ⟨b, f, none⟩) (Nat.lt_of_lt_of_le hbl h1.size)).trans h
  have H3 := Lib.hid (of1_lies ⟨#[98, 97, 115, 101, 110, 97, 109, 101]⟩ x (baseOf x) (by omega) (congrArg Prod.fst (call_base1 hx (by omega))) w2 hSt (fun W => W.cell? ⟨b, f, none⟩ = some (.string (txt x))) hC)
  have H4 := Lib.hid (of1_lies ⟨#[115, 117, 102, 102, 105, 120]⟩ x (suffixOf x) (by omega) (congrArg Prod.fst (call_suffix1 hx (by omega))) w2 hSt (fun W => W.cell? ⟨b, f, none⟩ = some (.string (txt x))) hC)
  clear hSt hC
  have hdn := dir_notdir x
  have hbs := base_suffix x
  have hbs9 : txt (baseOf x) ++ txt (suffixOf x) = txt x := by rw [txt_app, hbs]
  have HBS := Lib.hid hbs9
  have HBZ : Hid ((txt (baseOf x)).size + (txt (suffixOf x)).size ≤ 1000) := by
    show _ ≤ _
    rw [← ByteArray.size_append, hbs9, txt_size]
    omega
  clear hbs9
  generalize txt (baseOf x) = Bx at H3 HBS HBZ
  generalize txt (suffixOf x) = Sx at H4 HBS HBZ
  have hself1 := tn_f (rfl : x = x)
  have hself2 := tq_t (rfl : x = x)
  have hxz : (txt x).size ≤ 500 := by rw [txt_size]; exact hxs
  have HX := Lib.hid hx
  have hbw : w2.heap.size ≤ w2.heap.size := Nat.le_refl _
  clear a2 hx hc2 hxl HM hs0
  go_wp2_with fail
  refine (H1.out w2 HS2.out).mono ?_
  rintro e w3 ⟨rfl, hb3⟩
  have hcell3 := (hb3.cell (p := ⟨b, f, none⟩) hbl).trans hcell
  have HS3 := Lib.hid (HS2.out.below hb3)
  go_wp2_with fail
  refine (H2.out w3 HS3.out).mono ?_
  rintro e w4 ⟨rfl, hb4⟩
  have hcell4 := (hb4.cell (p := ⟨b, f, none⟩) (Nat.lt_of_lt_of_le hbl hb3.size)).trans hcell3
  have HS4 := Lib.hid (HS3.out.below hb4)
  clear H1 H2 HS2 HS3
  have HD := Lib.hid hdn
  have HB12 := Lib.hid hb12
  have hb24 : Below w2.heap.size w2 w4 := hb3.trans (hb4.mono hb3.size)
  clear hdn hbs hcell hcell3 hb12 hb1 hb2 hxs
  have hKD : ∀ W : World, Below w2.heap.size w2 W → Below w2.heap.size w2 W.drew := fun W h => h.trans ⟨rfl, rfl, rfl, Nat.le_refl _, fun _ _ => rfl⟩
  have hKA : ∀ (W : World) (O : Obj), W.cell? ⟨b, f, none⟩ = some (.string (txt x)) ∧ Below w2.heap.size w2 W → (W.alloc O).cell? ⟨b, f, none⟩ = some (.string (txt x)) ∧ Below w2.heap.size w2 (W.alloc O) := fun W O h =>
    ⟨(((Below.refl W.heap.size W).alloc (Nat.le_refl _) O).cell (p := ⟨b, f, none⟩) (Nat.lt_of_lt_of_le hbl h.2.size)).trans h.1, h.2.alloc h.2.size O⟩
  have HKD := Lib.hid hKD
  have HKA := Lib.hid hKA
  clear hKD hKA
  rcases HD.out with ⟨_, h1, h2⟩ | ⟨_, h1⟩
  · rw [h1, h2]
    have h46 : (txt ([46, 47] : BT)).toList = [46, 47] := txt_toL _
    have hjoin : txt ([46, 47] : BT) ++ txt x = txt ([46, 47] ++ x) := txt_app _ _
    have hjz : ¬ 9223372036854775807 < (txt ([46, 47] : BT)).size + (txt x).size := by rw [txt_size]; simp only [List.length_cons, List.length_nil]; omega
    have hn : ([46, 47] : BT) ++ x ≠ x := fun h => by have := congrArg List.length h; rw [List.length_append] at this; simp only [List.length_cons, List.length_nil] at this; omega
    have q1 := tn_t hn
    have q2 := tq_f hn
    have q3 : ¬ (txt ([46, 47] ++ x)).toList = (txt x).toList := fun h => by rw [txt_toL, txt_toL] at h; exact hn h
    clear h1 h2 HD hn
    generalize txt ([46, 47] : BT) = D at *
    generalize txt ([46, 47] ++ x) = J at *
    go_wp2_with fail
    clear q1 q2 q3 h46 hjoin hjz
    have hbs9 := HBS.out
    have hbz9 : ¬ 9223372036854775807 < Bx.size + Sx.size := by have := HBZ.out; omega
    clear HBS HBZ
    go_region_held3 (fun w' => w'.cell? ⟨b, f, none⟩ = some (.string (txt x)) ∧ Below w2.heap.size w2 w')
      (first | exact ⟨by assumption, by assumption⟩ | exact ⟨by assumption, HKD.out _ (by assumption)⟩ | (go_split_ands; first | exact ⟨by assumption, by assumption⟩ | exact HKA.out _ _ ⟨by assumption, by assumption⟩))
      (first
        | (go_at_call 18; with_reducible refine (H3.out _ _ (by (repeat (first | exact Lies.new _ _ | (refine Lies.new1 _ _ ?_; simp; done) | refine Lies.drew ?_ | refine Lies.below (by assumption) ?_ | refine Lies.alloc _ ?_))) (by assumption)).mono ?_; rintro e w8 ⟨rfl, hc8, hb8, hx8⟩)
        | (go_at_call 18; with_reducible refine (H4.out _ _ (by (repeat (first | exact Lies.new _ _ | (refine Lies.new1 _ _ ?_; simp; done) | refine Lies.drew ?_ | refine Lies.below (by assumption) ?_ | refine Lies.alloc _ ?_))) (by assumption)).mono ?_; rintro e w9 ⟨rfl, hc9, hb9, hx9⟩))
    all_goals
      go_wp2_with fail
      go_ret
      exact ⟨by trivial, HB12.out.trans (Below.mono hb9 HB12.out.size)⟩
  · have hjoin : txt (dirOf x) ++ txt (notdirOf x) = txt x := by rw [txt_app, h1]
    have hjz : ¬ 9223372036854775807 < (txt (dirOf x)).size + (txt (notdirOf x)).size := by rw [← ByteArray.size_append, hjoin]; omega
    clear h1 HD
    generalize txt (dirOf x) = D at *
    generalize txt (notdirOf x) = E at *
    go_wp2_with fail
    clear hjoin hjz
    have hbs9 := HBS.out
    have hbz9 : ¬ 9223372036854775807 < Bx.size + Sx.size := by have := HBZ.out; omega
    clear HBS HBZ
    go_region_held3 (fun w' => w'.cell? ⟨b, f, none⟩ = some (.string (txt x)) ∧ Below w2.heap.size w2 w')
      (first | exact ⟨by assumption, by assumption⟩ | exact ⟨by assumption, HKD.out _ (by assumption)⟩ | (go_split_ands; first | exact ⟨by assumption, by assumption⟩ | exact HKA.out _ _ ⟨by assumption, by assumption⟩))
      (first
        | (go_at_call 18; with_reducible refine (H3.out _ _ (by (repeat (first | exact Lies.new _ _ | (refine Lies.new1 _ _ ?_; simp; done) | refine Lies.drew ?_ | refine Lies.below (by assumption) ?_ | refine Lies.alloc _ ?_))) (by assumption)).mono ?_; rintro e w8 ⟨rfl, hc8, hb8, hx8⟩)
        | (go_at_call 18; with_reducible refine (H4.out _ _ (by (repeat (first | exact Lies.new _ _ | (refine Lies.new1 _ _ ?_; simp; done) | refine Lies.drew ?_ | refine Lies.below (by assumption) ?_ | refine Lies.alloc _ ?_))) (by assumption)).mono ?_; rintro e w9 ⟨rfl, hc9, hb9, hx9⟩))
    all_goals
      go_wp2_with fail
      go_ret
      exact ⟨by trivial, HB12.out.trans (Below.mono hb9 HB12.out.size)⟩
end Go.Proofs.YtfdlcmjjnoapfaaGreatDoor
