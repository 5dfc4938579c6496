/-
  Chapter 9's examples, over what each call of Parse tells. No condition.
-/
import Derived.Test.YtldddecaeloohaaDoorPSm
namespace Go.Proofs.YtldddecaeloohaaDoor
open Go.RowKit Go.Shelf
attribute [local go_sem] Oper.semAt_some

def shownL : List LineI := [(1, false, [97, 32, 58, 61, 32, 36, 40, 120, 58, 121, 61, 122, 41]), (2, false, [116, 32, 36, 40, 98, 41, 58, 32, 37, 46, 111, 32, 58, 32, 37, 46, 99, 32, 124, 32, 100]), (3, true, [99, 99])]
def shown1 : Nd := ⟨1, 1, [58, 61], [97], [36, 40, 120, 58, 121, 61, 122, 41], [], [], [], [], []⟩
def shown2 : Nd := ⟨2, 2, [], [], [], [116, 32, 36, 40, 98, 41], [37, 46, 111], [37, 46, 99], [100], [[99, 99]]⟩
set_option maxRecDepth 100000 in
theorem shown_parse : parseP shownL = ([shown1, shown2], 0, 0) := by rfl

set_option maxRecDepth 100000 in
set_option maxHeartbeats 8000000 in
theorem shown9 (HP : ParseC) (w : World) : Calls Tryd.prog 10 #[] w fun e w' => e = .returned (.bool true) ∧ Below w.heap.size w w' := by
  have hh := World.alloc_heap_new w (.cells #[.int .i64 1, .bool false, .string ⟨#[97, 32, 58, 61, 32, 36, 40, 120, 58, 121, 61, 122, 41]⟩, .int .i64 2, .bool false, .string ⟨#[116, 32, 36, 40, 98, 41, 58, 32, 37, 46, 111, 32, 58, 32, 37, 46, 99, 32, 124, 32, 100]⟩, .int .i64 3, .bool true, .string ⟨#[99, 99]⟩] 47)
  have hr : ReadsL (w.alloc (.cells #[.int .i64 1, .bool false, .string ⟨#[97, 32, 58, 61, 32, 36, 40, 120, 58, 121, 61, 122, 41]⟩, .int .i64 2, .bool false, .string ⟨#[116, 32, 36, 40, 98, 41, 58, 32, 37, 46, 111, 32, 58, 32, 37, 46, 99, 32, 124, 32, 100]⟩, .int .i64 3, .bool true, .string ⟨#[99, 99]⟩] 47)) (w.alloc (.cells #[.int .i64 1, .bool false, .string ⟨#[97, 32, 58, 61, 32, 36, 40, 120, 58, 121, 61, 122, 41]⟩, .int .i64 2, .bool false, .string ⟨#[116, 32, 36, 40, 98, 41, 58, 32, 37, 46, 111, 32, 58, 32, 37, 46, 99, 32, 124, 32, 100]⟩, .int .i64 3, .bool true, .string ⟨#[99, 99]⟩] 47)).heap.size (.slice (some ⟨w.heap.size, 0, none⟩) 3 3) shownL := by
    refine ⟨_, _, rfl, fun j x hj => ⟨w.heap.size, 0, rfl, by simp, by simp [shownL], ?_⟩⟩
    rw [Lib.cell_of_heap hh, Lib.cell_of_heap hh, Lib.cell_of_heap hh]
    match j, hj with
    | 0, hj => cases hj; exact ⟨rfl, rfl, rfl⟩
    | 1, hj => cases hj; exact ⟨rfl, rfl, rfl⟩
    | 2, hj => cases hj; exact ⟨rfl, rfl, rfl⟩
    | j + 3, hj => simp [shownL] at hj
  have H := HP _ shownL _ hr (by simp [shownL]) (by simp [shownL])
  unfold ParsePost at H
  rw [shown_parse] at H
  have HX : Hid (Calls Tryd.prog 12 #[.slice (some ⟨w.heap.size, 0, none⟩) 3 3] (w.alloc (.cells #[.int .i64 1, .bool false, .string ⟨#[97, 32, 58, 61, 32, 36, 40, 120, 58, 121, 61, 122, 41]⟩, .int .i64 2, .bool false, .string ⟨#[116, 32, 36, 40, 98, 41, 58, 32, 37, 46, 111, 32, 58, 32, 37, 46, 99, 32, 124, 32, 100]⟩, .int .i64 3, .bool true, .string ⟨#[99, 99]⟩] 47)) fun e w' => ∃ o c, e = .returned (.tuple #[.slice o 2 c, .int .i64 0, .int .i64 0]) ∧ ReadsN w' w'.heap.size (.slice o 2 c) [shown1, shown2] ∧ Below (w.alloc (.cells #[.int .i64 1, .bool false, .string ⟨#[97, 32, 58, 61, 32, 36, 40, 120, 58, 121, 61, 122, 41]⟩, .int .i64 2, .bool false, .string ⟨#[116, 32, 36, 40, 98, 41, 58, 32, 37, 46, 111, 32, 58, 32, 37, 46, 99, 32, 124, 32, 100]⟩, .int .i64 3, .bool true, .string ⟨#[99, 99]⟩] 47)).heap.size (w.alloc (.cells #[.int .i64 1, .bool false, .string ⟨#[97, 32, 58, 61, 32, 36, 40, 120, 58, 121, 61, 122, 41]⟩, .int .i64 2, .bool false, .string ⟨#[116, 32, 36, 40, 98, 41, 58, 32, 37, 46, 111, 32, 58, 32, 37, 46, 99, 32, 124, 32, 100]⟩, .int .i64 3, .bool true, .string ⟨#[99, 99]⟩] 47)) w') := H
  have HB0 : Hid (Below w.heap.size w (w.alloc (.cells #[.int .i64 1, .bool false, .string ⟨#[97, 32, 58, 61, 32, 36, 40, 120, 58, 121, 61, 122, 41]⟩, .int .i64 2, .bool false, .string ⟨#[116, 32, 36, 40, 98, 41, 58, 32, 37, 46, 111, 32, 58, 32, 37, 46, 99, 32, 124, 32, 100]⟩, .int .i64 3, .bool true, .string ⟨#[99, 99]⟩] 47))) := (Below.refl _ w).alloc (Nat.le_refl _) _
  clear H hr hh
  go_enter Tryd.func10, Tryd.ntmps10
  go_wp2_with fail
  refine HX.out.mono ?_
  rintro e w1 ⟨o, c, rfl, ⟨o', c', hv, hn⟩, hb⟩
  cases hv
  obtain ⟨b, f, r1, rfl, hbl, hc, x, hr1⟩ := hn 0 shown1 rfl
  obtain ⟨b', f', r2, e1, _, _, y, hrr⟩ := hn 1 shown2 rfl
  cases e1
  obtain ⟨ro1, rc1, rfl, _⟩ := hr1
  obtain ⟨ro2, rc2, hr2, _⟩ := id hrr
  have hr2' : r2 = .slice ro2 1 rc2 := hr2
  clear hr2
  subst hr2'
  have hb1 := HB0.out.trans (hb.mono (by simp))
  have HS : Hid (∀ W, Below w1.heap.size w1 W → ∀ q, q = W.heap.size → Calls Tryd.prog 21 #[.slice ro2 1 rc2, .slice (some ⟨q, 0, none⟩) 1 1] (W.alloc (.cells #[.string ⟨#[99, 99]⟩] 9)) fun e w' => e = .returned (.bool true) ∧ Below W.heap.size W w') := fun W hW q hq => by
    subst hq
    have hal : Below W.heap.size W (W.alloc (.cells #[.string ⟨#[99, 99]⟩] 9)) := (Below.refl _ W).alloc (Nat.le_refl _) _
    have h2 := World.alloc_heap_new W (.cells #[.string ⟨#[99, 99]⟩] 9)
    refine (samesT (.slice ro2 1 rc2) _ [[99, 99]] _ (hrr.below (hW.trans (hal.mono hW.size)) (Nat.le_trans hW.size hal.size)) ⟨_, _, rfl, fun k z hk => ⟨W.heap.size, 0, rfl, by simp, by simp, ?_⟩⟩ (by simp)).mono fun e w' h => ⟨h.1, hal.trans (h.2.mono hal.size)⟩
    match k, hk with
    | 0, hk => cases hk; rw [Lib.cell_of_heap h2]; rfl
    | k + 1, hk => simp at hk
  have x0 : w1.cell? ⟨b, f, none⟩ = some (.int .i64 1) := x 0 (by omega)
  have x1 : w1.cell? ⟨b, f + 1, none⟩ = some (.int .i64 1) := x 1 (by omega)
  have x2 : w1.cell? ⟨b, f + 2, none⟩ = some (.string ⟨#[58, 61]⟩) := x 2 (by omega)
  have x3 : w1.cell? ⟨b, f + 3, none⟩ = some (.string ⟨#[97]⟩) := x 3 (by omega)
  have x4 : w1.cell? ⟨b, f + 4, none⟩ = some (.string ⟨#[36, 40, 120, 58, 121, 61, 122, 41]⟩) := x 4 (by omega)
  have x5 : w1.cell? ⟨b, f + 5, none⟩ = some (.string ⟨#[]⟩) := x 5 (by omega)
  have x6 : w1.cell? ⟨b, f + 6, none⟩ = some (.string ⟨#[]⟩) := x 6 (by omega)
  have x7 : w1.cell? ⟨b, f + 7, none⟩ = some (.string ⟨#[]⟩) := x 7 (by omega)
  have x8 : w1.cell? ⟨b, f + 8, none⟩ = some (.string ⟨#[]⟩) := x 8 (by omega)
  have x9 : w1.cell? ⟨b, f + 9, none⟩ = some (.slice ro1 0 rc1) := x 9 (by omega)
  have y0 : w1.cell? ⟨b, f + 10, none⟩ = some (.int .i64 2) := y 0 (by omega)
  have y1 : w1.cell? ⟨b, f + 11, none⟩ = some (.int .i64 2) := y 1 (by omega)
  have y2 : w1.cell? ⟨b, f + 12, none⟩ = some (.string ⟨#[]⟩) := y 2 (by omega)
  have y3 : w1.cell? ⟨b, f + 13, none⟩ = some (.string ⟨#[]⟩) := y 3 (by omega)
  have y4 : w1.cell? ⟨b, f + 14, none⟩ = some (.string ⟨#[]⟩) := y 4 (by omega)
  have y5 : w1.cell? ⟨b, f + 15, none⟩ = some (.string ⟨#[116, 32, 36, 40, 98, 41]⟩) := y 5 (by omega)
  have y6 : w1.cell? ⟨b, f + 16, none⟩ = some (.string ⟨#[37, 46, 111]⟩) := y 6 (by omega)
  have y7 : w1.cell? ⟨b, f + 17, none⟩ = some (.string ⟨#[37, 46, 99]⟩) := y 7 (by omega)
  have y8 : w1.cell? ⟨b, f + 18, none⟩ = some (.string ⟨#[100]⟩) := y 8 (by omega)
  have y9 : w1.cell? ⟨b, f + 19, none⟩ = some (.slice ro2 1 rc2) := y 9 (by omega)
  have hc2 : 2 ≤ c := hc
  have HB9 := Lib.hid hb1
  have HW2 : Hid (∀ q1 t1 q2 t2, Below w1.heap.size w1 ((w1.alloc (.cells q1 t1)).alloc (.cells q2 t2))) := fun q1 t1 q2 t2 => ((Below.refl _ w1).alloc (Nat.le_refl _) _).alloc (by simp) _
  clear hn hb hc x y hrr hb1 HX HB0
  go_wp2_with (go_at_call 21; refine (HS.out _ (by first | exact HW2.out _ _ _ _ | exact drewE (HW2.out _ _ _ _)) _ (by simp)).mono ?_; rintro e w' ⟨rfl, hb'⟩)
  go_ret
  exact ⟨rfl, HB9.out.trans (((HW2.out _ _ _ _).trans (hb'.mono (by simp; omega))).mono HB9.out.size)⟩
theorem shown9_at (HP : ParseC) (w W : World) (hb : Below w.heap.size w W) : Calls Tryd.prog 10 #[] W fun e w' => e = .returned (.bool true) ∧ Below w.heap.size w w' :=
  (shown9 HP W).mono fun _ _ h => ⟨h.1, hb.trans (h.2.mono hb.size)⟩
end Go.Proofs.YtldddecaeloohaaDoor
