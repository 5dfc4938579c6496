/-
  Functions that tell texts, made one out of the other: slices.Values, each, only, pairs. No condition.
-/
import Derived.Test.YtbngoodjgijmgaaGreatDoorNEach
import Derived.Test.YtbngoodjgijmgaaGreatDoorNEachP
import Derived.Test.YtbngoodjgijmgaaGreatDoorNI
import Derived.Test.YtbngoodjgijmgaaGreatDoorNPairs
import Derived.Test.YtbngoodjgijmgaaGreatDoorNTog
namespace Go.Proofs.YtbngoodjgijmgaaGreatDoor
open Go.RowKit Go.Shelf

/-- gf (with lb) tells xs, out of what lies in w. -/
def ToldB (w : World) (gf : Nat) (lb : Array Value) (xs : List ByteArray) : Prop :=
  (∀ args W, (callFunc gf args).run Tryz.prog W = .ok (.enter gf args) W) ∧ ∀ m, TellsB m Tryz.prog gf lb encT w.heap.size xs w
theorem ToldB.below {w w' : World} {gf : Nat} {lb : Array Value} {xs : List ByteArray} (h : ToldB w gf lb xs) (hb : Below w.heap.size w w') : ToldB w' gf lb xs :=
  ⟨h.1, fun m => (h.2 m).later hb.size (below_kept hb)⟩
theorem OfS.later {kf : Nat} {lk : Array Value} {f : ByteArray → ByteArray} {B B2 : Nat} {xs : List ByteArray} {w w2 : World} (h : OfS kf lk f B xs w) (hB : B ≤ B2) (hk : Kept (fun k => k < B) w w2) : OfS kf lk f B2 xs w2 :=
  fun x hx U hU => h x hx U (hk.trans (hU.sub fun _ hlt => Nat.lt_of_lt_of_le hlt hB))
theorem OfK.later {kf : Nat} {lk : Array Value} {f : ByteArray → Bool} {B B2 : Nat} {xs : List ByteArray} {w w2 : World} (h : OfK kf lk f B xs w) (hB : B ≤ B2) (hk : Kept (fun k => k < B) w w2) : OfK kf lk f B2 xs w2 :=
  fun x hx U hU => h x hx U (hk.trans (hU.sub fun _ hlt => Nat.lt_of_lt_of_le hlt hB))

theorem values_told (o : Option Addr) (n c : Nat) (xs : List ByteArray) (hl : n ≤ 1000000000000) (w : World) (hr : ReadsO w w.heap.size (.slice o n c) xs) :
    Calls Tryz.prog 129 #[.slice o n c] w fun e w' => ∃ lb, e = .returned (.func (.func 171) #[] lb) ∧ ToldB w' 171 lb xs ∧ Below w.heap.size w w' := by
  refine (values_any o n c w).mono ?_
  rintro e w' ⟨rfl, rfl⟩
  have hb : Below w.heap.size w (w.alloc (.cells #[.slice o n c] 99)) := (Below.refl _ w).alloc (Nat.le_refl _) _
  have hn : n = xs.length := by
    obtain ⟨o', c', hv, _⟩ := hr
    cases hv
    rfl
  refine ⟨_, rfl, ⟨enters_of Tryz.func171 (by kernel_rfl) rfl, fun m => ?_⟩, hb⟩
  exact values1_tells m o n c xs hn w.heap.size _ _ (Boxed.new w _ _) (by simp) (Nat.le_refl _) (hr.below hb (by simp)) hl

set_option maxHeartbeats 1000000 in
theorem each_told (gf : Nat) (lb : Array Value) (kf : Nat) (lk : Array Value) (f : ByteArray → ByteArray) (xs : List ByteArray) (w : World) (h : ToldB w gf lb xs) (hk : ∀ args w, (callFunc kf args).run Tryz.prog w = .ok (.enter kf args) w) (hof : OfS kf lk f w.heap.size xs w) :
    Calls Tryz.prog 130 #[.func (.func gf) #[] lb, .func (.func kf) #[] lk] w fun e w' => ∃ lb', e = .returned (.func (.func 172) #[] lb') ∧ ToldB w' 172 lb' (xs.map f) ∧ Below w.heap.size w w' := by
  have hA : Calls Tryz.prog 130 #[.func (.func gf) #[] lb, .func (.func kf) #[] lk] w fun e w' => e = .returned (.func (.func 172) #[] #[.pointer (some ⟨w.heap.size, 0, none⟩), .pointer (some ⟨w.heap.size + 1, 0, none⟩)]) ∧
      (w.alloc (.cells #[.func (.func gf) #[] lb] 139)).alloc (.cells #[.func (.func kf) #[] lk] 105) = w' := by
    clear h hk hof
    go_enter Tryz.func130, Tryz.ntmps130
    go_wp2
    go_ret
    exact ⟨rfl, rfl⟩
  refine hA.mono ?_
  rintro e w' ⟨rfl, rfl⟩
  have hb : Below w.heap.size w ((w.alloc (.cells #[.func (.func gf) #[] lb] 139)).alloc (.cells #[.func (.func kf) #[] lk] 105)) := ((Below.refl _ w).alloc (Nat.le_refl _) _).alloc (by simp) _
  have b2 := Boxed.new (w.alloc (.cells #[.func (.func gf) #[] lb] 139)) 105 (.func (.func kf) #[] lk)
  rw [World.size_alloc] at b2
  refine ⟨_, rfl, ⟨enters_of Tryz.func172 (by kernel_rfl) rfl, fun m => ?_⟩, hb⟩
  exact eachS_tells m gf lb h.1 kf lk hk f xs w.heap.size (w.heap.size + 1) _ _ ((Boxed.new w _ _).alloc _) b2 (by simp; omega) (by simp) (fun m => (h.2 m).later (by simp; omega) (below_kept hb)) (hof.later (by simp; omega) (below_kept hb))

set_option maxHeartbeats 1000000 in
theorem only_told (gf : Nat) (lb : Array Value) (kf : Nat) (lk : Array Value) (p : ByteArray → Bool) (xs : List ByteArray) (w : World) (h : ToldB w gf lb xs) (hk : ∀ args w, (callFunc kf args).run Tryz.prog w = .ok (.enter kf args) w) (hof : OfK kf lk p w.heap.size xs w) :
    Calls Tryz.prog 132 #[.func (.func gf) #[] lb, .func (.func kf) #[] lk] w fun e w' => ∃ lb', e = .returned (.func (.func 173) #[] lb') ∧ ToldB w' 173 lb' (xs.filter p) ∧ Below w.heap.size w w' := by
  have hA : Calls Tryz.prog 132 #[.func (.func gf) #[] lb, .func (.func kf) #[] lk] w fun e w' => e = .returned (.func (.func 173) #[] #[.pointer (some ⟨w.heap.size, 0, none⟩), .pointer (some ⟨w.heap.size + 1, 0, none⟩)]) ∧
      (w.alloc (.cells #[.func (.func gf) #[] lb] 139)).alloc (.cells #[.func (.func kf) #[] lk] 69) = w' := by
    clear h hk hof
    go_enter Tryz.func132, Tryz.ntmps132
    go_wp2
    go_ret
    exact ⟨rfl, rfl⟩
  refine hA.mono ?_
  rintro e w' ⟨rfl, rfl⟩
  have hb : Below w.heap.size w ((w.alloc (.cells #[.func (.func gf) #[] lb] 139)).alloc (.cells #[.func (.func kf) #[] lk] 69)) := ((Below.refl _ w).alloc (Nat.le_refl _) _).alloc (by simp) _
  have b2 := Boxed.new (w.alloc (.cells #[.func (.func gf) #[] lb] 139)) 69 (.func (.func kf) #[] lk)
  rw [World.size_alloc] at b2
  refine ⟨_, rfl, ⟨enters_of Tryz.func173 (by kernel_rfl) rfl, fun m => ?_⟩, hb⟩
  exact only_tells m gf lb h.1 kf lk hk p xs w.heap.size (w.heap.size + 1) _ _ ((Boxed.new w _ _).alloc _) b2 (by simp; omega) (by simp) (fun m => (h.2 m).later (by simp; omega) (below_kept hb)) (hof.later (by simp; omega) (below_kept hb))

/-- Two lists, told one by one, put together. -/
def ToldP (w : World) (gf : Nat) (lb : Array Value) (xs : List Pr) : Prop :=
  (∀ args W, (callFunc gf args).run Tryz.prog W = .ok (.enter gf args) W) ∧ ∀ m, TellsB m Tryz.prog gf lb encP w.heap.size xs w
theorem pairs_told (o1 o2 : Option Addr) (n1 n2 c1 c2 : Nat) (xs ys : List ByteArray) (hl1 : n1 ≤ 1000000000) (hl2 : n2 ≤ 1000000000) (w : World) (hr1 : ReadsO w w.heap.size (.slice o1 n1 c1) xs) (hr2 : ReadsO w w.heap.size (.slice o2 n2 c2) ys) :
    Calls Tryz.prog 143 #[.slice o1 n1 c1, .slice o2 n2 c2] w fun e w' => ∃ lb, e = .returned (.func (.func 181) #[] lb) ∧ ToldP w' 181 lb (pairsL xs ys) ∧ Below w.heap.size w w' := by
  refine (pairs_any o1 o2 n1 n2 c1 c2 w).mono ?_
  rintro e w' ⟨rfl, rfl⟩
  have hb : Below w.heap.size w ((w.alloc (.cells #[.slice o1 n1 c1] 99)).alloc (.cells #[.slice o2 n2 c2] 99)) := ((Below.refl _ w).alloc (Nat.le_refl _) _).alloc (by simp) _
  have hn1 : n1 = xs.length := by
    obtain ⟨o', c', hv, _⟩ := hr1
    cases hv
    rfl
  have hn2 : n2 = ys.length := by
    obtain ⟨o', c', hv, _⟩ := hr2
    cases hv
    rfl
  have b2 := Boxed.new (w.alloc (.cells #[.slice o1 n1 c1] 99)) 99 (.slice o2 n2 c2)
  rw [World.size_alloc] at b2
  refine ⟨_, rfl, ⟨enters_of Tryz.func181 (by kernel_rfl) rfl, fun m => ?_⟩, hb⟩
  exact pairs_tells m o1 o2 n1 n2 c1 c2 xs ys hn1 hn2 hl1 hl2 w.heap.size (w.heap.size + 1) _ _ ((Boxed.new w _ _).alloc _) b2 (by simp; omega) (by simp) (Nat.le_refl _) (hr1.below hb (by simp; omega)) (hr2.below hb (by simp; omega))
set_option maxHeartbeats 1000000 in
theorem wholes_told (gf : Nat) (lb : Array Value) (xs : List Pr) (hz : ∀ x ∈ xs, x.1.size ≤ 10000000 ∧ x.2.size ≤ 10000000) (w : World) (h : ToldP w gf lb xs) :
    Calls Tryz.prog 142 #[.func (.func gf) #[] lb, .func (.func 144) #[] #[]] w fun e w' => ∃ lb', e = .returned (.func (.func 180) #[] lb') ∧ ToldB w' 180 lb' (xs.map fun p => p.1 ++ p.2) ∧ Below w.heap.size w w' := by
  have hA : Calls Tryz.prog 142 #[.func (.func gf) #[] lb, .func (.func 144) #[] #[]] w fun e w' => e = .returned (.func (.func 180) #[] #[.pointer (some ⟨w.heap.size, 0, none⟩), .pointer (some ⟨w.heap.size + 1, 0, none⟩)]) ∧
      (w.alloc (.cells #[.func (.func gf) #[] lb] 170)).alloc (.cells #[.func (.func 144) #[] #[]] 172) = w' := by
    clear h hz
    go_enter Tryz.func142, Tryz.ntmps142
    go_wp2
    go_ret
    exact ⟨rfl, rfl⟩
  refine hA.mono ?_
  rintro e w' ⟨rfl, rfl⟩
  have hb : Below w.heap.size w ((w.alloc (.cells #[.func (.func gf) #[] lb] 170)).alloc (.cells #[.func (.func 144) #[] #[]] 172)) := ((Below.refl _ w).alloc (Nat.le_refl _) _).alloc (by simp) _
  have b2 := Boxed.new (w.alloc (.cells #[.func (.func gf) #[] lb] 170)) 172 (.func (.func 144) #[] #[])
  rw [World.size_alloc] at b2
  refine ⟨_, rfl, ⟨enters_of Tryz.func180 (by kernel_rfl) rfl, fun m => ?_⟩, hb⟩
  exact eachP_tells m gf lb h.1 144 #[] (enters_of Tryz.func144 (by kernel_rfl) rfl) (fun p => p.1 ++ p.2) xs w.heap.size (w.heap.size + 1) _ _ ((Boxed.new w _ _).alloc _) b2 (by simp; omega) (by simp) (fun m => (h.2 m).later (by simp; omega) (below_kept hb))
    (fun x hx U _ => whole_any x (hz x hx).1 (hz x hx).2 U)

/-! ### together of what is told -/
theorem joinS_blank (l : List BT) : joinS (l.map txt) ⟨#[32]⟩ = joinT l := by
  unfold joinS joinT
  rw [List.map_map]
  congr 1
  conv => rhs; rw [← List.map_id l]
  exact List.map_congr_left fun x _ => txt_data x
theorem tog_fin (l : List BT) : togT (l.map txt) ⟨#[32]⟩ = finT (some (joinT l)) := by
  unfold togT finT
  rw [joinS_blank]
theorem tog_told (gf : Nat) (lb : Array Value) (l : List BT) (hz : ∀ x ∈ l, x.length ≤ 10000000) (w : World) (h : ToldB w gf lb (l.map txt)) :
    Calls Tryz.prog 102 #[.func (.func gf) #[] lb, .string ⟨#[32]⟩] w fun e w' => e = .returned (.tuple #[.string (txt (finT (some (joinT l))).1), .int .i64 (finT (some (joinT l))).2]) ∧ Below w.heap.size w w' := by
  have := together_any gf lb h.1 ⟨#[32]⟩ (by decide) _ _ (l.map txt) (fun x hx => by
    obtain ⟨y, hy, rfl⟩ := List.mem_map.1 hx
    rw [txt_size]; exact hz y hy) w w.heap.size (Nat.le_refl _) h.2 (fun _ h => h.elim) (fun _ h => h)
  rw [tog_fin] at this
  exact this
end Go.Proofs.YtbngoodjgijmgaaGreatDoor
