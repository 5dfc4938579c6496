/-
  What each tells: what its function makes of each that it is told. No condition.
-/
import Derived.Test.YtbngoodjgijmgaaGreatDoorNI
namespace Go.Proofs.YtbngoodjgijmgaaGreatDoor
open Go.RowKit Go.Shelf
attribute [local go_sem] Oper.semAt_some

abbrev Pr : Type := ByteArray × ByteArray
abbrev encP : Pr → Array Value := fun x => #[Value.agg #[.string x.1, .string x.2]]
def Boxed2 (w : World) (b : Nat) (x : Pr) : Prop := w.heap[b]? = some (.cells #[.string x.1, .string x.2] 168)
theorem Boxed2.fst {w : World} {b : Nat} {x : Pr} (h : Boxed2 w b x) : w.cell? ⟨b, 0, none⟩ = some (.string x.1) := by unfold Boxed2 at h; simp [World.cell?, h]
theorem Boxed2.snd {w : World} {b : Nat} {x : Pr} (h : Boxed2 w b x) : w.cell? ⟨b, 1, none⟩ = some (.string x.2) := by unfold Boxed2 at h; simp [World.cell?, h]

/-- What of does with each, as long as the blocks below B lie as in w. -/
def OfP (kf : Nat) (lk : Array Value) (f : Pr → ByteArray) (B : Nat) (xs : List Pr) (w : World) : Prop :=
  ∀ x ∈ xs, ∀ U, Kept (fun k => k < B) w U → Calls Tryz.prog kf (encP x ++ lk) U fun e w' => e = .returned (.string (f x)) ∧ Below U.heap.size U w'

set_option maxRecDepth 100000 in
set_option maxHeartbeats 4000000 in
theorem eachP_tells (n : Nat) (gf : Nat) (lb : Array Value) (hg : ∀ args w, (callFunc gf args).run Tryz.prog w = .ok (.enter gf args) w) (kf : Nat) (lk : Array Value) (hk : ∀ args w, (callFunc kf args).run Tryz.prog w = .ok (.enter kf args) w)
    (f : Pr → ByteArray) (xs : List Pr) (b1 b2 B : Nat) (w : World) (hb1 : Boxed w b1 170 (.func (.func gf) #[] lb)) (hb2 : Boxed w b2 172 (.func (.func kf) #[] lk)) (h1 : b1 < B) (h2 : b2 < B)
    (hin : ∀ m, TellsB m Tryz.prog gf lb encP B xs w) (hof : OfP kf lk f B xs w) :
    TellsB n Tryz.prog 180 #[.pointer (some ⟨b1, 0, none⟩), .pointer (some ⟨b2, 0, none⟩)] encT B (xs.map f) w := by
  intro l J Jx W hW hJ hJx hY hR h0
  have hk0 := hY _ _ _ h0
  have hB1 := hk0.boxed hb1 h1
  refine callsIn_of_wp_marks Tryz.func180 rfl trivial ?_ rfl
  simp only [Tryz.ntmps180, List.size_toArray, List.length_cons, List.length_nil, Nat.reduceAdd, Nat.reduceSub, Array.replicate_succ, Array.replicate_zero, List.push_toArray, List.append_toArray, List.nil_append, List.cons_append]
  have hlt1 := hB1.lt
  have hc1 := (hB1.alloc (.cells #[.func (.yield l) #[] #[]] 69)).cell
  gi_wp2
  have bY := Boxed.new W 69 (.func (.yield l) #[] #[])
  have ht := Turned.alloc (fun _ : Nat => False) W (.cells #[.func (.yield l) #[] #[]] 69)
  have hV : (W.alloc (.cells #[.func (.yield l) #[] #[]] 69)).heap.size = W.heap.size + 1 := by simp
  clear hc1
  generalize W.alloc (.cells #[.func (.yield l) #[] #[]] 69) = V at bY ht hV ⊢
  have hI0 : Abides' (fun X (pre : List Pr) U => J (fun k => X k ∨ k = W.heap.size) (pre.map f) U ∧ Boxed U W.heap.size 69 (.func (.yield l) #[] #[]) ∧ ¬ X W.heap.size) := by
    rintro X X' pre A B ⟨hj, hb, hx⟩ hT hsub
    refine ⟨hJ _ _ _ _ _ hj (hT.wider fun k h => .inl h) ?_, hT.boxed hb hx, fun h => ?_⟩
    · rintro k (h | h)
      · rcases hsub k h with h | h
        · exact .inl (.inl h)
        · exact .inr h
      · exact .inl (.inr h)
    · rcases hsub _ h with h | h
      · exact hx h
      · have := hb.lt; omega
  have hIx0 : ∀ c, Abides' (fun X (_ : List Pr) U => c = Code.ret ∧ ∃ q, q <+: xs.map f ∧ Jx (fun k => X k ∨ k = W.heap.size) q U) := by
    rintro c X X' pre A B ⟨hc, q, hq, hj⟩ hT hsub
    refine ⟨hc, q, hq, hJx _ _ _ _ _ hj (hT.wider fun k h => .inl h) ?_⟩
    rintro k (h | h)
    · rcases hsub k h with h | h
      · exact .inl (.inl h)
      · exact .inr h
    · exact .inl (.inr h)
  refine wpIn_rangeW (gf := gf) rfl hg (hin (n - 1)) (kept_none (by have := hW.size; omega)) (fun _ h => h.elim) (fun _ => rfl)
    _ _ hI0 hIx0 (fun X pre U h => hY _ _ _ h.1) ⟨hJ _ _ _ _ _ h0 ht ?_, bY, fun h => h⟩
    (fun x U => { tmps := #[.func (.yield l) #[] #[], .pointer (some ⟨b1, 0, none⟩), .pointer (some ⟨b2, 0, none⟩), .pointer (some ⟨W.heap.size, 0, none⟩), .pointer (some ⟨U.heap.size, 0, none⟩), .func (.func gf) #[] lb, .agg #[.string x.1, .string x.2], undef, undef, undef, undef, undef, undef], defers := [] })
    (fun x U => U.alloc (.cells #[.string x.1, .string x.2] 168)) (fun x U => Turned.alloc _ U _) ?assign ?body ?done ?stop
  case assign =>
    intro l x U K hK
    gi_wp2
    exact hK
  case body =>
    rintro l' X pre x U0 U ⟨hj, hb, hx⟩ hpre hfr
    have hbx : Boxed2 U U0.heap.size x := (hfr U0.heap.size (Nat.le_refl _)).trans (World.alloc_heap_new _ _)
    have hx1 := hbx.fst
    have hx2 := hbx.snd
    have hcl := hb.cell
    have hkU := hY _ _ _ hj
    have hc2 := (hkU.boxed hb2 h2).cell
    have hxm : x ∈ xs := hpre.subset (by simp)
    have hp2 : pre.map f ++ [f x] <+: xs.map f := by
      have := hpre.map f
      rwa [List.map_append] at this
    have HO : Hid (∀ m, Calls Tryz.prog kf (encP x ++ lk) (U.drewN m) fun e w' => e = .returned (.string (f x)) ∧ Below U.heap.size U w') := fun m => (hof x hxm _ (hkU.trans (Kept.drewN _ _ _))).mono fun e w' h => ⟨h.1, (show Below U.heap.size U (U.drewN m) from ⟨rfl, rfl, rfl, Nat.le_refl _, fun _ _ => rfl⟩).trans h.2⟩
    have HT : Hid (∀ w', Below U.heap.size U w' → Turned (fun k => X k ∨ k = W.heap.size) U w') := fun w' h => ⟨h.os, h.tape, h.output, h.size, fun k hk _ => h.block k hk⟩
    have HK4 : Hid (∀ w', Below U.heap.size U w' → ∀ X' : Nat → Prop, Kept X' U w') := fun w' h X' => ⟨h.size, fun k _ hlt => h.block k hlt⟩
    have HJd : Hid (∀ w', Below U.heap.size U w' → J (fun k => X k ∨ k = W.heap.size) (pre.map f) w') := fun w' h => hJ _ _ _ _ _ hj (HT.out w' h) (fun k h => .inl h)
    have HYd : Hid (∀ w', Below U.heap.size U w' → YieldAt Fence.wide (n - 1) Tryz.prog l #[.string (f x)] w' fun e W' => Kept (fun k => X k ∨ k = W.heap.size) w' W' ∧ ∃ b, e = .returned (.bool b) ∧ (b = true → J (fun k => X k ∨ k = W.heap.size) (pre.map f ++ [f x]) W') ∧ (b = false → Jx (fun k => X k ∨ k = W.heap.size) (pre.map f ++ [f x]) W')) := fun w' hw => by
      obtain ⟨fn, tmps, assign, body, hy, hR1⟩ := hR _ _ _ _ (HJd.out w' hw) hp2
      refine ⟨fn, tmps, assign, body, hy, hR1.mono ?_⟩
      rintro e W' ⟨hk, (⟨rfl, hj⟩ | ⟨rfl, hj⟩)⟩
      · exact ⟨hk, true, rfl, fun _ => hj, fun h => by cases h⟩
      · exact ⟨hk, false, rfl, (fun h => by cases h), fun _ => hj⟩
    have HPx := Lib.hid hp2
    have hmx : Tryz.prog.follows .mixedOrders = true := by kernel_rfl
    clear hj hp2
    gi_wp2
    gi_region_with_o (first
      | (refine ⟨trivial, (fun h => (by cases h)), (CallsIn.inRound l' (callsIn_wide.2 (HO.out 1))).mono ?_⟩; rintro e w' ⟨rfl, hbw⟩; have hcl4 := ((HK4.out w' hbw (fun _ => True)).boxed hb trivial).cell; have hBW := Lib.hid hbw; clear hbw; obtain ⟨fn, tmps, assign, body, hy, hR1⟩ := HYd.out w' hBW.out; have HR1 := Lib.hid hR1; clear hR1)
      | (refine ⟨(fun h => (by cases h)), (RoundIn.within l' HR1.out).mono ?_⟩; rintro e W3 ⟨hk3, b, rfl, hJ3, hJx3⟩)
      | fail)
    all_goals
      have hk4 : Kept X U W3 := (HK4.out _ hBW.out X).trans (hk3.sub fun k h => .inl h)
      have hb4 := hk3.boxed ((HK4.out _ hBW.out (fun _ => True)).boxed hb trivial) (.inr rfl)
      have HJ3 := Lib.hid hJ3
      have HJx3 := Lib.hid hJx3
      clear hJ3 hJx3
      cases b
      · gi_wp2
        exact ⟨hk4, rfl, _, HPx.out, HJx3.out (by simp)⟩
      · gi_wp2
        exact ⟨hk4, by rw [List.map_append]; exact HJ3.out (by simp), hb4, hx⟩
  case done =>
    rintro D X U hD hXD ⟨hj, hb, hx⟩ hK
    gi_wp2
    refine ⟨by simp, .inl ⟨_, _, rfl, run_takeDeferred hK, ?_⟩⟩
    exact ⟨_, results_none rfl _ _ _, ⟨_, rfl⟩, _, .inl (hJ _ _ _ _ _ hj (Turned.putObj _ _ _ (.inl hXD)) (fun k h => .inl h))⟩
  case stop =>
    rintro D X c pre U hD hXD hpre ⟨rfl, q, hq, hj⟩ hK
    gi_wp2
    refine ⟨by simp, .inl ⟨_, _, rfl, run_takeDeferred hK, ?_⟩⟩
    exact ⟨_, results_none rfl _ _ _, ⟨_, rfl⟩, _, .inr ⟨q, hq, hJx _ _ _ _ _ hj (Turned.putObj _ _ _ (.inl hXD)) (fun k h => .inl h)⟩⟩
  · rintro k (h | h)
    · exact h.elim
    · exact .inr ⟨by omega, by omega⟩
end Go.Proofs.YtbngoodjgijmgaaGreatDoor
