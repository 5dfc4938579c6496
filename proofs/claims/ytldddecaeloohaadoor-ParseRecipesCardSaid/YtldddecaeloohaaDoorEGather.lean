/-
  text.gather answers what a function tells, in a new list: for whatever function that tells texts, as many as a slice may have.
-/
import Derived.Maps.AppendAt
import Derived.Maps.OwnIn
import Derived.Test.YtldddecaeloohaaDoorEBetween
namespace Go.Proofs.YtldddecaeloohaaDoor
open Go.RowKit Go.Shelf
attribute [local go_sem] Oper.semAt_some

set_option maxHeartbeats 400000 in
theorem between_any (s : ByteArray) (f : Nat) (w : World) : Calls Tryd.prog 39 #[.string s, .func (.func f) #[] #[]] w fun e w' =>
    e = .returned (.func (.func 52) #[] #[.pointer (some ⟨w.heap.size, 0, none⟩), .pointer (some ⟨w.heap.size + 1, 0, none⟩)]) ∧ (w.alloc (.cells #[.string s] 9)).alloc (.cells #[.func (.func f) #[] #[]] 70) = w' := by
  go_enter Tryd.func39, Tryd.ntmps39
  go_wp2
  go_ret
  exact ⟨rfl, rfl⟩

theorem infoString : (Tryd.prog.info? 9).map (fun i => (i.zero, i.size, i.bytes)) = some (some (.string ⟨#[]⟩), 1, 16) := by kernel_rfl

def Holds (B : Nat) (n₀ n₁ : Nat) (w : World) (X : Nat → Prop) (pre : List ByteArray) (W : World) : Prop :=
  (∃ v, Boxed W B 41 v ∧ W.ownsRow n₁ 9 1 v pre.length (pre.map Value.string) ∧ ∀ r, v.ownBlock = some r → ¬ X r) ∧ ¬ X B ∧ Below n₀ w W ∧ (∀ k, X k → n₀ ≤ k ∧ k < W.heap.size)

theorem holds_abides (B n₀ n₁ : Nat) (w : World) (hn : n₀ ≤ w.heap.size) : Abides' (Holds B n₀ n₁ w) := by
  rintro X X' pre A C ⟨⟨v, hv, hr, hx⟩, hB, hb, hX⟩ hT hsub
  have hs := hb.size
  refine ⟨⟨v, hT.boxed hv hB, hT.ownsRow hr hx, fun r e h => ?_⟩, fun h => ?_, hb.trans (hT.below (by omega) fun k h => (hX k h).1), fun k h => ?_⟩
  · rcases hsub r h with h | h
    · exact hx r e h
    · have := (hr.lt r e).2; omega
  · rcases hsub B h with h | h
    · exact hB h
    · have := hv.lt; omega
  · have := hT.size
    rcases hsub k h with h | h
    · have := hX k h; omega
    · omega

set_option maxRecDepth 100000 in
set_option maxHeartbeats 1000000 in
theorem gather_any (gf : Nat) (lb : Array Value) (hg : ∀ args w, (callFunc gf args).run Tryd.prog w = .ok (.enter gf args) w) (X0 : Nat → Prop) (xs : List ByteArray) (w : World) (n₀ : Nat) (hn : n₀ ≤ w.heap.size)
    (hseq : ∀ n, Tells n Tryd.prog gf lb (fun x : ByteArray => #[Value.string x]) X0 xs w) (hX0 : ∀ k, X0 k → n₀ ≤ k ∧ k < w.heap.size) (hlen : xs.length ≤ 8796093022208) :
    Calls Tryd.prog 38 #[.func (.func gf) #[] lb] w fun e W' => ∃ v, e = .returned v ∧ W'.ownsRow w.heap.size 9 1 v xs.length (xs.map Value.string) ∧ Below n₀ w W' := by
  obtain ⟨i0, hi, hz0, hz1, hz2⟩ := info_parts infoString
  refine (callsIn_wide (n := 9)).1 ?_
  refine callsIn_of_wp_marks Tryd.func38 rfl trivial ?_ rfl
  simp only [Tryd.ntmps38, List.size_toArray, List.length_cons, List.length_nil, Nat.reduceAdd, Nat.reduceSub, Array.replicate_succ, Array.replicate_zero, List.push_toArray, List.append_toArray, List.nil_append, List.cons_append]
  gi_wp2
  have bO := Boxed.new w 41 (.slice none 0 0)
  have hB0 : Below n₀ w (w.alloc (.cells #[.slice none 0 0] 41)) := (Below.refl _ w).alloc hn _
  refine wpIn_range (gf := gf) rfl hg (hseq _) (Kept.alloc _ _ _) (fun k h => by have := hX0 k h; simp; omega) (fun _ => rfl)
    (Holds w.heap.size n₀ w.heap.size w) (fun _ _ _ _ => False) (holds_abides _ _ _ _ hn) (fun _ _ _ _ _ _ h _ _ => h)
    ⟨⟨_, bO, World.ownsRow_nil _ _ _ _, by simp [Value.ownBlock]⟩, fun h => by have := hX0 _ h; omega, hB0, fun k h => by have := hX0 k h; simp; omega⟩
    (fun x => { tmps := #[.func (.func gf) #[] lb, undef, .slice none 0 0, .pointer (some ⟨w.heap.size, 0, none⟩), .string x, .func (.func gf) #[] lb, .string x, undef, undef, undef, undef, undef], defers := [] }) ?assign ?body ?done ?stop
  case assign =>
    intro l x U K hK
    gi_wp2
    exact hK
  case body =>
    rintro l X pre x W ⟨⟨v, hv, hrow, hvx⟩, hXB, hB, hX⟩ hpre
    have hc := hv.cell
    have hpl : pre.length + 1 ≤ 8796093022208 := by have := hpre.length_le; simp at this; omega
    have hml : pre.length + 1 ≤ maxLen := by unfold maxLen; omega
    have hlt := hv.lt
    gi_wp2_with (gi_at_builtin; refine wpListIn_append_own_at _ rfl _ _ 41 rfl w.heap.size 9 i0 (.string ⟨#[]⟩) 1 16 Tryd.underlying41 hi hz0 hz1 hz2 rfl (by decide) _ _ _ rfl (hrow.alloc _) ⟨W.heap.size, 0, none⟩ 1 1 [.string x] rfl rfl (cell_one_new _ _ _) (by simp [Value.oneCell']) hml (by omega) (by have := hB.size; simp; omega) ?_; intro v' w1 hown' hgrow _ hat; obtain ⟨g', cap', rfl⟩ := ownsRow_succ hown'; obtain ⟨hv1, hv2, hr2, _, hb2⟩ := hv.appended (by decide) hrow hB.size (Nat.le_refl _) hown' hgrow; have hc1 := hv1.cell; have hf1 := hv1.frozen)
    have hg1 := hgrow.size
    rw [World.size_alloc] at hg1
    have hat' : ∀ r, (Value.slice (some ⟨g', 0, none⟩) (pre.length + 1) cap').ownBlock = some r → ¬ X r := by
      intro r e hx
      rcases hat with h | h
      · exact hvx r (h ▸ e) hx
      · rw [h] at e; cases e; have := hX _ hx; rw [World.size_alloc] at this; omega
    refine ⟨((Kept.alloc X W _).trans (Kept.grown hgrow hvx)).trans (Kept.setCell _ _ _ hXB), ⟨_, hv2, ?_, hat'⟩, hXB, hB.trans (hb2.mono hn), fun k h => ?_⟩
    · simpa using hr2
    · have := hX k h; simp; omega
  case done =>
    rintro D X U hD hXD ⟨⟨v, hv, hrow, hvx⟩, hXB, hB, hX⟩ hK
    have hc := hv.cell
    gi_wp2
    refine ⟨by simp, .inl ⟨_, _, rfl, run_takeDeferred hK, ?_⟩⟩
    exact ⟨_, results_tmp rfl _ _ _, v, rfl, ownsRow_putObj hrow _ hK rfl, hB.trans ((Turned.putObj _ _ _ hXD).below (by have := hB.size; omega) fun k h => (hX k h).1)⟩
  case stop =>
    rintro D X c pre U hD hXD hpre h hK
    exact h.elim

end Go.Proofs.YtldddecaeloohaaDoor
