/-
  What Scan answers, for every text of at most 1000000 bytes.
-/
import Derived.RangeFuncNested
import Derived.RangeFuncBound
import Derived.RangeFuncCalls
import Derived.RangeFuncLeaves
import Derived.Shelf.Abstract
import Derived.Shelf.RegionOpen
import Derived.WalkKit
import Derived.OwnWalkIn
import Derived.TacticsInMore
import Derived.LoopNIn
import Derived.LoopIn
import Derived.WalkSpells
import Derived.Outline
import Derived.Lib.Hide
import Derived.Deep.QuietTactic
import Derived.BigQuiet
import Derived.Maps.AppendAt
import Derived.Maps.OwnIn
import Derived.Deep.QuietTactic
import Derived.BigQuiet
import Derived.Test.YtllkibdpjpdbbaaDoorLLists
import Derived.Test.YtllkibdpjpdbbaaDoorRowL
namespace Go.Proofs.YtllkibdpjpdbbaaDoor
open Go.RowKit Go.Shelf
attribute [local go_sem] Oper.semAt_some


theorem infoList : (Tryd.prog.info? 22).map (fun i => (i.zero, i.size, i.bytes)) = some (some (.slice none 0 0), 1, 24) := by kernel_rfl

/-- How far is scanned when the lists pre have come. -/
def endI (s : List UInt8) (pre : List (List (List UInt8) × List UInt8)) : Int := match pre.getLast? with
  | some x => (s.length : Int) - x.2.length
  | none => 0
theorem endI_snoc (s : List UInt8) (pre : List (List (List UInt8) × List UInt8)) (x : List (List UInt8) × List UInt8) : endI s (pre ++ [x]) = (s.length : Int) - x.2.length := by
  unfold endI; rw [List.getLast?_concat]

/-- The value reads as lists of texts, each in a fresh block of texts. -/
def FreshLL (W : World) (n : Nat) (X : Nat → Prop) (us : List Value) (pre : List (List (List UInt8) × List UInt8)) : Prop :=
  us.length = pre.length ∧ ∀ (i : Nat) (x : List (List UInt8) × List UInt8), pre[i]? = some x → ∃ u, us[i]? = some u ∧ FreshL W n X u x.1

def HoldsS (s : ByteArray) (n₀ : Nat) (w : World) (X : Nat → Prop) (pre : List (List (List UInt8) × List UInt8)) (W : World) : Prop :=
  (∃ v us, Boxed W (n₀ + 1) 30 v ∧ W.ownsRow n₀ 22 1 v pre.length us ∧ FreshLL W (n₀ + 4) X us pre ∧ ∀ r, v.ownBlock = some r → ¬ X r) ∧
  (Boxed W n₀ 9 (.string s) ∧ Boxed W (n₀ + 2) 3 (.int .i64 (endI s.data.toList pre))) ∧ (¬ X n₀ ∧ ¬ X (n₀ + 1) ∧ ¬ X (n₀ + 2)) ∧ Below n₀ w W ∧ (∀ k, X k → n₀ ≤ k ∧ k < W.heap.size)

theorem FreshLL.step {W W' : World} {n : Nat} {X X' Y : Nat → Prop} {us : List Value} {pre : List (List (List UInt8) × List UInt8)} (h : FreshLL W n X us pre) (hT : Turned Y W W') (hY : ∀ k, Y k → X k ∨ k < n ∨ W.heap.size ≤ k) (hX' : ∀ k, X' k → X k ∨ k < n ∨ W.heap.size ≤ k) : FreshLL W' n X' us pre := by
  refine ⟨h.1, fun i x hi => ?_⟩
  obtain ⟨u, h1, h2⟩ := h.2 i x hi
  exact ⟨u, h1, h2.step hT (Nat.le_refl _) hY hX'⟩

theorem holdsS_abides (s : ByteArray) (n₀ : Nat) (w : World) (hn : n₀ ≤ w.heap.size) : Abides' (HoldsS s n₀ w) := by
  rintro X X' pre A C ⟨⟨v, us, hv, hr, hf, hx⟩, ⟨hb1, hb2⟩, ⟨hX1, hX2, hX3⟩, hb, hX⟩ hT hsub
  have hs := hb.size
  refine ⟨⟨v, us, hT.boxed hv hX2, hT.ownsRow hr hx, hf.step hT (fun k h => .inl h) (fun k h => ?_), fun r e => x_not hsub (hx r e) (hr.lt r e).2⟩, ⟨hT.boxed hb1 hX1, hT.boxed hb2 hX3⟩, ⟨x_not hsub hX1 hb1.lt, x_not hsub hX2 hv.lt, x_not hsub hX3 hb2.lt⟩, hb.trans (hT.below (by omega) fun k h => (hX k h).1), x_step (by omega) hT.size hX hsub⟩
  rcases hsub k h with h | h
  · exact .inl h
  · exact .inr (.inr h.1)

/-- The value reads as lists of texts, out of blocks below B. -/
def ReadsLL (W : World) (B : Nat) (v : Value) (xss : List (List ByteArray)) : Prop :=
  ∃ o c, v = .slice o xss.length c ∧ ∀ i xs, xss[i]? = some xs → ∃ b f u, o = some ⟨b, f, none⟩ ∧ b < B ∧ xss.length ≤ c ∧ W.cell? ⟨b, f + i, none⟩ = some u ∧ ReadsO W B u xs
theorem ReadsLL.below {W W' : World} {B B' : Nat} {v : Value} {xss : List (List ByteArray)} (h : ReadsLL W B v xss) (hb : Below B W W') (hB : B ≤ B') : ReadsLL W' B' v xss := by
  obtain ⟨o, c, hv, hx⟩ := h
  refine ⟨o, c, hv, fun i xs hi => ?_⟩
  obtain ⟨b, f, u, h1, h2, h3, h4, h5⟩ := hx i xs hi
  exact ⟨b, f, u, h1, by omega, h3, (hb.cell (p := ⟨b, f + i, none⟩) h2).trans h4, h5.below hb hB⟩
theorem FreshL.readsO {W : World} {n : Nat} {X : Nat → Prop} {v : Value} {xs : List (List UInt8)} (h : FreshL W n X v xs) : ReadsO W W.heap.size v (xs.map txt) := by
  obtain ⟨o, c, hv, hx⟩ := h
  refine ⟨o, c, by rw [List.length_map]; exact hv, fun j t hj => ?_⟩
  rw [List.getElem?_map] at hj
  cases hq : xs[j]? with
  | none => rw [hq] at hj; cases hj
  | some y =>
    rw [hq] at hj
    cases hj
    obtain ⟨b, f, cs, fz, ho, _, _, hc, hb, hcs⟩ := hx j y hq
    exact ⟨b, f, ho, (Array.getElem?_eq_some_iff.1 hb).1, by rw [List.length_map]; exact hc, cell_at hb hcs⟩
theorem readsLL_owns {W : World} {base n : Nat} {X : Nat → Prop} {v : Value} {us : List Value} {pre : List (List (List UInt8) × List UInt8)} (hrow : W.ownsRow base 22 1 v pre.length us) (hf : FreshLL W n X us pre) : ReadsLL W W.heap.size v (pre.map fun x => x.1.map txt) := by
  rcases hrow.2 with ⟨hv, h0⟩ | ⟨g, cap, cur, hv, hb, hg, hk, hm, hs, ht⟩
  · have : pre = [] := List.eq_nil_of_length_eq_zero h0
    subst this
    exact ⟨none, 0, hv, by simp⟩
  · refine ⟨some ⟨g, 0, none⟩, cap, by rw [List.length_map]; exact hv, fun i xs hi => ?_⟩
    rw [List.getElem?_map] at hi
    cases hq : pre[i]? with
    | none => rw [hq] at hi; cases hi
    | some y =>
      rw [hq] at hi
      cases hi
      obtain ⟨u, h1, h2⟩ := hf.2 i y hq
      have hlt : i < pre.length := (List.getElem?_eq_some_iff.1 hq).1
      refine ⟨g, 0, u, rfl, (Array.getElem?_eq_some_iff.1 hg).1, by rw [List.length_map]; exact hk, ?_, h2.readsO⟩
      rw [← ht, List.getElem?_take_of_lt (by omega)] at h1
      exact cell_at hg (by rw [Nat.zero_add, ← Array.getElem?_toList]; exact h1)

def ScanPost (s : ByteArray) (w : World) (e : Ending) (w' : World) : Prop := Below w.heap.size w w' ∧
  ∃ v, e = .returned (.tuple #[v, .int .i64 (endI s.data.toList (scanOf s.data.toList))]) ∧ ReadsLL w' w'.heap.size v ((scanOf s.data.toList).map fun x => x.1.map txt)

theorem scan_rest : ∀ (n : Nat) (s : List UInt8), s.length ≤ n → ∀ x ∈ scanOf s, x.2.length ≤ s.length
  | n, s, hn => by
    intro x hx
    rcases take_kinds (takeOf s) with h | h | h | ⟨xs, r, h⟩
    · rw [scan_not (by intro xs r e; rw [h] at e; cases e)] at hx; cases hx
    · rw [scan_not (by intro xs r e; rw [h] at e; cases e)] at hx; cases hx
    · rw [scan_not (by intro xs r e; rw [h] at e; cases e)] at hx; cases hx
    · have h1 := take_less h
      rw [scan_ok h] at hx
      cases n with
      | zero => omega
      | succ n =>
        rcases List.mem_cons.1 hx with rfl | hx
        · show r.length ≤ _; omega
        · have := scan_rest n r (by omega) x hx; omega

set_option maxHeartbeats 400000 in
theorem lists_any (s : ByteArray) (w : World) : Calls Tryd.prog 34 #[.string s] w fun e w' =>
    e = .returned (.func (.func 48) #[] #[.pointer (some ⟨w.heap.size, 0, none⟩)]) ∧ w.alloc (.cells #[.string s] 9) = w' := by
  go_enter Tryd.func34, Tryd.ntmps34
  go_wp2
  go_ret
  exact ⟨rfl, rfl⟩

set_option maxRecDepth 100000 in
set_option maxHeartbeats 4000000 in
theorem scan_any (s : ByteArray) (hs : s.size ≤ 1000000) (w : World) : Calls Tryd.prog 16 #[.string s] w (ScanPost s w) := by
  obtain ⟨i0, hi, hz0, hz1, hz2⟩ := info_parts infoList
  have hsl := size_list s
  have hml : s.size ≤ maxLen := by unfold maxLen; omega
  have hlen := scan_len _ s.data.toList (Nat.le_refl _)
  rw [hsl] at hlen
  have hrest := scan_rest _ s.data.toList (Nat.le_refl _)
  rw [hsl] at hrest
  have HL := Lib.hid hlen
  have HR := Lib.hid hrest
  clear hlen hrest
  refine (callsIn_wide (n := 9)).1 ?_
  refine callsIn_of_wp_marks Tryd.func16 rfl trivial ?_ rfl
  simp only [Tryd.ntmps16, List.size_toArray, List.length_cons, List.length_nil, Nat.reduceAdd, Nat.reduceSub, Array.replicate_succ, Array.replicate_zero, List.push_toArray, List.append_toArray, List.nil_append, List.cons_append]
  gi_wp2
  refine ⟨trivial, (callsIn_wide.2 (lists_any _ _)).mono ?_⟩
  rintro e w' ⟨rfl, rfl⟩
  gi_wp2
  have hv1 := Boxed.new w 9 (.string s)
  have hv2 := Boxed.new (w.alloc (.cells #[.string s] 9)) 30 (.slice none 0 0)
  have hv3 := Boxed.new ((w.alloc (.cells #[.string s] 9)).alloc (.cells #[.slice none 0 0] 30)) 3 (.int .i64 0)
  have hv4 := Boxed.new (((w.alloc (.cells #[.string s] 9)).alloc (.cells #[.slice none 0 0] 30)).alloc (.cells #[.int .i64 0] 3)) 9 (.string s)
  simp only [World.size_alloc] at hv1 hv2 hv3 hv4
  have bV1 := ((hv1.alloc (.cells #[.slice none 0 0] 30)).alloc (.cells #[.int .i64 0] 3)).alloc (.cells #[.string s] 9)
  have bV2 := (hv2.alloc (.cells #[.int .i64 0] 3)).alloc (.cells #[.string s] 9)
  have bV3 := hv3.alloc (.cells #[.string s] 9)
  have hbV : Below w.heap.size w ((((w.alloc (.cells #[.string s] 9)).alloc (.cells #[.slice none 0 0] 30)).alloc (.cells #[.int .i64 0] 3)).alloc (.cells #[.string s] 9)) :=
    ((((Below.refl w.heap.size w).alloc (Nat.le_refl _) _).alloc (by simp) _).alloc (by simp; omega) _).alloc (by simp; omega) _
  have hVs : ((((w.alloc (.cells #[.string s] 9)).alloc (.cells #[.slice none 0 0] 30)).alloc (.cells #[.int .i64 0] 3)).alloc (.cells #[.string s] 9)).heap.size = w.heap.size + 4 := by simp
  clear hv1 hv2 hv3
  generalize ((((w.alloc (.cells #[.string s] 9)).alloc (.cells #[.slice none 0 0] 30)).alloc (.cells #[.int .i64 0] 3)).alloc (.cells #[.string s] 9)) = V at bV1 bV2 bV3 hv4 hbV hVs ⊢
  have hT := fun n => lists1_tells n s hml (w.heap.size + 1 + 1 + 1) V hv4
  clear hv4
  refine wpIn_range (gf := 48) rfl (enters_of Tryd.func48 (by kernel_rfl) rfl) (hT _) (Kept.refl _ _) ?_ listR_abides (fun _ _ _ _ _ h => by obtain ⟨v, h, _⟩ := h; rw [h]; rfl)
    (HoldsS s w.heap.size w) (fun _ _ _ _ => False) (holdsS_abides _ _ _ (Nat.le_refl _)) (fun _ _ _ _ _ _ h _ _ => h)
    ⟨⟨_, [], bV2, World.ownsRow_nil _ _ _ _, ⟨rfl, by simp⟩, by simp [Value.ownBlock]⟩, ⟨bV1, bV3⟩, ⟨by intro h; omega, by intro h; omega, by intro h; omega⟩, hbV, by rintro k h; omega⟩
    (fun vs => { tmps := #[.string s, .pointer (some ⟨w.heap.size, 0, none⟩), .slice none 0 0, .int .i64 0, .pointer (some ⟨w.heap.size + 1, 0, none⟩), .pointer (some ⟨w.heap.size + 1 + 1, 0, none⟩), vs.getD 0 undef, vs.getD 1 undef, .string s,
      .func (.func 48) #[] #[.pointer (some ⟨w.heap.size + 1 + 1 + 1, 0, none⟩)], vs.getD 0 undef, vs.getD 1 undef, undef, undef, undef, undef, undef, undef, undef, undef, undef, undef, undef], defers := [] }) ?assign ?body ?done ?stop
  case assign =>
    rintro l m X x vs U K ⟨v, rfl, hv⟩ hK
    gi_wp2
    exact hK
  case body =>
    rintro l' X pre x vs U ⟨⟨v, us, hv, hrow, hf, hvx⟩, ⟨hb1, hb2⟩, ⟨hX1, hX2, hX3⟩, hB, hX⟩ hpre ⟨u, rfl, hu⟩
    simp only [show (#[u, Value.string (txt x.2)]).getD 0 undef = u from rfl, show (#[u, Value.string (txt x.2)]).getD 1 undef = Value.string (txt x.2) from rfl]
    have hc1 := hb1.cell
    have hc2 := hv.cell
    have hc3 := hb2.cell
    have hf3 := hb2.frozen
    have hxr : (txt x.2).size ≤ s.size := by rw [txt_size]; exact HR.out x (hpre.subset (by simp))
    have hpl : pre.length + 1 ≤ 1000000 := by
      have := hpre.length_le
      have := HL.out
      simp at *; omega
    have hpm : pre.length + 1 ≤ maxLen := by unfold maxLen; omega
    have hsz := hB.size
    have hl1 := hb1.lt
    have hl2 := hv.lt
    have hl3 := hb2.lt
    obtain ⟨ou, cu, rfl, huc⟩ := hu
    have hu2 : FreshL U (w.heap.size + 4) X (.slice ou x.1.length cu) x.1 := by
      have : FreshL U (V.heap.size + 2) X (.slice ou x.1.length cu) x.1 := ⟨ou, cu, rfl, huc⟩
      exact this.step (Turned.refl X U) (by omega) (fun k h => .inl h) (fun k h => .inl h)
    clear huc
    have hEI : endI s.data.toList (pre ++ [x]) = (s.size : Int) - ((txt x.2).size : Int) := by rw [endI_snoc, hsl, txt_size]
    have HE := Lib.hid hEI
    clear hEI hpre
    generalize txt x.2 = y at hxr HE ⊢
    have hne1 : some w.heap.size ≠ v.ownBlock := hb1.not_row (by decide) hrow
    have hne3 : some (w.heap.size + 2) ≠ v.ownBlock := hb2.not_row (by decide) hrow
    gi_wp2_with (gi_at_builtin; refine wpListIn_append_own_at _ rfl _ _ 30 rfl w.heap.size 22 i0 (.slice none 0 0) 1 24 Tryd.underlying30 hi hz0 hz1 hz2 rfl (by decide) _ _ _ rfl (hrow.alloc _) ⟨U.heap.size, 0, none⟩ 1 1 [.slice ou x.1.length cu] rfl rfl (cell_one_new _ _ _) (by simp [Value.oneCell']) hpm (by omega) (by simp; omega) ?_; intro v' w2 hown' hgrow _ hat; obtain ⟨g', cap', rfl⟩ := ownsRow_succ hown'; obtain ⟨hw1, hw2, hr2, _, hb2'⟩ := hv.appended (by decide) hrow (by omega) (by omega) hown' hgrow; have hc4 := hw1.cell; have hf4 := hw1.frozen; have hk1 := (hb1.alloc (.cells #[.slice ou x.1.length cu] 22)).kept hgrow hne1; have hk3 := (hb2.alloc (.cells #[.slice ou x.1.length cu] 22)).kept hgrow hne3; have hc5 := hk1.cell; have hc6 := hk3.cell; have hf6 := hk3.frozen)
    have hat' : ∀ r, (Value.slice (some ⟨g', 0, none⟩) (pre.length + 1) cap').ownBlock = some r → ¬ X r := by
      intro r e hx
      rcases hat with h | h
      · exact hvx r (h ▸ e) hx
      · rw [h] at e; cases e; have := hX _ hx; rw [World.size_alloc] at this; omega
    have hg1 := hgrow.size
    rw [World.size_alloc] at hg1
    have hq3 := boxed_other hk3 (.slice (some ⟨g', 0, none⟩) (pre.length + 1) cap') (b := w.heap.size + 1) (by omega)
    have hq1 := boxed_other hk1 (.slice (some ⟨g', 0, none⟩) (pre.length + 1) cap') (b := w.heap.size + 1) (by omega)
    have hgr : ∀ r, (Value.slice (some ⟨g', 0, none⟩) (pre.length + 1) cap').ownBlock = some r → ¬ r = w.heap.size + 2 := by
      intro r e h
      exact hq3.not_row (by decide) hr2 (by rw [e, h])
    have step : ∀ (u : Value) (xs : List (List UInt8)), FreshL U (w.heap.size + 4) X u xs → FreshL ((w2.setCell ⟨w.heap.size + 1, 0, none⟩ (.slice (some ⟨g', 0, none⟩) (pre.length + 1) cap')).setCell ⟨w.heap.size + 1 + 1, 0, none⟩ (.int .i64 ((s.size : Int) - y.size))) (w.heap.size + 4) X u xs := by
      intro u xs h
      have h1 := h.step (Turned.alloc (fun _ => False) U (.cells #[.slice ou x.1.length cu] 22)) (Nat.le_refl _) (fun k h => h.elim) (fun k h => .inl h)
      have h2 := h1.grown (hrow.alloc _) (by decide) hgrow
      have h3 := h2.step (Turned.setCell (X := fun k => k = w.heap.size + 1) w2 ⟨w.heap.size + 1, 0, none⟩ (.slice (some ⟨g', 0, none⟩) (pre.length + 1) cap') rfl) (Nat.le_refl _) (fun k h => .inr (.inl (by omega))) (fun k h => .inl h)
      exact h3.step (Turned.setCell (X := fun k => k = w.heap.size + 1 + 1) _ ⟨w.heap.size + 1 + 1, 0, none⟩ (.int .i64 ((s.size : Int) - y.size)) rfl) (Nat.le_refl _) (fun k h => .inr (.inl (by omega))) (fun k h => .inl h)
    refine ⟨(((Kept.alloc X U _).trans (Kept.grown hgrow hvx)).trans (Kept.setCell _ _ _ hX2)).trans (Kept.setCell _ _ _ hX3), ⟨_, us ++ [.slice ou x.1.length cu], boxed_other hw2 _ (by omega), ?_, ⟨by rw [List.length_append, List.length_append, hf.1]; rfl, ?_⟩, hat'⟩, ⟨boxed_other hq1 _ (by omega), ?_⟩, ⟨hX1, hX2, hX3⟩, (hB.trans hb2').setCell (p := ⟨w.heap.size + 1 + 1, 0, none⟩) (by show w.heap.size ≤ w.heap.size + 1 + 1; omega) _, fun k h => ?_⟩
    · have := (Turned.setCell (X := fun k => k = w.heap.size + 2) _ ⟨w.heap.size + 1 + 1, 0, none⟩ (.int .i64 ((s.size : Int) - y.size)) rfl).ownsRow hr2 hgr
      simpa using this
    · intro i z hi
      rcases Nat.lt_or_ge i pre.length with h | h
      · rw [List.getElem?_append_left h] at hi
        obtain ⟨u, h1, h2⟩ := hf.2 i z hi
        refine ⟨u, ?_, step u z.1 h2⟩
        rw [List.getElem?_append_left (by rw [hf.1]; exact h)]; exact h1
      · rw [List.getElem?_append_right h] at hi
        have hi0 : i - pre.length = 0 := by
          have := (List.getElem?_eq_some_iff.1 hi).1
          simp at this; omega
        rw [hi0] at hi
        cases hi
        refine ⟨_, ?_, step _ _ hu2⟩
        rw [List.getElem?_append_right (by rw [hf.1]; exact h), hf.1, hi0]; rfl
    · rw [HE.out]; exact hq3.set _
    · have := hX k h; simp; omega
  case done =>
    rintro D X U hD hXD ⟨⟨v, us, hv, hrow, hf, hvx⟩, ⟨hb1, hb2⟩, ⟨hX1, hX2, hX3⟩, hB, hX⟩ hK
    have hc2 := hv.cell
    have hc3 := hb2.cell
    have hsz := hB.size
    gi_wp2
    refine wpIn_wide.2 ?_
    go_quiet (fail)
    gi_wp2
    refine ⟨by simp, .inl ⟨_, _, rfl, run_takeDeferred (show (U.drewN nq).heap[D]? = some (.deferred (some [])) from hK), ?_⟩⟩
    have hY : Turned X U ((U.drewN nq).putObj D (.deferred none)) := (Turned.drewN X U nq).trans (Turned.putObj _ D _ hXD)
    refine ⟨_, results_tmp2 rfl _ _ _, hB.trans (hY.below hsz fun k h => (hX k h).1), v, rfl, ?_⟩
    exact readsLL_owns (hY.ownsRow hrow hvx) (hf.step hY (fun k h => .inl h) (fun k h => .inl h))
  case stop =>
    rintro D X c pre U hD hXD hpre h hK
    exact h.elim
  · rintro k h; omega

end Go.Proofs.YtllkibdpjpdbbaaDoor
