/-
  What unquoteAll answers: the texts of a body, or nothing and the error. For every text of at most 13000 bytes.
-/
import Derived.RangeFuncNested
import Derived.RangeFuncBound
import Derived.RangeFuncCalls
import Derived.RangeFuncLeaves
import Derived.Shelf.Abstract
import Derived.Shelf.RegionOpen
import Derived.WalkKit
import Derived.OwnWalkIn
import Derived.TacticsInMore
import Derived.LoopNIn
import Derived.LoopIn
import Derived.WalkSpells
import Derived.Outline
import Derived.Lib.Hide
import Derived.Deep.QuietTactic
import Derived.BigQuiet
import Derived.Maps.AppendAt
import Derived.Maps.OwnIn
import Derived.Test.YtllkibdpjpdbbaaDoorLSplit
import Derived.Test.YtllkibdpjpdbbaaDoorLUnquote
namespace Go.Proofs.YtllkibdpjpdbbaaDoor
open Go.RowKit Go.Shelf
attribute [local go_sem] Oper.semAt_some


theorem turned_of_below {X : Nat → Prop} {W W' : World} (h : Below W.heap.size W W') : Turned X W W' := ⟨h.os, h.tape, h.output, h.size, fun k hk _ => h.block k hk⟩
theorem kept_of_below {X : Nat → Prop} {W W' : World} (h : Below W.heap.size W W') : Kept X W W' := ⟨h.size, fun k _ hk => h.block k hk⟩

theorem mapM_none {ws : List (List UInt8)} {x : List UInt8} (hx : x ∈ ws) (h : unqO x = none) : ws.mapM unqO = none := by
  induction ws with
  | nil => cases hx
  | cons w r ih =>
    rw [List.mapM_cons]
    rcases List.mem_cons.1 hx with rfl | hx
    · rw [h]; rfl
    · rw [ih hx]
      cases unqO w <;> rfl
/-- The texts of a body that ends with a blank. -/
theorem form_end (q : List UInt8) : formOf (q ++ [32]) = if (pieces sp32 q).length ≤ 40 then (pieces sp32 q).mapM unqO else none := by
  have e : pieces sp32 (q ++ [32]) = pieces sp32 q ++ [[]] := pieces_sep sp32 q 32 [] (by decide)
  have hn : 1 ≤ (pieces sp32 q).length := List.length_pos_iff.2 (pieces_ne _ _)
  unfold formOf
  rw [e, List.dropLast_concat]
  by_cases h : (pieces sp32 q).length ≤ 40
  · rw [if_pos h, if_pos ⟨by simp, by simp; omega, by simp; omega⟩]
  · rw [if_neg h, if_neg (by intro ⟨_, _, h3⟩; simp at h3; omega)]
theorem form_noend {b : List UInt8} (h : b.getLast? ≠ some 32) : formOf b = none := by
  cases hf : formOf b with
  | none => rfl
  | some xs =>
    obtain ⟨h1, h2, _⟩ := form_some hf
    exfalso
    apply h
    rw [h1]
    rcases List.eq_nil_or_concat xs with e | ⟨i, a, e⟩
    · rw [e] at h2; simp at h2
    · rw [List.concat_eq_append] at e
      rw [e, body_snoc, List.getLast?_concat]
theorem suffix_sp (l : List UInt8) : Lib.hasSuffix l [32] = true ↔ l.getLast? = some 32 := by
  unfold Lib.hasSuffix
  rw [List.isSuffixOf_iff_suffix]
  constructor
  · rintro ⟨t, rfl⟩; simp
  · intro h
    obtain ⟨ys, hy⟩ := List.getLast?_eq_some_iff.1 h
    exact ⟨ys, hy.symm⟩

theorem unq_yes {l t : List UInt8} {e : Ending} (h : UnqIs l e) (ht : unqO l = some t) : e = .returned (.tuple #[.string (txt t), .int .i64 0]) := h.1 t (unq_some ht)
theorem unq_not {l : List UInt8} {e : Ending} (h : UnqIs l e) (ht : unqO l = none) : e = .returned (.tuple #[.string (txt []), .int .i64 2]) := h.2 (unq_none ht)

theorem ownsRow_shape {W : World} {base : Nat} {e : TypeId} {size : Nat} {v : Value} {n : Nat} {xs : List Value} (h : W.ownsRow base e size v n xs) : ∃ o c, v = .slice o n c := by
  rcases h.2 with ⟨hv, h0⟩ | ⟨g, cap, cur, hv, _⟩
  · exact ⟨none, 0, by rw [hv, h0]⟩
  · exact ⟨_, _, hv⟩
theorem map_txt_inj : ∀ {a b : List (List UInt8)}, a.map txt = b.map txt → a = b
  | [], [], _ => rfl
  | [], _ :: _, h => by simp at h
  | _ :: _, [], h => by simp at h
  | x :: a, y :: b, h => by
    simp only [List.map_cons, List.cons.injEq] at h
    rw [txt_inj h.1, map_txt_inj h.2]
theorem infoString : (Tryd.prog.info? 9).map (fun i => (i.zero, i.size, i.bytes)) = some (some (.string ⟨#[]⟩), 1, 16) := by kernel_rfl

/-- What unquoteAll answers. -/
def AllPost (b : List UInt8) (w : World) (e : Ending) (w' : World) : Prop := Below w.heap.size w w' ∧
  ((formOf b = none ∧ e = .returned (.tuple #[.slice none 0 0, .int .i64 2])) ∨ ∃ xs v, formOf b = some xs ∧ e = .returned (.tuple #[v, .int .i64 0]) ∧ w'.ownsRow w.heap.size 9 1 v xs.length ((xs.map txt).map Value.string))

set_option maxHeartbeats 400000 in
theorem splitSeq_any (s : ByteArray) (w : World) : Calls Tryd.prog 45 #[.string s, .string ⟨#[32]⟩] w fun e w' =>
    e = .returned (.func (.func 77) #[] #[.pointer (some ⟨w.heap.size + 1, 0, none⟩), .pointer (some ⟨w.heap.size, 0, none⟩), .pointer (some ⟨w.heap.size + 1 + 1, 0, none⟩)]) ∧
    ((w.alloc (.cells #[.string s] 9)).alloc (.cells #[.string ⟨#[32]⟩] 9)).alloc (.cells #[.int .i64 0] 3) = w' := by
  go_enter Tryd.func45, Tryd.ntmps45
  go_wp2
  go_ret
  exact ⟨rfl, rfl⟩

/-- Between two rounds: what has been told was quoted, and its texts lie in the list. -/
def HoldsU (B : Nat) (n₀ n₁ : Nat) (w : World) (X : Nat → Prop) (pre : List ByteArray) (W : World) : Prop :=
  (∃ xs : List (List UInt8), pre = xs.map (fun x => txt (quoteOf x)) ∧ xs.length ≤ 40 ∧ ∃ v, Boxed W B 22 v ∧ W.ownsRow n₁ 9 1 v xs.length ((xs.map txt).map Value.string) ∧ ∀ r, v.ownBlock = some r → ¬ X r) ∧
  (Boxed W n₀ 22 (.slice none 0 0) ∧ Boxed W (n₀ + 1) 25 (.int .i64 0)) ∧ (¬ X B ∧ ¬ X n₀ ∧ ¬ X (n₀ + 1)) ∧ Below n₀ w W ∧ (∀ k, X k → n₀ ≤ k ∧ k < W.heap.size)
def LeftU (b : List UInt8) (n₀ : Nat) (w : World) (c : Code) (X : Nat → Prop) (_ : List ByteArray) (W : World) : Prop :=
  c = .ret ∧ formOf b = none ∧ (Boxed W n₀ 22 (.slice none 0 0) ∧ Boxed W (n₀ + 1) 25 (.int .i64 2)) ∧ (¬ X n₀ ∧ ¬ X (n₀ + 1)) ∧ Below n₀ w W ∧ (∀ k, X k → n₀ ≤ k ∧ k < W.heap.size)

theorem x_step {X X' : Nat → Prop} {A C : World} {n₀ : Nat} (hn : n₀ ≤ A.heap.size) (hs : A.heap.size ≤ C.heap.size) (hX : ∀ k, X k → n₀ ≤ k ∧ k < A.heap.size) (hsub : ∀ k, X' k → X k ∨ (A.heap.size ≤ k ∧ k < C.heap.size)) : ∀ k, X' k → n₀ ≤ k ∧ k < C.heap.size := by
  intro k h
  rcases hsub k h with h | h
  · have := hX k h; omega
  · omega
theorem x_not {X X' : Nat → Prop} {A C : World} (hsub : ∀ k, X' k → X k ∨ (A.heap.size ≤ k ∧ k < C.heap.size)) {B : Nat} (hB : ¬ X B) (hlt : B < A.heap.size) : ¬ X' B := by
  intro h
  rcases hsub B h with h | h
  · exact hB h
  · omega

theorem holdsU_abides (B n₀ n₁ : Nat) (w : World) (hn : n₀ ≤ w.heap.size) : Abides' (HoldsU B n₀ n₁ w) := by
  rintro X X' pre A C ⟨⟨xs, hp, h40, v, hv, hr, hx⟩, ⟨hb1, hb2⟩, ⟨hB, hB1, hB2⟩, hb, hX⟩ hT hsub
  have hs := hb.size
  refine ⟨⟨xs, hp, h40, v, hT.boxed hv hB, hT.ownsRow hr hx, fun r e => x_not hsub (hx r e) (hr.lt r e).2⟩, ⟨hT.boxed hb1 hB1, hT.boxed hb2 hB2⟩, ⟨x_not hsub hB hv.lt, x_not hsub hB1 hb1.lt, x_not hsub hB2 hb2.lt⟩, hb.trans (hT.below (by omega) fun k h => (hX k h).1), x_step (by omega) hT.size hX hsub⟩
theorem leftU_abides (b : List UInt8) (n₀ : Nat) (w : World) (hn : n₀ ≤ w.heap.size) (c : Code) : Abides' (LeftU b n₀ w c) := by
  rintro X X' pre A C ⟨hc, hf, ⟨hb1, hb2⟩, ⟨hB1, hB2⟩, hb, hX⟩ hT hsub
  have hs := hb.size
  exact ⟨hc, hf, ⟨hT.boxed hb1 hB1, hT.boxed hb2 hB2⟩, ⟨x_not hsub hB1 hb1.lt, x_not hsub hB2 hb2.lt⟩, hb.trans (hT.below (by omega) fun k h => (hX k h).1), x_step (by omega) hT.size hX hsub⟩

set_option maxRecDepth 100000 in
set_option maxHeartbeats 1000000 in
theorem unquoteAll_no (s : ByteArray) (hs : s.size ≤ maxLen) (h : s.data.toList.getLast? ≠ some 32) (w : World) : Calls Tryd.prog 31 #[.string s] w (AllPost s.data.toList w) := by
  have hf := form_noend h
  have hx : Lib.hasSuffix s.data.toList [32] = false := by
    cases hx : Lib.hasSuffix s.data.toList [32] with
    | false => rfl
    | true => exact absurd ((suffix_sp _).1 hx) h
  have HC := Lib.hid (cuts_f (s := s) (p := ⟨#[32]⟩) hs hx)
  have HF := Lib.hid hf
  clear hf hx h hs
  go_enter Tryd.func31, Tryd.ntmps31
  go_wp2_with fail
  refine (HC.out _).mono ?_
  rintro e w' ⟨rfl, rfl⟩
  go_wp2_with fail
  refine bodyPost_ret (v := .tuple #[.slice none 0 0, .int .i64 2]) ?_ rfl ⟨?_, .inl ⟨HF.out, rfl⟩⟩
  · simp [results, Tryd.results31, go_sem]
  · exact ((Below.refl _ _).alloc (Nat.le_refl _) _).alloc (by simp) _

set_option maxRecDepth 100000 in
set_option maxHeartbeats 4000000 in
theorem unquoteAll_yes (s : ByteArray) (hs : s.size ≤ 13000) (h : s.data.toList.getLast? = some 32) (w : World) : Calls Tryd.prog 31 #[.string s] w (AllPost s.data.toList w) := by
  obtain ⟨i0, hi, hz0, hz1, hz2⟩ := info_parts infoString
  have hx := (suffix_sp _).2 h
  have hC := cuts_t (s := s) (p := ⟨#[32]⟩) (by unfold maxLen; omega) hx
  have hq : s.data.toList = s.data.toList.take (s.data.toList.length - 1) ++ [32] := by
    obtain ⟨ys, hy⟩ := List.getLast?_eq_some_iff.1 h
    rw [hy]; simp
  rw [show (ByteArray.mk #[32]).data.toList.length = 1 from rfl] at hC
  obtain ⟨q, hqd⟩ : ∃ q, q = s.data.toList.take (s.data.toList.length - 1) := ⟨_, rfl⟩
  rw [← hqd] at hC hq
  have hqs : q.length ≤ 13000 := by
    have := congrArg List.length hq
    rw [size_list, List.length_append] at this
    simp at this; omega
  have hF := form_end q
  rw [← hq] at hF
  have hlen : ∀ x ∈ pieces sp32 q, x.length ≤ 13000 := by
    intro x hx
    have : ∀ (l : List UInt8), ∀ x ∈ pieces sp32 l, x.length ≤ l.length := by
      intro l
      induction l with
      | nil => intro x hx; simp [pieces] at hx; subst hx; simp
      | cons c r ih =>
        intro x hx
        simp only [pieces] at hx
        split at hx
        · rcases List.mem_cons.1 hx with rfl | hx
          · simp
          · have := ih x hx; simp; omega
        · split at hx
          · rename_i a t hp
            rcases List.mem_cons.1 hx with rfl | hx
            · have := ih a (by rw [hp]; simp); simp; omega
            · have := ih x (by rw [hp]; simp [hx]); simp; omega
          · simp at hx; subst hx; simp
    have := this q x hx; omega
  have HC := Lib.hid hC
  have HF := Lib.hid hF
  have HL := Lib.hid hlen
  clear hC hq hqd hx hF hlen h hs
  refine (callsIn_wide (n := 9)).1 ?_
  refine callsIn_of_wp_marks Tryd.func31 rfl trivial ?_ rfl
  simp only [Tryd.ntmps31, List.size_toArray, List.length_cons, List.length_nil, Nat.reduceAdd, Nat.reduceSub, Array.replicate_succ, Array.replicate_zero, List.push_toArray, List.append_toArray, List.nil_append, List.cons_append]
  gi_wp2
  refine ⟨trivial, (callsIn_wide.2 (HC.out _)).mono ?_⟩
  rintro e w' ⟨rfl, rfl⟩
  gi_wp2
  refine ⟨trivial, (callsIn_wide.2 (splitSeq_any _ _)).mono ?_⟩
  rintro e w' ⟨rfl, rfl⟩
  gi_wp2
  have hv1 := Boxed.new w 22 (.slice none 0 0)
  have hv2 := Boxed.new (w.alloc (.cells #[.slice none 0 0] 22)) 25 (.int .i64 0)
  have hv3 := Boxed.new ((w.alloc (.cells #[.slice none 0 0] 22)).alloc (.cells #[.int .i64 0] 25)) 22 (.slice none 0 0)
  have hv4 := Boxed.new (((w.alloc (.cells #[.slice none 0 0] 22)).alloc (.cells #[.int .i64 0] 25)).alloc (.cells #[.slice none 0 0] 22)) 9 (.string (txt q))
  have hv5 := Boxed.new ((((w.alloc (.cells #[.slice none 0 0] 22)).alloc (.cells #[.int .i64 0] 25)).alloc (.cells #[.slice none 0 0] 22)).alloc (.cells #[.string (txt q)] 9)) 9 (.string ⟨#[32]⟩)
  have hv6 := Boxed.new (((((w.alloc (.cells #[.slice none 0 0] 22)).alloc (.cells #[.int .i64 0] 25)).alloc (.cells #[.slice none 0 0] 22)).alloc (.cells #[.string (txt q)] 9)).alloc (.cells #[.string ⟨#[32]⟩] 9)) 3 (.int .i64 0)
  simp only [World.size_alloc] at hv1 hv2 hv3 hv4 hv5 hv6
  have bV1 := ((((hv1.alloc (.cells #[.int .i64 0] 25)).alloc (.cells #[.slice none 0 0] 22)).alloc (.cells #[.string (txt q)] 9)).alloc (.cells #[.string ⟨#[32]⟩] 9)).alloc (.cells #[.int .i64 0] 3)
  have bV2 := (((hv2.alloc (.cells #[.slice none 0 0] 22)).alloc (.cells #[.string (txt q)] 9)).alloc (.cells #[.string ⟨#[32]⟩] 9)).alloc (.cells #[.int .i64 0] 3)
  have bV3 := ((hv3.alloc (.cells #[.string (txt q)] 9)).alloc (.cells #[.string ⟨#[32]⟩] 9)).alloc (.cells #[.int .i64 0] 3)
  have bV4 := (hv4.alloc (.cells #[.string ⟨#[32]⟩] 9)).alloc (.cells #[.int .i64 0] 3)
  have bV5 := hv5.alloc (.cells #[.int .i64 0] 3)
  have hbV : Below w.heap.size w ((((((w.alloc (.cells #[.slice none 0 0] 22)).alloc (.cells #[.int .i64 0] 25)).alloc (.cells #[.slice none 0 0] 22)).alloc (.cells #[.string (txt q)] 9)).alloc (.cells #[.string ⟨#[32]⟩] 9)).alloc (.cells #[.int .i64 0] 3)) :=
    ((((((Below.refl w.heap.size w).alloc (Nat.le_refl _) _).alloc (by simp) _).alloc (by simp; omega) _).alloc (by simp; omega) _).alloc (by simp; omega) _).alloc (by simp; omega) _
  have hVs : ((((((w.alloc (.cells #[.slice none 0 0] 22)).alloc (.cells #[.int .i64 0] 25)).alloc (.cells #[.slice none 0 0] 22)).alloc (.cells #[.string (txt q)] 9)).alloc (.cells #[.string ⟨#[32]⟩] 9)).alloc (.cells #[.int .i64 0] 3)).heap.size = w.heap.size + 6 := by simp
  clear hv1 hv2 hv3 hv4 hv5
  generalize ((((((w.alloc (.cells #[.slice none 0 0] 22)).alloc (.cells #[.int .i64 0] 25)).alloc (.cells #[.slice none 0 0] 22)).alloc (.cells #[.string (txt q)] 9)).alloc (.cells #[.string ⟨#[32]⟩] 9)).alloc (.cells #[.int .i64 0] 3)) = V at bV1 bV2 bV3 bV4 bV5 hv6 hbV hVs ⊢
  have hT := fun n => split1_tells n (txt q) (by rw [txt_size]; unfold maxLen; omega) (w.heap.size + 1 + 1 + 1 + 1) (w.heap.size + 1 + 1 + 1) (w.heap.size + 1 + 1 + 1 + 1 + 1) (by omega) (by omega) V bV5 bV4 hv6
  rw [txt_data] at hT
  clear bV4 bV5 hv6
  refine wpIn_range (gf := 77) rfl (enters_of Tryd.func77 (by kernel_rfl) rfl) (hT _) (Kept.refl _ _) ?_ textR_abides (fun _ _ _ _ _ h => by rw [h]; rfl)
    (HoldsU (w.heap.size + 1 + 1) w.heap.size w.heap.size w) (LeftU s.data.toList w.heap.size w) (holdsU_abides _ _ _ _ (Nat.le_refl _)) (leftU_abides _ _ _ (Nat.le_refl _))
    ⟨⟨[], rfl, Nat.zero_le _, _, bV3, World.ownsRow_nil _ _ _ _, by simp [Value.ownBlock]⟩, ⟨bV1, bV2⟩, ⟨by rintro (h | h | h) <;> omega, by rintro (h | h | h) <;> omega, by rintro (h | h | h) <;> omega⟩, hbV, by rintro k (h | h | h) <;> omega⟩
    (fun vs => { tmps := #[.string s, undef, .pointer (some ⟨w.heap.size, 0, none⟩), .pointer (some ⟨w.heap.size + 1, 0, none⟩), .string (txt q), .bool true, .pointer (some ⟨w.heap.size + 1 + 1, 0, none⟩), vs.getD 0 undef, undef, undef,
      .tuple #[.string (txt q), .bool true], .string s, .tuple #[.string (txt q), .bool true], .string (txt q), .bool true, .bool true, .bool false, .string (txt q),
      .func (.func 77) #[] #[.pointer (some ⟨w.heap.size + 1 + 1 + 1 + 1, 0, none⟩), .pointer (some ⟨w.heap.size + 1 + 1 + 1, 0, none⟩), .pointer (some ⟨w.heap.size + 1 + 1 + 1 + 1 + 1, 0, none⟩)],
      vs.getD 0 undef, undef, undef, undef, undef, undef, undef, undef, undef, undef, undef, undef, undef, undef, undef, undef, undef, undef], defers := [] }) ?assign ?body ?done ?stop
  case assign =>
    intro l m X x vs U K hR hK
    obtain rfl : vs = #[.string x] := hR
    gi_wp2
    exact hK
  case body =>
    rintro l' X pre x vs U ⟨⟨xs, hp, h40, v, hv, hrow, hvx⟩, ⟨hb1, hb2⟩, ⟨hXB, hX1, hX2⟩, hB, hX⟩ hpre hR
    obtain rfl : vs = #[.string x] := hR
    simp only [show (#[Value.string x]).getD 0 undef = Value.string x from rfl]
    obtain ⟨pc, hpc, hpx⟩ : ∃ pc, pc ∈ pieces sp32 q ∧ x = txt pc := by
      have hm : x ∈ (pieces sp32 q).map txt := hpre.subset (by simp)
      obtain ⟨pc, h1, h2⟩ := List.mem_map.1 hm
      exact ⟨pc, h1, h2.symm⟩
    have hxd : x.data.toList = pc := by rw [hpx, txt_data]
    have hxz : x.size ≤ 13000 := by rw [hpx, txt_size]; exact HL.out pc hpc
    have hUq := unquote_any x (by omega)
    unfold UnqPost at hUq
    rw [hxd] at hUq
    have hn0 := hB.size
    have hl1 := hb1.lt
    have hl2 := hb2.lt
    have hl3 := hv.lt
    obtain ⟨vo, vc, rfl⟩ := ownsRow_shape hrow
    cases hu : unqO pc with
    | none =>
      have HQ : Hid (∀ w, Calls Tryd.prog 46 #[.string x] w fun e w' => e = .returned (.tuple #[.string (txt []), .int .i64 2]) ∧ Below w.heap.size w w') := fun w => (hUq w).mono fun e w' h => ⟨unq_not h.1 hu, h.2⟩
      have HN : Hid (formOf s.data.toList = none) := by
        show _ = _
        rw [HF.out]
        split
        · exact mapM_none hpc hu
        · rfl
      clear hUq hpc hpx hxd hu
      gi_wp2
      refine ⟨trivial, (CallsIn.inRound l' (callsIn_wide.2 (HQ.out _))).mono ?_⟩
      rintro e w1 ⟨rfl, hbq⟩
      have hq1 := (turned_of_below (X := X) hbq).boxed hb1 hX1
      have hq2 := (turned_of_below (X := X) hbq).boxed hb2 hX2
      have hc1 := hq1.cell
      have hf1 := hq1.frozen
      have hc2 := hq2.cell
      have hf2 := hq2.frozen
      have hzq := hbq.size
      gi_wp2
      refine ⟨((kept_of_below hbq).trans (Kept.setCell _ _ _ hX1)).trans (Kept.setCell _ _ _ hX2), rfl, HN.out, ⟨boxed_other (hq1.set _) _ (by omega), (boxed_other hq2 _ (by omega)).set _⟩, ⟨hX1, hX2⟩, ((hB.trans (hbq.mono hn0)).setCell (p := ⟨w.heap.size, 0, none⟩) (Nat.le_refl _) _).setCell (p := ⟨w.heap.size + 1, 0, none⟩) (by show w.heap.size ≤ w.heap.size + 1; omega) _, fun k h => ?_⟩
      have := hX k h; simp; omega
    | some t =>
      have HQ : Hid (∀ w, Calls Tryd.prog 46 #[.string x] w fun e w' => e = .returned (.tuple #[.string (txt t), .int .i64 0]) ∧ Below w.heap.size w w') := fun w => (hUq w).mono fun e w' h => ⟨unq_yes h.1 hu, h.2⟩
      by_cases h4 : xs.length = 40
      · have HN : Hid (formOf s.data.toList = none) := by
          show _ = _
          rw [HF.out, if_neg]
          have := hpre.length_le
          rw [hp, List.length_append, List.length_map, List.length_map] at this
          simp at this; omega
        clear hUq hpc hpx hxd hu
        have e4 : ((xs.length : Int) == 40) = true := by rw [h4]; rfl
        gi_wp2
        refine ⟨trivial, (CallsIn.inRound l' (callsIn_wide.2 (HQ.out _))).mono ?_⟩
        rintro e w1 ⟨rfl, hbq⟩
        have hq1 := (turned_of_below (X := X) hbq).boxed hb1 hX1
        have hq2 := (turned_of_below (X := X) hbq).boxed hb2 hX2
        have hq3 := (turned_of_below (X := X) hbq).boxed hv hXB
        have hc1 := hq1.cell
        have hf1 := hq1.frozen
        have hc2 := hq2.cell
        have hf2 := hq2.frozen
        have hc3 := hq3.cell
        have hzq := hbq.size
        gi_wp2
        refine ⟨((kept_of_below hbq).trans (Kept.setCell _ _ _ hX1)).trans (Kept.setCell _ _ _ hX2), rfl, HN.out, ⟨boxed_other (hq1.set _) _ (by omega), (boxed_other hq2 _ (by omega)).set _⟩, ⟨hX1, hX2⟩, ((hB.trans (hbq.mono hn0)).setCell (p := ⟨w.heap.size, 0, none⟩) (Nat.le_refl _) _).setCell (p := ⟨w.heap.size + 1, 0, none⟩) (by show w.heap.size ≤ w.heap.size + 1; omega) _, fun k h => ?_⟩
        have := hX k h; simp; omega
      · have hpre2 : pre ++ [x] = (xs ++ [t]).map (fun x => txt (quoteOf x)) := by
          rw [hp, hpx, List.map_append, List.map_cons, List.map_nil, unq_some hu]
        have HPR := Lib.hid hpre2
        clear hpre2 hUq hpx
        gi_wp2
        refine ⟨trivial, (CallsIn.inRound l' (callsIn_wide.2 (HQ.out _))).mono ?_⟩
        rintro e w1 ⟨rfl, hbq⟩
        have hq1 := (turned_of_below (X := X) hbq).boxed hb1 hX1
        have hq2 := (turned_of_below (X := X) hbq).boxed hb2 hX2
        have hq3 := (turned_of_below (X := X) hbq).boxed hv hXB
        have hc3 := hq3.cell
        have hzq := hbq.size
        have e4 : ((xs.length : Int) == 40) = false := by rw [beq_eq_false_iff_ne]; omega
        have hr3 := (turned_of_below (X := X) hbq).ownsRow hrow hvx
        have hBq := hB.trans (hbq.mono hn0)
        have hml : xs.length + 1 ≤ maxLen := by unfold maxLen; omega
        clear hp hpre hpc hxd hu
        gi_wp2_with (gi_at_builtin; go_loud (refine wpListIn_append_own_at _ rfl _ _ 22 rfl w.heap.size 9 i0 (.string ⟨#[]⟩) 1 16 Tryd.underlying22 hi hz0 hz1 hz2 rfl (by decide) _ _ _ rfl (hr3.alloc _) ⟨w1.heap.size, 0, none⟩ 1 1 [.string (txt t)] rfl rfl (cell_one_new _ _ _) (by simp [Value.oneCell']) hml (by omega) (by simp; omega) ?_); go_loud (intro v' w2 hown' hgrow _ hat; obtain ⟨g', cap', rfl⟩ := ownsRow_succ hown'; obtain ⟨hv1, hv2, hr2, _, hb2'⟩ := hq3.appended (by decide) hr3 (by omega) (by omega) hown' hgrow; have hc4 := hv1.cell; have hf4 := hv1.frozen))
        have hg1 := hgrow.size
        rw [World.size_alloc] at hg1
        have hat' : ∀ r, (Value.slice (some ⟨g', 0, none⟩) (xs.length + 1) cap').ownBlock = some r → ¬ X r := by
          intro r e hx
          rcases hat with h | h
          · exact hvx r (h ▸ e) hx
          · rw [h] at e; cases e; have := hX _ hx; rw [World.size_alloc] at this; omega
        have hne1 : some w.heap.size ≠ (Value.slice vo xs.length vc).ownBlock := hq1.not_row (by decide) hr3
        have hne2 : some (w.heap.size + 1) ≠ (Value.slice vo xs.length vc).ownBlock := hq2.not_row (by decide) hr3
        refine ⟨(((kept_of_below hbq).trans (Kept.alloc X w1 _)).trans (Kept.grown hgrow hvx)).trans (Kept.setCell _ _ _ hXB), ⟨xs ++ [t], HPR.out, by simp; omega, _, hv2, ?_, hat'⟩, ⟨boxed_other ((hq1.alloc _).kept hgrow hne1) _ (by omega), boxed_other ((hq2.alloc _).kept hgrow hne2) _ (by omega)⟩, ⟨hXB, hX1, hX2⟩, hBq.trans hb2', fun k h => ?_⟩
        · simpa using hr2
        · have := hX k h; simp; omega
  case done =>
    rintro D X U hD hXD ⟨⟨xs, hp, h40, v, hv, hrow, hvx⟩, ⟨hb1, hb2⟩, ⟨hXB, hX1, hX2⟩, hB, hX⟩ hK
    have hc1 := hb1.cell
    have hf1 := hb1.frozen
    have hc2 := hb2.cell
    have hf2 := hb2.frozen
    have hc3 := hv.cell
    have hFS : Hid (formOf s.data.toList = some xs) := by
      have h1 : pieces sp32 q = xs.map quoteOf := by
        have h2 : (pieces sp32 q).map txt = (xs.map quoteOf).map txt := by rw [hp, List.map_map]; rfl
        exact map_txt_inj h2
      show _ = _
      rw [HF.out, h1, List.length_map, if_pos h40, map_unq]
    obtain ⟨vo, vc, rfl⟩ := ownsRow_shape hrow
    have hsz := hB.size
    have hDn : D ≠ w.heap.size ∧ D ≠ w.heap.size + 1 := by omega
    have hne1 : some w.heap.size ≠ (Value.slice vo xs.length vc).ownBlock := hb1.not_row (by decide) hrow
    have hne2 : some (w.heap.size + 1) ≠ (Value.slice vo xs.length vc).ownBlock := hb2.not_row (by decide) hrow
    gi_wp2
    have hK2 : ((U.setCell ⟨w.heap.size, 0, none⟩ (.slice vo xs.length vc)).setCell ⟨w.heap.size + 1, 0, none⟩ (.int .i64 0)).heap[D]? = some (.deferred (some [])) :=
      ((Below.heap_setCell _ _ _ _ hDn.2).trans (Below.heap_setCell _ _ _ _ hDn.1)).trans hK
    refine ⟨by simp, .inl ⟨_, _, rfl, run_takeDeferred hK2, ?_⟩⟩
    have hY : Turned (fun k => k = w.heap.size ∨ k = w.heap.size + 1 ∨ k = D) U (((U.setCell ⟨w.heap.size, 0, none⟩ (.slice vo xs.length vc)).setCell ⟨w.heap.size + 1, 0, none⟩ (.int .i64 0)).putObj D (.deferred none)) :=
      ((Turned.setCell U ⟨w.heap.size, 0, none⟩ _ (.inl rfl)).trans (Turned.setCell _ ⟨w.heap.size + 1, 0, none⟩ _ (.inr (.inl rfl)))).trans (Turned.putObj _ D _ (.inr (.inr rfl)))
    have hr9 := hY.ownsRow hrow (by
      rintro r hr (h | h | h)
      · exact hne1 (by rw [hr, h])
      · exact hne2 (by rw [hr, h])
      · exact hvx r hr (h ▸ hXD))
    have hb9 : Below w.heap.size w _ := hB.trans (hY.below hsz (by rintro k (h | h | h) <;> omega))
    have hp1 : Boxed (((U.setCell ⟨w.heap.size, 0, none⟩ (.slice vo xs.length vc)).setCell ⟨w.heap.size + 1, 0, none⟩ (.int .i64 0)).putObj D (.deferred none)) w.heap.size 22 (.slice vo xs.length vc) :=
      (World.putObj_heap_other (Ne.symm hDn.1)).trans (boxed_other (hb1.set _) _ (by omega))
    have hp2 : Boxed (((U.setCell ⟨w.heap.size, 0, none⟩ (.slice vo xs.length vc)).setCell ⟨w.heap.size + 1, 0, none⟩ (.int .i64 0)).putObj D (.deferred none)) (w.heap.size + 1) 25 (.int .i64 0) :=
      (World.putObj_heap_other (Ne.symm hDn.2)).trans ((boxed_other hb2 _ (by omega)).set _)
    generalize (((U.setCell ⟨w.heap.size, 0, none⟩ (.slice vo xs.length vc)).setCell ⟨w.heap.size + 1, 0, none⟩ (.int .i64 0)).putObj D (.deferred none)) = Z at hp1 hp2 hr9 hb9 ⊢
    have c1 := hp1.cell
    have c2 := hp2.cell
    exact ⟨.tuple #[.slice vo xs.length vc, .int .i64 0], by simp [results, Tryd.results31, go_sem, c1, c2], hb9, .inr ⟨xs, _, hFS.out, rfl, hr9⟩⟩
  case stop =>
    rintro D X c pre U hD hXD hpre ⟨rfl, hf, ⟨hb1, hb2⟩, ⟨hX1, hX2⟩, hB, hX⟩ hK
    have hc1 := hb1.cell
    have hc2 := hb2.cell
    have hsz := hB.size
    have hDn : D ≠ w.heap.size ∧ D ≠ w.heap.size + 1 := by omega
    gi_wp2
    refine ⟨by simp, .inl ⟨_, _, rfl, run_takeDeferred hK, ?_⟩⟩
    have hY : Turned (fun k => k = D) U (U.putObj D (.deferred none)) := Turned.putObj _ D _ rfl
    have hb9 : Below w.heap.size w _ := hB.trans (hY.below hsz (by rintro k h; omega))
    have hp1 : Boxed (U.putObj D (.deferred none)) w.heap.size 22 (.slice none 0 0) := (World.putObj_heap_other (Ne.symm hDn.1)).trans hb1
    have hp2 : Boxed (U.putObj D (.deferred none)) (w.heap.size + 1) 25 (.int .i64 2) := (World.putObj_heap_other (Ne.symm hDn.2)).trans hb2
    generalize U.putObj D (.deferred none) = Z at hp1 hp2 hb9 ⊢
    have c1 := hp1.cell
    have c2 := hp2.cell
    exact ⟨.tuple #[.slice none 0 0, .int .i64 2], by simp [results, Tryd.results31, go_sem, c1, c2], hb9, .inl ⟨hf, rfl⟩⟩
  · rintro k (h | h | h) <;> omega

end Go.Proofs.YtllkibdpjpdbbaaDoor
