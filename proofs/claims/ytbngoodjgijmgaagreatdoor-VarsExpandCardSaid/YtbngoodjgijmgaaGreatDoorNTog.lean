/-
  What together answers: all that is told, with a text between, or that it is too long: for whatever function that tells texts. No condition but that the texts have at most 10 million bytes each.
-/
import Derived.Test.YtbngoodjgijmgaaGreatDoorNI
import Derived.Test.YtbngoodjgijmgaaGreatDoorNBd
namespace Go.Proofs.YtbngoodjgijmgaaGreatDoor
open Go.RowKit Go.Shelf
attribute [local go_sem] Oper.semAt_some

set_option maxHeartbeats 1000000 in
theorem len_any (b : Nat) (Y : Nat → Prop) (p : Value) (l : List UInt8) (w : World) (h : BuiltP w Y b p l) :
    Calls Tryz.prog 45 #[.pointer (some ⟨b, 0, none⟩)] w fun e w' => e = .returned (.int .i64 l.length) ∧ w' = w := by
  obtain ⟨v, hbk, hown, _, _, _⟩ := h
  obtain ⟨o, c, rfl⟩ : ∃ o c, v = .slice o l.length c := by
    rcases hown.2 with ⟨hv, hz⟩ | ⟨g, cap, cur, fz, hv, _⟩
    · exact ⟨none, 0, by rw [hv, hz]⟩
    · exact ⟨_, _, hv⟩
  have c1 : w.cell? ⟨b, 1, none⟩ = some (.slice o l.length c) := by rw [Lib.cell_of_heap hbk]; rfl
  clear hown hbk
  go_enter Tryz.func45, Tryz.ntmps45
  go_wp2
  go_ret
  exact ⟨rfl, rfl⟩

set_option maxRecDepth 100000 in
set_option maxHeartbeats 2000000 in
theorem string_fresh (b : Nat) (Y : Nat → Prop) (w : World) (h : BuiltP w Y b (.pointer none) []) :
    Calls Tryz.prog 36 #[.pointer (some ⟨b, 0, none⟩)] w fun e w' => e = .returned (.string (txt [])) ∧ Turned Y w w' := by
  obtain ⟨v, hbk, hown, hnl, hyb, hyg⟩ := h
  obtain rfl := hnl rfl
  have hUS : ∀ (W : World) (q : Option Addr), (Builtin.unsafeString_ #[96, 3] 9 #[.pointer q, .int .i64 0]).run Tryz.prog W = .ok (.string (txt [])) W := fun W q => Any.unsafeString_none lays169 extra169 W q
  have c1 : w.drew.cell? ⟨b, 1, none⟩ = some (.slice none 0 0) := by
    have : w.drew.heap[b]? = some (.cells #[.pointer none, .slice none 0 0] 79 (0, 0)) := hbk
    rw [Lib.cell_of_heap this]; rfl
  have hSD : (Builtin.unsafeSliceData_ #[77] 96 #[.slice none 0 0]).run Tryz.prog w.drew = .ok (.pointer none) w.drew := rfl
  have mixed := lays169.mixed
  clear hbk hown hyg hnl
  go_enter Tryz.func36, Tryz.ntmps36
  go_wp2
  go_region_o
  all_goals (go_wp2; go_ret; exact ⟨rfl, Turned.drew _ _⟩)

theorem boxed_other {W : World} {B b : Nat} {t : TypeId} {v : Value} (h : Boxed W B t v) (v' : Value) (hne : B ≠ b) : Boxed (W.setCell ⟨b, 0, none⟩ v') B t v :=
  h.kept (grownBy_setCell' W b v') (by intro e; exact hne (Option.some.inj e))
def joinS (l : List ByteArray) (sep : ByteArray) : BT := Lib.join (l.map (·.data.toList)) sep.data.toList
theorem joinS_snoc (l : List ByteArray) (x sep : ByteArray) : joinS (l ++ [x]) sep = if l = [] then x.data.toList else joinS l sep ++ sep.data.toList ++ x.data.toList := by
  unfold joinS
  cases l with
  | nil => rw [if_pos rfl]; exact Lib.join_one x.data.toList sep.data.toList
  | cons y r =>
    rw [if_neg (by simp), List.cons_append, List.map_cons, List.map_cons, Lib.join_cons, Lib.join_cons]
    unfold Lib.joinTail
    simp [List.append_assoc]
theorem joinS_more (l r : List ByteArray) (sep : ByteArray) : (joinS l sep).length ≤ (joinS (l ++ r) sep).length := by
  induction r generalizing l with
  | nil => simp
  | cons x r ih =>
    have h1 := ih (l ++ [x])
    rw [List.append_assoc, List.singleton_append] at h1
    refine Nat.le_trans ?_ h1
    rw [joinS_snoc]
    split
    · next h => subst h; simp [joinS, Lib.join]
    · simp only [List.length_append]; omega
def togT (l : List ByteArray) (sep : ByteArray) : BT × Int := if (joinS l sep).length ≤ 4000 then (joinS l sep, 0) else ([], 3)

/-- Between two rounds. -/
def HoldsT (sep : ByteArray) (n₀ n : Nat) (w : World) (X : Nat → Prop) (pre : List ByteArray) (W : World) : Prop :=
  (Boxed W n 9 (.string sep) ∧ Boxed W (n + 1) 9 (.string ⟨#[]⟩) ∧ Boxed W (n + 1 + 1) 31 (.int .i64 0) ∧ Boxed W (n + 1 + 1 + 1 + 1) 9 (.string (if pre = [] then ⟨#[]⟩ else sep))) ∧
  (∃ (Z : Nat → Prop) (p : Value), (p = .pointer none ∧ pre = [] ∨ p = .pointer (some ⟨n + 1 + 1 + 1, 0, none⟩)) ∧ BuiltP W Z (n + 1 + 1 + 1) p (joinS pre sep) ∧ ∀ k, Z k → (k = n + 1 + 1 + 1 ∨ n + 1 + 1 + 1 + 1 < k) ∧ k < W.heap.size ∧ ¬ X k) ∧
  (∀ k, n ≤ k → k ≤ n + 1 + 1 + 1 + 1 → ¬ X k) ∧ Below n₀ w W ∧ (∀ k, X k → n₀ ≤ k ∧ k < W.heap.size) ∧ (joinS pre sep).length ≤ 4000
def LeftT (sep : ByteArray) (n₀ n : Nat) (w : World) (c : Code) (X : Nat → Prop) (pre : List ByteArray) (W : World) : Prop :=
  c = .ret ∧ (Boxed W (n + 1) 9 (.string ⟨#[]⟩) ∧ Boxed W (n + 1 + 1) 31 (.int .i64 3)) ∧ (¬ X (n + 1) ∧ ¬ X (n + 1 + 1)) ∧ Below n₀ w W ∧ (∀ k, X k → n₀ ≤ k ∧ k < W.heap.size) ∧ 4000 < (joinS pre sep).length
theorem x_step {X X' : Nat → Prop} {A C : World} {n₀ : Nat} (hn : n₀ ≤ A.heap.size) (hs : A.heap.size ≤ C.heap.size) (hX : ∀ k, X k → n₀ ≤ k ∧ k < A.heap.size) (hsub : ∀ k, X' k → X k ∨ (A.heap.size ≤ k ∧ k < C.heap.size)) : ∀ k, X' k → n₀ ≤ k ∧ k < C.heap.size := by
  intro k h
  rcases hsub k h with h | h
  · have := hX k h; omega
  · omega
theorem x_not {X X' : Nat → Prop} {A C : World} (hsub : ∀ k, X' k → X k ∨ (A.heap.size ≤ k ∧ k < C.heap.size)) {B : Nat} (hB : ¬ X B) (hlt : B < A.heap.size) : ¬ X' B := by
  intro h
  rcases hsub B h with h | h
  · exact hB h
  · omega
theorem holdsT_abides (sep : ByteArray) (n₀ n : Nat) (w : World) (hn : n₀ ≤ w.heap.size) : Abides' (HoldsT sep n₀ n w) := by
  rintro X X' pre A C ⟨⟨h1, h2, h3, h4⟩, ⟨Z, p, hp, hb, hZ⟩, hN, hB, hX, hl⟩ hT hsub
  have hs := hB.size
  have h5 := h4.lt
  refine ⟨⟨hT.boxed h1 (hN _ (by omega) (by omega)), hT.boxed h2 (hN _ (by omega) (by omega)), hT.boxed h3 (hN _ (by omega) (by omega)), hT.boxed h4 (hN _ (by omega) (by omega))⟩,
    ⟨Z, p, hp, hb.kept hT (fun k h => (hZ k h).2.2) (fun _ h _ => h), fun k h => ⟨(hZ k h).1, Nat.lt_of_lt_of_le (hZ k h).2.1 hT.size, x_not hsub (hZ k h).2.2 (hZ k h).2.1⟩⟩,
    fun k ha hb => x_not hsub (hN k ha hb) (by omega), hB.trans (hT.below (by omega) fun k h => (hX k h).1), x_step (by omega) hT.size hX hsub, hl⟩
theorem leftT_abides (sep : ByteArray) (n₀ n : Nat) (w : World) (hn : n₀ ≤ w.heap.size) (c : Code) : Abides' (LeftT sep n₀ n w c) := by
  rintro X X' pre A C ⟨hc, ⟨h1, h2⟩, ⟨hN1, hN2⟩, hB, hX, hl⟩ hT hsub
  have hs := hB.size
  exact ⟨hc, ⟨hT.boxed h1 hN1, hT.boxed h2 hN2⟩, ⟨x_not hsub hN1 h1.lt, x_not hsub hN2 h2.lt⟩, hB.trans (hT.below (by omega) fun k h => (hX k h).1), x_step (by omega) hT.size hX hsub, hl⟩

set_option maxRecDepth 100000 in
set_option maxHeartbeats 4000000 in
theorem together_any (gf : Nat) (lb : Array Value) (hg : ∀ args w, (callFunc gf args).run Tryz.prog w = .ok (.enter gf args) w) (sep : ByteArray) (hsep : sep.size ≤ 10000000) (Y X0 : Nat → Prop) (xs : List ByteArray) (hxs : ∀ x ∈ xs, x.size ≤ 10000000) (w : World) (n₀ : Nat) (hn : n₀ ≤ w.heap.size)
    (hseq : ∀ n, TellsY n Tryz.prog gf lb encT Y X0 xs w) (hX0 : ∀ k, X0 k → n₀ ≤ k ∧ k < w.heap.size) (hY : ∀ k, Y k → k < n₀) :
    Calls Tryz.prog 102 #[.func (.func gf) #[] lb, .string sep] w fun e W' => e = .returned (.tuple #[.string (txt (togT xs sep).1), .int .i64 (togT xs sep).2]) ∧ Below n₀ w W' := by
  refine (callsIn_wide (n := 9)).1 ?_
  refine callsIn_of_wp_marks Tryz.func102 rfl trivial ?_ rfl
  simp only [Tryz.ntmps102, List.size_toArray, List.length_cons, List.length_nil, Nat.reduceAdd, Nat.reduceSub, Array.replicate_succ, Array.replicate_zero, List.push_toArray, List.append_toArray, List.nil_append, List.cons_append]
  gi_wp2
  have a1 := Boxed.new w 9 (.string sep)
  have a2 := Boxed.new (w.alloc (.cells #[.string sep] 9)) 9 (.string ⟨#[]⟩)
  have a3 := Boxed.new ((w.alloc (.cells #[.string sep] 9)).alloc (.cells #[.string ⟨#[]⟩] 9)) 31 (.int .i64 0)
  have a4 := BuiltP.fresh (((w.alloc (.cells #[.string sep] 9)).alloc (.cells #[.string ⟨#[]⟩] 9)).alloc (.cells #[.int .i64 0] 31))
  have a5 := Boxed.new ((((w.alloc (.cells #[.string sep] 9)).alloc (.cells #[.string ⟨#[]⟩] 9)).alloc (.cells #[.int .i64 0] 31)).alloc (.cells #[.pointer none, .slice none 0 0] 79)) 9 (.string ⟨#[]⟩)
  simp only [World.size_alloc] at a1 a2 a3 a4 a5
  have b1 := (((a1.alloc (.cells #[.string ⟨#[]⟩] 9)).alloc (.cells #[.int .i64 0] 31)).alloc (.cells #[.pointer none, .slice none 0 0] 79)).alloc (.cells #[.string ⟨#[]⟩] 9)
  have b2 := ((a2.alloc (.cells #[.int .i64 0] 31)).alloc (.cells #[.pointer none, .slice none 0 0] 79)).alloc (.cells #[.string ⟨#[]⟩] 9)
  have b3 := (a3.alloc (.cells #[.pointer none, .slice none 0 0] 79)).alloc (.cells #[.string ⟨#[]⟩] 9)
  have b4 := a4.kept (Z := fun n => n = w.heap.size + 1 + 1 + 1) (Turned.alloc (fun _ => False) _ (.cells #[.string ⟨#[]⟩] 9)) (fun _ _ h => h) (fun n h _ => h)
  have hbV : Below n₀ w (((((w.alloc (.cells #[.string sep] 9)).alloc (.cells #[.string ⟨#[]⟩] 9)).alloc (.cells #[.int .i64 0] 31)).alloc (.cells #[.pointer none, .slice none 0 0] 79)).alloc (.cells #[.string ⟨#[]⟩] 9)) :=
    (((((Below.refl n₀ w).alloc hn _).alloc (by simp; omega) _).alloc (by simp; omega) _).alloc (by simp; omega) _).alloc (by simp; omega) _
  have hkV : Kept X0 w (((((w.alloc (.cells #[.string sep] 9)).alloc (.cells #[.string ⟨#[]⟩] 9)).alloc (.cells #[.int .i64 0] 31)).alloc (.cells #[.pointer none, .slice none 0 0] 79)).alloc (.cells #[.string ⟨#[]⟩] 9)) :=
    ((((Kept.alloc X0 w _).trans (Kept.alloc X0 _ _)).trans (Kept.alloc X0 _ _)).trans (Kept.alloc X0 _ _)).trans (Kept.alloc X0 _ _)
  have hVs : (((((w.alloc (.cells #[.string sep] 9)).alloc (.cells #[.string ⟨#[]⟩] 9)).alloc (.cells #[.int .i64 0] 31)).alloc (.cells #[.pointer none, .slice none 0 0] 79)).alloc (.cells #[.string ⟨#[]⟩] 9)).heap.size = w.heap.size + 5 := by simp
  clear a1 a2 a3 a4
  generalize (((((w.alloc (.cells #[.string sep] 9)).alloc (.cells #[.string ⟨#[]⟩] 9)).alloc (.cells #[.int .i64 0] 31)).alloc (.cells #[.pointer none, .slice none 0 0] 79)).alloc (.cells #[.string ⟨#[]⟩] 9)) = V at b1 b2 b3 b4 a5 hbV hkV hVs ⊢
  have HXS := Lib.hid hxs
  clear hxs
  refine wpIn_rangeY (gf := gf) rfl hg (hseq _) hkV (fun k h => by have := hX0 k h; omega) (fun _ => rfl)
    (HoldsT sep n₀ w.heap.size w) (LeftT sep n₀ w.heap.size w) (holdsT_abides _ _ _ _ hn) (leftT_abides _ _ _ _ hn)
    (fun X pre U h => (below_kept h.2.2.2.1).sub hY)
    ⟨⟨b1, b2, b3, a5⟩, ⟨_, _, .inl ⟨rfl, rfl⟩, b4, fun k h => ⟨.inl h, by omega, fun hx => by have := hX0 k hx; omega⟩⟩, fun k h _ hx => by have := hX0 k hx; omega, hbV, fun k h => by have := hX0 k h; omega, by simp [joinS, Lib.join]⟩
    (fun x => { tmps := #[.func (.func gf) #[] lb, .string sep, undef, .pointer (some ⟨w.heap.size, 0, none⟩), .pointer (some ⟨w.heap.size + 1, 0, none⟩), .pointer (some ⟨w.heap.size + 1 + 1, 0, none⟩), .pointer (some ⟨w.heap.size + 1 + 1 + 1, 0, none⟩), .pointer (some ⟨w.heap.size + 1 + 1 + 1 + 1, 0, none⟩), .string x,
      .func (.func gf) #[] lb, .string x, undef, undef, undef, undef, undef, undef, undef, undef, undef, undef, undef, undef, undef, undef], defers := [] }) ?assign ?body ?done ?stop
  case assign =>
    intro l x U K hK
    gi_wp2
    exact hK
  case body =>
    rintro l' X pre x U ⟨⟨h1, h2, h3, h4⟩, ⟨Z, p, hp, hb, hZ⟩, hN, hB, hX, hl⟩ hpre
    have hxz : x.size ≤ 10000000 := HXS.out x (hpre.subset (by simp))
    obtain ⟨gv, hgv⟩ : ∃ gv, gv = (if pre = [] then (⟨#[]⟩ : ByteArray) else sep) := ⟨_, rfl⟩
    rw [← hgv] at h4
    have hgz : gv.size ≤ 10000000 := by
      rw [hgv]
      split
      · exact Nat.zero_le _
      · exact hsep
    have HJ : Hid (joinS (pre ++ [x]) sep = joinS pre sep ++ gv.data.toList ++ x.data.toList) := by
      show _ = _
      rw [joinS_snoc, hgv]
      split
      · next h => subst h; simp [joinS, Lib.join]
      · rfl
    have hsz := hB.size
    have n1 : ¬ X (w.heap.size + 1) := hN _ (by omega) (by omega)
    have n2 : ¬ X (w.heap.size + 1 + 1) := hN _ (by omega) (by omega)
    have n4 : ¬ X (w.heap.size + 1 + 1 + 1 + 1) := hN _ (by omega) (by omega)
    have hbl := hb.lt
    have h4l := h4.lt
    obtain ⟨k, hk⟩ : ∃ k, k = (joinS pre sep).length := ⟨_, rfl⟩
    have HLen : Hid (∀ m, Calls Tryz.prog 45 #[.pointer (some ⟨w.heap.size + 1 + 1 + 1, 0, none⟩)] (U.drewN m) fun e w'' => e = .returned (.int .i64 (k : Int)) ∧ ∃ j, w'' = U.drewN j) := fun m =>
      (len_any _ Z p _ (U.drewN m) (hb.kept (Turned.drewN (fun _ => False) U m) (fun _ _ h => h) (fun _ h _ => h))).mono fun e w'' h => ⟨by rw [hk]; exact h.1, m, h.2⟩
    have hc4 := h4.cell
    rw [← hk] at hl
    have HK := Lib.hid hk
    clear hgv hk
    gi_wp2
    refine region_quiet_round l' rfl (by kernel_rfl) (by kernel_rfl) (by kernel_rfl) ?_
    repeat (refine wpQuietIn_step (fun _ _ _ _ => trivial) (fun K hK => ?_); go_simp; first | (refine hK _ ?_; clear hK K) | (apply Exists.intro; refine ⟨fun _ => ?_, hK _ ?_⟩; (exact callsIn_wide.2 (HLen.out _)); clear hK K))
    refine wpQuietIn_nil ?_
    intro _ hw'
    obtain ⟨nq, hw''⟩ := hw'
    subst hw''
    · skip
      have q1 := (Kept.drewN (fun j => w.heap.size ≤ j) U nq).boxed h1 (Nat.le_refl _)
      have q2 := (Kept.drewN (fun j => w.heap.size ≤ j) U nq).boxed h2 (by show w.heap.size ≤ _; omega)
      have q3 := (Kept.drewN (fun j => w.heap.size ≤ j) U nq).boxed h3 (by show w.heap.size ≤ _; omega)
      have q4 := (Kept.drewN (fun j => w.heap.size ≤ j) U nq).boxed h4 (by show w.heap.size ≤ _; omega)
      have qb := hb.kept (Z := Z) (Turned.drewN (fun _ => False) U nq) (fun _ _ h => h) (fun _ h _ => h)
      have hkx : Kept X U (U.drewN nq) := Kept.drewN _ _ _
      have hBn : Below n₀ w (U.drewN nq) := ⟨hB.os, hB.tape, hB.output, hB.size, hB.block⟩
      have hzn : (U.drewN nq).heap.size = U.heap.size := rfl
      clear hc4 HLen
      generalize U.drewN nq = U1 at q1 q2 q3 q4 qb hkx hBn hzn ⊢
      have hp' : p = .pointer none ∨ p = .pointer (some ⟨w.heap.size + 1 + 1 + 1, 0, none⟩) := hp.elim (fun h => .inl h.1) .inr
      clear hp h1 h2 h3 h4 hb
      have e1 : IntKind.i64.wrap ((k : Int) + (gv.size : Int)) = (k : Int) + (gv.size : Int) := by rw [IntKind.wrap_i64]; omega
      have e2 : IntKind.i64.wrap ((k : Int) + (gv.size : Int) + (x.size : Int)) = (k : Int) + (gv.size : Int) + (x.size : Int) := by rw [IntKind.wrap_i64]; omega
      simp only [e1, e2]
      clear e1 e2
      by_cases hgt : 4000 < k + gv.size + x.size
      · have HG : Hid (4000 < (joinS (pre ++ [x]) sep).length) := by
          show _ < _
          rw [HJ.out, List.length_append, List.length_append, size_list, size_list, ← HK.out]
          exact hgt
        have c2 := q2.cell
        have f2 := q2.frozen
        have c3 := q3.cell
        have f3 := q3.frozen
        gi_wp2
        refine ⟨(hkx.trans (Kept.setCell _ _ _ n1)).trans (Kept.setCell _ _ _ n2), rfl, ⟨boxed_other (q2.set _) _ (by omega), (boxed_other q3 _ (by omega)).set _⟩, ⟨n1, n2⟩,
          (hBn.setCell (p := ⟨w.heap.size + 1, 0, none⟩) (by show n₀ ≤ w.heap.size + 1; omega) _).setCell (p := ⟨w.heap.size + 1 + 1, 0, none⟩) (by show n₀ ≤ w.heap.size + 1 + 1; omega) _, fun j h => ?_, HG.out⟩
        have := hX j h; simp; omega
      · have c4 := q4.cell
        gi_wp2
        refine ⟨trivial, (CallsIn.inRound l' (callsIn_wide.2 (write_any _ Z p hp' _ gv U1 qb (by rw [← HK.out]; omega)))).mono ?_⟩
        rintro e W2 ⟨rfl, qb2, ht2⟩
        have hs2 := ht2.size
        have q12 := ht2.boxed q1 (fun h => by have := hZ _ h; omega)
        have q22 := ht2.boxed q2 (fun h => by have := hZ _ h; omega)
        have q32 := ht2.boxed q3 (fun h => by have := hZ _ h; omega)
        have q42 := ht2.boxed q4 (fun h => by have := hZ _ h; omega)
        have qb3 := BuiltP.kept (Z := fun j => (Z j ∨ U1.heap.size ≤ j) ∧ j < W2.heap.size) qb2 (Turned.refl (fun _ => False) W2) (fun _ _ h => h) (fun j h hj => ⟨h, hj⟩)
        gi_wp2
        refine ⟨trivial, (CallsIn.inRound l' (callsIn_wide.2 (write_any _ _ _ (.inr rfl) _ x W2 qb3 (by rw [List.length_append, size_list, ← HK.out]; omega)))).mono ?_⟩
        rintro e W3 ⟨rfl, qb4, ht3⟩
        have hs3 := ht3.size
        have q13 := ht3.boxed q12 (fun h => by rcases h.1 with h' | h' <;> (try have := hZ _ h') <;> omega)
        have q23 := ht3.boxed q22 (fun h => by rcases h.1 with h' | h' <;> (try have := hZ _ h') <;> omega)
        have q33 := ht3.boxed q32 (fun h => by rcases h.1 with h' | h' <;> (try have := hZ _ h') <;> omega)
        have q43 := ht3.boxed q42 (fun h => by rcases h.1 with h' | h' <;> (try have := hZ _ h') <;> omega)
        have c1 := q13.cell
        have c4 := q43.cell
        have f4 := q43.frozen
        gi_wp2
        have hkX2 : Kept X U1 W2 := ⟨hs2, fun j hj hlt => ht2.block j hlt (fun h => (hZ j h).2.2 hj)⟩
        have hkX3 : Kept X W2 W3 := ⟨hs3, fun j hj hlt => ht3.block j hlt (fun h => by
          rcases h.1 with h' | h'
          · exact (hZ j h').2.2 hj
          · have := hX j hj; omega)⟩
        have hB2 : Below n₀ w W2 := hBn.trans (ht2.below (by omega) fun j h => by have := hZ j h; omega)
        have hB3 : Below n₀ w W3 := hB2.trans (ht3.below (by omega) fun j h => by
          rcases h.1 with h' | h'
          · have := hZ j h'; omega
          · omega)
        have hJl : (joinS (pre ++ [x]) sep).length ≤ 4000 := by
          rw [HJ.out, List.length_append, List.length_append, size_list, size_list, ← HK.out]
          omega
        have qb5 := BuiltP.kept (Z := fun j => ((((Z j ∨ U1.heap.size ≤ j) ∧ j < W2.heap.size) ∨ W2.heap.size ≤ j)) ∧ j < W3.heap.size) qb4 (Turned.setCell (X := fun j => j = w.heap.size + 1 + 1 + 1 + 1) W3 ⟨w.heap.size + 1 + 1 + 1 + 1, 0, none⟩ (.string sep) rfl) (fun j h hj => by
          subst hj
          rcases h with h | h
          · rcases h.1 with h' | h'
            · have := hZ _ h'; omega
            · omega
          · omega) (fun j h hj => ⟨h, hj⟩)
        have hne1 : pre ++ [x] ≠ [] := by simp
        refine ⟨((hkx.trans hkX2).trans hkX3).trans (Kept.setCell _ _ _ n4), ⟨boxed_other q13 _ (by omega), boxed_other q23 _ (by omega), boxed_other q33 _ (by omega), by rw [if_neg hne1]; exact q43.set _⟩,
          ⟨_, _, .inr rfl, by rw [HJ.out]; exact qb5, fun j h => ?_⟩, hN, hB3.setCell (p := ⟨w.heap.size + 1 + 1 + 1 + 1, 0, none⟩) (by show n₀ ≤ w.heap.size + 1 + 1 + 1 + 1; omega) _, fun j h => ?_, hJl⟩
        · obtain ⟨h, hlt3⟩ := h
          refine ⟨?_, by simpa using hlt3, fun hj => ?_⟩
          · rcases h with h | h
            · rcases h.1 with h' | h'
              · exact (hZ _ h').1
              · right; omega
            · right; omega
          · have hxj := hX j hj
            rcases h with h | h
            · rcases h.1 with h' | h'
              · exact (hZ _ h').2.2 hj
              · omega
            · omega
        · have := hX j h; simp; omega
  case done =>
    rintro D X U hD hXD ⟨⟨h1, h2, h3, h4⟩, ⟨Z, p, hp, hb, hZ⟩, hN, hB, hX, hl⟩ hK
    have HS : Hid (Calls Tryz.prog 36 #[.pointer (some ⟨w.heap.size + 1 + 1 + 1, 0, none⟩)] U fun e w' => e = .returned (.string (txt (joinS xs sep))) ∧ Turned Z U w') := by
      rcases hp with ⟨rfl, rfl⟩ | rfl
      · exact string_fresh _ Z U hb
      · exact (string_any _ Z _ U hb (by omega)).mono fun e w' h => ⟨h.1, h.2.2⟩
    have HR : Hid (togT xs sep = (joinS xs sep, 0)) := by
      show _ = _
      unfold togT
      rw [if_pos hl]
    have hsz := hB.size
    have hl2 := h2.lt
    have hl3 := h3.lt
    have hDl := (Array.getElem?_eq_some_iff.1 hK).1
    clear hb hp
    gi_wp2
    refine ⟨trivial, (callsIn_wide.2 HS.out).mono ?_⟩
    rintro e W1 ⟨rfl, ht⟩
    have hs1 := ht.size
    have k2 := ht.boxed h2 (fun h => by have := hZ _ h; omega)
    have k3 := ht.boxed h3 (fun h => by have := hZ _ h; omega)
    have hK1 : W1.heap[D]? = some (.deferred (some [])) := (ht.block D hDl (fun h => (hZ D h).2.2 hXD)).trans hK
    have hB1 : Below n₀ w W1 := hB.trans (ht.below (by omega) fun j h => by have := hZ j h; omega)
    have c2 := k2.cell
    have f2 := k2.frozen
    have c3 := k3.cell
    have f3 := k3.frozen
    have hDn : D ≠ w.heap.size + 1 ∧ D ≠ w.heap.size + 1 + 1 := ⟨fun h => hN _ (by omega) (by omega) (h ▸ hXD), fun h => hN _ (by omega) (by omega) (h ▸ hXD)⟩
    gi_wp2
    have hK2 : ((W1.setCell ⟨w.heap.size + 1, 0, none⟩ (.string (txt (joinS xs sep)))).setCell ⟨w.heap.size + 1 + 1, 0, none⟩ (.int .i64 0)).heap[D]? = some (.deferred (some [])) :=
      ((Below.heap_setCell _ _ _ _ hDn.2).trans (Below.heap_setCell _ _ _ _ hDn.1)).trans hK1
    refine ⟨by simp, .inl ⟨_, _, rfl, run_takeDeferred hK2, ?_⟩⟩
    have hY : Turned (fun k => k = w.heap.size + 1 ∨ k = w.heap.size + 1 + 1 ∨ k = D) W1 (((W1.setCell ⟨w.heap.size + 1, 0, none⟩ (.string (txt (joinS xs sep)))).setCell ⟨w.heap.size + 1 + 1, 0, none⟩ (.int .i64 0)).putObj D (.deferred none)) :=
      ((Turned.setCell W1 ⟨w.heap.size + 1, 0, none⟩ _ (.inl rfl)).trans (Turned.setCell _ ⟨w.heap.size + 1 + 1, 0, none⟩ _ (.inr (.inl rfl)))).trans (Turned.putObj _ D _ (.inr (.inr rfl)))
    have hb9 : Below n₀ w _ := hB1.trans (hY.below (by omega) (by rintro k (h | h | h) <;> omega))
    have hp1 : Boxed (((W1.setCell ⟨w.heap.size + 1, 0, none⟩ (.string (txt (joinS xs sep)))).setCell ⟨w.heap.size + 1 + 1, 0, none⟩ (.int .i64 0)).putObj D (.deferred none)) (w.heap.size + 1) 9 (.string (txt (joinS xs sep))) :=
      (World.putObj_heap_other (Ne.symm hDn.1)).trans (boxed_other (k2.set _) _ (by omega))
    have hp2 : Boxed (((W1.setCell ⟨w.heap.size + 1, 0, none⟩ (.string (txt (joinS xs sep)))).setCell ⟨w.heap.size + 1 + 1, 0, none⟩ (.int .i64 0)).putObj D (.deferred none)) (w.heap.size + 1 + 1) 31 (.int .i64 0) :=
      (World.putObj_heap_other (Ne.symm hDn.2)).trans ((boxed_other k3 _ (by omega)).set _)
    generalize (((W1.setCell ⟨w.heap.size + 1, 0, none⟩ (.string (txt (joinS xs sep)))).setCell ⟨w.heap.size + 1 + 1, 0, none⟩ (.int .i64 0)).putObj D (.deferred none)) = Z9 at hp1 hp2 hb9 ⊢
    have c1 := hp1.cell
    have c2' := hp2.cell
    exact ⟨.tuple #[.string (txt (joinS xs sep)), .int .i64 0], by simp [results, Tryz.results102, go_sem, c1, c2'], by rw [HR.out], hb9⟩
  case stop =>
    rintro D X c pre U hD hXD hpre ⟨rfl, ⟨h1, h2⟩, ⟨hX1, hX2⟩, hB, hX, hlong⟩ hK
    have HR : Hid (togT xs sep = ([], 3)) := by
      show _ = _
      obtain ⟨r, rfl⟩ := hpre
      have := joinS_more pre r sep
      unfold togT
      rw [if_neg (by omega)]
    have hsz := hB.size
    have hDn : D ≠ w.heap.size + 1 ∧ D ≠ w.heap.size + 1 + 1 := ⟨fun h => hX1 (h ▸ hXD), fun h => hX2 (h ▸ hXD)⟩
    have c1 := h1.cell
    have c2 := h2.cell
    gi_wp2
    refine ⟨by simp, .inl ⟨_, _, rfl, run_takeDeferred hK, ?_⟩⟩
    have hY : Turned (fun k => k = D) U (U.putObj D (.deferred none)) := Turned.putObj _ D _ rfl
    have hb9 : Below n₀ w _ := hB.trans (hY.below (by omega) (by rintro k h; omega))
    have hp1 : Boxed (U.putObj D (.deferred none)) (w.heap.size + 1) 9 (.string ⟨#[]⟩) := (World.putObj_heap_other (Ne.symm hDn.1)).trans h1
    have hp2 : Boxed (U.putObj D (.deferred none)) (w.heap.size + 1 + 1) 31 (.int .i64 3) := (World.putObj_heap_other (Ne.symm hDn.2)).trans h2
    generalize U.putObj D (.deferred none) = Z9 at hp1 hp2 hb9 ⊢
    have c1' := hp1.cell
    have c2' := hp2.cell
    exact ⟨.tuple #[.string ⟨#[]⟩, .int .i64 3], by simp [results, Tryz.results102, go_sem, c1', c2'], by rw [HR.out]; rfl, hb9⟩
end Go.Proofs.YtbngoodjgijmgaaGreatDoor
