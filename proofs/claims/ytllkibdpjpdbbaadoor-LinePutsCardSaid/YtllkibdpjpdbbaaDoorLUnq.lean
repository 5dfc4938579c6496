/-
  What text.unquoteFirst answers.
-/
import Derived.Lib.IndexLaws
import Derived.Test.YtllkibdpjpdbbaaDoorLQmath
namespace Go.Proofs.YtllkibdpjpdbbaaDoor
open Go.RowKit Go.Shelf

theorem hexOf_get (i : Nat) (h : i < 16) : ([48, 49, 50, 51, 52, 53, 54, 55, 56, 57, 65, 66, 67, 68, 69, 70] : List UInt8)[i]? = some (hexOf i) := by
  match i, h with
  | 0, _ => rfl
  | 1, _ => rfl
  | 2, _ => rfl
  | 3, _ => rfl
  | 4, _ => rfl
  | 5, _ => rfl
  | 6, _ => rfl
  | 7, _ => rfl
  | 8, _ => rfl
  | 9, _ => rfl
  | 10, _ => rfl
  | 11, _ => rfl
  | 12, _ => rfl
  | 13, _ => rfl
  | 14, _ => rfl
  | 15, _ => rfl
  | _ + 16, h => exact absurd h (by omega)
theorem hex_case (a : UInt8) : (Lib.indexByte [48, 49, 50, 51, 52, 53, 54, 55, 56, 57, 65, 66, 67, 68, 69, 70] a = -1 ∧ ∀ i, i < 16 → hexOf i ≠ a) ∨ ∃ i : Nat, i < 16 ∧ Lib.indexByte [48, 49, 50, 51, 52, 53, 54, 55, 56, 57, 65, 66, 67, 68, 69, 70] a = i ∧ hexOf i = a := by
  have hge := Lib.indexByte_ge [48, 49, 50, 51, 52, 53, 54, 55, 56, 57, 65, 66, 67, 68, 69, 70] a
  rcases Int.lt_or_le (Lib.indexByte [48, 49, 50, 51, 52, 53, 54, 55, 56, 57, 65, 66, 67, 68, 69, 70] a) 0 with h | h
  · left
    have h1 : Lib.indexByte [48, 49, 50, 51, 52, 53, 54, 55, 56, 57, 65, 66, 67, 68, 69, 70] a = -1 := by omega
    refine ⟨h1, fun i hi e => ?_⟩
    have := Lib.indexByte_none h1 i
    rw [hexOf_get i hi, e] at this
    exact this rfl
  · right
    obtain ⟨o, ho⟩ : ∃ o : Nat, Lib.indexByte [48, 49, 50, 51, 52, 53, 54, 55, 56, 57, 65, 66, 67, 68, 69, 70] a = o := ⟨(Lib.indexByte [48, 49, 50, 51, 52, 53, 54, 55, 56, 57, 65, 66, 67, 68, 69, 70] a).toNat, by omega⟩
    have h1 := (Lib.indexByte_some ho).1
    have hlt : o < 16 := by
      have := (List.getElem?_eq_some_iff.1 h1).1
      simpa using this
    refine ⟨o, hlt, ho, ?_⟩
    rw [hexOf_get o hlt] at h1
    exact Option.some.inj h1
/-- What the first bytes of a text are the quoted form of: c and k bytes; k = 0: of nothing. -/
def FirstIs (l : List UInt8) (c : Int) (k : Int) : Prop :=
  (c = 0 ∧ k = 0 ∧ ∀ d r, l ≠ quo d ++ r) ∨ ∃ (d : UInt8) (r : List UInt8), c = d.toNat ∧ k = (quo d).length ∧ l = quo d ++ r
def FirstPost (l : List UInt8) (w : World) (e : Ending) (w' : World) : Prop := ∃ c k : Int, e = .returned (.tuple #[.int .u8 c, .int .i64 k]) ∧ FirstIs l c k ∧ ∃ m, w' = w.drewN m
theorem first_none {l : List UInt8} {w : World} {w' : World} (h : ∀ d r, l ≠ quo d ++ r) (hb : ∃ m, w' = w.drewN m) : FirstPost l w (.returned (.tuple #[.int .u8 0, .int .i64 0])) w' := ⟨0, 0, rfl, .inl ⟨rfl, rfl, h⟩, hb⟩
theorem first_plain {l : List UInt8} {c : UInt8} {r : List UInt8} {w w' : World} (h : l = c :: r) (hp : plainB c = true) (hb : ∃ m, w' = w.drewN m) : FirstPost l w (.returned (.tuple #[.int .u8 (c.toNat : Int), .int .i64 1])) w' :=
  ⟨_, _, rfl, .inr ⟨c, r, rfl, by simp [quo, hp], by simp [quo, hp, h]⟩, hb⟩
theorem none_head {c : UInt8} {r : List UInt8} (hp : plainB c = false) (h : c ≠ 37) : ∀ d t, c :: r ≠ quo d ++ t := by
  intro d t e
  unfold quo at e
  split at e
  · rename_i hd
    simp only [List.cons_append, List.nil_append, List.cons.injEq] at e
    rw [e.1, hd] at hp; cases hp
  · simp only [List.cons_append, List.cons.injEq] at e
    exact h e.1
theorem cases37 {r : List UInt8} {d : UInt8} {t : List UInt8} (e : 37 :: r = quo d ++ t) : plainB d = false ∧ r = hexOf (d.toNat / 16) :: hexOf (d.toNat % 16) :: t := by
  unfold quo at e
  split at e
  · rename_i hd
    simp only [List.cons_append, List.nil_append, List.cons.injEq] at e
    have : plainB 37 = false := rfl
    rw [e.1, hd] at this; cases this
  · rename_i hd
    simp only [List.cons_append, List.nil_append, List.cons.injEq, true_and] at e
    exact ⟨by simpa using hd, e⟩
theorem none_short {r : List UInt8} (h : r.length < 2) : ∀ d t, 37 :: r ≠ quo d ++ t := fun d t e => by
  rw [(cases37 e).2] at h; simp at h; omega
theorem none_hex1 {a b : UInt8} {r : List UInt8} (h : ∀ i, i < 16 → hexOf i ≠ a) : ∀ d t, 37 :: a :: b :: r ≠ quo d ++ t := fun d t e => by
  have := (cases37 e).2
  simp only [List.cons.injEq] at this
  have hd := d.toNat_lt
  exact h _ (by omega) this.1.symm
theorem none_hex2 {a b : UInt8} {r : List UInt8} (h : ∀ i, i < 16 → hexOf i ≠ b) : ∀ d t, 37 :: a :: b :: r ≠ quo d ++ t := fun d t e => by
  have := (cases37 e).2
  simp only [List.cons.injEq] at this
  exact h _ (Nat.mod_lt _ (by omega)) this.2.1.symm
theorem none_plain {i j : Nat} {c : UInt8} {r : List UInt8} (hi : i < 16) (hj : j < 16) (hc : c.toNat = 16 * i + j) (hp : plainB c = true) : ∀ d t, 37 :: hexOf i :: hexOf j :: r ≠ quo d ++ t := fun d t e => by
  obtain ⟨h1, h2⟩ := cases37 e
  simp only [List.cons.injEq] at h2
  have hd := d.toNat_lt
  have e1 := hexOf_inj _ _ hi (by omega) h2.1
  have e2 := hexOf_inj _ _ hj (Nat.mod_lt _ (by omega)) h2.2.1
  have : c = d := UInt8.toNat_inj.1 (by omega)
  rw [← this, hp] at h1; cases h1
theorem first_hex {i j : Nat} {c : UInt8} {r : List UInt8} {w w' : World} (hj : j < 16) (hc : c.toNat = 16 * i + j) (hp : plainB c = false) (hb : ∃ m, w' = w.drewN m) : FirstPost (37 :: hexOf i :: hexOf j :: r) w (.returned (.tuple #[.int .u8 (c.toNat : Int), .int .i64 3])) w' := by
  refine ⟨_, _, rfl, .inr ⟨c, r, rfl, by simp [quo, hp], ?_⟩, hb⟩
  rw [quo, if_neg (by rw [hp]; simp), show c.toNat / 16 = i by omega, show c.toNat % 16 = j by omega]
  rfl
theorem bits_or (i j : Nat) (hi : i < 16) (hj : j < 16) : bits BinOp.or IntKind.i64 ((i : Int) * 16) (j : Int) % 256 = ((16 * i + j : Nat) : Int) := by
  have main : ∀ i : Fin 16, ∀ j : Fin 16, bits BinOp.or IntKind.i64 ((i.val : Int) * 16) (j.val : Int) % 256 = ((16 * i.val + j.val : Nat) : Int) := by decide +kernel
  exact main ⟨i, hi⟩ ⟨j, hj⟩
theorem cons_list (s : ByteArray) (h : 0 < s.size) : s.data.toList = s[0] :: s.data.toList.drop 1 := by
  have h' : 0 < s.data.toList.length := by rw [Array.length_toList]; exact h
  have := List.drop_eq_getElem_cons h'
  rw [List.drop_zero, Array.getElem_toList] at this
  exact this
theorem cons3_list (s : ByteArray) (h : 2 < s.size) : s.data.toList = s[0] :: s[1] :: s[2] :: s.data.toList.drop 3 := by
  have h' : s.data.toList.length = s.size := size_list s
  have e0 := List.drop_eq_getElem_cons (l := s.data.toList) (i := 0) (by omega)
  have e1 := List.drop_eq_getElem_cons (l := s.data.toList) (i := 1) (by omega)
  have e2 := List.drop_eq_getElem_cons (l := s.data.toList) (i := 2) (by omega)
  rw [List.drop_zero] at e0
  rw [e1, e2, Array.getElem_toList, Array.getElem_toList, Array.getElem_toList] at e0
  exact e0
theorem still_same {P : Program} {f : FuncId} {args : Array Value} {w : World} {m : Nat} {v : Value} (h : Calls P f args (w.drewN m) fun e w' => e = .returned v ∧ w' = w.drewN m) :
    Calls P f args (w.drewN m) fun e w' => e = .returned v ∧ ∃ j, w' = w.drewN j := h.mono fun _ _ h => ⟨h.1, m, h.2⟩
set_option maxRecDepth 100000 in
set_option maxHeartbeats 2000000 in
theorem first_any (s : ByteArray) (h0 : 0 < s.size) (hs : s.size ≤ maxLen) (w : World) : Calls Tryd.prog 64 #[.string s] w (FirstPost s.data.toList w) := by
  unfold maxLen at hs
  have hcl := cons_list s h0
  cases hp : plainB s[0] with
  | true =>
    have HN := Lib.hid (first_plain (w := w) (w' := w) hcl hp ⟨0, rfl⟩)
    have HP := Lib.hid hp
    clear hp hcl
    go_enter Tryd.func64, Tryd.ntmps64
    go_wp2_with (go_at_call 35; refine (isPlain_t _ _ HP.out).mono ?_; rintro e w' ⟨rfl, rfl⟩)
    go_ret2
    exact HN.out
  | false =>
    have HP := Lib.hid hp
    by_cases h37 : s[0] = 37
    · have e37 : ((s[0].toNat : Int) != 37) = false := by rw [h37]; rfl
      by_cases h3 : s.size < 3
      · have d3 : decide ((s.size : Int) < 3) = true := by simp; omega
        have HN := Lib.hid (first_none (l := s.data.toList) (w := w) (w' := w) (by rw [hcl, h37]; exact none_short (by rw [List.length_drop, size_list]; omega)) ⟨0, rfl⟩)
        clear hp hcl h37
        go_enter Tryd.func64, Tryd.ntmps64
        go_wp2_with (go_at_call 35; refine (isPlain_f _ _ HP.out).mono ?_; rintro e w' ⟨rfl, rfl⟩)
        go_ret2
        exact HN.out
      · have d3 : decide ((s.size : Int) < 3) = false := by simp; omega
        have hl3 := cons3_list s (by omega)
        rw [h37] at hl3
        have b1 : 1 < s.size := by omega
        have b2 : 2 < s.size := by omega
        have b1' : (1 : Int) < s.size := by omega
        have b2' : (2 : Int) < s.size := by omega
        have HL := Lib.hid hl3
        clear hp hcl hl3 h37
        rcases hex_case s[1] with ⟨x1, n1⟩ | ⟨i, hi, x1, n1⟩
        · have HN := Lib.hid (fun w' (hb : ∃ m, w' = w.drewN m) => first_none (l := s.data.toList) (w := w) (w' := w') (by rw [HL.out]; exact none_hex1 n1) hb)
          clear n1
          generalize Lib.indexByte [48, 49, 50, 51, 52, 53, 54, 55, 56, 57, 65, 66, 67, 68, 69, 70] s[2] = g
          go_enter Tryd.func64, Tryd.ntmps64
          go_wp2_with (go_at_call 35; refine (isPlain_f _ _ HP.out).mono ?_; rintro e w' ⟨rfl, rfl⟩)
          go_quiet ((exact still_same (indexByte_any _ _ _)))
          go_wp2
          go_ret2
          exact HN.out _ ⟨_, rfl⟩
        · rcases hex_case s[2] with ⟨x2, n2⟩ | ⟨j, hj, x2, n2⟩
          · have HN := Lib.hid (fun w' (hb : ∃ m, w' = w.drewN m) => first_none (l := s.data.toList) (w := w) (w' := w') (by rw [HL.out]; exact none_hex2 n2) hb)
            clear n1 n2
            go_enter Tryd.func64, Tryd.ntmps64
            go_wp2_with (go_at_call 35; refine (isPlain_f _ _ HP.out).mono ?_; rintro e w' ⟨rfl, rfl⟩)
            go_quiet ((exact still_same (indexByte_any _ _ _)))
            go_wp2
            go_ret2
            exact HN.out _ ⟨_, rfl⟩
          · obtain ⟨c, hc⟩ : ∃ c : UInt8, c.toNat = 16 * i + j := ⟨UInt8.ofNat (16 * i + j), by simp; omega⟩
            have HL2 : Hid (s.data.toList = 37 :: hexOf i :: hexOf j :: s.data.toList.drop 3) := by show _ = _; rw [n1, n2]; exact HL.out
            have HC := Lib.hid hc
            clear n1 n2 HL hc
            go_enter Tryd.func64, Tryd.ntmps64
            go_wp2_with (go_at_call 35; refine (isPlain_f _ _ HP.out).mono ?_; rintro e w' ⟨rfl, rfl⟩)
            go_quiet ((exact still_same (indexByte_any _ _ _)))
            go_wp2_with fail
            rw [bits_or i j hi hj, ← HC.out]
            have hb : ∃ m, w.drewN nq = w.drewN m := ⟨_, rfl⟩
            cases hp : plainB c with
            | true =>
              have HN := Lib.hid (first_none (l := s.data.toList) (w := w) (w' := w.drewN nq) (by rw [HL2.out]; exact none_plain hi hj HC.out hp) hb)
              have HPC := Lib.hid hp
              clear hp
              refine (isPlain_t c _ HPC.out).mono ?_
              rintro e w' ⟨rfl, rfl⟩
              go_wp2_with fail
              go_ret2
              exact HN.out
            | false =>
              have hF := first_hex (w := w) (w' := w.drewN nq) (r := s.data.toList.drop 3) (i := i) hj HC.out hp hb
              rw [← HL2.out] at hF
              have HN := Lib.hid hF
              have HPC := Lib.hid hp
              clear hp hF
              refine (isPlain_f c _ HPC.out).mono ?_
              rintro e w' ⟨rfl, rfl⟩
              go_wp2_with fail
              go_ret2
              exact HN.out
    · have e37 : ((s[0].toNat : Int) != 37) = true := by
        have : s[0].toNat ≠ 37 := fun h => h37 (UInt8.toNat_inj.1 (by rw [h]; rfl))
        simp; omega
      have HN := Lib.hid (first_none (l := s.data.toList) (w := w) (w' := w) (by rw [hcl]; exact none_head hp h37) ⟨0, rfl⟩)
      clear hp hcl h37
      go_enter Tryd.func64, Tryd.ntmps64
      go_wp2_with (go_at_call 35; refine (isPlain_f _ _ HP.out).mono ?_; rintro e w' ⟨rfl, rfl⟩)
      go_ret2
      exact HN.out

end Go.Proofs.YtllkibdpjpdbbaaDoor
