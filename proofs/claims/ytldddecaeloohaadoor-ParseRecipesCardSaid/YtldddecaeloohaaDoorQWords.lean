/-
  What text.Words answers, for every text. No condition.
-/
import Derived.Shelf.Strings.Search1
import Derived.Test.YtldddecaeloohaaDoorPRef
namespace Go.Proofs.YtldddecaeloohaaDoor
open Go.RowKit Go.Shelf
attribute [local go_sem] Oper.semAt_some

def lays137_ren : Go.Shelf.Ren := ⟨fun | 137 => 101 | 217 => 83 | 266 => 96 | n => n, fun | 9 => 9 | 5 => 5 | 3 => 3 | n => n, fun | n => n⟩
theorem lays137 : Go.Proofs.Lays.n137 Tryd.prog lays137_ren := {
  mixed := by kernel_rfl
  f137 := Tryd.func101.trans (congrArg some (by kernel_rfl))
  f217 := Tryd.func83.trans (congrArg some (by kernel_rfl))
  f266 := Tryd.func96.trans (congrArg some (by kernel_rfl))
  t3 := Tryd.underlying3
  a3 := Tryd.isAgg3
  z3 := Tryd.sizeOf3
  v3 := Tryd.zeroValue3
  t5 := Tryd.underlying5
  a5 := Tryd.isAgg5
  z5 := Tryd.sizeOf5
  v5 := Tryd.zeroValue5
  t9 := Tryd.underlying9
  a9 := Tryd.isAgg9
  z9 := Tryd.sizeOf9
  v9 := Tryd.zeroValue9 }
theorem indexByte_any (s : ByteArray) (c : Int) (w : World) :
    Calls Tryd.prog 101 #[.string s, .int .u8 c] w fun e w' => e = .returned (.int .i64 (Lib.indexByte s.data.toList c.toNat.toUInt8)) ∧ w' = w := Any.strings_IndexByte lays137 s c w

theorem blank_index (c : UInt8) : decide (0 ≤ Lib.indexByte [32, 9] c) = blankB c := by
  by_cases h1 : (32 : UInt8) = c
  · subst h1; rfl
  · by_cases h2 : (9 : UInt8) = c
    · subst h2; rfl
    · have e1 : c.toNat ≠ 32 := fun h => h1 (UInt8.toNat_inj.1 (by rw [h]; rfl))
      have e2 : c.toNat ≠ 9 := fun h => h2 (UInt8.toNat_inj.1 (by rw [h]; rfl))
      simp [Lib.indexByte, blankB, h1, h2, e1, e2]

set_option maxHeartbeats 400000 in
theorem isBlank_any (c : UInt8) (w : World) : Calls Tryd.prog 92 #[.int .u8 (c.toNat : Int)] w fun e w' => e = .returned (.bool (blankB c)) ∧ w = w' := by
  go_enter Tryd.func92, Tryd.ntmps92
  go_wp2_with (go_at_call 101; refine (indexByte_any _ _ _).mono ?_; rintro e w' ⟨rfl, rfl⟩)
  go_ret
  exact ⟨ret_bool (blank_index c), rfl⟩

set_option maxHeartbeats 400000 in
theorem words0_any (s : ByteArray) (w : World) : Calls Tryd.prog 74 #[.string s] w fun e w' =>
    e = .returned (.func (.func 91) #[] #[.pointer (some ⟨w.heap.size, 0, none⟩)]) ∧ w.alloc (.cells #[.string s] 9) = w' := by
  go_enter Tryd.func74, Tryd.ntmps74
  go_wp2
  go_ret
  exact ⟨rfl, rfl⟩

set_option maxRecDepth 100000 in
set_option maxHeartbeats 1000000 in
theorem words1_tells (n : Nat) (s : ByteArray) (hs : s.size ≤ maxLen) (b1 : Nat) (w : World) (hb1 : Boxed w b1 9 (.string s)) :
    Tells n Tryd.prog 91 #[.pointer (some ⟨b1, 0, none⟩)] (fun x : ByteArray => #[Value.string x]) (fun j => j = b1) (wordsOf s.data.toList) w := by
  intro l J Jx W hW hJ hJx hY h0
  have hB1 := hW.boxed hb1 rfl
  refine callsIn_of_wp_marks Tryd.func91 rfl trivial ?_ rfl
  simp only [Tryd.ntmps91, List.size_toArray, List.length_cons, List.length_nil, Nat.reduceAdd, Nat.reduceSub, Array.replicate_succ, Array.replicate_zero, List.push_toArray, List.append_toArray, List.nil_append, List.cons_append]
  have hlt1 := hB1.lt
  have hc1 := (hB1.alloc (.cells #[.func (.yield l) #[] #[]] 37)).cell
  gi_wp2
  refine ⟨trivial, (fun h => (by cases h)), (callsIn_wide.2 (between_any _ _ _)).mono ?_⟩
  rintro e w' ⟨rfl, rfl⟩
  gi_wp2
  have bY : Boxed (((W.alloc (.cells #[.func (.yield l) #[] #[]] 37)).alloc (.cells #[.string s] 9)).alloc (.cells #[.func (.func 92) #[] #[]] 70)) W.heap.size 37 (.func (.yield l) #[] #[]) := ((Boxed.new W _ _).alloc _).alloc _
  have bS : Boxed (((W.alloc (.cells #[.func (.yield l) #[] #[]] 37)).alloc (.cells #[.string s] 9)).alloc (.cells #[.func (.func 92) #[] #[]] 70)) (W.heap.size + 1) 9 (.string s) := by
    have := (Boxed.new (W.alloc (.cells #[.func (.yield l) #[] #[]] 37)) 9 (.string s)).alloc (.cells #[.func (.func 92) #[] #[]] 70)
    rwa [World.size_alloc] at this
  have bC : Boxed (((W.alloc (.cells #[.func (.yield l) #[] #[]] 37)).alloc (.cells #[.string s] 9)).alloc (.cells #[.func (.func 92) #[] #[]] 70)) (W.heap.size + 1 + 1) 70 (.func (.func 92) #[] #[]) := by
    have := Boxed.new ((W.alloc (.cells #[.func (.yield l) #[] #[]] 37)).alloc (.cells #[.string s] 9)) 70 (.func (.func 92) #[] #[])
    rwa [World.size_alloc, World.size_alloc] at this
  have ht : Turned (fun j => j = b1) W (((W.alloc (.cells #[.func (.yield l) #[] #[]] 37)).alloc (.cells #[.string s] 9)).alloc (.cells #[.func (.func 92) #[] #[]] 70)) := ((Turned.alloc _ W _).trans (Turned.alloc _ _ _)).trans (Turned.alloc _ _ _)
  have hV : (((W.alloc (.cells #[.func (.yield l) #[] #[]] 37)).alloc (.cells #[.string s] 9)).alloc (.cells #[.func (.func 92) #[] #[]] 70)).heap.size = W.heap.size + 3 := by simp
  generalize (((W.alloc (.cells #[.func (.yield l) #[] #[]] 37)).alloc (.cells #[.string s] 9)).alloc (.cells #[.func (.func 92) #[] #[]] 70)) = V at bY bS bC ht hV ⊢
  have hI0 : Abides' (fun X (pre : List ByteArray) U => J (fun k => X k ∨ k = b1 ∨ k = W.heap.size) (pre.filter isWord) U ∧ Boxed U W.heap.size 37 (.func (.yield l) #[] #[]) ∧ ¬ X W.heap.size) := by
    rintro X X' pre A B ⟨hj, hb, hx⟩ hT hsub
    refine ⟨hJ _ _ _ _ _ hj (hT.wider fun k h => .inl h) ?_, hT.boxed hb hx, fun h => ?_⟩
    · rintro k (h | h)
      · rcases hsub k h with h | h
        · exact .inl (.inl h)
        · exact .inr h
      · exact .inl (.inr h)
    · rcases hsub _ h with h | h
      · exact hx h
      · have := hb.lt; omega
  have hIx0 : ∀ c, Abides' (fun X (_ : List ByteArray) U => c = Code.ret ∧ ∃ q, q <+: wordsOf s.data.toList ∧ Jx (fun k => X k ∨ k = b1 ∨ k = W.heap.size) q U) := by
    rintro c X X' pre A B ⟨hc, q, hq, hj⟩ hT hsub
    refine ⟨hc, q, hq, hJx _ _ _ _ _ hj (hT.wider fun k h => .inl h) ?_⟩
    rintro k (h | h)
    · rcases hsub k h with h | h
      · exact .inl (.inl h)
      · exact .inr h
    · exact .inl (.inr h)
  refine wpIn_range (gf := 52) rfl (enters_of Tryd.func52 (by kernel_rfl) rfl) (between1_tells (n - 1) s hs blankB 92 (enters_of Tryd.func92 (by kernel_rfl) rfl) isBlank_any (W.heap.size + 1) (W.heap.size + 1 + 1) V bS bC) (Kept.refl _ _) ?_ (fun _ => rfl)
    _ _ hI0 hIx0 ⟨hJ _ _ _ _ _ h0 ht ?_, bY, ?_⟩
    (fun x => { tmps := #[.func (.yield l) #[] #[], .pointer (some ⟨b1, 0, none⟩), .pointer (some ⟨W.heap.size, 0, none⟩), .string x, .string s, .func (.func 52) #[] #[.pointer (some ⟨W.heap.size + 1, 0, none⟩), .pointer (some ⟨W.heap.size + 1 + 1, 0, none⟩)], .string x, undef, undef, undef, undef, undef, undef, undef, undef], defers := [] }) ?assign ?body ?done ?stop
  case assign =>
    intro l x U K hK
    gi_wp2
    exact hK
  case body =>
    rintro l' X pre x U ⟨hj, hb, hx⟩ hpre
    have hcl := hb.cell
    cases hw : isWord x with
    | false =>
      have he : x.toList = [] := by simpa [isWord] using hw
      have HW := Lib.hid hw; clear hw
      gi_wp2
      refine ⟨fun _ h => (by cases h), ?_⟩
      gi_wp2
      exact ⟨Kept.refl _ _, by rw [List.filter_append, List.filter_cons_of_neg (by rw [HW.out]; simp)]; simpa using hj, hb, hx⟩
    | true =>
      have he : x.toList.isEmpty = false := by simpa [isWord] using hw
      have hp2 : pre.filter isWord ++ [x] <+: wordsOf s.data.toList := by
        have := List.IsPrefix.filter isWord hpre
        rwa [List.filter_append, List.filter_cons_of_pos hw] at this
      have hR0 := hY _ _ x _ hj hp2
      obtain ⟨fn, tmps, assign, body, hy, hR⟩ := hR0
      have HR := Lib.hid hR
      have HP := Lib.hid hp2
      have HW := Lib.hid hw; clear hw hR hp2
      gi_wp2
      refine ⟨(fun h => (by cases h)), (RoundIn.within l' HR.out).mono ?_⟩
      rintro e W3 ⟨hk3, (⟨rfl, hJ3⟩ | ⟨rfl, hJx3⟩)⟩
      · gi_wp2
        exact ⟨hk3.sub fun k h => .inl h, by rw [List.filter_append, List.filter_cons_of_pos HW.out]; exact hJ3, hk3.boxed hb (.inr (.inr rfl)), hx⟩
      · gi_wp2
        exact ⟨hk3.sub fun k h => .inl h, rfl, _, HP.out, hJx3⟩
  case done =>
    rintro D X U hD hXD ⟨hj, hb, hx⟩ hK
    gi_wp2
    refine ⟨by simp, .inl ⟨_, _, rfl, run_takeDeferred hK, ?_⟩⟩
    exact ⟨_, results_none rfl _ _ _, ⟨_, rfl⟩, _, .inl (hJ _ _ _ _ _ hj (Turned.putObj _ _ _ (.inl hXD)) (fun k h => .inl h))⟩
  case stop =>
    rintro D X c pre U hD hXD hpre ⟨rfl, q, hq, hj⟩ hK
    gi_wp2
    refine ⟨by simp, .inl ⟨_, _, rfl, run_takeDeferred hK, ?_⟩⟩
    exact ⟨_, results_none rfl _ _ _, ⟨_, rfl⟩, _, .inr ⟨q, hq, hJx _ _ _ _ _ hj (Turned.putObj _ _ _ (.inl hXD)) (fun k h => .inl h)⟩⟩
  · rintro k (rfl | rfl) <;> omega
  · rintro k ((h | h) | h | h)
    · exact .inr ⟨by omega, by omega⟩
    · exact .inr ⟨by omega, by omega⟩
    · exact .inl h
    · exact .inr ⟨by omega, by omega⟩
  · rintro (h | h) <;> omega

theorem wordsOf_len (l : List UInt8) : (wordsOf l).length ≤ l.length + 1 := by
  have h1 := pieces_len blankB l
  have h2 := List.length_filter_le isWord ((pieces blankB l).map txt)
  simp only [List.length_map] at h2
  unfold wordsOf
  omega

set_option maxHeartbeats 1000000 in
theorem words_any (s : ByteArray) (hs : s.size ≤ 8796093022207) (w : World) :
    Calls Tryd.prog 58 #[.string s] w fun e W' => ∃ v, e = .returned v ∧ Reads W' W'.heap.size v (wordsOf s.data.toList) ∧ Below w.heap.size w W' := by
  have hm : s.size ≤ maxLen := by unfold maxLen; omega
  have hl := wordsOf_len s.data.toList
  rw [size_list] at hl
  have bS := Boxed.new w 9 (.string s)
  have hG := gather_any 91 #[.pointer (some ⟨w.heap.size, 0, none⟩)] (enters_of Tryd.func91 (by kernel_rfl) rfl) (fun j => j = w.heap.size) (wordsOf s.data.toList) (w.alloc (.cells #[.string s] 9)) w.heap.size (by simp)
    (fun n => words1_tells n s hm w.heap.size _ bS) (by rintro k rfl; simp) (by omega)
  have HG := Lib.hid hG
  clear hG hl
  go_enter Tryd.func58, Tryd.ntmps58
  go_wp2_with fail
  refine (words0_any s w).mono ?_
  rintro e w' ⟨rfl, rfl⟩
  go_wp2_with fail
  refine HG.out.mono ?_
  rintro e w' ⟨v, rfl, hr, hb⟩
  go_wp2_with fail
  go_ret
  exact ⟨v, rfl, Reads.of_owns hr, ((Below.refl _ w).alloc (Nat.le_refl _) _).trans hb⟩

end Go.Proofs.YtldddecaeloohaaDoor
