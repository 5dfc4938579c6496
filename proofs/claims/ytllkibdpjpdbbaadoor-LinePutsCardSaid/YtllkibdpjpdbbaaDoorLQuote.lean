/-
  What text.Quote answers, for every text.
-/
import Derived.Deep.QuietTactic
import Derived.BigQuiet
import Derived.Test.YtllkibdpjpdbbaaDoorLLeaf
import Derived.Test.YtllkibdpjpdbbaaDoorLShelf
namespace Go.Proofs.YtllkibdpjpdbbaaDoor
open Go.RowKit Go.Shelf
attribute [local go_sem] Oper.semAt_some

def hexOf (n : Nat) : UInt8 := ([48, 49, 50, 51, 52, 53, 54, 55, 56, 57, 65, 66, 67, 68, 69, 70] : List UInt8).getD n 0
def quo (c : UInt8) : List UInt8 := if plainB c then [c] else [37, hexOf (c.toNat / 16), hexOf (c.toNat % 16)]
def quoAll (l : List UInt8) : List UInt8 := l.flatMap quo
def quoteOf (l : List UInt8) : List UInt8 := if l = [] then [37] else quoAll l
theorem hex_get (i : Nat) (h : i < 16) (h' : i < (ByteArray.mk #[48, 49, 50, 51, 52, 53, 54, 55, 56, 57, 65, 66, 67, 68, 69, 70]).size) : (ByteArray.mk #[48, 49, 50, 51, 52, 53, 54, 55, 56, 57, 65, 66, 67, 68, 69, 70])[i]'h' = hexOf i := by
  match i, h with
  | 0, _ => rfl
  | 1, _ => rfl
  | 2, _ => rfl
  | 3, _ => rfl
  | 4, _ => rfl
  | 5, _ => rfl
  | 6, _ => rfl
  | 7, _ => rfl
  | 8, _ => rfl
  | 9, _ => rfl
  | 10, _ => rfl
  | 11, _ => rfl
  | 12, _ => rfl
  | 13, _ => rfl
  | 14, _ => rfl
  | 15, _ => rfl
  | _ + 16, h => exact absurd h (by omega)
theorem quo_len (c : UInt8) : (quo c).length ≤ 3 := by unfold quo; split <;> simp
theorem quoAll_len (l : List UInt8) : (quoAll l).length ≤ 3 * l.length := by
  induction l with
  | nil => simp [quoAll]
  | cons c r ih =>
    have := quo_len c
    simp only [quoAll, List.flatMap_cons, List.length_append, List.length_cons] at ih ⊢
    omega
theorem quoAll_snoc (l : List UInt8) (c : UInt8) : quoAll (l ++ [c]) = quoAll l ++ quo c := by simp [quoAll]
set_option maxHeartbeats 400000 in
theorem quote_none (w : World) : Calls Tryd.prog 21 #[.string ⟨#[]⟩] w fun e w' => e = .returned (.string ⟨#[37]⟩) ∧ w = w' := by
  go_enter Tryd.func21, Tryd.ntmps21
  go_wp2
  go_ret
  exact ⟨rfl, rfl⟩
set_option maxRecDepth 100000 in
set_option maxHeartbeats 2000000 in
theorem quote_some (s : ByteArray) (h0 : s.toList.isEmpty = false) (hs : s.size ≤ 35184372088832) (w : World) :
    Calls Tryd.prog 21 #[.string s] w fun e w' => e = .returned (.string (txt (quoAll s.data.toList))) ∧ Below w.heap.size w w' := by
  go_enter Tryd.func21, Tryd.ntmps21
  go_wp2
  go_loopw [10] (fun i wr => ∃ k : Nat, k ≤ s.size ∧ i = .int .i64 k ∧ Lib.IsBuilderF 45 5 w.heap.size w.heap.size (Lib.byteCells (quoAll (s.data.toList.take k))) wr ∧ Below w.heap.size w wr) (fun i _ => s.size - (intOf i).toNat)
  case atStart => exact ⟨0, Nat.zero_le _, rfl, Lib.IsBuilderF.of (Lib.fresh_isBuilder _ _ w), (Below.refl _ w).alloc (Nat.le_refl _) _⟩
  case round =>
    obtain ⟨k, hk, rfl, hI, hB⟩ := hrel
    have hsz := hB.size
    by_cases hlt : k < s.size
    · have hlt' : k < s.data.toList.length := by rw [Array.length_toList]; exact hlt
      have hgk : s.data.toList[k] = s[k] := by rw [Array.getElem_toList]; rfl
      have hts : quoAll (s.data.toList.take (k + 1)) = quoAll (s.data.toList.take k) ++ quo s[k] := by
        rw [List.take_succ_eq_append_getElem hlt', quoAll_snoc, hgk]
      have hlen : (Lib.byteCells (quoAll (s.data.toList.take k))).length + 3 ≤ 140737488355328 := by
        have h1 := quoAll_len (s.data.toList.take k)
        have h2 : (s.data.toList.take k).length ≤ k := List.length_take_le _ _
        rw [Lib.byteCells_length]; omega
      have HT := Lib.hid hts
      clear hts hgk
      obtain ⟨bs, hbs⟩ : ∃ bs, bs = Lib.byteCells (quoAll (s.data.toList.take k)) := ⟨_, rfl⟩
      rw [← hbs] at hI hlen
      have HB := Lib.hid hbs; clear hbs
      cases hp : plainB s[k] with
      | true =>
        have HP := Lib.hid hp; clear hp
        go_wp2_with fail
        refine (isPlain_t _ _ HP.out).mono ?_
        rintro e w' ⟨rfl, rfl⟩
        go_wp2_with fail
        refine (writeByte_any w.heap.size w.heap.size bs _ wr hI (by omega) (by omega)).mono ?_
        rintro e w1 ⟨rfl, hI1, hB1, _⟩
        go_wp2_with fail
        go_roundw
        case rel =>
          refine ⟨k + 1, hlt, by go_num, ?_, hB.trans hB1⟩
          rw [HT.out, quo, if_pos HP.out, Lib.byteCells_append, ← HB.out]
          exact .inr hI1
        case measure => simp [intOf]; omega
      | false =>
        have HP := Lib.hid hp; clear hp
        go_wp2_with fail
        refine (isPlain_f _ _ HP.out).mono ?_
        rintro e w' ⟨rfl, rfl⟩
        go_wp2_with fail
        refine (writeByte_any w.heap.size w.heap.size bs _ wr hI (by omega) (by omega)).mono ?_
        rintro e w1 ⟨rfl, hI1, hB1, _⟩
        have hs1 := hB1.size
        have hd1 : (s[k].toNat : Int) / 16 < 16 := by have := s[k].toNat_lt; omega
        have hd2 : s[k].toNat / 16 < 16 := by omega
        go_wp2_with fail
        refine (writeByte_any w.heap.size w.heap.size _ _ w1 (.inr hI1) (by rw [List.length_append]; simp; omega) (by omega)).mono ?_
        rintro e w2 ⟨rfl, hI2, hB2, _⟩
        have hs2 := hB2.size
        go_wp2_with fail
        refine (writeByte_any w.heap.size w.heap.size _ _ w2 (.inr hI2) (by rw [List.length_append, List.length_append]; simp; omega) (by omega)).mono ?_
        rintro e w3 ⟨rfl, hI3, hB3, _⟩
        rw [hex_get _ hd2] at hI3
        rw [hex_get _ (Nat.mod_lt _ (by decide))] at hI3
        go_wp2_with fail
        go_roundw
        case rel =>
          refine ⟨k + 1, hlt, by go_num, ?_, ((hB.trans hB1).trans hB2).trans hB3⟩
          rw [HT.out, quo, if_neg (by rw [HP.out]; simp), Lib.byteCells_append, ← HB.out]
          have e : bs ++ Lib.byteCells [37, hexOf (s[k].toNat / 16), hexOf (s[k].toNat % 16)] = bs ++ [Value.int .u8 37] ++ [Value.int .u8 (hexOf (s[k].toNat / 16)).toNat] ++ [Value.int .u8 (hexOf (s[k].toNat % 16)).toNat] := by simp [Lib.byteCells]
          rw [e]
          exact .inr hI3
        case measure => simp [intOf]; omega
    · obtain rfl : k = s.size := by omega
      have hall : s.data.toList.take s.size = s.data.toList := List.take_of_length_le (by rw [Array.length_toList]; exact Nat.le_refl _)
      rw [hall] at hI
      clear hall
      go_wp2_with fail
      refine (builderString_any w.heap.size w.heap.size _ wr hI (by omega)).mono ?_
      rintro e w1 ⟨rfl, _, hB1, _⟩
      go_wp2_with fail
      go_ret
      exact ⟨rfl, hB.trans hB1⟩
theorem quote_any (s : ByteArray) (hs : s.size ≤ 35184372088832) (w : World) :
    Calls Tryd.prog 21 #[.string s] w fun e w' => e = .returned (.string (txt (quoteOf s.data.toList))) ∧ Below w.heap.size w w' := by
  by_cases h : s.data.toList = []
  · have hs0 : s = ⟨#[]⟩ := by rw [← txt_toList s, h]; rfl
    subst hs0
    exact (quote_none w).mono fun e w' h' => ⟨h'.1, h'.2 ▸ Below.refl _ _⟩
  · unfold quoteOf
    rw [if_neg h]
    exact quote_some s (by rw [Lib.toList_data]; simpa using h) hs w

end Go.Proofs.YtllkibdpjpdbbaaDoor
