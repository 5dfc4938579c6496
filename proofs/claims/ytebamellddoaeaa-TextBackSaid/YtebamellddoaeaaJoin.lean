/-
  The library's contract for strings.Join at this program's numbers, and what text.Join answers of it: the texts with one blank between.
-/
import Derived.Shelf.Strings.OnBuilder
import Derived.Test.YtebamellddoaeaaText
namespace Go.Proofs.Ytebamellddoaeaa
open Go.Shelf Go.RowKit
def lays156_ren : Go.Shelf.Ren := ⟨fun | 156 => 37 | 165 => 45 | 166 => 46 | 169 => 32 | 240 => 41 | 241 => 49 | 276 => 48 | 277 => 51 | n => n, fun | 31 => 30 | 9 => 9 | 3 => 3 | 4 => 4 | 0 => 0 | 20 => 20 | 72 => 44 | 76 => 59 | 70 => 41 | 37 => 42 | 75 => 48 | 127 => 57 | 164 => 61 | 5 => 5 | 80 => 50 | n => n, fun | n => n⟩
theorem lays156 : Go.Proofs.Lays.n156 Try.prog lays156_ren := {
  mixed := by kernel_rfl
  f156 := Try.func37.trans (congrArg some (by kernel_rfl))
  f165 := Try.func45.trans (congrArg some (by kernel_rfl))
  f166 := Try.func46.trans (congrArg some (by kernel_rfl))
  f169 := Try.func32.trans (congrArg some (by kernel_rfl))
  f240 := Try.func41.trans (congrArg some (by kernel_rfl))
  f241 := Try.func49.trans (congrArg some (by kernel_rfl))
  f276 := Try.func48.trans (congrArg some (by kernel_rfl))
  f277 := Try.func51.trans (congrArg some (by kernel_rfl))
  t0 := Try.underlying0
  a0 := Try.isAgg0
  z0 := Try.sizeOf0
  v0 := Try.zeroValue0
  t3 := Try.underlying3
  a3 := Try.isAgg3
  z3 := Try.sizeOf3
  v3 := Try.zeroValue3
  t4 := Try.underlying4
  a4 := Try.isAgg4
  z4 := Try.sizeOf4
  v4 := Try.zeroValue4
  t9 := Try.underlying9
  a9 := Try.isAgg9
  z9 := Try.sizeOf9
  v9 := Try.zeroValue9
  t20 := Try.underlying20
  a20 := Try.isAgg20
  z20 := Try.sizeOf20
  v20 := Try.zeroValue20
  t31 := Try.underlying30
  a31 := Try.isAgg30
  z31 := Try.sizeOf30
  v31 := Try.zeroValue30
  t37 := Try.underlying42
  a37 := Try.isAgg42
  z37 := Try.sizeOf42
  v37 := Try.zeroValue42
  t70 := Try.underlying41
  a70 := Try.isAgg41
  z70 := Try.sizeOf41
  v70 := Try.zeroValue41
  t72 := Try.underlying44
  a72 := Try.isAgg44
  z72 := Try.sizeOf44
  v72 := Try.zeroValue44
  t75 := Try.underlying48
  a75 := Try.isAgg48
  z75 := Try.sizeOf48
  v75 := Try.zeroValue48
  t76 := Try.underlying59
  a76 := Try.isAgg59
  z76 := Try.sizeOf59
  v76 := Try.zeroValue59
  t127 := Try.underlying57
  a127 := Try.isAgg57
  z127 := Try.sizeOf57
  v127 := Try.zeroValue57
  t164 := Try.underlying61
  a164 := Try.isAgg61
  z164 := Try.sizeOf61
  v164 := Try.zeroValue61 }
theorem extra156 : Builder.Extra Try.prog lays156_ren := {
  sizeBuilder := by kernel_rfl
  liesBuilder := by kernel_rfl
  t5 := Try.underlying5
  a5 := Try.isAgg5
  z5 := Try.sizeOf5
  v5 := Try.zeroValue5
  infoByte := by kernel_rfl
  cellsByte := by kernel_rfl
  sizeByte := by kernel_rfl
  neB5 := by decide }

/-- The texts with one blank between. -/
def joinOf (xs : List ByteArray) : List UInt8 := Lib.join (xs.map (·.data.toList)) [32]

/-- The value v reads as the texts xs, out of blocks below B; a list of none may lie anywhere. -/
def ReadsO (W : World) (B : Nat) (v : Value) (xs : List ByteArray) : Prop :=
  ∃ o c, v = .slice o xs.length c ∧ ∀ k x, xs[k]? = some x → ∃ b f, o = some ⟨b, f, none⟩ ∧ b < B ∧ xs.length ≤ c ∧ W.cell? ⟨b, f + k, none⟩ = some (.string x)
theorem Reads.o {W : World} {B : Nat} {v : Value} {xs : List ByteArray} (h : Reads W B v xs) : ReadsO W B v xs := by
  rcases h with ⟨rfl, rfl⟩ | ⟨b, o, c, rfl, hb, hc, hx⟩
  · exact ⟨none, 0, rfl, by simp⟩
  · exact ⟨some ⟨b, o, none⟩, c, rfl, fun k x hk => ⟨b, o, rfl, hb, hc, hx k x hk⟩⟩
theorem ReadsO.below {W W' : World} {B B' : Nat} {v : Value} {xs : List ByteArray} (h : ReadsO W B v xs) (hb : Below B W W') (hB : B ≤ B') : ReadsO W' B' v xs := by
  obtain ⟨o, c, hv, hx⟩ := h
  refine ⟨o, c, hv, fun k x hk => ?_⟩
  obtain ⟨b, f, ho, hlt, hc, hcell⟩ := hx k x hk
  exact ⟨b, f, ho, by omega, hc, (hb.cell (p := ⟨b, f + k, none⟩) hlt).trans hcell⟩
theorem ReadsO.reads {W : World} {B : Nat} {v : Value} {xs : List ByteArray} (h : ReadsO W B v xs) : (∃ o c, v = .slice o 0 c ∧ xs = []) ∨ Reads W B v xs := by
  obtain ⟨o, c, hv, hx⟩ := h
  cases xs with
  | nil => exact .inl ⟨o, c, hv, rfl⟩
  | cons x r =>
    obtain ⟨b, f, rfl, hlt, hc, _⟩ := hx 0 x rfl
    refine .inr (.inr ⟨b, f, c, hv, hlt, hc, fun j y hj => ?_⟩)
    obtain ⟨b', f', e, _, _, hcell⟩ := hx j y hj
    cases e
    exact hcell

theorem join_some (bk o c : Nat) (xs : List ByteArray) (w : World) (hcells : ∀ (j : Nat) x, xs[j]? = some x → w.cell? ⟨bk, o + j, none⟩ = some (.string x)) (hbk : bk < w.heap.size) (hN : xs.length ≤ 140737488355328) (hcap : xs.length ≤ c) (hlen : (joinOf xs).length ≤ 140737488355328) :
    Calls Try.prog 37 #[.slice (some ⟨bk, o, none⟩) xs.length c, .string ⟨#[32]⟩] w fun e w' => e = .returned (.string (txt (joinOf xs))) ∧ Below w.heap.size w w' :=
  Any.strings_Join lays156 extra156 bk o c xs ⟨#[32]⟩ w hcells hbk hN hcap hlen
theorem join_none (a : Option Addr) (c : Nat) (w : World) :
    Calls Try.prog 37 #[.slice a 0 c, .string ⟨#[32]⟩] w fun e w' => e = .returned (.string ⟨#[]⟩) ∧ w' = w := Any.strings_Join_none lays156 extra156 a c ⟨#[32]⟩ w

set_option maxHeartbeats 400000 in
theorem textJoin_any (v : Value) (xs : List ByteArray) (w : World) (hr : ReadsO w w.heap.size v xs) (hN : xs.length ≤ 140737488355328) (hlen : (joinOf xs).length ≤ 140737488355328) :
    Calls Try.prog 21 #[v] w fun e w' => e = .returned (.string (txt (joinOf xs))) ∧ Below w.heap.size w w' := by
  have hJ : Calls Try.prog 37 #[v, .string ⟨#[32]⟩] w fun e w' => e = .returned (.string (txt (joinOf xs))) ∧ Below w.heap.size w w' := by
    rcases hr.reads with ⟨o, c, rfl, rfl⟩ | h
    · exact (join_none o c w).mono fun e w' h => ⟨h.1, h.2 ▸ Below.refl _ _⟩
    · rcases h with ⟨rfl, rfl⟩ | ⟨b, o, c, rfl, hb, hc, hx⟩
      · exact (join_none none 0 w).mono fun e w' h => ⟨h.1, h.2 ▸ Below.refl _ _⟩
      · exact join_some b o c xs w hx hb hN hc hlen
  have HJ := Lib.hid hJ
  obtain ⟨o, c, rfl, _⟩ := hr
  clear hJ
  go_enter Try.func21, Try.ntmps21
  go_wp2_with fail
  refine HJ.out.mono ?_
  rintro e w1 ⟨rfl, hb⟩
  go_wp2_with fail
  go_ret
  exact ⟨rfl, hb⟩

end Go.Proofs.Ytebamellddoaeaa
