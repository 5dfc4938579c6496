/-
  The library's contract for strings.Join at this program's numbers, and what text.Join answers of it: the texts with one blank between.
-/
import Derived.Shelf.Strings.OnBuilder
import Derived.Test.YtldddecaeloohaaDoorELines
namespace Go.Proofs.YtldddecaeloohaaDoor
open Go.Shelf Go.RowKit
def lays156_ren : Go.Shelf.Ren := ⟨fun | 156 => 65 | 165 => 80 | 166 => 81 | 169 => 82 | 240 => 94 | 241 => 95 | 276 => 102 | 277 => 103 | n => n, fun | 31 => 41 | 9 => 9 | 3 => 3 | 4 => 4 | 0 => 0 | 20 => 20 | 72 => 106 | 76 => 110 | 70 => 104 | 37 => 72 | 75 => 109 | 127 => 119 | 164 => 124 | 5 => 5 | 80 => 112 | n => n, fun | n => n⟩
theorem lays156 : Go.Proofs.Lays.n156 Tryd.prog lays156_ren := {
  mixed := by kernel_rfl
  f156 := Tryd.func65.trans (congrArg some (by kernel_rfl))
  f165 := Tryd.func80.trans (congrArg some (by kernel_rfl))
  f166 := Tryd.func81.trans (congrArg some (by kernel_rfl))
  f169 := Tryd.func82.trans (congrArg some (by kernel_rfl))
  f240 := Tryd.func94.trans (congrArg some (by kernel_rfl))
  f241 := Tryd.func95.trans (congrArg some (by kernel_rfl))
  f276 := Tryd.func102.trans (congrArg some (by kernel_rfl))
  f277 := Tryd.func103.trans (congrArg some (by kernel_rfl))
  t0 := Tryd.underlying0
  a0 := Tryd.isAgg0
  z0 := Tryd.sizeOf0
  v0 := Tryd.zeroValue0
  t3 := Tryd.underlying3
  a3 := Tryd.isAgg3
  z3 := Tryd.sizeOf3
  v3 := Tryd.zeroValue3
  t4 := Tryd.underlying4
  a4 := Tryd.isAgg4
  z4 := Tryd.sizeOf4
  v4 := Tryd.zeroValue4
  t9 := Tryd.underlying9
  a9 := Tryd.isAgg9
  z9 := Tryd.sizeOf9
  v9 := Tryd.zeroValue9
  t20 := Tryd.underlying20
  a20 := Tryd.isAgg20
  z20 := Tryd.sizeOf20
  v20 := Tryd.zeroValue20
  t31 := Tryd.underlying41
  a31 := Tryd.isAgg41
  z31 := Tryd.sizeOf41
  v31 := Tryd.zeroValue41
  t37 := Tryd.underlying72
  a37 := Tryd.isAgg72
  z37 := Tryd.sizeOf72
  v37 := Tryd.zeroValue72
  t70 := Tryd.underlying104
  a70 := Tryd.isAgg104
  z70 := Tryd.sizeOf104
  v70 := Tryd.zeroValue104
  t72 := Tryd.underlying106
  a72 := Tryd.isAgg106
  z72 := Tryd.sizeOf106
  v72 := Tryd.zeroValue106
  t75 := Tryd.underlying109
  a75 := Tryd.isAgg109
  z75 := Tryd.sizeOf109
  v75 := Tryd.zeroValue109
  t76 := Tryd.underlying110
  a76 := Tryd.isAgg110
  z76 := Tryd.sizeOf110
  v76 := Tryd.zeroValue110
  t127 := Tryd.underlying119
  a127 := Tryd.isAgg119
  z127 := Tryd.sizeOf119
  v127 := Tryd.zeroValue119
  t164 := Tryd.underlying124
  a164 := Tryd.isAgg124
  z164 := Tryd.sizeOf124
  v164 := Tryd.zeroValue124 }
theorem extra156 : Builder.Extra Tryd.prog lays156_ren := {
  sizeBuilder := by kernel_rfl
  liesBuilder := by kernel_rfl
  t5 := Tryd.underlying5
  a5 := Tryd.isAgg5
  z5 := Tryd.sizeOf5
  v5 := Tryd.zeroValue5
  infoByte := by kernel_rfl
  cellsByte := by kernel_rfl
  sizeByte := by kernel_rfl
  neB5 := by decide }

/-- The texts with one blank between. -/
def joinOf (xs : List ByteArray) : List UInt8 := Lib.join (xs.map (·.data.toList)) [32]

/-- The value v reads as the texts xs, out of blocks below B; a list of none may lie anywhere. -/
def ReadsO (W : World) (B : Nat) (v : Value) (xs : List ByteArray) : Prop :=
  ∃ o c, v = .slice o xs.length c ∧ ∀ k x, xs[k]? = some x → ∃ b f, o = some ⟨b, f, none⟩ ∧ b < B ∧ xs.length ≤ c ∧ W.cell? ⟨b, f + k, none⟩ = some (.string x)
theorem Reads.o {W : World} {B : Nat} {v : Value} {xs : List ByteArray} (h : Reads W B v xs) : ReadsO W B v xs := by
  rcases h with ⟨rfl, rfl⟩ | ⟨b, o, c, rfl, hb, hc, hx⟩
  · exact ⟨none, 0, rfl, by simp⟩
  · exact ⟨some ⟨b, o, none⟩, c, rfl, fun k x hk => ⟨b, o, rfl, hb, hc, hx k x hk⟩⟩
theorem ReadsO.below {W W' : World} {B B' : Nat} {v : Value} {xs : List ByteArray} (h : ReadsO W B v xs) (hb : Below B W W') (hB : B ≤ B') : ReadsO W' B' v xs := by
  obtain ⟨o, c, hv, hx⟩ := h
  refine ⟨o, c, hv, fun k x hk => ?_⟩
  obtain ⟨b, f, ho, hlt, hc, hcell⟩ := hx k x hk
  exact ⟨b, f, ho, by omega, hc, (hb.cell (p := ⟨b, f + k, none⟩) hlt).trans hcell⟩
theorem ReadsO.reads {W : World} {B : Nat} {v : Value} {xs : List ByteArray} (h : ReadsO W B v xs) : (∃ o c, v = .slice o 0 c ∧ xs = []) ∨ Reads W B v xs := by
  obtain ⟨o, c, hv, hx⟩ := h
  cases xs with
  | nil => exact .inl ⟨o, c, hv, rfl⟩
  | cons x r =>
    obtain ⟨b, f, rfl, hlt, hc, _⟩ := hx 0 x rfl
    refine .inr (.inr ⟨b, f, c, hv, hlt, hc, fun j y hj => ?_⟩)
    obtain ⟨b', f', e, _, _, hcell⟩ := hx j y hj
    cases e
    exact hcell

theorem join_some (bk o c : Nat) (xs : List ByteArray) (w : World) (hcells : ∀ (j : Nat) x, xs[j]? = some x → w.cell? ⟨bk, o + j, none⟩ = some (.string x)) (hbk : bk < w.heap.size) (hN : xs.length ≤ 140737488355328) (hcap : xs.length ≤ c) (hlen : (joinOf xs).length ≤ 140737488355328) :
    Calls Tryd.prog 65 #[.slice (some ⟨bk, o, none⟩) xs.length c, .string ⟨#[32]⟩] w fun e w' => e = .returned (.string (txt (joinOf xs))) ∧ Below w.heap.size w w' :=
  Any.strings_Join lays156 extra156 bk o c xs ⟨#[32]⟩ w hcells hbk hN hcap hlen
theorem join_none (a : Option Addr) (c : Nat) (w : World) :
    Calls Tryd.prog 65 #[.slice a 0 c, .string ⟨#[32]⟩] w fun e w' => e = .returned (.string ⟨#[]⟩) ∧ w' = w := Any.strings_Join_none lays156 extra156 a c ⟨#[32]⟩ w

set_option maxHeartbeats 400000 in
theorem textJoin_any (v : Value) (xs : List ByteArray) (w : World) (hr : ReadsO w w.heap.size v xs) (hN : xs.length ≤ 140737488355328) (hlen : (joinOf xs).length ≤ 140737488355328) :
    Calls Tryd.prog 54 #[v] w fun e w' => e = .returned (.string (txt (joinOf xs))) ∧ Below w.heap.size w w' := by
  have hJ : Calls Tryd.prog 65 #[v, .string ⟨#[32]⟩] w fun e w' => e = .returned (.string (txt (joinOf xs))) ∧ Below w.heap.size w w' := by
    rcases hr.reads with ⟨o, c, rfl, rfl⟩ | h
    · exact (join_none o c w).mono fun e w' h => ⟨h.1, h.2 ▸ Below.refl _ _⟩
    · rcases h with ⟨rfl, rfl⟩ | ⟨b, o, c, rfl, hb, hc, hx⟩
      · exact (join_none none 0 w).mono fun e w' h => ⟨h.1, h.2 ▸ Below.refl _ _⟩
      · exact join_some b o c xs w hx hb hN hc hlen
  have HJ := Lib.hid hJ
  obtain ⟨o, c, rfl, _⟩ := hr
  clear hJ
  go_enter Tryd.func54, Tryd.ntmps54
  go_wp2_with fail
  refine HJ.out.mono ?_
  rintro e w1 ⟨rfl, hb⟩
  go_wp2_with fail
  go_ret
  exact ⟨rfl, hb⟩

end Go.Proofs.YtldddecaeloohaaDoor
