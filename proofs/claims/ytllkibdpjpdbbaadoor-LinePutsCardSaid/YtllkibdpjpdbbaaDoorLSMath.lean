/-
  Plain words: Adler-32 over lists of bytes, and eight digits of base 16.
-/
import Derived.WalkKit
import Derived.Lib.Strings
import Derived.Test.YtllkibdpjpdbbaaDoorCut
namespace Go.Proofs.YtllkibdpjpdbbaaDoor
open Go.RowKit

def stepN (h : Nat × Nat) (c : UInt8) : Nat × Nat := ((h.1 + c.toNat) % 65521, (h.2 + (h.1 + c.toNat) % 65521) % 65521)
def halvesN (n : Nat) : Nat × Nat := (n % 65536 % 65521, n / 65536 % 65521)
def runN (h : Nat × Nat) (l : List UInt8) : Nat × Nat := l.foldl stepN h
def joinN (h : Nat × Nat) : Nat := h.2 * 65536 + h.1
def addN (n : Nat) (l : List UInt8) : Nat := joinN (runN (halvesN n) l)
def LowN (h : Nat × Nat) : Prop := h.1 < 65521 ∧ h.2 < 65521
theorem step_low (h : Nat × Nat) (c : UInt8) : LowN (stepN h c) := ⟨Nat.mod_lt _ (by decide), Nat.mod_lt _ (by decide)⟩
theorem halves_low (n : Nat) : LowN (halvesN n) := ⟨Nat.mod_lt _ (by decide), Nat.mod_lt _ (by decide)⟩
theorem run_low {h : Nat × Nat} (hl : LowN h) (l : List UInt8) : LowN (runN h l) := by
  induction l generalizing h with
  | nil => exact hl
  | cons c r ih => exact ih (step_low h c)
theorem run_snoc (h : Nat × Nat) (l : List UInt8) (c : UInt8) : runN h (l ++ [c]) = stepN (runN h l) c := by simp [runN]
theorem run_append (h : Nat × Nat) (l m : List UInt8) : runN h (l ++ m) = runN (runN h l) m := by simp [runN]
theorem halves_join {h : Nat × Nat} (hl : LowN h) : halvesN (joinN h) = h := by
  obtain ⟨a, b⟩ := h
  obtain ⟨h1, h2⟩ := hl
  simp only [halvesN, joinN, Prod.mk.injEq] at *
  omega
theorem join_lt {h : Nat × Nat} (hl : LowN h) : joinN h < 4294967296 := by
  obtain ⟨a, b⟩ := h
  obtain ⟨h1, h2⟩ := hl
  simp only [joinN] at *
  omega
theorem add_lt (n : Nat) (l : List UInt8) : addN n l < 4294967296 := join_lt (run_low (halves_low n) l)
theorem add_append (n : Nat) (l m : List UInt8) : addN n (l ++ m) = addN (addN n l) m := by
  unfold addN
  rw [halves_join (run_low (halves_low n) l), run_append]
theorem add_nil_add (n : Nat) (l : List UInt8) : addN (addN n l) [] = addN n l := by
  rw [← add_append, List.append_nil]
theorem add_halves (n : Nat) (l : List UInt8) : addN n l % 65536 < 65521 ∧ addN n l / 65536 < 65521 := by
  have := run_low (halves_low n) l
  obtain ⟨h1, h2⟩ := this
  unfold addN joinN
  omega
theorem take_snoc (s : ByteArray) (k : Nat) (h : k < s.size) : s.data.toList.take (k + 1) = s.data.toList.take k ++ [s[k]] := by
  rw [List.take_succ_eq_append_getElem (by simpa using h)]; rfl
theorem run_take (h : Nat × Nat) (s : ByteArray) (k : Nat) (hk : k < s.size) : runN h (s.data.toList.take (k + 1)) = stepN (runN h (s.data.toList.take k)) s[k] := by
  rw [take_snoc s k hk, run_snoc]
/-- Two unlike starts never meet. -/
theorem run_apart {h g : Nat × Nat} (hh : LowN h) (hg : LowN g) (l : List UInt8) (ne : h ≠ g) : runN h l ≠ runN g l := by
  induction l generalizing h g with
  | nil => exact ne
  | cons c r ih =>
    refine ih (step_low h c) (step_low g c) ?_
    intro e
    apply ne
    obtain ⟨a, b⟩ := h
    obtain ⟨a', b'⟩ := g
    obtain ⟨h1, h2⟩ := hh
    obtain ⟨g1, g2⟩ := hg
    simp only [stepN, Prod.mk.injEq] at *
    omega
theorem step_apart {h : Nat × Nat} (hh : LowN h) {c d : UInt8} (ne : c ≠ d) : stepN h c ≠ stepN h d := by
  intro e
  apply ne
  obtain ⟨a, b⟩ := h
  obtain ⟨h1, h2⟩ := hh
  simp only [stepN, Prod.mk.injEq] at *
  have := UInt8.toNat_lt c
  have := UInt8.toNat_lt d
  exact UInt8.toNat_inj.1 (by omega)
theorem join_inj {h g : Nat × Nat} (hh : LowN h) (hg : LowN g) (e : joinN h = joinN g) : h = g := by
  rw [← halves_join hh, ← halves_join hg, e]
theorem add_apart (n : Nat) (a b : List UInt8) {c d : UInt8} (ne : c ≠ d) : addN n (a ++ c :: b) ≠ addN n (a ++ d :: b) := by
  intro e
  have hl := run_low (halves_low n) a
  have e2 := join_inj (run_low (halves_low n) _) (run_low (halves_low n) _) e
  rw [run_append, run_append] at e2
  exact run_apart (step_low _ c) (step_low _ d) b (step_apart hl ne) e2
/-- A digit of base 16. -/
def hxB (k : Nat) : UInt8 := if k < 10 then UInt8.ofNat (48 + k) else UInt8.ofNat (87 + k)
/-- The last i digits of n. -/
def digsN (n : Nat) : Nat → List UInt8
  | 0 => []
  | i + 1 => hxB (n / 16 ^ i % 16) :: digsN n i
def hexN (n : Nat) : List UInt8 := digsN n 8
theorem digs_len (n i : Nat) : (digsN n i).length = i := by induction i with
  | zero => rfl
  | succ i ih => simp [digsN, ih]
theorem dig_inj {a b : Nat} (ha : a < 16) (hb : b < 16) (h : hxB a = hxB b) : a = b := by
  have : ∀ a : Fin 16, ∀ b : Fin 16, hxB a.1 = hxB b.1 → a.1 = b.1 := by decide
  exact this ⟨a, ha⟩ ⟨b, hb⟩ h
theorem digs_inj (i a b : Nat) (h : digsN a i = digsN b i) : a % 16 ^ i = b % 16 ^ i := by
  induction i with
  | zero => simp [Nat.mod_one]
  | succ i ih =>
    simp only [digsN, List.cons.injEq] at h
    have h1 := dig_inj (Nat.mod_lt _ (by decide)) (Nat.mod_lt _ (by decide)) h.1
    have h2 := ih h.2
    rw [Nat.pow_succ, Nat.mod_mul, Nat.mod_mul, h1, h2]
theorem hex_inj {a b : Nat} (ha : a < 4294967296) (hb : b < 4294967296) (h : hexN a = hexN b) : a = b := by
  have := digs_inj 8 a b h
  simp only [show (16 : Nat) ^ 8 = 4294967296 from rfl] at this
  omega

end Go.Proofs.YtllkibdpjpdbbaaDoor
