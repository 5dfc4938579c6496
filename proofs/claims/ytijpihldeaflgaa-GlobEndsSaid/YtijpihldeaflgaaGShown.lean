/-
  The chapter's examples come out as the statements' function shown asks: it answers true, and turns nothing that lay.
-/
import Derived.Test.YtijpihldeaflgaaGAny
namespace Go.Proofs.Ytijpihldeaflgaa
open Go.RowKit Go.Shelf

theorem gex1 : matchL [37, 46, 111] [97, 47, 98, 46, 111] = ([97, 47, 98], true) := by decide
theorem gex2 : matchL [97, 37, 97] [97] = ([], false) := by decide
theorem gex3 : substL [37, 46, 99] [111, 98, 106, 47, 37, 46, 111] [120, 46, 99] = [111, 98, 106, 47, 120, 46, 111] := by decide

theorem match_at {p s t : List UInt8} {b : Bool} (pa sa : ByteArray) (hp : pa.data.toList = p) (hs : sa.data.toList = s) (h1 : pa.size ≤ maxLen) (h2 : sa.size ≤ maxLen) (h : matchL p s = (t, b)) (w : World) :
    Calls Try.prog 11 #[.string pa, .string sa] w fun e w' => e = .returned (.tuple #[.string ⟨t.toArray⟩, .bool b]) ∧ ∃ n, w' = w.drewN n := by
  have := match_any pa sa h1 h2 w
  unfold MatchPost at this
  rw [hp, hs, h] at this
  exact this

set_option maxRecDepth 100000 in
set_option maxHeartbeats 2000000 in
theorem shown_any (w : World) : Calls Try.prog 9 #[] w fun e w' => e = .returned (.bool true) ∧ ∃ n, w' = w.drewN n := by
  have H1 := Lib.hid (match_at ⟨#[37, 46, 111]⟩ ⟨#[97, 47, 98, 46, 111]⟩ rfl rfl (by decide) (by decide) gex1)
  have H2 := Lib.hid (match_at ⟨#[97, 37, 97]⟩ ⟨#[97]⟩ rfl rfl (by decide) (by decide) gex2)
  have h3 := subst_any ⟨#[37, 46, 99]⟩ ⟨#[111, 98, 106, 47, 37, 46, 111]⟩ ⟨#[120, 46, 99]⟩ (by decide) (by decide) (by decide)
  unfold FillPost at h3
  rw [show substL (ByteArray.mk #[37, 46, 99]).data.toList (ByteArray.mk #[111, 98, 106, 47, 37, 46, 111]).data.toList (ByteArray.mk #[120, 46, 99]).data.toList = [111, 98, 106, 47, 120, 46, 111] from gex3] at h3
  have H3 := Lib.hid h3
  clear h3
  have c1 : ((txt [111, 98, 106, 47, 120, 46, 111]).toList == [111, 98, 106, 47, 120, 46, 111]) = true := by rw [txt_toL]; rfl
  go_enter Try.func9, Try.ntmps9
  go_wp2_with fail
  refine (H1.out _).mono ?_
  rintro e w1 ⟨rfl, n1, rfl⟩
  go_wp2_with fail
  refine (H2.out _).mono ?_
  rintro e w1 ⟨rfl, n2, rfl⟩
  go_wp2_with fail
  refine (H3.out _).mono ?_
  rintro e w1 ⟨rfl, n3, rfl⟩
  go_wp2_with fail
  go_ret
  exact ⟨rfl, _, rfl⟩

end Go.Proofs.Ytijpihldeaflgaa
