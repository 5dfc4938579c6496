/-
  The chapter's examples, as the statements' own shown asks them.
-/
import Derived.Test.YtginlknlkbhgaaaFSep
namespace Go.Proofs.Ytginlknlkbhgaaa
open Go.RowKit Go.Shelf Go.Maps

def sh0 : St := (0, [], [], [])
def sh1 : St := (opW 100 sh0 [97] [120]).2
def sh2 : St := opS sh1
def sh3 : St := (opW 100 sh2 [116] [121, 122]).2
def sh4 : St := (opN sh3 [116] [97]).2
theorem sh_a : filesOf (opC sh4 1 0).now = [([97], [120]), ([116], [121, 122])] := by decide +kernel
theorem sh_b : filesOf (opC sh4 0 1).now = [([97], [120]), ([116], [121])] := by decide +kernel
theorem sh_c : filesOf (opC sh4 9 0).now = [([97], [121, 122])] := by decide +kernel
theorem g0 : Good 100 0 sh0 := Good.new (by omega) (by omega)
theorem g1 : Good 100 1 sh1 := g0.opW _ _
theorem g2 : Good 100 1 sh2 := g1.opS
theorem g3 : Good 100 2 sh3 := g2.opW _ _
theorem g4 : Good 100 3 sh4 := g3.opN _ _

theorem sh_c1 {w w1 : World} {bt bm : Nat} {l : List Ent} {W : World} (h : Box w w1 bt bm 100 ((false, bt, sh0) :: l) W) : Calls Try.prog 15 #[.pointer (some ⟨bt, 0, none⟩), .string ⟨#[97]⟩, .string ⟨#[120]⟩] W fun r w' => (∃ c, r = .returned c) ∧ Box w w1 bt bm 100 ((false, bt, sh1) :: l) w' :=
  (h.1.write g0 (by omega) ⟨#[97]⟩ ⟨#[120]⟩ (by decide) (by decide)).mono fun _ _ k => ⟨⟨_, k.1⟩, k.2, h.2⟩
theorem sh_c2 {w w1 : World} {bt bm : Nat} {l : List Ent} {W : World} (h : Box w w1 bt bm 100 ((false, bt, sh1) :: l) W) : Calls Try.prog 22 #[.pointer (some ⟨bt, 0, none⟩)] W fun r w' => (∃ c, r = .returned c) ∧ Box w w1 bt bm 100 ((false, bt, sh2) :: l) w' :=
  (h.1.sync g1).mono fun _ _ k => ⟨⟨_, k.1⟩, k.2, h.2⟩
theorem sh_c3 {w w1 : World} {bt bm : Nat} {l : List Ent} {W : World} (h : Box w w1 bt bm 100 ((false, bt, sh2) :: l) W) : Calls Try.prog 15 #[.pointer (some ⟨bt, 0, none⟩), .string ⟨#[116]⟩, .string ⟨#[121, 122]⟩] W fun r w' => (∃ c, r = .returned c) ∧ Box w w1 bt bm 100 ((false, bt, sh3) :: l) w' :=
  (h.1.write g2 (by omega) ⟨#[116]⟩ ⟨#[121, 122]⟩ (by decide) (by decide)).mono fun _ _ k => ⟨⟨_, k.1⟩, k.2, h.2⟩
theorem sh_c4 {w w1 : World} {bt bm : Nat} {l : List Ent} {W : World} (h : Box w w1 bt bm 100 ((false, bt, sh3) :: l) W) : Calls Try.prog 23 #[.pointer (some ⟨bt, 0, none⟩), .string ⟨#[116]⟩, .string ⟨#[97]⟩] W fun r w' => (∃ c, r = .returned c) ∧ Box w w1 bt bm 100 ((false, bt, sh4) :: l) w' :=
  (h.1.rename g3 (by omega) ⟨#[116]⟩ ⟨#[97]⟩ (by decide) (by decide)).mono fun _ _ k => ⟨⟨_, k.1⟩, k.2, h.2⟩
theorem sh_c5 {w w1 : World} {bt bm : Nat} {l : List Ent} {W : World} (h : Box w w1 bt bm 100 ((false, bt, sh4) :: l) W) : Calls Try.prog 14 #[.pointer (some ⟨bt, 0, none⟩)] W fun r w' => ∃ c, r = .returned (.pointer (some ⟨c, 0, none⟩)) ∧ Box w w1 bt bm 100 ((false, c, sh4) :: (false, bt, sh4) :: l) w' :=
  (h.1.clone g4 (by omega)).mono fun _ _ ⟨c, k⟩ => ⟨c, k.1, k.2, h.2⟩
theorem sh_c6 {w w1 : World} {bt bm b : Nat} {l : List Ent} {W : World} (h : Box w w1 bt bm 100 ((false, b, sh4) :: l) W) (many part : Int) (hp : part < 9223372036854775808) : Calls Try.prog 16 #[.pointer (some ⟨b, 0, none⟩), .int .i64 many, .int .i64 part] W fun r w' => r = .returned (.tuple #[]) ∧ Box w w1 bt bm 100 ((false, b, opC sh4 many part) :: l) w' :=
  (h.1.crash g4 many part hp).mono fun _ _ k => ⟨k.1, k.2, h.2⟩
theorem sh_c7 {w w1 : World} {bt bm b n m : Nat} {S : St} {l : List Ent} {W : World} {al : List AF} (h : Box w w1 bt bm 100 ((false, b, S) :: l) W) (hg : Good 100 n S) (hn : n < 268435456) (hal : filesOf S.now = al) (hm : al.length = m) : Calls Try.prog 26 #[.pointer (some ⟨b, 0, none⟩)] W fun r w' => ∃ o k, r = .returned (.slice o m k) ∧ RowA w' (fun n => W.heap.size ≤ n) (.slice o m k) al ∧ Below W.heap.size W w' ∧ Box w w1 bt bm 100 ((false, b, S) :: l) w' := by
  subst hm
  subst hal
  exact (h.1.files hg hn).mono fun _ _ ⟨o, k, k1, k2, k3⟩ => ⟨o, k, k1, k2, k3, h.1.below k3, h.2⟩
theorem txt1 : txt [120] = ⟨#[120]⟩ := rfl
theorem txt2 : txt [121, 122] = ⟨#[121, 122]⟩ := rfl
theorem txt3 : txt [121] = ⟨#[121]⟩ := rfl

set_option maxRecDepth 100000 in
set_option maxHeartbeats 4000000 in
theorem shown_any (w : World) : Calls Try.prog 11 #[] w fun e w' => e = .returned (.bool true) ∧ Below w.heap.size w w' := by
  have HN := Lib.hid (begun_ok 100 (by omega) (by omega) w)
  go_enter Try.func11, Try.ntmps11
  go_wp2_with (first
    | (go_at_call 13; refine (HN.out).mono ?_; rintro e w1 ⟨bt, bm, rfl, hB⟩; have h0 : Box w w1 bt bm 100 [(false, bt, sh0), (true, bm, (0, [], [], []))] (pairW w1 bt bm) := began hB; clear hB)
    | (go_at_call 15; with_reducible refine (sh_c1 h0).mono ?_; rintro e w2 ⟨⟨c2, rfl⟩, h1⟩; have hb1 := boxAt h1)
    | (go_at_call 22; with_reducible refine (sh_c2 h1).mono ?_; rintro e w3 ⟨⟨c3, rfl⟩, h2⟩; have hb2 := boxAt h2)
    | (go_at_call 15; with_reducible refine (sh_c3 h2).mono ?_; rintro e w4 ⟨⟨c4, rfl⟩, h3⟩; have hb3 := boxAt h3)
    | (go_at_call 23; with_reducible refine (sh_c4 h3).mono ?_; rintro e w5 ⟨⟨c5, rfl⟩, h4⟩; have hb4 := boxAt h4)
    | (go_at_call 14; with_reducible refine (sh_c5 h4).mono ?_; rintro e w6 ⟨bq, rfl, h5⟩; have hb5 := boxAt h5; have h5s := And.intro h5.1.swap h5.2)
    | (go_at_call 14; with_reducible refine (sh_c5 h5s).mono ?_; rintro e w7 ⟨br, rfl, h6⟩; have hb6 := boxAt h6; have h6s := And.intro h6.1.swap h6.2)
    | (go_at_call 16; with_reducible refine (sh_c6 h6s 1 0 (by omega)).mono ?_; rintro e w8 ⟨rfl, h7⟩; have hb7 := boxAt h7; have h7s := And.intro h7.1.third h7.2)
    | (go_at_call 16; with_reducible refine (sh_c6 h7s 0 1 (by omega)).mono ?_; rintro e w9 ⟨rfl, h8⟩; have hb8 := boxAt h8; have h8s := And.intro h8.1.third h8.2)
    | (go_at_call 16; with_reducible refine (sh_c6 h8s 9 0 (by omega)).mono ?_; rintro e w10 ⟨rfl, h9⟩; have hb9 := boxAt h9; have h9s := And.intro h9.1.third h9.2)
    | (go_at_call 26; with_reducible refine (sh_c7 h9s (g4.opC 1 0) (by omega) sh_a rfl).mono ?_; rintro e w11 ⟨oa, ca, rfl, r1, e1, h10⟩; have hb10 := boxAt h10; have h10s := And.intro h10.1.third h10.2)
    | (go_at_call 26; with_reducible refine (sh_c7 h10s (g4.opC 0 1) (by omega) sh_b rfl).mono ?_; rintro e w12 ⟨ob, cb, rfl, r2, e2, h11⟩; have hb11 := boxAt h11; have h11s := And.intro h11.1.third h11.2)
    | (go_at_call 26; with_reducible refine (sh_c7 h11s (g4.opC 9 0) (by omega) sh_c rfl).mono ?_; rintro e w13 ⟨oc, cc, rfl, r3, e3, h12⟩; obtain ⟨z1, y1⟩ := rowA_cells r1 (e2.trans (e3.mono e2.size)); obtain ⟨z2, y2⟩ := rowA_cells r2 e3; obtain ⟨z3, y3⟩ := rowA_cells r3 (Below.refl _ _); obtain ⟨ga, rfl, _, a0⟩ := y1 0 _ _ rfl; obtain ⟨_, hga, _, a1⟩ := y1 1 _ _ rfl; cases hga; obtain ⟨gb, rfl, _, b1⟩ := y2 1 _ _ rfl; obtain ⟨gc, rfl, _, c0⟩ := y3 0 _ _ rfl; rw [txt1] at a0; rw [txt2] at a1; rw [txt3] at b1; rw [txt2] at c0; clear y1 y2 y3))
  go_ret
  exact ⟨rfl, boxBack h12⟩

end Go.Proofs.Ytginlknlkbhgaaa
