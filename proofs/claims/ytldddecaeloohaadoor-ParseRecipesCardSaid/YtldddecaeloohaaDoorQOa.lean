/-
  What the program's compared answers. For every two texts of at most a million bytes. No condition.
-/
import Derived.Test.YtldddecaeloohaaDoorQR
namespace Go.Proofs.YtldddecaeloohaaDoor
open Go.RowKit Go.Shelf
attribute [local go_sem] Oper.semAt_some

set_option maxRecDepth 100000 in
set_option maxHeartbeats 4000000 in
theorem compared_any (a rest : ByteArray) (hs : rest.size ≤ 1000000) (w : World) : Calls Tryd.prog 46 #[.string a, .string rest] w (OnePost (ifL 0 a.data.toList rest.data.toList) w) := by
  have hsm : rest.size ≤ 9223372036854775807 := by omega
  have hmid := mid_len rest.data.toList
  rw [size_list] at hmid
  have hpl : (Lib.trimPrefix rest.data.toList [40]).length ≤ rest.size := by
    unfold Lib.trimPrefix
    split
    · rw [List.length_drop, size_list]; omega
    · rw [size_list]; exact Nat.le_refl _
  have HC1 := Lib.hid (cutPrefix_any rest ⟨#[40]⟩)
  have HC2 := Lib.hid (cutSuffix_any (txt (Lib.trimPrefix rest.data.toList [40])) ⟨#[41]⟩ (by rw [txt_size]; omega))
  rw [txt_data] at HC2
  have HC3 := Lib.hid (pcutOne 44 (txt (Lib.trimSuffix (Lib.trimPrefix rest.data.toList [40]) [41])) (by rw [txt_size]; omega))
  rw [txt_data] at HC3
  have hq := paren_is rest.data.toList
  have HQ := Lib.hid (paren_mid (l := rest.data.toList))
  change Hid (∀ w, Calls Tryd.prog 60 #[.string rest, .string ⟨#[40]⟩] w fun e w' => e = .returned (.tuple #[.string (txt (Lib.trimPrefix rest.data.toList [40])), .bool (Lib.hasPrefix rest.data.toList [40])]) ∧ w' = w) at HC1
  change Hid (∀ w, Calls Tryd.prog 61 #[.string (txt (Lib.trimPrefix rest.data.toList [40])), .string ⟨#[41]⟩] w fun e w' => e = .returned (.tuple #[.string (txt (Lib.trimSuffix (Lib.trimPrefix rest.data.toList [40]) [41])), .bool (Lib.hasSuffix (Lib.trimPrefix rest.data.toList [40]) [41])]) ∧ w' = w) at HC2
  generalize Lib.hasPrefix rest.data.toList [40] = b1 at HC1 hq
  generalize Lib.hasSuffix (Lib.trimPrefix rest.data.toList [40]) [41] = b2 at HC2 hq
  generalize Lib.trimSuffix (Lib.trimPrefix rest.data.toList [40]) [41] = t2 at HC2 HC3 HQ hmid
  generalize Lib.trimPrefix rest.data.toList [40] = t1 at HC1 HC2
  have hl := cut_len [[44]] t2
  obtain ⟨k1, hk1⟩ : ∃ x, x = (cutOf [[44]] t2).1 := ⟨_, rfl⟩
  obtain ⟨k2, hk2⟩ : ∃ x, x = (cutOf [[44]] t2).2.1 := ⟨_, rfl⟩
  obtain ⟨k3, hk3⟩ : ∃ x, x = (cutOf [[44]] t2).2.2 := ⟨_, rfl⟩
  rw [← hk1, ← hk2, ← hk3] at HC3
  rw [← hk1, ← hk3] at hl
  obtain ⟨y1, hy1⟩ : ∃ x, x = trimOf k1 := ⟨_, rfl⟩
  obtain ⟨y3, hy3⟩ : ∃ x, x = trimOf k3 := ⟨_, rfl⟩
  have HT1 := Lib.hid (trimQ (txt k1) (by rw [txt_size]; omega))
  have HT3 := Lib.hid (trimQ (txt k3) (by rw [txt_size]; omega))
  rw [txt_data, ← hy1] at HT1
  rw [txt_data, ← hy3] at HT3
  have HP : Hid (∀ W, Below w.heap.size w W → OnePost (ifL 0 a.data.toList rest.data.toList) w (.returned (.tuple #[.agg (cellsN ⟨3, 0, a.data.toList, y1, y3, [], [], [], [], []⟩), .bool (b1 && b2 && !decide (k2 = []))])) W) := fun W hW => by
    have hi : ifL 0 a.data.toList rest.data.toList = if b1 && b2 && !decide (k2 = []) then some ⟨3, 0, a.data.toList, y1, y3, [], [], [], [], []⟩ else none := by
      unfold ifL
      rw [hq]
      by_cases hc : 2 ≤ rest.data.toList.length ∧ rest.data.toList.head? = some 40 ∧ rest.data.toList.getLast? = some 41
      · rw [if_pos hc, decide_eq_true hc, ← HQ.out hc, Bool.true_and]
        simp only
        rw [← hk1, ← hk2, ← hk3, ← hy1, ← hy3]
        by_cases h2 : k2 = []
        · rw [if_pos h2, decide_eq_true h2]; rfl
        · rw [if_neg h2, decide_eq_false h2]; rfl
      · rw [if_neg hc, decide_eq_false hc]; rfl
    refine ⟨_, by rw [hi]; cases (b1 && b2 && !decide (k2 = [])) <;> rfl, fun n hn => ?_, hW⟩
    rw [hi] at hn
    split at hn
    · cases hn; rfl
    · cases hn
  have eb : (txt k2).toList.isEmpty = decide (k2 = []) := by rw [txt_toL]; cases k2 <;> rfl
  generalize decide (k2 = []) = bn at eb HP
  have htx : txt a.data.toList = a := txt_toList a
  have htx0 : txt [] = ⟨#[]⟩ := rfl
  have HTX := Lib.hid htx
  have HTX0 := Lib.hid htx0
  clear hq HQ hmid hpl hl hk1 hk2 hk3 hy1 hy3 htx htx0
  go_enter Tryd.func46, Tryd.ntmps46
  go_wp2_with fail
  have hZ : ZeroP w (w.alloc (.cells #[.int .i64 0, .int .i64 0, .string ⟨#[]⟩, .string ⟨#[]⟩, .string ⟨#[]⟩, .string ⟨#[]⟩, .string ⟨#[]⟩, .string ⟨#[]⟩, .string ⟨#[]⟩, .slice none 0 0] 49)) := ZeroP.start w
  generalize w.alloc (.cells #[.int .i64 0, .int .i64 0, .string ⟨#[]⟩, .string ⟨#[]⟩, .string ⟨#[]⟩, .string ⟨#[]⟩, .string ⟨#[]⟩, .string ⟨#[]⟩, .string ⟨#[]⟩, .slice none 0 0] 49) = w0 at hZ ⊢
  refine (HC1.out _).mono ?_
  rintro e w' ⟨rfl, hw'⟩
  obtain rfl := hw'.symm
  go_wp2_with fail
  refine (HC2.out _).mono ?_
  rintro e w' ⟨rfl, hw'⟩
  obtain rfl := hw'.symm
  go_wp2_with fail
  refine (HC3.out _ _ rfl).mono ?_
  rintro e w1 ⟨rfl, hb1⟩
  have hZ1 := hZ.below hb1
  clear hZ hb1 HC1 HC2 HC3
  go_upto_region 5 with (first
    | (go_at_call 44; with_reducible refine (HT1.out _).mono ?_; rintro e w2 ⟨rfl, hb2⟩)
    | (go_at_call 44; with_reducible refine (HT3.out _).mono ?_; rintro e w3 ⟨rfl, hb3⟩))
  have hZ3 := (hZ1.below hb2).below hb3
  have hN := hZ3.own #[.int .i64 3, .int .i64 0, .string a, .string (txt y1), .string (txt y3), .string ⟨#[]⟩, .string ⟨#[]⟩, .string ⟨#[]⟩, .string ⟨#[]⟩, .slice none 0 0]
  clear hZ1 hb2 hb3 hZ3
  generalize w3.alloc (.cells #[.int .i64 3, .int .i64 0, .string a, .string (txt y1), .string (txt y3), .string ⟨#[]⟩, .string ⟨#[]⟩, .string ⟨#[]⟩, .string ⟨#[]⟩, .slice none 0 0] 49) = W at hN ⊢
  generalize w3.heap.size = K at hN ⊢
  obtain ⟨⟨c0, c1, c2, c3, c4, c5, c6, c7, c8, c9⟩, fk⟩ := hN.cells
  obtain ⟨hz, fz⟩ := hN.zcells
  obtain ⟨z0, hz0⟩ := hz 0 (by omega)
  obtain ⟨z1, hz1⟩ := hz 1 (by omega)
  obtain ⟨z2, hz2⟩ := hz 2 (by omega)
  obtain ⟨z3, hz3⟩ := hz 3 (by omega)
  obtain ⟨z4, hz4⟩ := hz 4 (by omega)
  obtain ⟨z5, hz5⟩ := hz 5 (by omega)
  obtain ⟨z6, hz6⟩ := hz 6 (by omega)
  obtain ⟨z7, hz7⟩ := hz 7 (by omega)
  obtain ⟨z8, hz8⟩ := hz 8 (by omega)
  obtain ⟨z9, hz9⟩ := hz 9 (by omega)
  clear hz
  have HN := Lib.hid hN
  clear hN HT1 HT3
  cases b1 <;> cases b2 <;> cases bn <;> (
    go_wp2
    obtain ⟨hbk, r0, r1, r2, r3, r4, r5, r6, r7, r8, r9⟩ := HN.out.fin (.int .i64 3) (.int .i64 0) (.string a) (.string (txt y1)) (.string (txt y3)) (.string ⟨#[]⟩) (.string ⟨#[]⟩) (.string ⟨#[]⟩) (.string ⟨#[]⟩) (.slice none 0 0)
    unfold doneN at hbk r0 r1 r2 r3 r4 r5 r6 r7 r8 r9
    refine bodyPost_ret (v := .tuple #[.agg (cellsN ⟨3, 0, a.data.toList, y1, y3, [], [], [], [], []⟩), .bool _]) (by simp [results, Tryd.results46, go_sem, HTX.out, HTX0.out, r0, r1, r2, r3, r4, r5, r6, r7, r8, r9]) rfl (HP.out _ hbk))
end Go.Proofs.YtldddecaeloohaaDoor
