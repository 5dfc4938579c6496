/-
  What the document's Remove, Rename, Read, Sync, Used and New answer, and what is left of its tree.
-/
import Derived.Test.YtginlknlkbhgaaaFRef7
namespace Go.Proofs.Ytginlknlkbhgaaa
open Go.RowKit Go.Shelf Go.Maps

theorem RefP.cellL {w w' : World} {X P : Nat → Prop} {bm : Nat} {room : Int} {S : St} {vL vS vC : Value} (h : RefP w X bm room S P vL vS vC) (hb : Below w.heap.size w w') : w'.cell? ⟨bm, 2, none⟩ = some vL := (h.below hb).cells.cell.2.2.1

/-- Find, in the document's tree. -/
theorem rfind_no {w w' : World} {X P : Nat → Prop} {bm : Nat} {room : Int} {S : St} {vL vS vC : Value} (h : RefP w X bm room S P vL vS vC) (hln : S.now.length < 1073741824) (p : ByteArray) (hl : (look S.now p.data.toList).isSome = false) (hb : Below w.heap.size w w') :
    Calls Try.prog 49 #[vL, .string p] w' fun e w2 => e = .returned (.int .i64 (-1)) ∧ w' = w2 :=
  find_none vL P S.now p w' (h.below hb).now hln (by cases hx : look S.now p.data.toList with | none => rfl | some v => rw [hx] at hl; cases hl)
theorem rfind_at {w w' : World} {X P : Nat → Prop} {bm : Nat} {room : Int} {S : St} {vL vS vC : Value} (h : RefP w X bm room S P vL vS vC) (hln : S.now.length < 1073741824) (p : ByteArray) (hl : (look S.now p.data.toList).isSome = true) (hb : Below w.heap.size w w') :
    Calls Try.prog 49 #[vL, .string p] w' fun e w2 => (∃ j : Nat, e = .returned (.int .i64 j)) ∧ w' = w2 := by
  obtain ⟨v, hv⟩ := Option.isSome_iff_exists.1 hl
  refine (find_hit vL P S.now p w' (h.below hb).now hln hv).mono ?_
  rintro e w2 ⟨j, rfl, _, rfl⟩
  exact ⟨⟨j, rfl⟩, rfl⟩

set_option maxRecDepth 100000 in
set_option maxHeartbeats 1000000 in
theorem rRemove_good (bm : Nat) (X : Nat → Prop) (p : ByteArray) (room : Int) (n : Nat) (S : St) (w : World) (h : RefS w X bm room S) (hg : Good room n S) (hn : n < 536870912) :
    Calls Try.prog 43 #[.pointer (some ⟨bm, 0, none⟩), .string p] w fun r w' => r = .returned (.int .i64 (opR S p.data.toList).1) ∧ RStep w X bm room (opR S p.data.toList).2 w' := by
  have hln : S.now.length < 1073741824 := by have := hg.files.len; omega
  obtain ⟨P, vL, vS, vC, hp⟩ := id h
  have c2 := hp.cells.cell.2.2.1
  unfold opR
  cases hl : (look S.now p.data.toList).isSome with
  | false =>
    rw [if_neg (by simp)]
    have HF := Lib.hid (rfind_no hp hln p hl (Below.refl _ _))
    have HT := Lib.hid h
    clear h hg hp hl
    go_enter Try.func43, Try.ntmps43
    go_wp2_with (go_at_call 49; refine (HF.out).mono ?_; rintro e w1 ⟨rfl, rfl⟩)
    go_ret
    exact ⟨rfl, RStep.same HT.out (Below.refl _ _)⟩
  | true =>
    rw [if_pos rfl]
    have HF := Lib.hid (rfind_at hp hln p hl (Below.refl _ _))
    have hch : rcCells (2, p.data.toList, [], S.clock + 1) = [.int .i64 3, .string p, .string ⟨#[]⟩, .int .i64 0] := by
      unfold rcCells
      simp only [Ch.kind, Ch.path, Ch.arg, Ch.time]
      rw [txt_toList, if_neg (by omega)]; rfl
    have HC := Lib.hid (rchange_any bm X room S _ _ p _ _ hch w h (hg.rfits hn (by simp [Ch.kind]) (by simp [Ch.arg])))
    clear h hg hp hl hch
    go_enter Try.func43, Try.ntmps43
    go_wp2_with (first
      | (go_at_call 49; refine (HF.out).mono ?_; rintro e w1 ⟨⟨j, rfl⟩, rfl⟩; have hi0 : ¬ ((j : Int) < 0) := (by omega))
      | (go_at_call 56; refine (HC.out).mono ?_; rintro e w2 ⟨rfl, hq⟩))
    go_ret
    exact ⟨rfl, hq⟩

set_option maxRecDepth 100000 in
set_option maxHeartbeats 2000000 in
theorem rRename_good (bm : Nat) (X : Nat → Prop) (p q : ByteArray) (room : Int) (n : Nat) (S : St) (w : World) (h : RefS w X bm room S) (hg : Good room n S) (hn : n < 536870912) (hq : q.size ≤ 1048576) :
    Calls Try.prog 44 #[.pointer (some ⟨bm, 0, none⟩), .string p, .string q] w fun r w' => r = .returned (.int .i64 (opN S p.data.toList q.data.toList).1) ∧ RStep w X bm room (opN S p.data.toList q.data.toList).2 w' := by
  have hln : S.now.length < 1073741824 := by have := hg.files.len; omega
  obtain ⟨P, vL, vS, vC, hp⟩ := id h
  have c2 := hp.cells.cell.2.2.1
  have HT := Lib.hid h
  unfold opN
  cases hl : (look S.now p.data.toList).isSome with
  | false =>
    rw [if_pos rfl]
    have HF := Lib.hid (rfind_no hp hln p hl (Below.refl _ _))
    clear h hg hp hl
    go_enter Try.func44, Try.ntmps44
    go_wp2_with (go_at_call 49; refine (HF.out).mono ?_; rintro e w1 ⟨rfl, rfl⟩)
    go_ret
    exact ⟨rfl, RStep.same HT.out (Below.refl _ _)⟩
  | true =>
    rw [if_neg (by simp)]
    have HF := Lib.hid (rfind_at hp hln p hl (Below.refl _ _))
    cases hpq : pathB q.data.toList with
    | false =>
      rw [if_pos rfl]
      have HP := Lib.hid (rpath_b hpq w)
      clear h hg hp hl hpq
      go_enter Try.func44, Try.ntmps44
      go_wp2_with (first
        | (go_at_call 49; refine (HF.out).mono ?_; rintro e w1 ⟨⟨j, rfl⟩, rfl⟩; have hi0 : ¬ ((j : Int) < 0) := (by omega))
        | (go_at_call 57; refine (HP.out).mono ?_; rintro e w2 ⟨rfl, rfl⟩))
      go_ret
      exact ⟨rfl, RStep.same HT.out (Below.refl _ _)⟩
    | true =>
      rw [if_neg (by simp)]
      have HP := Lib.hid (rpath_b hpq w)
      by_cases hpe : p = q
      · have e1 : (p.toList == q.toList) = true := by rw [str_eq]; simp [hpe]
        rw [if_pos (by rw [hpe])]
        clear h hg hp hl hpq hpe
        go_enter Try.func44, Try.ntmps44
        go_wp2_with (first
          | (go_at_call 49; refine (HF.out).mono ?_; rintro e w1 ⟨⟨j, rfl⟩, rfl⟩; have hi0 : ¬ ((j : Int) < 0) := (by omega))
          | (go_at_call 57; refine (HP.out).mono ?_; rintro e w2 ⟨rfl, rfl⟩))
        go_ret
        exact ⟨rfl, RStep.same HT.out (Below.refl _ _)⟩
      · have e1 : (p.toList == q.toList) = false := by rw [str_eq]; simp [hpe]
        rw [if_neg (fun e => hpe (by rw [← txt_toList p, ← txt_toList q, e]))]
        have HD : Hid (Calls Try.prog 59 #[vL, .string p] w fun e w' => ∃ o m c, e = .returned (.slice o m c) ∧ Below w.heap.size w w' ∧ Calls Try.prog 58 #[.slice o m c, .string q] w' fun e w2 => e = .returned (.bool (blocked (drp p.data.toList S.now) q.data.toList)) ∧ w' = w2) := by
          refine (drop_any vL P S.now p w hp.now hln).mono ?_
          rintro e w' ⟨v', rfl, hr, hb'⟩
          obtain ⟨o, cc, rfl, _⟩ := hr.shape (fun _ => rfl)
          exact ⟨o, _, cc, rfl, hb', rblk_any _ _ _ q w' hr (Nat.lt_of_le_of_lt (drp_len _ _) hln) (by unfold maxLen; omega) (fun y hy => by have := hg.files.short y (mem_drp.1 hy).1; omega)⟩
        cases hbk : blocked (drp p.data.toList S.now) q.data.toList with
        | true =>
          rw [if_pos rfl]
          rw [hbk] at HD
          clear h hg hp hl hpq hpe hbk
          go_enter Try.func44, Try.ntmps44
          go_wp2_with (first
            | (go_at_call 49; refine (HF.out).mono ?_; rintro e w1 ⟨⟨j, rfl⟩, rfl⟩; have hi0 : ¬ ((j : Int) < 0) := (by omega))
            | (go_at_call 57; refine (HP.out).mono ?_; rintro e w2 ⟨rfl, rfl⟩)
            | (go_at_call 59; refine (HD.out).mono ?_; rintro e w3 ⟨o3, n3, c3, rfl, hb3, hB3⟩; have HB3 := Lib.hid hB3; clear hB3)
            | (go_at_call 58; refine (HB3.out).mono ?_; rintro e w4 ⟨rfl, rfl⟩))
          go_ret
          exact ⟨rfl, RStep.same HT.out hb3⟩
        | false =>
          rw [if_neg (by simp)]
          rw [hbk] at HD
          have hch : rcCells (3, p.data.toList, q.data.toList, S.clock + 1) = [.int .i64 4, .string p, .string q, .int .i64 0] := by
            unfold rcCells
            simp only [Ch.kind, Ch.path, Ch.arg, Ch.time]
            rw [txt_toList, txt_toList, if_neg (by omega)]; rfl
          have HCh : Hid (∀ w1, Below w.heap.size w w1 → Calls Try.prog 56 #[.pointer (some ⟨bm, 0, none⟩), .agg #[.int .i64 4, .string p, .string q, .int .i64 0]] w1 fun r w' => r = .returned (.tuple #[]) ∧ RStep w X bm room (doSt S 3 p.data.toList q.data.toList) w') := by
            intro w1 hb
            exact (rchange_any bm X room S _ _ p q _ hch w1 (h.below hb) (hg.rfits hn (by simp [Ch.kind]) (by simp only [Ch.arg]; rw [size_list]; exact hq))).mono (fun r w' hr => ⟨hr.1, RStep.behind hb hr.2⟩)
          clear h hg hp hl hpq hpe hbk hch
          go_enter Try.func44, Try.ntmps44
          go_wp2_with (first
            | (go_at_call 49; refine (HF.out).mono ?_; rintro e w1 ⟨⟨j, rfl⟩, rfl⟩; have hi0 : ¬ ((j : Int) < 0) := (by omega))
            | (go_at_call 57; refine (HP.out).mono ?_; rintro e w2 ⟨rfl, rfl⟩)
            | (go_at_call 59; refine (HD.out).mono ?_; rintro e w3 ⟨o3, n3, c3, rfl, hb3, hB3⟩; have HB3 := Lib.hid hB3; clear hB3)
            | (go_at_call 58; refine (HB3.out).mono ?_; rintro e w4 ⟨rfl, rfl⟩)
            | (go_at_call 56; refine (HCh.out _ hb3).mono ?_; rintro e w5 ⟨rfl, hq5⟩))
          go_ret
          exact ⟨rfl, hq5⟩

set_option maxRecDepth 100000 in
set_option maxHeartbeats 1000000 in
theorem rRead_good (bm : Nat) (X : Nat → Prop) (p : ByteArray) (room : Int) (n : Nat) (S : St) (w : World) (h : RefS w X bm room S) (hg : Good room n S) :
    Calls Try.prog 20 #[.pointer (some ⟨bm, 0, none⟩), .string p] w fun r w' => r = .returned (.tuple #[.string (txt (opRead S p.data.toList).1), .int .i64 (opRead S p.data.toList).2]) ∧ w = w' := by
  have hln : S.now.length < 1073741824 := by have := hg.files.len; omega
  obtain ⟨P, vL, vS, vC, hp⟩ := id h
  have c2 := hp.cells.cell.2.2.1
  unfold opRead
  cases hl : look S.now p.data.toList with
  | none =>
    have HF := Lib.hid (rfind_no hp hln p (by rw [hl]; rfl) (Below.refl _ _))
    clear h hg hp hl
    go_enter Try.func20, Try.ntmps20
    go_wp2_with (go_at_call 49; refine (HF.out).mono ?_; rintro e w1 ⟨rfl, rfl⟩)
    go_ret2
    exact ⟨rfl, rfl⟩
  | some v =>
    obtain ⟨vt, vm⟩ := v
    obtain ⟨st, hst⟩ : ∃ st, st = txt vt := ⟨_, rfl⟩
    have HF : Hid (Calls Try.prog 49 #[vL, .string p] w fun e w' => ∃ j : Nat, e = .returned (.int .i64 j) ∧ (∃ g c, vL = .slice (some ⟨g, 0, none⟩) S.now.length c ∧ w.cell? ⟨g, j * 3 + 1, none⟩ = some (.string st)) ∧ j < S.now.length ∧ w = w') := by
      refine (find_hit vL P S.now p w hp.now hln hl).mono ?_
      rintro e w' ⟨j, rfl, hj, rfl⟩
      have hjl := (List.getElem?_eq_some_iff.1 hj).1
      rcases RowR.cells hp.now with ⟨hl0, _⟩ | ⟨g, c, hv, _, _, hc⟩
      · rw [hl0] at hjl; simp at hjl
      · exact ⟨j, rfl, ⟨g, c, hv, by rw [hst]; exact (hc j _ hj).2.1⟩, hjl, rfl⟩
    show Calls _ _ _ _ fun r w' => r = .returned (.tuple #[.string (txt vt), .int .i64 0]) ∧ w = w'
    rw [← hst]
    obtain ⟨ln, hlnn⟩ : ∃ ln, ln = S.now.length := ⟨_, rfl⟩
    rw [← hlnn] at HF
    clear h hg hp hl hst hlnn
    go_enter Try.func20, Try.ntmps20
    go_wp2_with (go_at_call 49; refine (HF.out).mono ?_; rintro e w1 ⟨j, rfl, ⟨g, c, rfl, hc⟩, hjl, rfl⟩; have hi0 : ¬ ((j : Int) < 0) := (by omega); have hi1 : (0 : Int) ≤ (j : Int) := (by omega); have hi2 : (j : Int) < (ln : Int) := (by omega))
    go_ret2
    exact ⟨rfl, rfl⟩

set_option maxRecDepth 100000 in
set_option maxHeartbeats 1000000 in
theorem rUsed_good (bm : Nat) (X : Nat → Prop) (room : Int) (n : Nat) (S : St) (w : World) (h : RefS w X bm room S) (hg : Good room n S) :
    Calls Try.prog 47 #[.pointer (some ⟨bm, 0, none⟩)] w fun r w' => r = .returned (.int .i64 (used S.now : Nat)) ∧ w = w' := by
  obtain ⟨P, vL, vS, vC, hp⟩ := id h
  have c2 := hp.cells.cell.2.2.1
  have HU := Lib.hid (rused_any vL P S.now w hp.now (by have := hg.files.len; omega) (by have := hg.files.fit; have := hg.room1; omega))
  clear h hg hp
  go_enter Try.func47, Try.ntmps47
  go_wp2_with (go_at_call 61; refine (HU.out).mono ?_; rintro e w1 ⟨rfl, rfl⟩)
  go_ret
  exact ⟨rfl, rfl⟩

/-- Behind a sync, or a crash: both rows are one. -/
theorem ref_ends {w w1 W : World} {X P P1 : Nat → Prop} {bm : Nat} {room : Int} {S : St} {vL vS vC v : Value} {l : Fs} (hp : RefP w X bm room S P vL vS vC) (hb : Below w.heap.size w w1) (hr : RowF w1 P1 v l) (hP1 : ∀ n, P1 n → P n ∨ w.heap.size ≤ n)
    (hC : MC W bm room S.clock v v (.slice none 0 0)) (hT : Turned (fun n => n = bm) w1 W) : RStep w X bm room (S.clock, l, l, []) W := by
  have hbl : bm < w.heap.size := hp.lt _ hp.xb
  have hbs := hb.size
  have hne : ∀ n, P1 n ∧ n < w1.heap.size → ¬ n = bm := fun n hn hx => by
    rcases hP1 n hn.1 with h | h
    · exact (hp.sub n h).2 hx
    · omega
  have hR := (RowR.tight hr).kept hT hne
  refine ⟨fun n => X n ∨ (w.heap.size ≤ n ∧ n < w1.heap.size), ⟨fun n => P1 n ∧ n < w1.heap.size, v, v, .slice none 0 0, ⟨hC, hR, hR, RowR.nil _ _ _ _ _, .inl hp.xb, fun n hn => ⟨?_, hne n hn⟩, fun n hn => ?_⟩⟩, ?_, fun n hn => hn.elim .inl (fun h => .inr h.1)⟩
  · rcases hP1 n hn.1 with h | h
    · exact .inl (hp.sub n h).1
    · exact .inr ⟨h, hn.2⟩
  · have := hT.size
    rcases hn with h | h
    · have := hp.lt n h; omega
    · omega
  · exact ((turned_below hb).wider fun _ h => h.elim).trans (hT.wider fun n hn => by rw [hn]; exact hp.xb)

set_option maxRecDepth 100000 in
set_option maxHeartbeats 1000000 in
theorem rSync_good (bm : Nat) (X : Nat → Prop) (room : Int) (S : St) (w : World) (h : RefS w X bm room S) :
    Calls Try.prog 45 #[.pointer (some ⟨bm, 0, none⟩)] w fun r w' => r = .returned (.tuple #[]) ∧ RStep w X bm room (opS S) w' := by
  obtain ⟨P, vL, vS, vC, hp⟩ := id h
  obtain ⟨c0, c1, c2, c3, c4⟩ := hp.cells.cell
  have f3 := hp.cells.frozen 3
  have f4 := hp.cells.frozen 4
  obtain ⟨o, c, hv, _⟩ := RowR.shape hp.now (fun _ => rfl)
  have HS : Hid (RStep w X bm room (opS S) ((w.setCell ⟨bm, 3, none⟩ vL).setCell ⟨bm, 4, none⟩ (.slice none 0 0))) :=
    ref_ends hp (Below.refl _ _) hp.now (fun _ => .inl) ((hp.cells.set3 _).set4 _) ((Turned.setCell (X := fun n => n = bm) w ⟨bm, 3, none⟩ _ rfl).trans (Turned.setCell (X := fun n => n = bm) _ ⟨bm, 4, none⟩ _ rfl))
  obtain ⟨ln, hln⟩ : ∃ ln, ln = S.now.length := ⟨_, rfl⟩
  rw [← hln] at hv
  obtain ⟨T, hT⟩ : ∃ T, T = opS S := ⟨_, rfl⟩
  rw [← hT] at HS ⊢
  subst hv
  clear h hp hln hT
  go_enter Try.func45, Try.ntmps45
  go_wp2
  go_end0
  exact ⟨rfl, HS.out⟩

theorem rnew (w : World) (room : Int) : RefS (w.alloc (.cells #[.int .i64 room, .int .i64 0, .slice none 0 0, .slice none 0 0, .slice none 0 0] 79)) (fun n => n = w.heap.size) w.heap.size room (0, [], [], []) :=
  ⟨fun _ => False, _, _, _, ⟨World.alloc_heap_new w _, RowR.nil _ _ _ _ _, RowR.nil _ _ _ _ _, RowR.nil _ _ _ _ _, rfl, fun _ h => h.elim, fun n hn => by rw [hn]; simp⟩⟩
set_option maxRecDepth 100000 in
set_option maxHeartbeats 2000000 in
theorem rnew_ok (room : Int) (h0 : 1 ≤ room) (h1 : room ≤ 1073741824) (w : World) :
    Calls Try.prog 33 #[.int .i64 room] w fun r w' => r = .returned (.tuple #[.pointer (some ⟨w.heap.size, 0, none⟩), .int .i64 0]) ∧ RefS w' (fun n => n = w.heap.size) w.heap.size room (0, [], [], []) ∧ Below w.heap.size w w' := by
  have e1 : ¬ room < 1 := by omega
  have e2 : ¬ 1073741824 < room := by omega
  have HT := Lib.hid (rnew w room)
  go_enter Try.func33, Try.ntmps33
  go_wp2
  go_ret2
  exact ⟨rfl, HT.out, (Below.refl _ w).alloc (Nat.le_refl _) _⟩
set_option maxRecDepth 100000 in
set_option maxHeartbeats 2000000 in
theorem rnew_err (room : Int) (h : room < 1 ∨ 1073741824 < room) (w : World) :
    Calls Try.prog 33 #[.int .i64 room] w fun r w' => r = .returned (.tuple #[.pointer none, .int .i64 1]) ∧ w = w' := by
  by_cases h1 : room < 1
  · clear h
    go_enter Try.func33, Try.ntmps33
    go_wp2
    go_ret2
    exact ⟨rfl, rfl⟩
  · have h2 : 1073741824 < room := by omega
    clear h
    go_enter Try.func33, Try.ntmps33
    go_wp2
    go_ret2
    exact ⟨rfl, rfl⟩

end Go.Proofs.Ytginlknlkbhgaaa
