/-
  What the document's tree answers, act for act, and what is left of it: on any tree that any acts made.
-/
import Derived.Test.YtginlknlkbhgaaaFRef6
namespace Go.Proofs.Ytginlknlkbhgaaa
open Go.RowKit Go.Shelf Go.Maps

theorem Good.rfits {room : Int} {n : Nat} {S : St} (h : Good room n S) (hn : n < 536870912) {c : Ch} (hk : c.kind ≤ 3) (ha : c.arg.length ≤ 1048576) : RFits S c :=
  ⟨hk, ha, by have := h.files.len; omega, fun y hy => by have := h.files.texts y hy; omega, by have := h.pends; omega, h.clock0, by have := h.clock1; omega⟩
def newT (k : Nat) (S : St) (p s : BS) : BS := if k = 0 then s else textOf S.now p ++ s
def opK (k : Nat) (room : Int) (S : St) (p s : BS) : Int × St :=
  if checkC room S.now p (newT k S p s).length = 0 then (0, doSt S k p s) else (checkC room S.now p (newT k S p s).length, S)
theorem opK_0 (room : Int) (S : St) (p s : BS) : opK 0 room S p s = opW room S p s := rfl
theorem opK_1 (room : Int) (S : St) (p s : BS) : opK 1 room S p s = opA room S p s := by
  unfold opK opA
  rw [show (newT 1 S p s).length = (textOf S.now p).length + s.length by unfold newT; rw [if_neg (by omega), List.length_append]]
theorem after_new {k : Nat} (hk : k ≤ 1) (S : St) (p s : BS) (t : Int) : after S.now (k, p, s, t) = put (p, newT k S p s, t) S.now := by
  rcases (show k = 0 ∨ k = 1 by omega) with rfl | rfl <;> rfl

theorem rwrite_good (bm : Nat) (X : Nat → Prop) (k : Nat) (hk : k ≤ 1) (p s : ByteArray) (room : Int) (n : Nat) (S : St) (w : World) (h : RefS w X bm room S) (hg : Good room n S) (hn : n < 536870912) (hp : p.size ≤ 1048576) (hs : s.size ≤ 1048576) :
    Calls Try.prog 55 #[.pointer (some ⟨bm, 0, none⟩), .int .i64 (k + 1 : Nat), .string p, .string s] w fun r w' => r = .returned (.int .i64 (opK k room S p.data.toList s.data.toList).1) ∧ RStep w X bm room (opK k room S p.data.toList s.data.toList).2 w' := by
  have hsl : s.data.toList.length ≤ 1048576 := by rw [size_list]; exact hs
  have hf : RFits S (k, p.data.toList, s.data.toList, S.clock + 1) := hg.rfits hn (by show k ≤ 3; omega) hsl
  obtain ⟨nt, hnt⟩ : ∃ nt : ByteArray, nt = txt (newT k S p.data.toList s.data.toList) := ⟨_, rfl⟩
  have hnd : nt.data.toList = newT k S p.data.toList s.data.toList := by rw [hnt, txt_data]
  have hns : (newT k S p.data.toList s.data.toList).length = nt.size := by rw [← hnd, size_list]
  have hlook : look (after S.now (k, p.data.toList, s.data.toList, S.clock + 1)) p.data.toList = some (nt.data.toList, S.clock + 1) := by
    rw [after_new hk, hnd]; exact look_put_same hg.files.srt _ _
  have hused : used (after S.now (k, p.data.toList, s.data.toList, S.clock + 1)) + (textOf S.now p.data.toList).length = used S.now + nt.size := by
    rw [after_new hk, used_put hg.files.srt, ← hns]
  have hlen : (after S.now (k, p.data.toList, s.data.toList, S.clock + 1)).length = if (look S.now p.data.toList).isSome then S.now.length else S.now.length + 1 := by
    rw [after_new hk, put_length hg.files.srt]
  have htl := text_used S.now p.data.toList
  have hfit := hg.files.fit
  have hr1 := hg.room1
  have hl200 := hg.files.len
  have hnts : nt.size ≤ 16777216 + 1048576 := by
    rw [← hns]; unfold newT
    split
    · omega
    · rw [List.length_append]
      have : (textOf S.now p.data.toList).length ≤ 16777216 := by
        unfold textOf
        cases hx : look S.now p.data.toList with
        | none => simp
        | some v => exact hg.files.texts _ (look_mem hx)
      omega
  have hu : used (after S.now (k, p.data.toList, s.data.toList, S.clock + 1)) < 4611686018427387904 := by omega
  have hpl : ∀ y ∈ S.now, y.1.length ≤ 1048576 := fun y hy => by have := hg.files.short y hy; omega
  have hpm : p.size ≤ maxLen := by unfold maxLen; omega
  unfold opK checkC
  rw [hns]
  cases hpb : pathB p.data.toList with
  | false =>
    rw [if_pos rfl, if_neg (by omega)]
    exact (rwrite_arg bm _ p s w hpb).mono (fun r w' hr => ⟨hr.1, by rw [← hr.2]; exact RStep.same h (Below.refl _ _)⟩)
  | true =>
    rw [if_neg (show ¬ true = false by simp)]
    by_cases e1 : 16777216 < nt.size
    · rw [if_pos e1, if_neg (by omega)]
      exact rwrite_long bm X k p s nt room S w h hf hk hpb hpl hpm hu hlook e1
    · rw [if_neg e1]
      cases e2 : blocked S.now p.data.toList with
      | true =>
        rw [if_pos rfl, if_neg (by omega)]
        exact rwrite_there bm X k p s nt room S w h hf hk hpb hpl hpm hu hlook e1 e2
      | false =>
        rw [if_neg (show ¬ false = true by simp)]
        by_cases e3 : room < (used (after S.now (k, p.data.toList, s.data.toList, S.clock + 1)) : Int)
        · rw [if_pos (show room < (used S.now : Int) - ((textOf S.now p.data.toList).length : Int) + (nt.size : Int) by omega), if_neg (by omega)]
          exact rwrite_full1 bm X k p s nt room S w h hf hk hpb hpl hpm hu hlook e1 e2 e3
        · rw [if_neg (show ¬ room < (used S.now : Int) - ((textOf S.now p.data.toList).length : Int) + (nt.size : Int) by omega)]
          by_cases e4 : 200 < (after S.now (k, p.data.toList, s.data.toList, S.clock + 1)).length
          · have h4 : 200 ≤ S.now.length ∧ (look S.now p.data.toList).isSome = false := by
              rw [hlen] at e4
              cases hx : (look S.now p.data.toList).isSome with
              | true => rw [hx, if_pos rfl] at e4; omega
              | false => rw [hx, if_neg (by simp)] at e4; exact ⟨by omega, rfl⟩
            rw [if_pos h4, if_neg (by omega)]
            exact rwrite_full2 bm X k p s nt room S w h hf hk hpb hpl hpm hu hlook e1 e2 e3 e4
          · have h4 : ¬ (200 ≤ S.now.length ∧ (look S.now p.data.toList).isSome = false) := by
              rintro ⟨h5, h6⟩
              rw [hlen, h6, if_neg (by simp)] at e4
              omega
            rw [if_neg h4, if_pos rfl]
            exact rwrite_ok bm X k p s nt room S w h hf hk hpb hpl hpm hu hlook e1 e2 e3 e4

set_option maxRecDepth 100000 in
set_option maxHeartbeats 1000000 in
theorem rWrite_good (bm : Nat) (X : Nat → Prop) (p s : ByteArray) (room : Int) (n : Nat) (S : St) (w : World) (h : RefS w X bm room S) (hg : Good room n S) (hn : n < 536870912) (hp : p.size ≤ 1048576) (hs : s.size ≤ 1048576) :
    Calls Try.prog 41 #[.pointer (some ⟨bm, 0, none⟩), .string p, .string s] w fun r w' => r = .returned (.int .i64 (opW room S p.data.toList s.data.toList).1) ∧ RStep w X bm room (opW room S p.data.toList s.data.toList).2 w' := by
  have := rwrite_good bm X 0 (by omega) p s room n S w h hg hn hp hs
  rw [opK_0] at this
  have HC := Lib.hid this
  clear this h hg hn hp hs
  go_enter Try.func41, Try.ntmps41
  go_wp2_with (go_at_call 55; refine (HC.out).mono ?_; rintro e w1 ⟨rfl, hq⟩)
  go_ret
  exact ⟨rfl, hq⟩
set_option maxRecDepth 100000 in
set_option maxHeartbeats 1000000 in
theorem rAppend_good (bm : Nat) (X : Nat → Prop) (p s : ByteArray) (room : Int) (n : Nat) (S : St) (w : World) (h : RefS w X bm room S) (hg : Good room n S) (hn : n < 536870912) (hp : p.size ≤ 1048576) (hs : s.size ≤ 1048576) :
    Calls Try.prog 42 #[.pointer (some ⟨bm, 0, none⟩), .string p, .string s] w fun r w' => r = .returned (.int .i64 (opA room S p.data.toList s.data.toList).1) ∧ RStep w X bm room (opA room S p.data.toList s.data.toList).2 w' := by
  have := rwrite_good bm X 1 (by omega) p s room n S w h hg hn hp hs
  rw [opK_1] at this
  have HC := Lib.hid this
  clear this h hg hn hp hs
  go_enter Try.func42, Try.ntmps42
  go_wp2_with (go_at_call 55; refine (HC.out).mono ?_; rintro e w1 ⟨rfl, hq⟩)
  go_ret
  exact ⟨rfl, hq⟩

end Go.Proofs.Ytginlknlkbhgaaa
