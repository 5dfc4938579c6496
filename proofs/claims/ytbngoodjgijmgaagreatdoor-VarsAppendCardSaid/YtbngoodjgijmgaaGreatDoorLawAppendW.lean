/-
  The walk over VarsAppend. No condition.
-/
import Derived.StillTailTactics
import Derived.Test.YtbngoodjgijmgaaGreatDoorVAp
namespace Go.Proofs.YtbngoodjgijmgaaGreatDoor
open Go.RowKit Go.Shelf
attribute [local go_sem] Oper.semAt_some

def refQ : BT := [36, 40, 113, 41]
def apL (A B : BT) : EnvT := [([113], B, false), ([115], A, true), ([114], A, false)]
def ap0 (A B : BT) : EnvT := [([113], B, false), ([114], A, false), ([115], A, true)]
def ap1 (A B : BT) : EnvT := [([113], B, false), ([114], A, false), ([115], A ++ 32 :: B, true)]
def ap2 (A B : BT) : EnvT := [([113], B, false), ([114], A ++ 32 :: refQ, false), ([115], A ++ 32 :: B, true)]
def ap3 (A B C : BT) : EnvT := [([113], C, false), ([114], A ++ 32 :: refQ, false), ([115], A ++ 32 :: B, true)]
def ap4 (A B C : BT) : EnvT := [([110], C, false), ([113], C, false), ([114], A ++ 32 :: refQ, false), ([115], A ++ 32 :: B, true)]
theorem ap_rows (A B : BT) : rowsE (apL A B) = ap0 A B := rfl
theorem good_q : GoodN 113 := by unfold GoodN; decide
theorem good_s : GoodN 115 := by unfold GoodN; decide
theorem good_r : GoodN 114 := by unfold GoodN; decide
theorem good_n : GoodN 110 := by unfold GoodN; decide
section
variable {A B C : BT}
theorem ap_ass1 (hB : 36 ∉ B) (h2 : B.length ≤ 200) : assignT (ap0 A B) [115] [43, 61] [36, 40, 113, 41] = .ok (ap1 A B) := by
  have hq : expandT (ap0 A B) [36, 40, 113, 41] = (B, 0) := told_plain _ 113 good_q [113] B rfl hB (by omega)
  have hm : moreT (ap0 A B) ([115], A, true) [36, 40, 113, 41] = (A ++ 32 :: B, 0) := by
    unfold moreT
    rw [if_pos rfl, hq, if_pos rfl]
  unfold assignT
  rw [if_neg (by decide), if_neg (by decide), if_neg (fun hh => by rcases hh with h | ⟨h, _⟩ <;> cases h), if_pos (by decide)]
  show (if (moreT (ap0 A B) ([115], A, true) [36, 40, 113, 41]).2 = 0 then _ else _) = _
  rw [hm]
  rfl
theorem ap_ass2 : assignT (ap1 A B) [114] [43, 61] [36, 40, 113, 41] = .ok (ap2 A B) := by
  unfold assignT
  rw [if_neg (by decide), if_neg (by decide), if_neg (fun hh => by rcases hh with h | ⟨h, _⟩ <;> cases h), if_pos (by decide)]
  rfl
theorem ap_ass3 : assignT (ap2 A B) [113] [61] C = .ok (ap3 A B C) := by
  unfold assignT
  rw [if_neg (by decide), if_neg (by decide), if_pos (.inl (by decide))]
  rfl
theorem ap_ass4 : assignT (ap3 A B C) [110] [43, 61] C = .ok (ap4 A B C) := by
  unfold assignT
  rw [if_neg (by decide), if_neg (by decide), if_pos (.inr ⟨rfl, .inr (by decide)⟩)]
  rfl
theorem ap_told1 (hA : A.length ≤ 200) (hB : B.length ≤ 200) : expandT (ap4 A B C) [36, 40, 115, 41] = (A ++ 32 :: B, 0) := told_simple _ 115 good_s [115] _ rfl (by simp; omega)
theorem ap_told2 (hA : 36 ∉ A) (hC : 36 ∉ C) (hl : A.length ≤ 200) (hl2 : C.length ≤ 200) : expandT (ap4 A B C) [36, 40, 114, 41] = (A ++ 32 :: C, 0) := told_more _ 114 113 good_r good_q [114] [113] A C rfl rfl hA hC (by omega)
theorem ap_told3 (hA : 36 ∉ A) (hB : 36 ∉ B) (hl : A.length ≤ 200) (hl2 : B.length ≤ 200) : expandT (ap2 A B) [36, 40, 114, 41] = (A ++ 32 :: B, 0) := told_more _ 114 113 good_r good_q [114] [113] A B rfl rfl hA hB (by omega)
theorem ap_told4 (hC : 36 ∉ C) (hl : C.length ≤ 200) : expandT (ap4 A B C) [36, 40, 110, 41] = (C, 0) := told_plain _ 110 good_n [110] C rfl hC (by omega)
theorem ap_ok (l : EnvT) (hs : SrtT l) (hl : l.length ≤ 10) (h : ∀ x ∈ l, x.1.length ≤ 10 ∧ x.2.1.length ≤ 1000) : EnvOk l 21 := ⟨hs, by omega, fun x hx => by have := h x hx; omega⟩
theorem ap_ok0 (hA : A.length ≤ 200) (hB : B.length ≤ 200) : EnvOk (ap0 A B) 21 := ap_ok _ (by unfold SrtT ap0; simp; decide) (show (3 : Nat) ≤ 10 by decide) (by unfold ap0; simp; omega)
theorem ap_ok1 (hA : A.length ≤ 200) (hB : B.length ≤ 200) : EnvOk (ap1 A B) 21 := ap_ok _ (by unfold SrtT ap1; simp; decide) (show (3 : Nat) ≤ 10 by decide) (by unfold ap1; simp; omega)
theorem ap_ok2 (hA : A.length ≤ 200) (hB : B.length ≤ 200) : EnvOk (ap2 A B) 21 := ap_ok _ (by unfold SrtT ap2; simp; decide) (show (3 : Nat) ≤ 10 by decide) (by unfold ap2 refQ; simp; omega)
theorem ap_ok3 (hA : A.length ≤ 200) (hB : B.length ≤ 200) (hC : C.length ≤ 200) : EnvOk (ap3 A B C) 21 := ap_ok _ (by unfold SrtT ap3; simp; decide) (show (3 : Nat) ≤ 10 by decide) (by unfold ap3 refQ; simp; omega)
theorem ap_ok4 (hA : A.length ≤ 200) (hB : B.length ≤ 200) (hC : C.length ≤ 200) : EnvOk (ap4 A B C) 21 := ap_ok _ (by unfold SrtT ap4; simp; decide) (show (4 : Nat) ≤ 10 by decide) (by unfold ap4 refQ; simp; omega)
end
theorem assign_told (o : Option Addr) (m c : Nat) (env env' : EnvT) (n op s : BT) (w : World) (hst : Std w) (h : EnvS w (fun _ => True) (.slice o m c) env) (hE : EnvOk env 21) (hs : s.length ≤ 1000000) (hn : n.length ≤ 100) (hr : assignT env n op s = .ok env') :
    Calls Tryz.prog 18 #[.agg #[.slice o m c], .string (txt n), .string (txt op), .string (txt s)] w fun e w' => ∃ o m c, e = .returned (.tuple #[.agg #[.slice o m c], .int .i64 0]) ∧ Below w.heap.size w w' ∧ EnvS w' (fun _ => True) (.slice o m c) env' := by
  refine (assign_any o m c env n op s w hst h hE hs (by omega)).mono ?_
  rintro e w' ⟨o', m', c', j, rfl, hb, hq⟩
  rcases hq with ⟨h1, _⟩ | ⟨rfl, env2, h1, h2⟩
  · rw [hr] at h1; cases h1
  · rw [hr] at h1; cases h1
    exact ⟨_, _, _, rfl, hb, h2⟩
structure ApAt (w : World) (l : EnvT) (i : Nat) (W : World) : Prop where
  back : Below w.heap.size w W
  v : ∃ o m c, W.heap[w.heap.size]? = some (.cells #[.slice o m c] 25 (0, 0)) ∧ EnvS W (fun b => w.heap.size + 2 ≤ b) (.slice o m c) (rowsE (l.take i))
  row : ∀ j x, l[j]? = some x → ∀ k u, (encV x)[k]? = some u → W.cell? ⟨w.heap.size + 1, j * 3 + k, none⟩ = some u
theorem ap_start (w : World) (l : EnvT) (cs : Array Value) (hc : cs.toList = l.flatMap encV) : ApAt w l 0 ((w.alloc (.cells #[.slice none 0 0] 25)).alloc (.cells cs 36)) := by
  have h1 := heap_first w (.cells #[.slice none 0 0] 25) (.cells cs 36)
  have h2 := heap_second w (.cells #[.slice none 0 0] 25) (.cells cs 36)
  refine ⟨below_two _ _ _, ⟨_, _, _, h1, EnvS.nil _ _⟩, fun j x hj k u hk => ?_⟩
  refine flat_cells (b := w.heap.size + 1) (l := l) (fun q v hq => ?_) j x hj k u hk
  rw [Lib.cell_of_heap h2, ← Array.getElem?_toList, hc]
  exact hq
theorem ApAt.put {w W W' : World} {l : EnvT} {i : Nat} {o : Option Addr} {m c : Nat} {x : VarT} (h : ApAt w l i W) (hx : l[i]? = some x) (hb : Below W.heap.size W W') (hE : EnvS W' (fun b => W.heap.size ≤ b) (.slice o m c) (setT (rowsE (l.take i)) x)) (hw : w.heap.size + 2 ≤ W.heap.size) :
    ApAt w l (i + 1) (W'.setCell ⟨w.heap.size, 0, none⟩ (.slice o m c)) := by
  obtain ⟨o1, m1, c1, h1, _⟩ := h.v
  have hlt := (Array.getElem?_eq_some_iff.1 h1).1
  have hT : Turned (fun b => b = w.heap.size) W' (W'.setCell ⟨w.heap.size, 0, none⟩ (.slice o m c)) := Turned.setCell (X := fun b => b = w.heap.size) _ ⟨w.heap.size, 0, none⟩ _ rfl
  refine ⟨(h.back.trans (hb.mono h.back.size)).setCell (p := ⟨w.heap.size, 0, none⟩) (Nat.le_refl _) _, ⟨o, m, c, set_one ((hb.block _ hlt).trans h1) _, ?_⟩, fun j y hj k u hk => ?_⟩
  · rw [rows_take hx]
    exact (hE.turned hT (fun b hb h => by omega)).wider (fun b _ hb => by omega)
  · have hq : W'.cell? ⟨w.heap.size + 1, j * 3 + k, none⟩ = some u := (hb.cell (p := ⟨w.heap.size + 1, j * 3 + k, none⟩) (by show w.heap.size + 1 < W.heap.size; omega)).trans (h.row j y hj k u hk)
    exact far_cell hq (by omega)
theorem add_ba (a b : BT) : txt a ++ txt b = txt (a ++ b) := add_txt a b
set_option maxRecDepth 100000 in
set_option maxHeartbeats 4000000 in
theorem varsAppend_walk (a : ByteArray) (_ha : a.size ≤ maxLen) (b : ByteArray) (_hb : b.size ≤ maxLen) (c : ByteArray) (_hc : c.size ≤ maxLen) (w : World) (hst : Std w) :
    Calls Tryz.prog 10 #[.string a, .string b, .string c] w fun e w' => e = .returned (.bool true) ∧ Below w.heap.size w w' := by
  have HSh := Lib.hid (shown_any w hst)
  by_cases hbig : (200 : Int) < (a.size : Int) ∨ (200 : Int) < (b.size : Int) ∨ (200 : Int) < (c.size : Int)
  · by_cases h1 : (200 : Int) < (a.size : Int)
    · clear hbig
      go_enter Tryz.func10, Tryz.ntmps10
      go_wp2_with fail
      refine HSh.out.mono ?_
      rintro e w1 ⟨rfl, hb1⟩
      have HB1 := Lib.hid hb1
      clear hb1 HSh
      go_wp2_with fail
      go_ret
      exact ⟨rfl, HB1.out⟩
    by_cases h2 : (200 : Int) < (b.size : Int)
    · clear hbig
      go_enter Tryz.func10, Tryz.ntmps10
      go_wp2_with fail
      refine HSh.out.mono ?_
      rintro e w1 ⟨rfl, hb1⟩
      have HB1 := Lib.hid hb1
      clear hb1 HSh
      go_wp2_with fail
      go_ret
      exact ⟨rfl, HB1.out⟩
    have h3 : (200 : Int) < (c.size : Int) := by omega
    clear hbig
    go_enter Tryz.func10, Tryz.ntmps10
    go_wp2_with fail
    refine HSh.out.mono ?_
    rintro e w1 ⟨rfl, hb1⟩
    have HB1 := Lib.hid hb1
    clear hb1 HSh
    go_wp2_with fail
    go_ret
    exact ⟨rfl, HB1.out⟩
  have h1 : ¬ (200 : Int) < (a.size : Int) := by omega
  have h2 : ¬ (200 : Int) < (b.size : Int) := by omega
  have h3 : ¬ (200 : Int) < (c.size : Int) := by omega
  clear hbig
  obtain ⟨A, rfl⟩ : ∃ A, a = txt A := ⟨_, (txt_toList a).symm⟩
  obtain ⟨B, rfl⟩ : ∃ B, b = txt B := ⟨_, (txt_toList b).symm⟩
  obtain ⟨C, rfl⟩ : ∃ C, c = txt C := ⟨_, (txt_toList c).symm⟩
  rw [txt_size] at h1 h2 h3
  have hA : A.length ≤ 200 := by omega
  have hB : B.length ≤ 200 := by omega
  have hC : C.length ≤ 200 := by omega
  have x1 := add_txt A B
  have x2 := add_txt (A ++ B) C
  go_enter Tryz.func10, Tryz.ntmps10
  go_wp2_with fail
  refine HSh.out.mono ?_
  rintro e w1 ⟨rfl, hb1⟩
  have HB1 := Lib.hid hb1
  clear hb1 HSh
  go_wp2_with fail
  obtain ⟨S, hS⟩ : ∃ S, S = txt (A ++ (B ++ C)) := ⟨_, rfl⟩
  rw [← hS]
  have hsz : S.size ≤ 600 := by rw [hS, txt_size]; simp; omega
  have hSd : S.data.toList = A ++ (B ++ C) := by rw [hS, txt_data]
  have HSd := Lib.hid hSd
  have HSt : Hid (Std w1) := hst.below HB1.out
  clear hS hSd hst
  go_loop [9] (fun i => ∃ k : Nat, k ≤ S.size ∧ i = .int .i64 k ∧ Hid (36 ∉ S.data.toList.take k)) (fun i => S.size - (intOf i).toNat)
  case atStart => exact ⟨0, Nat.zero_le _, rfl, by show _ ∉ _; simp⟩
  case round =>
    obtain ⟨k, hk, rfl, HC⟩ := hrel
    by_cases hlt : k < S.size
    · by_cases h36 : S[k] = 36
      · have h36' : (S[k].toNat : Int) = 36 := by rw [h36]; rfl
        go_wp2_with fail
        go_ret
        exact ⟨rfl, HB1.out⟩
      · have h36' : ¬ (S[k].toNat : Int) = 36 := fun e => h36 (by
          apply UInt8.toNat_inj.1
          have : S[k].toNat = 36 := by omega
          rw [this]; rfl)
        have HN : Hid (36 ∉ S.data.toList.take (k + 1)) := by
          show _ ∉ _
          rw [take_last hlt]
          intro hh
          rcases List.mem_append.1 hh with h | h
          · exact HC.out h
          · exact h36 (List.mem_singleton.1 h).symm
        clear h36
        go_wp2_with fail
        go_round
        case rel => exact ⟨k + 1, hlt, by go_num, HN⟩
        case measure => simp [intOf]; omega
    · have hno : 36 ∉ A ++ (B ++ C) := by
        have := HC.out
        rw [List.take_of_length_le (by rw [size_list]; omega), HSd.out] at this
        exact this
      have nA : Hid (36 ∉ A) := by show _ ∉ _; exact fun h => hno (by simp [h])
      have nB : Hid (36 ∉ B) := by show _ ∉ _; exact fun h => hno (by simp [h])
      have nC : Hid (36 ∉ C) := by show _ ∉ _; exact fun h => hno (by simp [h])
      clear HC hno HSd
      have HA0 : Hid (ApAt w1 (apL A B) 0 ((w1.alloc (.cells #[.slice none 0 0] 25)).alloc (.cells #[.string ⟨#[113]⟩, .string (txt B), .bool false, .string ⟨#[115]⟩, .string (txt A), .bool true, .string ⟨#[114]⟩, .string (txt A), .bool false] 36))) := ap_start w1 (apL A B) _ rfl
      have hsz0 : w1.heap.size + 2 ≤ ((w1.alloc (.cells #[.slice none 0 0] 25)).alloc (.cells #[.string ⟨#[113]⟩, .string (txt B), .bool false, .string ⟨#[115]⟩, .string (txt A), .bool true, .string ⟨#[114]⟩, .string (txt A), .bool false] 36)).heap.size := by simp
      have HZ0 := Lib.hid hsz0
      clear hsz0
      go_wp2_with fail
      go_loopw [12] (fun iv wr => ∃ i : Nat, i ≤ 3 ∧ iv = .int .i64 i ∧ Hid (ApAt w1 (apL A B) i wr ∧ w1.heap.size + 2 ≤ wr.heap.size)) (fun iv _ => 3 - (intOf iv).toNat)
      case atStart => exact ⟨0, Nat.zero_le _, rfl, HA0.out, HZ0.out⟩
      case round =>
        obtain ⟨i, hi, rfl, HA⟩ := hrel
        obtain ⟨o1, m1, c1, p1, e1⟩ := HA.out.1.v
        obtain ⟨y1, f1⟩ := one_cell p1
        by_cases hlt3 : i < 3
        · obtain ⟨x, hx⟩ : ∃ x, (apL A B)[i]? = some x := ⟨_, List.getElem?_eq_getElem (show i < 3 from hlt3)⟩
          have k0 : wr.cell? ⟨w1.heap.size + 1, i * 3, none⟩ = some (.string (txt x.1)) := HA.out.1.row i x hx 0 _ rfl
          have k1 := HA.out.1.row i x hx 1 _ rfl
          have k2 := HA.out.1.row i x hx 2 _ rfl
          have hil : (i : Int) < 3 := by omega
          have hi0 : (0 : Int) ≤ (i : Int) := by omega
          have hlen : (rowsE ((apL A B).take i)).length ≤ 999999 := by
            have h8 := rows_len ((apL A B).take i)
            have h9 := List.length_take_le i (apL A B)
            omega
          have hSet := set_any _ (.slice o1 m1 c1) (rowsE ((apL A B).take i)) x wr.drew e1 hlen (rows_srt _)
          have HSet : Hid (Calls Tryz.prog 21 #[.agg #[.slice o1 m1 c1], .agg #[.string (txt x.1), .string (txt x.2.1), .bool x.2.2]] wr.drew fun e w' => ∃ o m c, e = .returned (.agg #[.slice o m c]) ∧ Below wr.heap.size wr w' ∧ EnvS w' (fun b => wr.heap.size ≤ b) (.slice o m c) (setT (rowsE ((apL A B).take i)) x)) := by
            refine hSet.mono ?_
            rintro e w' ⟨v', rfl, hE, hb⟩
            obtain ⟨o, m, c, rfl⟩ := hE.slice
            exact ⟨o, m, c, rfl, (show Below wr.heap.size wr wr.drew from (Below.refl _ _).drew).trans hb, hE⟩
          have HX := Lib.hid hx
          have HP1 := Lib.hid p1
          clear hSet p1 e1 hx hlen
          go_wp2_with fail
          go_still_tail 5, (by kernel_rfl)
          change wpList _ _ _ _ _ wr.drew
          go_wp2_with fail
          refine HSet.out.mono ?_
          rintro e w3 ⟨o3, m3, c3, rfl, hb3, hE3⟩
          obtain ⟨j1, j2⟩ := one_cell ((hb3.block _ (Array.getElem?_eq_some_iff.1 HP1.out).1).trans HP1.out)
          have HN : Hid (ApAt w1 (apL A B) (i + 1) (w3.setCell ⟨w1.heap.size, 0, none⟩ (.slice o3 m3 c3)) ∧ w1.heap.size + 2 ≤ (w3.setCell ⟨w1.heap.size, 0, none⟩ (.slice o3 m3 c3)).heap.size) := ⟨HA.out.1.put HX.out hb3 hE3 HA.out.2, by have := hb3.size; have := HA.out.2; simp; omega⟩
          clear hb3 hE3 HSet
          go_wp2_with fail
          generalize w3.setCell ⟨w1.heap.size, 0, none⟩ (.slice o3 m3 c3) = w4 at HN ⊢
          go_wp2_with fail
          go_roundw
          case rel => exact ⟨i + 1, hlt3, by go_num, HN⟩
          case measure => simp [intOf]; omega
        · have hin : i = 3 := by omega
          subst hin
          have e1' : EnvS wr (fun _ => True) (.slice o1 m1 c1) (ap0 A B) := e1.wider (fun _ _ _ => trivial)
          have hs0 : Std wr := HSt.out.below HA.out.1.back
          have HB0 : Hid (Below w1.heap.size w1 wr) := HA.out.1.back
          have H1 := Lib.hid (assign_told o1 m1 c1 _ _ [115] [43, 61] [36, 40, 113, 41] wr hs0 e1' (ap_ok0 hA hB) (by decide) (by decide) (ap_ass1 nB.out hB))
          have HS0 := Lib.hid hs0
          clear e1 e1' p1 hs0 HA HA0 HZ0
          go_wp2_with fail
          refine H1.out.mono ?_
          rintro e w2 ⟨o2, m2, c2, rfl, hb2, hE2⟩
          have hba2 : Below w2.heap.size w2 (w2.alloc (.cells #[.slice o2 m2 c2] 25)) := (Below.refl _ _).alloc (Nat.le_refl _) _
          have hbt2 : Below wr.heap.size wr (w2.alloc (.cells #[.slice o2 m2 c2] 25)) := hb2.trans (hba2.mono hb2.size)
          obtain ⟨y2, _⟩ := one_cell (World.alloc_heap_new w2 (.cells #[.slice o2 m2 c2] 25))
          have hs2 : Std (w2.alloc (.cells #[.slice o2 m2 c2] 25)) := HS0.out.below hbt2
          have HSt2 := Lib.hid hs2
          have HBt2 := Lib.hid hbt2
          have hEv2 : EnvS (w2.alloc (.cells #[.slice o2 m2 c2] 25)) (fun _ => True) (.slice o2 m2 c2) _ := hE2.below hba2
          have HEv2 := Lib.hid hEv2
          have H2 := Lib.hid (assign_told o2 m2 c2 _ _ [114] [43, 61] [36, 40, 113, 41] _ hs2 hEv2 (ap_ok1 hA hB) (by decide) (by decide) ap_ass2)
          clear hb2 hE2 hba2 hbt2 hs2 hEv2 H1
          go_wp2_with fail
          refine H2.out.mono ?_
          rintro e w3 ⟨o3, m3, c3, rfl, hb3, hE3⟩
          have hba3 : Below w3.heap.size w3 (w3.alloc (.cells #[.slice o3 m3 c3] 25)) := (Below.refl _ _).alloc (Nat.le_refl _) _
          have hbt3 : Below (w2.alloc (.cells #[.slice o2 m2 c2] 25)).heap.size (w2.alloc (.cells #[.slice o2 m2 c2] 25)) (w3.alloc (.cells #[.slice o3 m3 c3] 25)) := hb3.trans (hba3.mono hb3.size)
          obtain ⟨y3, _⟩ := one_cell (World.alloc_heap_new w3 (.cells #[.slice o3 m3 c3] 25))
          have hs3 : Std (w3.alloc (.cells #[.slice o3 m3 c3] 25)) := HSt2.out.below hbt3
          have HSt3 := Lib.hid hs3
          have HBt3 := Lib.hid hbt3
          have hEv3 : EnvS (w3.alloc (.cells #[.slice o3 m3 c3] 25)) (fun _ => True) (.slice o3 m3 c3) _ := hE3.below hba3
          have HEv3 := Lib.hid hEv3
          have H3 := Lib.hid (assign_told o3 m3 c3 _ _ [113] [61] C _ hs3 hEv3 (ap_ok2 hA hB) (by omega) (by decide) ap_ass3)
          clear hb3 hE3 hba3 hbt3 hs3 hEv3 H2
          go_wp2_with fail
          refine H3.out.mono ?_
          rintro e w4 ⟨o4, m4, c4, rfl, hb4, hE4⟩
          have hba4 : Below w4.heap.size w4 (w4.alloc (.cells #[.slice o4 m4 c4] 25)) := (Below.refl _ _).alloc (Nat.le_refl _) _
          have hbt4 : Below (w3.alloc (.cells #[.slice o3 m3 c3] 25)).heap.size (w3.alloc (.cells #[.slice o3 m3 c3] 25)) (w4.alloc (.cells #[.slice o4 m4 c4] 25)) := hb4.trans (hba4.mono hb4.size)
          obtain ⟨y4, _⟩ := one_cell (World.alloc_heap_new w4 (.cells #[.slice o4 m4 c4] 25))
          have hs4 : Std (w4.alloc (.cells #[.slice o4 m4 c4] 25)) := HSt3.out.below hbt4
          have HSt4 := Lib.hid hs4
          have HBt4 := Lib.hid hbt4
          have hEv4 : EnvS (w4.alloc (.cells #[.slice o4 m4 c4] 25)) (fun _ => True) (.slice o4 m4 c4) _ := hE4.below hba4
          have HEv4 := Lib.hid hEv4
          have H4 := Lib.hid (assign_told o4 m4 c4 _ _ [110] [43, 61] C _ hs4 hEv4 (ap_ok3 hA hB hC) (by omega) (by decide) ap_ass4)
          clear hb4 hE4 hba4 hbt4 hs4 hEv4 H3
          go_wp2_with fail
          refine H4.out.mono ?_
          rintro e w5 ⟨o5, m5, c5, rfl, hb5, hE5⟩
          have hba5 : Below w5.heap.size w5 (w5.alloc (.cells #[.slice o5 m5 c5] 25)) := (Below.refl _ _).alloc (Nat.le_refl _) _
          have hbt5 : Below (w4.alloc (.cells #[.slice o4 m4 c4] 25)).heap.size (w4.alloc (.cells #[.slice o4 m4 c4] 25)) (w5.alloc (.cells #[.slice o5 m5 c5] 25)) := hb5.trans (hba5.mono hb5.size)
          obtain ⟨y5, _⟩ := one_cell (World.alloc_heap_new w5 (.cells #[.slice o5 m5 c5] 25))
          have hs5 : Std (w5.alloc (.cells #[.slice o5 m5 c5] 25)) := HSt4.out.below hbt5
          have HSt5 := Lib.hid hs5
          have HBt5 := Lib.hid hbt5
          have hEv5 : EnvS (w5.alloc (.cells #[.slice o5 m5 c5] 25)) (fun _ => True) (.slice o5 m5 c5) _ := hE5.below hba5
          have HEv5 := Lib.hid hEv5
          clear hb5 hE5 hba5 hbt5 hs5 hEv5 H4
          have hl3 : w3.heap.size < (w3.alloc (.cells #[.slice o3 m3 c3] 25)).heap.size := by simp
          have hb35 : Below (w3.alloc (.cells #[.slice o3 m3 c3] 25)).heap.size (w3.alloc (.cells #[.slice o3 m3 c3] 25)) (w5.alloc (.cells #[.slice o5 m5 c5] 25)) := HBt4.out.trans (HBt5.out.mono HBt4.out.size)
          have z3 := (hb35.cell (p := ⟨w3.heap.size, 0, none⟩) hl3).trans y3
          have hl35 : w3.heap.size < (w5.alloc (.cells #[.slice o5 m5 c5] 25)).heap.size := Nat.lt_of_lt_of_le hl3 hb35.size
          have hl5 : w5.heap.size < (w5.alloc (.cells #[.slice o5 m5 c5] 25)).heap.size := by simp
          have hE35 : EnvS (w5.alloc (.cells #[.slice o5 m5 c5] 25)) (fun _ => True) (.slice o3 m3 c3) (ap2 A B) := HEv3.out.below hb35
          have HOf : Hid (∀ (W : World) (o : Option Addr) (m c : Nat) (env : EnvT) (s t : BT), Below (w5.alloc (.cells #[.slice o5 m5 c5] 25)).heap.size (w5.alloc (.cells #[.slice o5 m5 c5] 25)) W → EnvS (w5.alloc (.cells #[.slice o5 m5 c5] 25)) (fun _ => True) (.slice o m c) env → EnvOk env 21 → s.length ≤ 10 → expandT env s = (t, 0) → Calls Tryz.prog 20 #[.agg #[.slice o m c], .string (txt s)] W fun e w' => e = .returned (.string (txt t)) ∧ Below (w5.alloc (.cells #[.slice o5 m5 c5] 25)).heap.size (w5.alloc (.cells #[.slice o5 m5 c5] 25)) w' ∧ Below W.heap.size W w') := fun W o m c env s t hb hE hk hs ht => by
            have h9 := of_any _ o m c env s W (HSt5.out.below hb) (hE.below hb) hk.less (by omega)
            rw [ht] at h9
            exact h9.mono fun e w' h => ⟨h.1, hb.trans (h.2.mono hb.size), h.2⟩
          have G1 : Hid (∀ W, Below (w5.alloc (.cells #[.slice o5 m5 c5] 25)).heap.size (w5.alloc (.cells #[.slice o5 m5 c5] 25)) W → Calls Tryz.prog 20 #[.agg #[.slice o5 m5 c5], .string ⟨#[36, 40, 115, 41]⟩] W fun e w' => e = .returned (.string (txt (A ++ 32 :: B))) ∧ Below (w5.alloc (.cells #[.slice o5 m5 c5] 25)).heap.size (w5.alloc (.cells #[.slice o5 m5 c5] 25)) w' ∧ Below W.heap.size W w') := fun W hb => HOf.out W o5 m5 c5 _ [36, 40, 115, 41] _ hb HEv5.out (ap_ok4 hA hB hC) (by decide) (ap_told1 hA hB)
          have G2 : Hid (∀ W, Below (w5.alloc (.cells #[.slice o5 m5 c5] 25)).heap.size (w5.alloc (.cells #[.slice o5 m5 c5] 25)) W → Calls Tryz.prog 20 #[.agg #[.slice o5 m5 c5], .string ⟨#[36, 40, 114, 41]⟩] W fun e w' => e = .returned (.string (txt (A ++ 32 :: C))) ∧ Below (w5.alloc (.cells #[.slice o5 m5 c5] 25)).heap.size (w5.alloc (.cells #[.slice o5 m5 c5] 25)) w' ∧ Below W.heap.size W w') := fun W hb => HOf.out W o5 m5 c5 _ [36, 40, 114, 41] _ hb HEv5.out (ap_ok4 hA hB hC) (by decide) (ap_told2 nA.out nC.out hA hC)
          have G3 : Hid (∀ W, Below (w5.alloc (.cells #[.slice o5 m5 c5] 25)).heap.size (w5.alloc (.cells #[.slice o5 m5 c5] 25)) W → Calls Tryz.prog 20 #[.agg #[.slice o3 m3 c3], .string ⟨#[36, 40, 114, 41]⟩] W fun e w' => e = .returned (.string (txt (A ++ 32 :: B))) ∧ Below (w5.alloc (.cells #[.slice o5 m5 c5] 25)).heap.size (w5.alloc (.cells #[.slice o5 m5 c5] 25)) w' ∧ Below W.heap.size W w') := fun W hb => HOf.out W o3 m3 c3 _ [36, 40, 114, 41] _ hb hE35 (ap_ok2 hA hB) (by decide) (ap_told3 nA.out nB.out hA hB)
          have G4 : Hid (∀ W, Below (w5.alloc (.cells #[.slice o5 m5 c5] 25)).heap.size (w5.alloc (.cells #[.slice o5 m5 c5] 25)) W → Calls Tryz.prog 20 #[.agg #[.slice o5 m5 c5], .string ⟨#[36, 40, 110, 41]⟩] W fun e w' => e = .returned (.string (txt C)) ∧ Below (w5.alloc (.cells #[.slice o5 m5 c5] 25)).heap.size (w5.alloc (.cells #[.slice o5 m5 c5] 25)) w' ∧ Below W.heap.size W w') := fun W hb => HOf.out W o5 m5 c5 _ [36, 40, 110, 41] _ hb HEv5.out (ap_ok4 hA hB hC) (by decide) (ap_told4 nC.out hC)
          have q1 := add_txt A [32]
          have q2 := add_txt (A ++ [32]) B
          have q3 := add_txt (A ++ [32]) C
          rw [← blank_txt] at q1
          have HBB : Hid (Below w1.heap.size w1 (w5.alloc (.cells #[.slice o5 m5 c5] 25))) := HB0.out.trans ((((HBt2.out.trans (HBt3.out.mono HBt2.out.size)).trans (hb35.mono (Nat.le_trans HBt2.out.size HBt3.out.size)))).mono HB0.out.size)
          have hb50 : Below (w5.alloc (.cells #[.slice o5 m5 c5] 25)).heap.size (w5.alloc (.cells #[.slice o5 m5 c5] 25)) (w5.alloc (.cells #[.slice o5 m5 c5] 25)) := Below.refl _ _
          have HB50 := Lib.hid hb50
          clear hb50 hb35 hE35 HOf
          go_wp2_with fail
          refine (G1.out _ HB50.out).mono ?_
          rintro e v1 ⟨rfl, hx1, hy1⟩
          have s51 := (hy1.cell (p := ⟨w5.heap.size, 0, none⟩) hl5).trans y5
          have s31 := (hy1.cell (p := ⟨w3.heap.size, 0, none⟩) hl35).trans z3
          have l51 := Nat.lt_of_lt_of_le hl5 hy1.size
          have l31 := Nat.lt_of_lt_of_le hl35 hy1.size
          have HX1 := Lib.hid hx1
          clear hx1 hy1 G1
          go_wp2_with fail
          refine (G2.out _ HX1.out).mono ?_
          rintro e v2 ⟨rfl, hx2, hy2⟩
          have s52 := (hy2.cell (p := ⟨w5.heap.size, 0, none⟩) l51).trans s51
          have s32 := (hy2.cell (p := ⟨w3.heap.size, 0, none⟩) l31).trans s31
          have l52 := Nat.lt_of_lt_of_le l51 hy2.size
          have l32 := Nat.lt_of_lt_of_le l31 hy2.size
          have HX2 := Lib.hid hx2
          clear hx2 hy2 G2
          go_wp2_with fail
          refine (G3.out _ HX2.out).mono ?_
          rintro e v3 ⟨rfl, hx3, hy3⟩
          have s53 := (hy3.cell (p := ⟨w5.heap.size, 0, none⟩) l52).trans s52
          have s33 := (hy3.cell (p := ⟨w3.heap.size, 0, none⟩) l32).trans s32
          have l53 := Nat.lt_of_lt_of_le l52 hy3.size
          have l33 := Nat.lt_of_lt_of_le l32 hy3.size
          have HX3 := Lib.hid hx3
          clear hx3 hy3 G3
          go_wp2_with fail
          refine (G4.out _ HX3.out).mono ?_
          rintro e v4 ⟨rfl, hx4, hy4⟩
          have s54 := (hy4.cell (p := ⟨w5.heap.size, 0, none⟩) l53).trans s53
          have s34 := (hy4.cell (p := ⟨w3.heap.size, 0, none⟩) l33).trans s33
          have l54 := Nat.lt_of_lt_of_le l53 hy4.size
          have l34 := Nat.lt_of_lt_of_le l33 hy4.size
          have HX4 := Lib.hid hx4
          clear hx4 hy4 G4
          go_wp2_with fail
          go_ret
          exact ⟨rfl, HB1.out.trans ((HBB.out.trans (HX4.out.mono HBB.out.size)).mono HB1.out.size)⟩
end Go.Proofs.YtbngoodjgijmgaaGreatDoor
