/-
  LexBare: numbers rise, and are those of lines; texts have a byte, no line feed, and no blank at an end; a line that begins with no tab has no comment: for every argument. No condition.
-/
import Derived.Deep.RegionHeld3
import Derived.Deep.QuietTactic
import Derived.BigQuiet
import Derived.Test.YtmonbnmjbgdkoaaDoorES
namespace Go.Proofs.YtmonbnmjbgdkoaaDoor
open Go.RowKit

theorem get_mem {z : ByteArray} {m : Nat} (h : m < z.size) : z[m] ∈ z.data.toList := by
  have h' : m < z.data.toList.length := by rw [size_of]; exact h
  have : z.data.toList[m] = z[m] := Array.getElem_toList _
  rw [← this]
  exact List.getElem_mem h'
theorem not_of {x : UInt8} {n : Nat} (hn : n < 256) (h : x ≠ UInt8.ofNat n) : x.toNat ≠ n := fun e => h (UInt8.toNat_inj.1 (by rw [e]; simp; omega))
/-- What a text has that is told. -/
structure Fine (z : ByteArray) (tb : Bool) : Prop where
  pos : 0 < z.size
  le : z.size ≤ 1000
  head : blankB z[0] = false
  last : blankB z[z.size - 1] = false
  clean : ∀ m (h : m < z.size), z[m].toNat ≠ 10
  bare : tb = false → ∀ m (h : m < z.size), z[m].toNat ≠ 35
theorem fine_of {lo hi : Nat} {x : Item} (h : Told lo hi x) (hl : x.2.2.length ≤ 1000) : Fine (txt x.2.2) x.2.1 := by
  have hp : 0 < x.2.2.length := List.length_pos_iff.2 h.some
  have hz : (txt x.2.2).size = x.2.2.length := txt_size _
  refine ⟨by omega, by omega, ?_, ?_, fun m hm => ?_, fun hb m hm => ?_⟩
  · refine h.tight.1 _ ?_
    rw [List.head?_eq_getElem?]
    have h1 : (txt x.2.2).data.toList[0]? = some (txt x.2.2)[0] := by rw [List.getElem?_eq_getElem (by rw [size_of]; omega), Array.getElem_toList]; rfl
    rwa [txt_data] at h1
  · refine h.tight.2 _ ?_
    have h1 := list_last (txt x.2.2) (by omega)
    rw [txt_data] at h1
    have h2 := congrArg List.getLast? h1
    rw [List.getLast?_concat] at h2
    exact h2
  · have := get_mem hm
    rw [txt_data] at this
    exact not_of (n := 10) (by decide) (h.clean _ this)
  · have := get_mem hm
    rw [txt_data] at this
    exact not_of (n := 35) (by decide) (h.bare hb _ this)
theorem count_next {s : ByteArray} {k : Nat} (hk : k < s.size) : (s.data.toList.take (k + 1)).countP nlB = (s.data.toList.take k).countP nlB + (if s[k].toNat = 10 then 1 else 0) := by
  have hk' : k < s.data.toList.length := by rw [size_of]; exact hk
  rw [List.take_succ_eq_append_getElem hk', Array.getElem_toList, List.countP_append]
  congr 1
  simp only [List.countP_singleton, nlB, decide_eq_true_eq]
  rfl

set_option maxRecDepth 100000 in
set_option maxHeartbeats 16000000 in
theorem lexBare_over (HL : LexC) (s0 : ByteArray) (_hs0 : s0.size ≤ maxLen) (w : World) :
    Calls Tryd.prog 3 #[.string s0] w (LawPost w) := by
  have HSh := Lib.hid (shown_at HL w)
  have hb0 : Below w.heap.size w w := Below.refl _ _
  by_cases h0 : 3000 < s0.size
  · have d0 : decide (3000 < (s0.size : Int)) = true := by simp; omega
    clear h0 HL
    go_enter Tryd.func3, Tryd.ntmps3
    go_wp2_with (go_at_call 8; refine (HSh.out _ hb0).mono ?_; rintro e w2 ⟨rfl, hb2⟩)
    go_ret
    exact ⟨rfl, hb2⟩
  have d0 : decide (3000 < (s0.size : Int)) = false := by simp; omega
  have n0 : s0.size ≤ 3000 := by omega
  clear h0
  cases hsc : scanL 0 (itemsL 1 (linesL s0.data.toList)) with
  | some n =>
    have hn1 : 1 ≤ n := by
      obtain ⟨x, hx, e⟩ := scan_some hsc
      have := ((items_told _ _ 1 (Nat.le_refl _) lines_clean).1 x hx).lo
      omega
    have HX : Hid (∀ W, Calls Tryd.prog 9 #[.string s0] W fun e w' => ∃ o c, e = .returned (.tuple #[.slice o 0 c, .int .i64 3, .int .i64 (n : Nat)]) ∧ Below W.heap.size W w') := fun W => by
      refine (HL.of s0.data.toList (by rw [size_of]; omega) s0 W rfl).mono ?_
      rintro e w' ⟨o, c, rfl, _, hb⟩
      rw [lex_err hsc]
      exact ⟨o, c, rfl, hb⟩
    have dn : decide ((1 : Int) ≤ (n : Int)) = true := by simp; omega
    clear HL hsc
    go_enter Tryd.func3, Tryd.ntmps3
    go_wp2_with (first
      | (go_at_call 8; refine (HSh.out _ hb0).mono ?_; rintro e w2 ⟨rfl, hb2⟩)
      | (go_at_call 9; refine (HX.out _).mono ?_; rintro e w5 ⟨o, c, rfl, hb5⟩; replace hb5 := hb2.trans (hb5.mono hb2.size)))
    go_ret
    exact ⟨rfl, hb5⟩
  | none =>
    obtain ⟨I, hI⟩ : ∃ I, I = itemsL 1 (linesL s0.data.toList) := ⟨_, rfl⟩
    have hlex : lexOf s0.data.toList = (I, 0, 0) := by rw [hI]; exact lex_ok hsc
    obtain ⟨hlong, _⟩ := scan_none hsc
    obtain ⟨htold, hup⟩ := items_told _ (linesL s0.data.toList) 1 (Nat.le_refl _) lines_clean
    have hcount := lines_count s0.data.toList
    rw [← hI] at hlong htold hup
    obtain ⟨cn, hcn⟩ : ∃ cn, cn = s0.data.toList.countP nlB := ⟨_, rfl⟩
    rw [← hcn] at hcount
    have HI : Hid (∀ o c w5, ReadsI w5 w5.heap.size (.slice o I.length c) I → ∀ k, k < I.length → ∃ b f no tb tx, o = some ⟨b, f, none⟩ ∧ I.length ≤ c ∧ (∀ W, Below w5.heap.size w5 W → W.cell? ⟨b, f + k * 3, none⟩ = some (.int .i64 (no : Nat)) ∧ W.cell? ⟨b, f + k * 3 + 1, none⟩ = some (.bool tb) ∧ W.cell? ⟨b, f + k * 3 + 2, none⟩ = some (.string tx)) ∧
        Fine tx tb ∧ 1 ≤ no ∧ no ≤ cn + 1 ∧ (k = 0 ∨ ∃ j np, k = j + 1 ∧ np < no ∧ ∀ W, Below w5.heap.size w5 W → W.cell? ⟨b, f + j * 3, none⟩ = some (.int .i64 (np : Nat)))) := fun o c w5 hr k hk => by
      have hm := List.getElem_mem hk
      have ht := htold _ hm
      obtain ⟨b, f, q1, q2, q3⟩ := hr.at (List.getElem?_eq_getElem hk)
      refine ⟨b, f, I[k].1, I[k].2.1, txt I[k].2.2, q1, q2, q3, fine_of ht (hlong _ hm), ht.lo, by have := ht.hi; omega, ?_⟩
      cases k with
      | zero => exact .inl rfl
      | succ j =>
        have hj : j < I.length := by omega
        obtain ⟨b', f', r1, _, r3⟩ := hr.at (List.getElem?_eq_getElem hj)
        rw [q1] at r1
        cases r1
        exact .inr ⟨j, I[j].1, rfl, List.pairwise_iff_getElem.1 hup j (j + 1) hj hk (by omega), fun W hb => (r3 W hb).1⟩
    have hIl : I.length ≤ 300 := by have := lex_len s0.data.toList; rw [hlex] at this; exact this
    have HX : Hid (∀ W, Calls Tryd.prog 9 #[.string s0] W fun e w' => ∃ o c, e = .returned (.tuple #[.slice o I.length c, .int .i64 0, .int .i64 0]) ∧ ReadsI w' w'.heap.size (.slice o I.length c) I ∧ Below W.heap.size W w') := fun W => by
      have := HL.of s0.data.toList (by rw [size_of]; omega) s0 W rfl
      unfold LexPost at this
      rw [hlex] at this
      exact this
    have hcs : cn ≤ 3000 := by rw [hcn]; have := List.countP_le_length (p := nlB) (l := s0.data.toList); rw [size_of] at this; omega
    have HCN : Hid ((s0.data.toList.take s0.size).countP nlB = cn) := by show _ = _; rw [hcn, ← size_of, List.take_length]
    clear HL hsc hlex hlong htold hup hcount hcn hI
    go_enter Tryd.func3, Tryd.ntmps3
    go_wp2_with (first
      | (go_at_call 8; refine (HSh.out _ hb0).mono ?_; rintro e w2 ⟨rfl, hb2⟩)
      | (go_at_call 9; refine (HX.out _).mono ?_; rintro e w5 ⟨o, c, rfl, hr5, hb5'⟩; have hb5 := hb2.trans (hb5'.mono hb2.size)))
    have HR := Lib.hid (HI.out _ _ _ hr5)
    clear HX HSh hb0 hr5 hb5' HI hb2
    generalize I.length = n at *
    go_loop [7, 8] (fun ln i => ∃ k : Nat, k ≤ s0.size ∧ i = .int .i64 k ∧ ln = .int .i64 (((s0.data.toList.take k).countP nlB : Nat) + 1)) (fun _ i => s0.size - (intOf i).toNat)
    case atStart => exact ⟨0, Nat.zero_le _, rfl, rfl⟩
    case round =>
      obtain ⟨k, hk, rfl, rfl⟩ := hrel
      by_cases hlt : k < s0.size
      · have hik : (k : Int) < (s0.size : Int) := by omega
        have hi0 : (0 : Int) ≤ (k : Int) := by omega
        have hnx := count_next hlt
        have hcl : (s0.data.toList.take k).countP nlB ≤ k := Nat.le_trans List.countP_le_length (by rw [List.length_take]; omega)
        by_cases t10 : s0[k].toNat = 10
        · have e10 : ((s0[k].toNat : Int) == 10) = true := by simp; omega
          rw [if_pos t10] at hnx
          have HNx := Lib.hid hnx
          clear hnx t10 HR HCN
          generalize (s0.data.toList.take k).countP nlB = a at *
          go_wp2
          go_round
          case rel => exact ⟨k + 1, hlt, by go_num, by rw [HNx.out]; go_num⟩
          case measure => simp [intOf]; omega
        · have e10 : ((s0[k].toNat : Int) == 10) = false := by simp; omega
          rw [if_neg t10] at hnx
          have HNx := Lib.hid hnx
          clear hnx t10 HR HCN
          generalize (s0.data.toList.take k).countP nlB = a at *
          go_wp2
          go_round
          case rel => exact ⟨k + 1, hlt, by go_num, by rw [HNx.out]; rfl⟩
          case measure => simp [intOf]; omega
      · have hkn : k = s0.size := by omega
        have hcz : (s0.data.toList.take k).countP nlB = cn := by rw [hkn]; exact HCN.out
        rw [hcz]
        have hik : ¬ (k : Int) < (s0.size : Int) := by omega
        clear hlt hk HCN hcz
        have hb05 : Below w5.heap.size w5 w5 := Below.refl _ _
        go_wp2
        go_loopw [9] (fun i wr => ∃ k : Nat, k ≤ n ∧ i = .int .i64 k ∧ Below w5.heap.size w5 wr) (fun i _ => n - (intOf i).toNat)
        case atStart => exact ⟨0, Nat.zero_le _, rfl, hb05⟩
        case round =>
          clear hb05
          obtain ⟨k, hk, rfl, hb⟩ := hrel
          by_cases hlt : k < n
          · obtain ⟨b, f, no, tb, tx, rfl, hnc, hcells, hF, hn1, hn2, hprev⟩ := HR.out k hlt
            have hkc : k < c := by omega
            have hik : (k : Int) < (n : Int) := by omega
            have hi0 : (0 : Int) ≤ (k : Int) := by omega
            have f0 : tx.toList.isEmpty = false := by
              have h := hF.pos
              rw [← size_of, ← Lib.toList_data] at h
              cases hq : tx.toList with
              | nil => rw [hq] at h; simp at h
              | cons a r => rfl
            have hp := hF.pos
            have hm : (0 : Int) ≤ (tx.size : Int) - 1 := by omega
            have hle := hF.le
            have d1 : decide (1000 < (tx.size : Int)) = false := by simp; omega
            have q1 : ¬ 1000 < tx.size := by omega
            have d2 : decide ((no : Int) < 1) = false := by simp; omega
            have q2 : ¬ (no : Int) < 1 := by omega
            have d3 : decide ((cn : Int) + 1 < (no : Int)) = false := by simp; omega
            have q3 : ¬ (cn : Int) + 1 < (no : Int) := by omega
            have hh := hF.head
            have hl := hF.last
            have g0 : ((tx[0].toNat : Int) == 32) = false := by simp [blankB] at hh ⊢; omega
            have g1 : ((tx[0].toNat : Int) == 9) = false := by simp [blankB] at hh ⊢; omega
            have g2 : ((tx[tx.size - 1].toNat : Int) == 32) = false := by simp [blankB] at hl ⊢; omega
            have g3 : ((tx[tx.size - 1].toNat : Int) == 9) = false := by simp [blankB] at hl ⊢; omega
            have HCl := Lib.hid hF.clean
            have HBa := Lib.hid hF.bare
            clear hh hl hF HR
            rcases hprev with h0 | ⟨j, np, rfl, hnp, hpc⟩
            · have d0 : decide ((0 : Int) < (k : Int)) = false := by simp; omega
              have q0 : ¬ 0 < k := by omega
              clear h0
              obtain ⟨x0, x1, x2⟩ := hcells wr hb

              have HCells := Lib.hid hcells
              clear hcells 
              go_wp2
              go_quiet (fail)
              have hb4 := below_drewN hb nq
              obtain ⟨y0, y1, y2⟩ := HCells.out _ hb4
              clear x0 x1 x2 hb 
              generalize wr.drewN nq = w6 at hb4 y0 y1 y2 ⊢
              go_wp2
              go_loopw [11] (fun q wr => ∃ m : Nat, m ≤ tx.size ∧ q = .int .i64 m ∧ Below w5.heap.size w5 wr) (fun q _ => tx.size - (intOf q).toNat)
              case atStart => exact ⟨0, Nat.zero_le _, rfl, hb4⟩
              case round =>
                clear hb4 y0 y1 y2
                obtain ⟨m, hmz, rfl, hb⟩ := hrel
                by_cases hlm : m < tx.size
                · have him : (m : Int) < (tx.size : Int) := by omega
                  have hm0 : (0 : Int) ≤ (m : Int) := by omega
                  obtain ⟨_, z1, _⟩ := HCells.out _ hb
                  have t10 := HCl.out m hlm
                  have e10 : ((tx[m].toNat : Int) == 10) = false := by simp; omega
                  by_cases t35 : tx[m].toNat = 35
                  · have e35 : ((tx[m].toNat : Int) == 35) = true := by simp; omega
                    have htb : tb = true := by
                      cases tb with
                      | true => rfl
                      | false => exact absurd t35 (HBa.out rfl m hlm)
                    rw [htb] at z1
                    clear t10 t35 HBa HCl HCells htb
                    go_wp2
                    go_roundw
                    case rel => exact ⟨m + 1, hlm, by go_num, hb⟩
                    case measure => simp [intOf]; omega
                  · have e35 : ((tx[m].toNat : Int) == 35) = false := by simp; omega
                    clear t10 t35 HBa HCl HCells
                    go_wp2
                    go_roundw
                    case rel => exact ⟨m + 1, hlm, by go_num, hb⟩
                    case measure => simp [intOf]; omega
                · have him : ¬ (m : Int) < (tx.size : Int) := by omega
                  clear HBa HCl HCells
                  go_wp2
                  go_roundw
                  case rel => exact ⟨k + 1, hlt, by go_num, hb⟩
                  case measure => simp [intOf]; omega
            · have d0 : decide ((0 : Int) < ((j : Int) + 1)) = true := decide_eq_true (by omega)
              have e1 : (j : Int) + 1 - 1 = (j : Int) := by omega
              have e2 : IntKind.i64.wrap (j : Int) = (j : Int) := by rw [IntKind.wrap_i64]; omega
              have d4 : decide ((no : Int) ≤ (np : Int)) = false := by simp; omega
              have q4 : ¬ no ≤ np := by omega
              have hjc : j < c := by omega
              obtain ⟨x0, x1, x2⟩ := hcells wr hb
              have xp := hpc wr hb
              have HCells := Lib.hid hcells
              clear hcells hpc
              go_wp2
              go_quiet (fail)
              have hb4 := below_drewN hb nq
              obtain ⟨y0, y1, y2⟩ := HCells.out _ hb4
              clear x0 x1 x2 hb xp
              generalize wr.drewN nq = w6 at hb4 y0 y1 y2 ⊢
              go_wp2
              go_loopw [11] (fun q wr => ∃ m : Nat, m ≤ tx.size ∧ q = .int .i64 m ∧ Below w5.heap.size w5 wr) (fun q _ => tx.size - (intOf q).toNat)
              case atStart => exact ⟨0, Nat.zero_le _, rfl, hb4⟩
              case round =>
                clear hb4 y0 y1 y2
                obtain ⟨m, hmz, rfl, hb⟩ := hrel
                by_cases hlm : m < tx.size
                · have him : (m : Int) < (tx.size : Int) := by omega
                  have hm0 : (0 : Int) ≤ (m : Int) := by omega
                  obtain ⟨_, z1, _⟩ := HCells.out _ hb
                  have t10 := HCl.out m hlm
                  have e10 : ((tx[m].toNat : Int) == 10) = false := by simp; omega
                  by_cases t35 : tx[m].toNat = 35
                  · have e35 : ((tx[m].toNat : Int) == 35) = true := by simp; omega
                    have htb : tb = true := by
                      cases tb with
                      | true => rfl
                      | false => exact absurd t35 (HBa.out rfl m hlm)
                    rw [htb] at z1
                    clear t10 t35 HBa HCl HCells htb
                    go_wp2
                    go_roundw
                    case rel => exact ⟨m + 1, hlm, by go_num, hb⟩
                    case measure => simp [intOf]; omega
                  · have e35 : ((tx[m].toNat : Int) == 35) = false := by simp; omega
                    clear t10 t35 HBa HCl HCells
                    go_wp2
                    go_roundw
                    case rel => exact ⟨m + 1, hlm, by go_num, hb⟩
                    case measure => simp [intOf]; omega
                · have him : ¬ (m : Int) < (tx.size : Int) := by omega
                  clear HBa HCl HCells
                  go_wp2
                  go_roundw
                  case rel => exact ⟨j + 1 + 1, hlt, by go_num, hb⟩
                  case measure => simp [intOf]; omega
          · have hik : ¬ (k : Int) < (n : Int) := by omega
            clear HR
            go_wp2
            go_ret
            exact ⟨rfl, hb5.trans (hb.mono hb5.size)⟩

end Go.Proofs.YtmonbnmjbgdkoaaDoor
