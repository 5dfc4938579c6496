/-
  ParseConds, over what each call of Parse tells: it answers true, and turns nothing that lay there. For every row of lines.
-/
import Derived.Test.YtldddecaeloohaaDoorPSh
namespace Go.Proofs.YtldddecaeloohaaDoor
open Go.RowKit Go.Shelf
attribute [local go_sem] Oper.semAt_some

theorem conds_step {ks : List Int} (h : CondOk ks []) {k dk : Nat} {j : Int} (hj : ks[k]? = some j) (hd : (ks.take k).count 3 = (ks.take k).count 5 + dk) :
    ∃ d, (ks.take (k + 1)).count 3 = (ks.take (k + 1)).count 5 + d ∧ d ≤ 20 ∧
      ((j = 3 ∧ d = dk + 1 ∧ (ks.take (k + 1)).count 4 = (ks.take k).count 4 ∧ (ks.take (k + 1)).count 3 = (ks.take k).count 3 + 1) ∨
       (j = 4 ∧ d = dk ∧ dk ≠ 0 ∧ (ks.take (k + 1)).count 4 = (ks.take k).count 4 + 1 ∧ (ks.take (k + 1)).count 3 = (ks.take k).count 3) ∨
       (j = 5 ∧ dk = d + 1 ∧ (ks.take (k + 1)).count 4 = (ks.take k).count 4 ∧ (ks.take (k + 1)).count 3 = (ks.take k).count 3) ∨
       (j ≠ 3 ∧ j ≠ 4 ∧ j ≠ 5 ∧ d = dk ∧ (ks.take (k + 1)).count 4 = (ks.take k).count 4 ∧ (ks.take (k + 1)).count 3 = (ks.take k).count 3)) := by
  obtain ⟨p1, p2, p3⟩ := h.pre k j hj
  have ht : ks.take (k + 1) = ks.take k ++ [j] := by rw [List.take_add_one, hj]; rfl
  rw [ht] at p1 p2 p3 ⊢
  simp only [List.count_append] at p1 p2 p3 ⊢
  by_cases h3 : j = 3
  · subst h3
    have c3 : List.count 3 [(3 : Int)] = 1 := by simp
    have c4 : List.count 4 [(3 : Int)] = 0 := by simp
    have c5 : List.count 5 [(3 : Int)] = 0 := by simp
    rw [c3, c4, c5]
    rw [c3, c5] at p2
    exact ⟨dk + 1, by omega, by omega, .inl ⟨rfl, rfl, rfl, rfl⟩⟩
  by_cases h4 : j = 4
  · subst h4
    have c3 : List.count 3 [(4 : Int)] = 0 := by simp
    have c4 : List.count 4 [(4 : Int)] = 1 := by simp
    have c5 : List.count 5 [(4 : Int)] = 0 := by simp
    rw [c3, c4, c5]
    rw [c3, c5] at p2 p3
    have := p3 rfl
    exact ⟨dk, by omega, by omega, .inr (.inl ⟨rfl, rfl, by omega, rfl, rfl⟩)⟩
  by_cases h5 : j = 5
  · subst h5
    have c3 : List.count 3 [(5 : Int)] = 0 := by simp
    have c4 : List.count 4 [(5 : Int)] = 0 := by simp
    have c5 : List.count 5 [(5 : Int)] = 1 := by simp
    rw [c3, c4, c5]
    rw [c3, c5] at p1 p2
    exact ⟨dk - 1, by omega, by omega, .inr (.inr (.inl ⟨rfl, by omega, rfl, rfl⟩))⟩
  have c3 : List.count 3 [j] = 0 := by simp [h3]
  have c4 : List.count 4 [j] = 0 := by simp [h4]
  have c5 : List.count 5 [j] = 0 := by simp [h5]
  rw [c3, c4, c5]
  rw [c3, c5] at p2
  exact ⟨dk, by omega, by omega, .inr (.inr (.inr ⟨h3, h4, h5, rfl, rfl, rfl⟩))⟩

set_option maxRecDepth 100000 in
set_option maxHeartbeats 8000000 in
theorem parseConds_over (HP : ParseC) (v0 : Value) (ls : List LineI) (w : World) (hr0 : ReadsL w w.heap.size v0 ls) (hn0 : ls.length ≤ maxLen) :
    Calls Tryd.prog 8 #[v0] w (LawPost w) := by
  have HSh := Lib.hid (shown9_at HP w w (Below.refl _ _))
  have HR := Lib.hid hr0
  have HA : Hid (∀ W, Below w.heap.size w W → Calls Tryd.prog 16 #[v0] W (AsPost ls W)) := fun W hW => as_any v0 ls W (HR.out.below hW hW.size)
  obtain ⟨o, c, rfl, _⟩ := hr0
  have hnm : ls.length ≤ 9223372036854775807 := hn0
  go_enter Tryd.func8, Tryd.ntmps8
  go_wp2_with (go_at_call 10; refine HSh.out.mono ?_; rintro e w1 ⟨rfl, hb1⟩)
  refine (HA.out w1 hb1).mono ?_
  rintro e w2 (⟨_, rfl, hb2⟩ | ⟨⟨hl60, hl400⟩, o2, c2, rfl, _, hb2⟩)
  · go_wp2
    go_ret
    exact ⟨rfl, hb1.trans (hb2.mono hb1.size)⟩
  have hb12 := hb1.trans (hb2.mono hb1.size)
  have H1 := Lib.hid (HP _ ls w2 (HR.out.below hb12 hb12.size) (by omega) (fun x hx => Nat.le_trans (hl400 x hx) (by omega)))
  have HB12 := Lib.hid hb12
  have hlen : (parseP ls).1.length ≤ 60 := Nat.le_trans (parseP_few ls) (by omega)
  have herr : (parseP ls).2.1 ≠ 0 → (parseP ls).1 = [] := parseP_err
  have hno : (parseP ls).2.1 = 14 → (parseP ls).2.2 = 0 := fun h => parseP_no (.inr h)
  have hcond : (parseP ls).2.1 = 0 → CondOk ((parseP ls).1.map (·.kind)) [] := fun h => by
    have he := parseP_ok (l := ls) (by omega)
    rw [he] at h ⊢
    exact conds_law ls [] [] _ (parseOf ls).2.2 (Prod.ext rfl (Prod.ext h rfl)) CondOk.start
  clear hb1 hb2 hb12 hl400 HA HR HSh
  generalize parseP ls = k at H1 hlen herr hno hcond
  obtain ⟨k1, k2, k3⟩ := k
  simp only at hlen herr hno hcond
  go_wp2_with fail
  refine H1.out.mono ?_
  rintro e w3 ⟨o3, c3, rfl, hr3, hb3⟩
  have HB3 := Lib.hid (HB12.out.trans (hb3.mono HB12.out.size))
  clear H1 HB12 hb3
  simp only at hr3 ⊢
  by_cases h0 : k2 = 0
  · subst h0
    have HC := Lib.hid (hcond rfl)
    clear herr hno hcond
    obtain ⟨n, hn⟩ : ∃ n, n = k1.length := ⟨_, rfl⟩
    rw [← hn] at hr3 hlen ⊢
    obtain ⟨ks, hks⟩ : ∃ ks, ks = k1.map (·.kind) := ⟨_, rfl⟩
    rw [← hks] at HC
    have HX : Hid (∀ k, k < n → ∃ j b f, ks[k]? = some j ∧ o3 = some ⟨b, f, none⟩ ∧ n ≤ c3 ∧ w3.cell? ⟨b, f + k * 10, none⟩ = some (.int .i64 j)) := fun k hk => by
      have hg : k1[k]? = some (k1[k]'(by omega)) := List.getElem?_eq_getElem (by omega)
      obtain ⟨o', c', hv, hx⟩ := hr3
      cases hv
      obtain ⟨b, f, rv, p1, _, p3, p4, _⟩ := hx k _ hg
      exact ⟨_, b, f, by rw [hks, List.getElem?_map, hg]; rfl, p1, by omega, p4 0 (by omega)⟩
    have hlk : ks.length = n := by rw [hks, List.length_map, hn]
    clear hr3 hn hks
    go_wp2
    go_loop [9, 10, 11, 12] (fun d e f i => ∃ (k dk : Nat), k ≤ n ∧ i = .int .i64 k ∧ d = .int .i64 dk ∧ e = .int .i64 ((ks.take k).count 4 : Nat) ∧ f = .int .i64 ((ks.take k).count 3 : Nat) ∧ Hid ((ks.take k).count 3 = (ks.take k).count 5 + dk)) (fun _ _ _ i => n - (intOf i).toNat)
    case atStart => exact ⟨0, 0, Nat.zero_le _, rfl, rfl, rfl, rfl, (by show _ = _; simp)⟩
    case round =>
      obtain ⟨k, dk, hk, rfl, rfl, rfl, rfl, HD⟩ := hrel
      by_cases hkn : k < n
      · obtain ⟨j, b, f, hj, rfl, hc3, hcell⟩ := HX.out k hkn
        obtain ⟨d, hd, hd20, hcase⟩ := conds_step HC.out hj HD.out
        have HD' := Lib.hid hd
        have hdk : dk ≤ 60 := by
          have := List.count_le_length (a := (3 : Int)) (l := ks.take k)
          have h := HD.out
          rw [List.length_take] at this; omega
        have hE : (ks.take k).count 4 ≤ 60 := by
          have := List.count_le_length (a := (4 : Int)) (l := ks.take k)
          rw [List.length_take] at this; omega
        have hF : (ks.take k).count 3 ≤ 60 := by
          have := List.count_le_length (a := (3 : Int)) (l := ks.take k)
          rw [List.length_take] at this; omega
        obtain ⟨E1, hE1⟩ : ∃ q, q = (ks.take (k + 1)).count 4 := ⟨_, rfl⟩
        obtain ⟨F1, hF1⟩ : ∃ q, q = (ks.take (k + 1)).count 3 := ⟨_, rfl⟩
        have HE1 := Lib.hid hE1
        have HF1 := Lib.hid hF1
        rw [← hE1, ← hF1] at hcase
        clear hd hj HD hE1 hF1
        generalize (ks.take k).count 4 = E0 at hE hcase ⊢
        generalize (ks.take k).count 3 = F0 at hF hcase ⊢
        have t1 : decide ((d : Int) < 0) = false := decide_eq_false (by omega)
        have t2 : decide ((20 : Int) < (d : Int)) = false := decide_eq_false (by omega)
        rcases hcase with ⟨rfl, h1, h2, h3⟩ | ⟨rfl, h1, h1', h2, h3⟩ | ⟨rfl, h1, h2, h3⟩ | ⟨j3, j4, j5, h1, h2, h3⟩
        · have m1 : (dk : Int) + 1 = (d : Int) := by omega
          have m3 : (F0 : Int) + 1 = (F1 : Int) := by omega
          subst h2
          clear h1 h3
          go_wp2
          go_round
          case rel => exact ⟨k + 1, d, hkn, by go_num, rfl, by rw [← HE1.out], by rw [← HF1.out], HD'⟩
          case measure => simp [intOf]; omega
        · have m2 : (E0 : Int) + 1 = (E1 : Int) := by omega
          subst h1
          subst h3
          have t3 : ((d : Int) == 0) = false := by simp; omega
          clear h1' h2
          go_wp2
          go_round
          case rel => exact ⟨k + 1, d, hkn, by go_num, rfl, by rw [← HE1.out], by rw [← HF1.out], HD'⟩
          case measure => simp [intOf]; omega
        · have m1 : (dk : Int) - 1 = (d : Int) := by omega
          subst h2
          subst h3
          clear h1
          go_wp2
          go_round
          case rel => exact ⟨k + 1, d, hkn, by go_num, rfl, by rw [← HE1.out], by rw [← HF1.out], HD'⟩
          case measure => simp [intOf]; omega
        · have t3 : (j == 3) = false := by simp [j3]
          have t4 : (j == 4) = false := by simp [j4]
          have t5 : (j == 5) = false := by simp [j5]
          subst h1
          subst h2
          subst h3
          clear j3 j4 j5
          go_wp2
          go_round
          case rel => exact ⟨k + 1, d, hkn, by go_num, rfl, by rw [← HE1.out], by rw [← HF1.out], HD'⟩
          case measure => simp [intOf]; omega
      · have hkn' : k = n := by omega
        subst hkn'
        have ht : ks.take k = ks := by rw [← hlk]; exact List.take_length
        have hq := HD.out
        have q1 := HC.out.deep
        have q2 := HC.out.elses
        rw [ht] at hq ⊢
        simp only [List.length_nil, List.count_nil, Nat.add_zero] at q1 q2
        have hd0 : dk = 0 := by omega
        subst hd0
        have t1 : decide (((ks.count 4 : Nat) : Int) ≤ ((ks.count 3 : Nat) : Int)) = true := decide_eq_true (by omega)
        clear HD hq q1 ht
        generalize ks.count 4 = E0 at q2 t1 ⊢
        generalize ks.count 3 = F0 at q2 t1 ⊢
        go_wp2
        go_ret
        exact ⟨rfl, HB3.out⟩
  · have hk1 := herr h0
    subst hk1
    have t0 : (k2 != 0) = true := by simp [h0]
    clear herr hcond hr3
    by_cases h14 : k2 = 14
    · subst h14
      have h3 := hno rfl
      subst h3
      go_wp2
      go_ret
      exact ⟨rfl, HB3.out⟩
    · have t1 : (k2 == 14) = false := by simp [h14]
      clear hno
      by_cases h3 : k3 = 0
      · subst h3
        go_wp2
        go_ret
        exact ⟨rfl, HB3.out⟩
      · have t2 : (k3 == 0) = false := by simp [h3]
        go_wp2
        go_ret
        exact ⟨rfl, HB3.out⟩
end Go.Proofs.YtldddecaeloohaaDoor
