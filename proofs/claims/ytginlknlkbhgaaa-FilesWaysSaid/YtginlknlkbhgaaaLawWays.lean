/-
  No file's path is another one's directory; there are no more bytes, and no more files, than may be: for any room, any acts. No condition.
-/
import Derived.Test.YtginlknlkbhgaaaRowP
import Derived.Test.YtginlknlkbhgaaaFActs
import Derived.Test.YtginlknlkbhgaaaFLaws2
import Derived.Test.YtginlknlkbhgaaaFPure
namespace Go.Proofs.Ytginlknlkbhgaaa
open Go.ChangeShapes Go.WideShapes Go.ChangeAt Go.RowKit
open Go.Shelf Go.Maps

def sumA (al : List AF) : Nat := (al.map fun y => y.2.length).sum
theorem sumA_files (l : Fs) : sumA (filesOf l) = used l := by
  unfold sumA filesOf used
  rw [List.map_map]; rfl
theorem sumA_take {al : List AF} {k : Nat} {p t : BS} (h : al[k]? = some (p, t)) : sumA (al.take (k + 1)) = sumA (al.take k) + t.length := by
  have hk := (List.getElem?_eq_some_iff.1 h).1
  have he := (List.getElem?_eq_some_iff.1 h).2
  unfold sumA
  rw [List.take_succ_eq_append_getElem hk, he]; simp
theorem sumA_le (al : List AF) (k : Nat) : sumA (al.take k) ≤ sumA al := by
  unfold sumA
  induction al generalizing k with
  | nil => simp
  | cons x r ih =>
    cases k with
    | zero => simp
    | succ k => simp only [List.take_succ_cons, List.map_cons, List.sum_cons]; have := ih k; omega
theorem leq_false {a b : ByteArray} (h1 : Op.bytesLess a.toList b.toList = false) (h2 : (a.toList == b.toList) = false) (W : World) : (binOp BinOp.leq 9 (.string a) (.string b)).run Try.prog W = .ok (.bool false) W := by
  have e : binOp BinOp.leq 9 (.string a) (.string b) = Op.stringOp .leq a b := rfl
  rw [e]
  unfold Op.stringOp
  simp only [h1, h2, Bool.or_false]
  rfl

theorem way_false {sj sk : ByteArray} (h : way sj.data.toList sk.data.toList = false) : ((sk.extract 0 (sj ++ ⟨#[47]⟩).size).toList == (sj ++ ⟨#[47]⟩ : ByteArray).toList) = false := by
  rw [Bool.eq_false_iff]
  intro he
  have he' : sk.extract 0 (sj ++ ⟨#[47]⟩).size = sj ++ ⟨#[47]⟩ := by
    have := beq_iff_eq.1 he
    exact toL_inj this
  have hd : (sj ++ ⟨#[47]⟩ : ByteArray).data.toList = sj.data.toList ++ [47] := by simp [ByteArray.data_append]
  have : way sj.data.toList sk.data.toList = true := by
    unfold way
    rw [List.isPrefixOf_iff_prefix, ← hd, ← he', extract_txt, txt_data, List.drop_zero]
    exact List.take_prefix _ _
  rw [this] at h; cases h

set_option maxRecDepth 100000 in
set_option maxHeartbeats 8000000 in
theorem filesWays_walk (room0 : Int) (hroom : -9223372036854775808 ≤ room0 ∧ room0 ≤ 9223372036854775807) (v : Value) (al : List ActV) (hn : al.length ≤ maxLen) (hw : ∀ a ∈ al, ActW a) (w : World) (hr : ActsO w w.heap.size v al) :
    Calls Try.prog 7 #[.int .i64 room0, v] w (LawPost w) := by
  obtain ⟨o, c, rfl, hx'⟩ := id hr
  clear hx'
  have HSh := Lib.hid (shown_at w)
  have HSm := Lib.hid (small_at hr hn hw)
  obtain ⟨p, hp⟩ : ∃ p, p = pickZ room0 2000 := ⟨_, rfl⟩
  have hp2 : p < 2000 := by rw [hp]; exact Nat.mod_lt _ (by omega)
  have HPk : Hid (∀ W, Calls Try.prog 25 #[.int .i64 room0, .int .i64 2000] W fun e w' => e = .returned (.int .i64 p) ∧ W = w') := by
    intro W
    have := pick_any room0 hroom 2000 (by omega) (by omega) W
    rw [← hp] at this
    exact this
  have HBg := Lib.hid (begun_at (1 + (p : Int)) (by omega) (by omega) w)
  have hb0 : Below w.heap.size w w := Below.refl _ _
  cases hsm : smallB al with
  | false =>
    rw [hsm] at HSm
    clear hr hn hw hsm hroom hp
    go_enter Try.func7, Try.ntmps7
    go_wp2_with (first
      | (go_at_call 11; refine (HSh.out _ hb0).mono ?_; rintro e w2 ⟨rfl, hb2⟩)
      | (go_at_call 12; refine (HSm.out _ hb2).mono ?_; rintro e w3 ⟨rfl, rfl⟩)
      | (go_at_call 25; refine (HPk.out _).mono ?_; rintro e w4 ⟨rfl, rfl⟩)
      | (go_at_call 13; refine (HBg.out _ hb2).mono ?_; rintro e w1 ⟨bt, bm, rfl, h0⟩))
    go_ret
    exact ⟨rfl, boxBack h0⟩
  | true =>
    rw [hsm] at HSm
    obtain ⟨hlen, hok⟩ := small_ok hsm hw
    have HX : Hid (ActsO w w.heap.size (.slice o al.length c) al) := hr
    have HO := Lib.hid hok
    clear hr hn hw hsm hok hroom hp
    go_enter Try.func7, Try.ntmps7
    go_wp2_with (first
      | (go_at_call 11; refine (HSh.out _ hb0).mono ?_; rintro e w2 ⟨rfl, hb2⟩)
      | (go_at_call 12; refine (HSm.out _ hb2).mono ?_; rintro e w3 ⟨rfl, rfl⟩)
      | (go_at_call 25; refine (HPk.out _).mono ?_; rintro e w4 ⟨rfl, rfl⟩)
      | (go_at_call 13; refine (HBg.out _ hb2).mono ?_; rintro e w1 ⟨bt, bm, rfl, h0⟩))
    clear HSh HSm HBg HPk
    go_loopw [10] (fun i wr => ∃ (k : Nat) (S : St), k ≤ al.length ∧ i = .int .i64 k ∧ Good (1 + (p : Int)) k S ∧ Bx w w1.heap.size bt bm (pairW w1 bt bm) (ZB w w1) (1 + (p : Int)) [(false, bt, S), (true, bm, S)] wr) (fun i _ => al.length - (intOf i).toNat)
    case atStart => exact ⟨0, _, Nat.zero_le _, rfl, Good.new (by omega) (by omega), h0.bx⟩
    case round =>
      obtain ⟨k, S, hk, rfl, hg, hcr⟩ := hrel
      by_cases hlt : k < al.length
      · obtain ⟨b, f, rfl, hkc, hcell⟩ := acts_at HX.out (List.getElem?_eq_getElem hlt)
        have ha := HO.out _ (List.getElem_mem hlt)
        generalize al[k] = a at *
        have hi5 : (k : Int) < (al.length : Int) := by omega
        have hi6 : (0 : Int) ≤ (k : Int) := by omega
        have hk60 : k < 268435456 := by omega
        have HC : Hid (∀ l W, Bx w w1.heap.size bt bm (pairW w1 bt bm) (ZB w w1) (1 + (p : Int)) l W → ActCells W b f k a) := fun l W h => hcell W (bxBack h)
        have HB : Hid (∀ l W, Bx w w1.heap.size bt bm (pairW w1 bt bm) (ZB w w1) (1 + (p : Int)) l W → W.cell? ⟨w1.heap.size, 0, none⟩ = some (.pointer (some ⟨bt, 0, none⟩)) ∧ W.cell? ⟨w1.heap.size, 1, none⟩ = some (.pointer (some ⟨bm, 0, none⟩))) := fun l W h => bxAt h
        obtain ⟨S', hS'⟩ : ∃ S', S' = actS (1 + (p : Int)) S a := ⟨_, rfl⟩
        have hg' : Good (1 + (p : Int)) (k + 1) S' := by rw [hS']; exact hg.act a
        have H4 : Hid (∀ W, Bx w w1.heap.size bt bm (pairW w1 bt bm) (ZB w w1) (1 + (p : Int)) [(false, bt, S), (true, bm, S)] W → Calls Try.prog 17 #[.agg #[.pointer (some ⟨bt, 0, none⟩), .pointer (some ⟨bm, 0, none⟩)], .agg #[.int .i64 a.op, .int .i64 a.n, .int .i64 a.m, .string a.path, .string a.text]] W fun r w' => r = .returned (.bool true) ∧ Bx w w1.heap.size bt bm (pairW w1 bt bm) (ZB w w1) (1 + (p : Int)) [(false, bt, S'), (true, bm, S')] w') := fun W h => by
          rw [hS']; exact h.does hg hk60 a ha
        have hcrd := Bx.below hcr (below_drew (Below.refl _ _))
        clear ha hg hS' hcell HX HO 
        obtain ⟨op, an, am, ap, at'⟩ := a
        simp only [ActCells] at HC H4
        go_wp2
        go_region_held3 (fun W => W.cell? ⟨w1.heap.size, 0, none⟩ = some (.pointer (some ⟨bt, 0, none⟩)) ∧ W.cell? ⟨w1.heap.size, 1, none⟩ = some (.pointer (some ⟨bm, 0, none⟩)) ∧ W.cell? ⟨b, f + k * 5, none⟩ = some (.int .i64 op) ∧ W.cell? ⟨b, f + k * 5 + 1, none⟩ = some (.int .i64 an) ∧ W.cell? ⟨b, f + k * 5 + 2, none⟩ = some (.int .i64 am) ∧ W.cell? ⟨b, f + k * 5 + 3, none⟩ = some (.string ap) ∧ W.cell? ⟨b, f + k * 5 + 4, none⟩ = some (.string at'))
          (first | exact (fun h => ⟨(HB.out _ _ h).1, (HB.out _ _ h).2, HC.out _ _ h⟩) (show Bx w w1.heap.size bt bm (pairW w1 bt bm) (ZB w w1) (1 + (p : Int)) _ _ by assumption))
          (first | (go_at_call 17; refine (H4.out _ (by assumption)).mono ?_; rintro e w7 ⟨rfl, h7⟩))
        clear HC H4 hcr hcrd
        have hk61 : k + 1 < 268435456 := by omega
        have hm7 := bxAt h7
        obtain ⟨F, hF⟩ : ∃ F, F = filesOf S'.now := ⟨_, rfl⟩
        obtain ⟨n, hn⟩ : ∃ n, n = F.length := ⟨_, rfl⟩
        have hn200 : n ≤ 200 := by rw [hn, hF]; unfold filesOf; have := hg'.files.len; simpa using this
        obtain ⟨u, hu⟩ : ∃ u, u = used S'.now := ⟨_, rfl⟩
        have huF : sumA F = u := by rw [hF, hu]; exact sumA_files _
        have hur : (u : Int) ≤ 1 + (p : Int) := by rw [hu]; exact hg'.files.fit
        have HA : Hid (∀ W, Bx w w1.heap.size bt bm (pairW w1 bt bm) (ZB w w1) (1 + (p : Int)) [(false, bt, S'), (true, bm, S')] W → Calls Try.prog 26 #[.pointer (some ⟨bt, 0, none⟩)] W fun r w' => ∃ o q, r = .returned (.slice o n q) ∧ n ≤ q ∧ (∀ k p t, F[k]? = some (p, t) → ∃ g, o = some ⟨g, 0, none⟩ ∧ w'.cell? ⟨g, k * 2, none⟩ = some (.string (txt p)) ∧ w'.cell? ⟨g, k * 2 + 1, none⟩ = some (.string (txt t))) ∧ Bx w w1.heap.size bt bm (pairW w1 bt bm) (ZB w w1) (1 + (p : Int)) [(false, bt, S'), (true, bm, S')] w') := fun W h => by
          have := h.files hg' hk61
          rw [← hF, ← hn] at this
          exact this.mono fun _ _ ⟨o, q, k1, k2, k3, k4⟩ => ⟨o, q, k1, (rowA_cells k2 (Below.refl _ _)).1, (rowA_cells k2 (Below.refl _ _)).2, k4⟩
        have HU : Hid (∀ W, Bx w w1.heap.size bt bm (pairW w1 bt bm) (ZB w w1) (1 + (p : Int)) [(false, bt, S'), (true, bm, S')] W → Calls Try.prog 30 #[.pointer (some ⟨bt, 0, none⟩)] W fun r w' => r = .returned (.int .i64 u) ∧ Bx w w1.heap.size bt bm (pairW w1 bt bm) (ZB w w1) (1 + (p : Int)) [(false, bt, S'), (true, bm, S')] w') := fun W h => by rw [hu]; exact h.used hg' hk61
        have HW : Hid (∀ (i j : Nat) (pi ti pj tj : BS), F[i]? = some (pi, ti) → F[j]? = some (pj, tj) → way pj pi = false) := by
          intro i j pi ti pj tj hi hj
          rw [hF] at hi hj
          unfold filesOf at hi hj
          rw [List.getElem?_map, Option.map_eq_some_iff] at hi hj
          obtain ⟨x, hx, hxe⟩ := hi
          obtain ⟨y, hy, hye⟩ := hj
          have h1 := way_sym (hg'.files.ways x (List.mem_of_getElem? hx)) y (List.mem_of_getElem? hy)
          cases hxe; cases hye
          exact h1.1
        have HS : Hid (∀ (i : Nat) (pi ti pj tj : BS), F[i + 1]? = some (pi, ti) → F[i]? = some (pj, tj) → pj < pi) := by
          intro i pi ti pj tj hi hj
          rw [hF] at hi hj
          unfold filesOf at hi hj
          rw [List.getElem?_map, Option.map_eq_some_iff] at hi hj
          obtain ⟨x, hx, hxe⟩ := hi
          obtain ⟨y, hy, hye⟩ := hj
          obtain ⟨a1, e1⟩ := List.getElem?_eq_some_iff.1 hx
          obtain ⟨a2, e2⟩ := List.getElem?_eq_some_iff.1 hy
          have h1 := List.pairwise_iff_getElem.1 hg'.files.srt i (i + 1) a2 a1 (by omega)
          rw [e1, e2] at h1
          cases hxe; cases hye
          exact h1
        have HT : Hid (∀ (i : Nat) (pi ti : BS), F[i]? = some (pi, ti) → pi.length ≤ 100 ∧ ti.length ≤ 16777216) := by
          intro i pi ti hi
          rw [hF] at hi
          unfold filesOf at hi
          rw [List.getElem?_map, Option.map_eq_some_iff] at hi
          obtain ⟨x, hx, hxe⟩ := hi
          have h1 := hg'.files.short x (List.mem_of_getElem? hx)
          have h2 := hg'.files.texts x (List.mem_of_getElem? hx)
          cases hxe
          exact ⟨h1, h2⟩
        have HN := Lib.hid hn
        have HUF := Lib.hid huF
        clear hF hu hn huF
        go_wp2_with (first | (go_at_call 26; refine (HA.out _ h7).mono ?_; rintro e w3 ⟨oA, cA, rfl, hnc, hcells, h3⟩; have HCl := Lib.hid hcells; clear hcells))
        clear HA
        go_loopw [13, 12] (fun i s wr => ∃ (k2 s2 q2 : Nat), k2 ≤ n ∧ i = .int .i64 k2 ∧ s = .int .i64 s2 ∧ Hid (s2 = sumA (F.take k2)) ∧ wr = w3.drewN q2) (fun i _ _ => n - (intOf i).toNat)
        case atStart => exact ⟨0, 0, 0, Nat.zero_le _, rfl, rfl, rfl, rfl⟩
        case round =>
          obtain ⟨k2, s2, q2, hk2, rfl, rfl, HS2, rfl⟩ := hrel
          by_cases hlt2 : k2 < n
          · obtain ⟨⟨pk, tk⟩, hFk⟩ : ∃ y, F[k2]? = some y := ⟨_, List.getElem?_eq_getElem (by have := HN.out; omega)⟩
            obtain ⟨g, rfl, e0, e1⟩ := HCl.out k2 pk tk hFk
            obtain ⟨hpk, htk⟩ := HT.out k2 pk tk hFk
            obtain ⟨sk, hsk⟩ : ∃ sk, sk = txt pk := ⟨_, rfl⟩
            obtain ⟨st, hst⟩ : ∃ st, st = txt tk := ⟨_, rfl⟩
            have hsz : st.size = tk.length := by rw [hst, txt_size]
            have hskz : sk.size ≤ 100 := by rw [hsk, txt_size]; exact hpk
            have hstz : st.size ≤ 16777216 := by omega
            rw [← hsk] at e0
            rw [← hst] at e1
            have HS3 : Hid (s2 + st.size = sumA (F.take (k2 + 1))) := by show _ = _; rw [sumA_take hFk, hsz, HS2.out]
            have hsb : s2 ≤ 2000 := by have h1 : s2 = sumA (F.take k2) := HS2.out; have h2 := sumA_le F k2; have h3 : sumA F = u := HUF.out; omega
            have hi8 : (k2 : Int) < (n : Int) := by omega
            have hi9 : (0 : Int) ≤ (k2 : Int) := by omega
            have hi10 : k2 < cA := by omega
            have HFk := Lib.hid hFk
            have HSK := Lib.hid hsk
            clear hsz hst hFk hsk HS2 hpk htk
            go_wp2
            go_loopw [14] (fun i wr => ∃ (j q3 : Nat), j ≤ n ∧ i = .int .i64 j ∧ wr = w3.drewN q3) (fun i _ => n - (intOf i).toNat)
            case atStart => exact ⟨0, q2, Nat.zero_le _, rfl, rfl⟩
            case round =>
              obtain ⟨j, q3, hj, rfl, rfl⟩ := hrel
              by_cases hlt3 : j < n
              · obtain ⟨⟨pj, tj⟩, hFj⟩ : ∃ y, F[j]? = some y := ⟨_, List.getElem?_eq_getElem (by have := HN.out; omega)⟩
                obtain ⟨g', hg9, f0, f1⟩ := HCl.out j pj tj hFj
                cases hg9
                obtain ⟨hpj, htj⟩ := HT.out j pj tj hFj
                have hwy := HW.out k2 j pk tk pj tj HFk.out hFj
                obtain ⟨sj, hsj⟩ : ∃ sj, sj = txt pj := ⟨_, rfl⟩
                have hsjz : sj.size ≤ 100 := by rw [hsj, txt_size]; exact hpj
                have hwf : ((sk.extract 0 (sj ++ ⟨#[47]⟩).size).toList == (sj ++ ⟨#[47]⟩ : ByteArray).toList) = false := way_false (by rw [show sk = txt pk from HSK.out, hsj, txt_data, txt_data]; exact hwy)
                rw [← hsj] at f0
                obtain ⟨aa, haa⟩ : ∃ aa, aa = sj ++ (⟨#[47]⟩ : ByteArray) := ⟨_, rfl⟩
                have haaz : aa.size ≤ 101 := by rw [haa, ByteArray.size_append]; have : (ByteArray.mk #[47]).size = 1 := rfl; omega
                rw [← haa] at hwf
                have HAA := Lib.hid haa
                have hj8 : (j : Int) < (n : Int) := by omega
                have hj9 : (0 : Int) ≤ (j : Int) := by omega
                have hj10 : j < cA := by omega
                clear hsj hFj hpj htj hwy haa f1
                go_wp2
                rw [← HAA.out]
                by_cases hl : aa.size < sk.size
                · have d0 : (aa.size : Int) < (sk.size : Int) := by omega
                  have d1 : (aa.size : Int) ≤ (sk.size : Int) := by omega
                  have d2 : (0 : Int) ≤ (aa.size : Int) := by omega
                  have d3 : aa.size ≤ sk.size := by omega
                  by_cases hk0 : 0 < k2
                  · obtain ⟨m, rfl⟩ : ∃ m, k2 = m + 1 := ⟨k2 - 1, by omega⟩
                    obtain ⟨⟨pp, tp⟩, hFm⟩ : ∃ y, F[m]? = some y := ⟨_, List.getElem?_eq_getElem (by have := HN.out; omega)⟩
                    obtain ⟨g', hg9, eP, _⟩ := HCl.out m pp tp hFm
                    cases hg9
                    have hlt4 : pp < pk := HS.out m pk tk pp tp HFk.out hFm
                    have hle1 : Op.bytesLess sk.toList (txt pp).toList = false := less_f (by rw [show sk = txt pk from HSK.out, txt_data, txt_data]; exact fun h => bs_lt_irrefl _ (bs_lt_trans hlt4 h))
                    have hle2 : (sk.toList == (txt pp).toList) = false := by rw [str_eq]; exact decide_eq_false (fun h => by rw [show sk = txt pk from HSK.out] at h; have := congrArg (fun s : ByteArray => s.data.toList) h; simp only [txt_data] at this; rw [this] at hlt4; exact bs_lt_irrefl _ hlt4)
                    obtain ⟨sp, hsp⟩ : ∃ sp, sp = txt pp := ⟨_, rfl⟩
                    rw [← hsp] at eP hle1 hle2
                    have d4 : (0 : Int) < (m : Int) + 1 := by omega
                    have d5 : (m : Int) + 1 < (n : Int) := by omega
                    have d6 : (m : Int) < (n : Int) := by omega
                    have d7 : (0 : Int) ≤ (m : Int) := by omega
                    have d8 : m < cA := by omega
                    have d9 : (0 : Int) ≤ (m : Int) + 1 := by omega
                    have d10 : ((m : Int) + 1).toNat = m + 1 := by omega
                    have e0' : w3.cell? ⟨g, ((m : Int) + 1).toNat * 2, none⟩ = some (.string sk) := by rw [d10]; exact e0
                    have d11 : m < n := by omega
                    have hsub : (m : Int) + 1 - 1 = (m : Int) := by omega
                    have hw1 : IntKind.i64.wrap ((m : Int) + 1 - 1) = (m : Int) := by rw [IntWalk.i64_in _ (by omega)]; omega
                    have hw2 : IntKind.i64.wrap (m : Int) = (m : Int) := IntWalk.i64_in _ (by omega)
                    have hbo := leq_false hle1 hle2
                    clear hsp hFm hi8 hi9 hlt4 hle1 hle2
                    go_quiet (fail)
                    go_wp2
                    go_roundw
                    case rel => exact ⟨j + 1, _, hlt3, by go_num, rfl⟩
                    case measure => simp [intOf]; omega
                  · have d4 : ¬ (0 : Int) < (k2 : Int) := by omega
                    go_quiet (fail)
                    go_wp2
                    go_roundw
                    case rel => exact ⟨j + 1, _, hlt3, by go_num, rfl⟩
                    case measure => simp [intOf]; omega
                · have d0 : ¬ (aa.size : Int) < (sk.size : Int) := by omega
                  by_cases hk0 : 0 < k2
                  · obtain ⟨m, rfl⟩ : ∃ m, k2 = m + 1 := ⟨k2 - 1, by omega⟩
                    obtain ⟨⟨pp, tp⟩, hFm⟩ : ∃ y, F[m]? = some y := ⟨_, List.getElem?_eq_getElem (by have := HN.out; omega)⟩
                    obtain ⟨g', hg9, eP, _⟩ := HCl.out m pp tp hFm
                    cases hg9
                    have hlt4 : pp < pk := HS.out m pk tk pp tp HFk.out hFm
                    have hle1 : Op.bytesLess sk.toList (txt pp).toList = false := less_f (by rw [show sk = txt pk from HSK.out, txt_data, txt_data]; exact fun h => bs_lt_irrefl _ (bs_lt_trans hlt4 h))
                    have hle2 : (sk.toList == (txt pp).toList) = false := by rw [str_eq]; exact decide_eq_false (fun h => by rw [show sk = txt pk from HSK.out] at h; have := congrArg (fun s : ByteArray => s.data.toList) h; simp only [txt_data] at this; rw [this] at hlt4; exact bs_lt_irrefl _ hlt4)
                    obtain ⟨sp, hsp⟩ : ∃ sp, sp = txt pp := ⟨_, rfl⟩
                    rw [← hsp] at eP hle1 hle2
                    have d4 : (0 : Int) < (m : Int) + 1 := by omega
                    have d5 : (m : Int) + 1 < (n : Int) := by omega
                    have d6 : (m : Int) < (n : Int) := by omega
                    have d7 : (0 : Int) ≤ (m : Int) := by omega
                    have d8 : m < cA := by omega
                    have d9 : (0 : Int) ≤ (m : Int) + 1 := by omega
                    have d10 : ((m : Int) + 1).toNat = m + 1 := by omega
                    have e0' : w3.cell? ⟨g, ((m : Int) + 1).toNat * 2, none⟩ = some (.string sk) := by rw [d10]; exact e0
                    have d11 : m < n := by omega
                    have hsub : (m : Int) + 1 - 1 = (m : Int) := by omega
                    have hw1 : IntKind.i64.wrap ((m : Int) + 1 - 1) = (m : Int) := by rw [IntWalk.i64_in _ (by omega)]; omega
                    have hw2 : IntKind.i64.wrap (m : Int) = (m : Int) := IntWalk.i64_in _ (by omega)
                    have hbo := leq_false hle1 hle2
                    clear hsp hFm hi8 hi9 hlt4 hle1 hle2
                    go_quiet (fail)
                    go_wp2
                    go_roundw
                    case rel => exact ⟨j + 1, _, hlt3, by go_num, rfl⟩
                    case measure => simp [intOf]; omega
                  · have d4 : ¬ (0 : Int) < (k2 : Int) := by omega
                    go_quiet (fail)
                    go_wp2
                    go_roundw
                    case rel => exact ⟨j + 1, _, hlt3, by go_num, rfl⟩
                    case measure => simp [intOf]; omega
              · go_wp2
                go_roundw
                case rel => exact ⟨k2 + 1, s2 + st.size, q3, hlt2, by go_num, by go_num, HS3, rfl⟩
                case measure => simp [intOf]; omega
          · have hkk : k2 = n := by omega
            have hs2u : s2 = u := by
              have h1 : s2 = sumA (F.take k2) := HS2.out
              rw [List.take_of_length_le (by have := HN.out; omega), HUF.out] at h1
              exact h1
            subst hs2u
            have h3d := Bx.below h3 (below_drewN (Below.refl _ _) q2)
            have hm3 := bxAt h3d
            have hnu : ¬ (1 + (p : Int)) < (s2 : Int) := by omega
            have hn2 : ¬ (200 : Int) < (n : Int) := by omega
            clear HW HS HT HCl HS2 HN HUF
            go_wp2_with (first | (go_at_call 30; refine (HU.out _ h3d).mono ?_; rintro e w4 ⟨rfl, h4⟩))
            go_roundw
            case rel => exact ⟨k + 1, S', hlt, by go_num, hg', h4⟩
            case measure => simp [intOf]; omega
      · go_wp2
        go_ret
        exact ⟨rfl, bxBack hcr⟩

set_option maxRecDepth 100000 in
theorem filesWays_lifted (os : Os) (started : os.Started) (H : Type) (enc : TypeId × Value → H) :
    ReturnsInHanded {} Try.checked os 7 .any (Rows.filesWaysSpec.pre6 enc Try.prog Try.f7 Rows.filesWaysRow.domain false) (Rows.filesWaysSpec.post enc Try.prog Try.f7 false true false false) := by
  refine returnsInHanded_of_change (C := Try.checked) own_knob started (by kernel_rfl) Try.func7
    (ChangeSpec.witness6 (enc := enc) (C := Try.checked) false ⟨#[], #[.int .i64 0, .slice none 0 0], []⟩ 8 (by kernel_rfl) (by kernel_rfl) (by kernel_rfl) (by kernel_rfl)) ?_
  intro W base args ds gs before hval0 hW _ _
  have hval : ∀ (j : Nat) t v, Try.f7.params[j]? = some t → args[j]? = some v → Value.okWide Try.prog W .any base t v := hval0
  have hW' := hW
  obtain ⟨p, q, hA0, hV, rfl, hfz, hnd⟩ := hW
  have hA : DataW.TrodAll enc Try.prog W 0 (fun _ => true) true Try.f7.params.toList args.toList ds p := hA0
  rw [Try.params7] at hA hval
  obtain ⟨v0, v1, d0, d1, p0, p1, rfl, rfl, rfl, h0, h1⟩ := trodAll_two hA
  obtain ⟨rfl, rfl⟩ := trodVars_none hV
  clear hA0 hval0
  simp only [List.append_nil] at hW'
  have hlt := fun x hx => hW'.lt x hx
  obtain ⟨i0, rfl, rfl, rfl, ws0⟩ := open_int Try.underlying3 (hval 0 3 v0 rfl rfl) h0
  obtain ⟨⟨al1, hn1, hw1, hr1⟩, hback1⟩ := open_acts (hval 1 22 v1 rfl rfl) h1 (fun x hx => hlt x (by simp [hx]))
  refine (filesWays_walk i0 (bounds_i64 ws0) v1 al1 hn1 hw1 W hr1).mono fun e W' h => ⟨.bool true, h.1, ?_⟩
  exact post_true_at hW' rfl (by kernel_rfl) Try.underlying4 rfl (trodAll_mk2 (shut_int Try.underlying3 ws0) (hback1 W' h.2)) h.2

theorem filesWays_holds : Rows.FilesWaysSaid :=
  OpenClaim.holds_of_wide 7 Try.f7 rfl rfl rfl rfl rfl rfl rfl ⟨rfl, rfl, rfl, rfl, rfl⟩ rfl rfl rfl rfl rfl (by kernel_rfl) Try.func7 (by kernel_rfl)
    (of_decide_eq_true (by kernel_rfl)) (by unfold Func.isWrapper; first | (rw [if_pos (by decide +kernel)]; kernel_rfl) | (rw [if_neg (by decide +kernel)]; exact ⟨rfl, rfl⟩))
    (fun os started H enc _ => filesWays_lifted os started H enc)

end Go.Proofs.Ytginlknlkbhgaaa
