/-
  What the document's own Unquote answers.
-/
import Derived.Maps.AppendAt
import Derived.Laws.IdiomStrings
import Derived.Test.YtllkibdpjpdbbaaDoorLRefQ
namespace Go.Proofs.YtllkibdpjpdbbaaDoor
open Go.RowKit Go.Shelf

theorem infoByte : (Tryd.prog.info? 5).map (fun i => (i.zero, i.size, i.bytes)) = some (some (.int .u8 0), 1, 1) := by kernel_rfl
/-- Behind k bytes of l, acc is read: whatever text l is quoted of begins with acc, and the rest of l is quoted of its rest. -/
def RawAt (l : List UInt8) (k : Nat) (acc : List UInt8) : Prop := ∀ t, quoAll t = l → ∃ t', t = acc ++ t' ∧ quoAll t' = l.drop k
theorem raw_start (l : List UInt8) : RawAt l 0 [] := fun t h => ⟨t, rfl, by simpa using h⟩
theorem raw_plain {l : List UInt8} {k : Nat} {acc : List UInt8} {c : UInt8} {r : List UInt8} (h : RawAt l k acc) (hr : l.drop k = c :: r) (hp : plainB c = true) : RawAt l (k + 1) (acc ++ [c]) := by
  intro t ht
  obtain ⟨t', h1, h2⟩ := h t ht
  rw [hr] at h2
  have hd : l.drop (k + 1) = r := by rw [← List.drop_drop, hr]; rfl
  cases t' with
  | nil => simp [quoAll] at h2
  | cons d t2 =>
    rw [quoAll_cons] at h2
    have e : quo c ++ r = quo d ++ quoAll t2 := by rw [h2, quo, if_pos hp]; rfl
    obtain ⟨rfl, h3⟩ := quo_cancel e
    exact ⟨t2, by rw [h1]; simp, by rw [hd, h3]⟩
theorem raw_hex {l : List UInt8} {k i j : Nat} {acc : List UInt8} {c : UInt8} {r : List UInt8} (h : RawAt l k acc) (hr : l.drop k = 37 :: hexOf i :: hexOf j :: r) (hi : i < 16) (hj : j < 16) (hc : c.toNat = 16 * i + j) : RawAt l (k + 3) (acc ++ [c]) := by
  intro t ht
  obtain ⟨t', h1, h2⟩ := h t ht
  rw [hr] at h2
  have hd : l.drop (k + 3) = r := by rw [← List.drop_drop, hr]; rfl
  cases t' with
  | nil => simp [quoAll] at h2
  | cons d t2 =>
    rw [quoAll_cons] at h2
    obtain ⟨_, h3⟩ := cases37 h2.symm
    simp only [List.cons.injEq] at h3
    have hdl := d.toNat_lt
    have e1 := hexOf_inj _ _ hi (by omega) h3.1
    have e2 := hexOf_inj _ _ hj (Nat.mod_lt _ (by omega)) h3.2.1
    have : c = d := UInt8.toNat_inj.1 (by omega)
    subst this
    exact ⟨t2, by rw [h1]; simp, by rw [hd, h3.2.2]⟩
theorem raw_stuck {l : List UInt8} {k : Nat} {acc : List UInt8} (h : RawAt l k acc) (h37 : l ≠ [37]) (h0 : l.drop k ≠ []) (hn : ∀ d r, l.drop k ≠ quo d ++ r) : ∀ t, quoteOf t ≠ l := by
  intro t ht
  unfold quoteOf at ht
  split at ht
  · exact h37 ht.symm
  · obtain ⟨t', _, h2⟩ := h t ht
    cases t' with
    | nil => exact h0 h2.symm
    | cons c r => rw [quoAll_cons] at h2; exact hn c _ h2.symm
theorem raw_end {l : List UInt8} {k : Nat} {acc : List UInt8} (h : RawAt l k acc) (hk : l.length ≤ k) (h37 : l ≠ [37]) : ∀ t, quoteOf t = l → t = acc ∧ acc ≠ [] := by
  intro t ht
  have ht' := ht
  unfold quoteOf at ht
  split at ht
  · exact absurd ht.symm h37
  · rename_i h0
    obtain ⟨t', h1, h2⟩ := h t ht
    rw [List.drop_eq_nil_of_le hk] at h2
    have : t' = [] := quoAll_inj t' [] (by rw [h2]; rfl)
    subst this
    rw [List.append_nil] at h1
    exact ⟨h1, h1 ▸ h0⟩
theorem row_back {W : World} {base g k cap : Nat} {l : List UInt8} (h : W.ownsRow base 5 1 (.slice (some ⟨g, 0, none⟩) k cap) k (Lib.byteCells l)) (hk : k = l.length) :
    (convert 39 9 (.slice (some ⟨g, 0, none⟩) k cap)).run Tryd.prog W = .ok (.string (txt l)) W := by
  subst hk
  refine run_convert_bytes_back W 39 9 5 ⟨g, 0, none⟩ cap l Tryd.underlying39 Tryd.underlying5 Tryd.underlying9 (fun j hj => ?_)
  rcases h.2 with ⟨hv, _⟩ | ⟨g', cap', cur, hv, _, hg, _, _, _, ht⟩
  · cases hv
  · cases hv
    have e1 : (Lib.byteCells l)[j]? = some (.int .u8 (l[j].toNat : Int)) := by simp [Lib.byteCells, hj]
    rw [← ht, List.getElem?_take_of_lt (by omega)] at e1
    have e2 : cur[j]? = some (.int .u8 (l[j].toNat : Int)) := by rw [← Array.getElem?_toList]; exact e1
    have e3 : (⟨g, 0, none⟩ : Addr).add j = ⟨g, j, none⟩ := by unfold Addr.add; split <;> simp_all
    rw [e3]
    simp [World.cell?, hg, e2]
set_option maxRecDepth 100000 in
set_option maxHeartbeats 2000000 in
theorem refUnquote_any (s : ByteArray) (hs : s.size ≤ 100000) (w : World) : Calls Tryd.prog 33 #[.string s] w (UnqPost s w) := by
  by_cases h37 : s.toList = [37]
  · have e1 : (s.toList == [37]) = true := by simp [h37]
    have HN : Hid (UnqPost s w (.returned (.tuple #[.string ⟨#[]⟩, .int .i64 0])) w) := ⟨unq_one (acc := []) (by rw [← Lib.toList_data, h37]; rfl), Below.refl _ _⟩
    clear h37
    go_enter Tryd.func33, Tryd.ntmps33
    go_wp2
    go_ret2
    exact HN.out
  have e1 : (s.toList == [37]) = false := by simpa using h37
  rw [Lib.toList_data] at h37
  have H37 := Lib.hid h37
  have HS := Lib.hid (size_list s)
  obtain ⟨i0, hi, hz0, hz1, hz2⟩ := info_parts infoByte
  clear h37
  go_enter Tryd.func33, Tryd.ntmps33
  go_wp2
  go_loopw [4, 5] (fun v i wr => ∃ (k : Nat) (acc : List UInt8), k ≤ s.size ∧ acc.length ≤ k ∧ i = .int .i64 k ∧ RawAt s.data.toList k acc ∧ wr.ownsRow w.heap.size 5 1 v acc.length (Lib.byteCells acc) ∧ Below w.heap.size w wr) (fun _ i _ => s.size - (intOf i).toNat)
  case atStart => exact ⟨0, [], Nat.zero_le _, Nat.zero_le _, rfl, raw_start _, World.ownsRow_nil _ _ _ _, Below.refl _ _⟩
  case round =>
    obtain ⟨k, acc, hk, hak, rfl, hat, hown, hB⟩ := hrel
    have hsz := hB.size
    have HA := Lib.hid hat
    clear hat
    have hml : acc.length + 1 ≤ maxLen := by unfold maxLen; omega
    by_cases hlt : k < s.size
    · have hlt' : k < s.data.toList.length := by rw [Array.length_toList]; exact hlt
      have hcons : s.data.toList.drop k = s[k] :: s.data.toList.drop (k + 1) := by
        rw [List.drop_eq_getElem_cons hlt', Array.getElem_toList]; rfl
      cases hp : plainB s[k] with
      | true =>
        have HN := Lib.hid (raw_plain HA.out hcons hp)
        have HP := Lib.hid hp
        clear hp hcons
        go_wp2_with fail
        refine (refPlain_t _ _ HP.out).mono ?_
        rintro e w' ⟨rfl, rfl⟩
        go_wp2_with (at_builtin; refine wpList_append_own _ rfl _ _ 39 rfl w.heap.size 5 i0 (.int .u8 0) 1 1 Tryd.underlying39 hi hz0 hz1 hz2 rfl (by decide) _ _ _ rfl (hown.alloc _) ⟨wr.heap.size, 0, none⟩ 1 1 [.int .u8 (s[k].toNat : Int)] rfl rfl (cell_one_new _ _ _) (by simp [Value.oneCell']) hml (by omega) (by simp; omega) ?_; intro v' w1 hown' hgrow _)
        have hB1 := (hB.alloc hB.size _).grown hgrow (by simp; omega) (fun j ej => (hown.lt j ej).1)
        go_roundw
        case rel =>
          refine ⟨k + 1, acc ++ [s[k]], hlt, by simp; omega, by go_num, HN.out, ?_, hB1⟩
          rw [List.length_append, Lib.byteCells_append]
          exact hown'
        case measure => simp [intOf]; omega
      | false =>
        have HP := Lib.hid hp
        have hne : s.data.toList.drop k ≠ [] := by rw [hcons]; simp
        by_cases h37 : s[k] = 37
        · have e37 : ((s[k].toNat : Int) != 37) = false := by rw [h37]; rfl
          by_cases hroom : s.size ≤ k + 2
          · have d3 : decide ((s.size : Int) ≤ (k : Int) + 2) = true := by simp; omega
            have HN : Hid (UnqPost s w (.returned (.tuple #[.string ⟨#[]⟩, .int .i64 2])) wr) := by
              refine ⟨unq_no (raw_stuck HA.out H37.out hne ?_), hB⟩
              rw [hcons, h37]
              exact none_short (by rw [List.length_drop, HS.out]; omega)
            clear hp hcons hne h37
            go_wp2_with fail
            refine (refPlain_f _ _ HP.out).mono ?_
            rintro e w' ⟨rfl, rfl⟩
            go_wp2_with fail
            go_ret2
            exact HN.out
          · have d3 : decide ((s.size : Int) ≤ (k : Int) + 2) = false := by simp; omega
            have b1 : k + 1 < s.size := by omega
            have b2 : k + 2 < s.size := by omega
            have b1' : (k : Int) + 1 < s.size := by omega
            have b2' : (k : Int) + 2 < s.size := by omega
            have hcons3 : s.data.toList.drop k = 37 :: s[k + 1] :: s[k + 2] :: s.data.toList.drop (k + 3) := by
              have l1 : k + 1 < s.data.toList.length := by rw [HS.out]; exact b1
              have l2 : k + 2 < s.data.toList.length := by rw [HS.out]; exact b2
              rw [hcons, h37, List.drop_eq_getElem_cons l1, List.drop_eq_getElem_cons l2, Array.getElem_toList, Array.getElem_toList]
              rfl
            have HC3 := Lib.hid hcons3
            have HNE := Lib.hid hne
            clear hp hcons hcons3 hne h37
            rcases hex_case s[k + 1] with ⟨x1, n1⟩ | ⟨i, hi1, x1, n1⟩
            · have HN : Hid (UnqPost s w (.returned (.tuple #[.string ⟨#[]⟩, .int .i64 2])) wr) := by
                refine ⟨unq_no (raw_stuck HA.out H37.out HNE.out ?_), hB⟩
                rw [HC3.out]
                exact none_hex1 n1
              have hv1 := value_any s[k + 1] wr
              have hv2 := value_any s[k + 2] wr
              rw [x1] at hv1
              generalize Lib.indexByte [48, 49, 50, 51, 52, 53, 54, 55, 56, 57, 65, 66, 67, 68, 69, 70] s[k + 2] = g at hv2
              have HV1 := Lib.hid hv1
              have HV2 := Lib.hid hv2
              clear n1 x1 hv1 hv2
              go_wp2_with fail
              refine (refPlain_f _ _ HP.out).mono ?_
              rintro e w' ⟨rfl, rfl⟩
              go_wp2_with fail
              refine HV1.out.mono ?_
              rintro e w' ⟨rfl, rfl⟩
              go_wp2_with fail
              refine HV2.out.mono ?_
              rintro e w' ⟨rfl, rfl⟩
              go_wp2_with fail
              go_ret2
              exact HN.out
            · rcases hex_case s[k + 2] with ⟨x2, n2⟩ | ⟨j, hj, x2, n2⟩
              · have HN : Hid (UnqPost s w (.returned (.tuple #[.string ⟨#[]⟩, .int .i64 2])) wr) := by
                  refine ⟨unq_no (raw_stuck HA.out H37.out HNE.out ?_), hB⟩
                  rw [HC3.out]
                  exact none_hex2 n2
                have hv1 := value_any s[k + 1] wr
                have hv2 := value_any s[k + 2] wr
                rw [x1] at hv1
                rw [x2] at hv2
                have HV1 := Lib.hid hv1
                have HV2 := Lib.hid hv2
                have di : decide ((i : Int) < 0) = false := by simp
                clear n1 x1 n2 x2 hv1 hv2
                go_wp2_with fail
                refine (refPlain_f _ _ HP.out).mono ?_
                rintro e w' ⟨rfl, rfl⟩
                go_wp2_with fail
                refine HV1.out.mono ?_
                rintro e w' ⟨rfl, rfl⟩
                go_wp2_with fail
                refine HV2.out.mono ?_
                rintro e w' ⟨rfl, rfl⟩
                go_wp2_with fail
                go_ret2
                exact HN.out
              · obtain ⟨c, hc⟩ : ∃ c : UInt8, c.toNat = 16 * i + j := ⟨UInt8.ofNat (16 * i + j), by simp; omega⟩
                have HN := Lib.hid (raw_hex (c := c) HA.out (by rw [HC3.out, n1, n2]) hi1 hj hc)
                have hv1 := value_any s[k + 1] wr
                have hv2 := value_any s[k + 2] wr
                rw [x1] at hv1
                rw [x2] at hv2
                have HV1 := Lib.hid hv1
                have HV2 := Lib.hid hv2
                have di : decide ((i : Int) < 0) = false := by simp
                have dj : decide ((j : Int) < 0) = false := by simp
                have HCC := Lib.hid hc
                clear n1 x1 n2 x2 hv1 hv2 hc
                go_wp2_with fail
                refine (refPlain_f _ _ HP.out).mono ?_
                rintro e w' ⟨rfl, rfl⟩
                go_wp2_with fail
                refine HV1.out.mono ?_
                rintro e w' ⟨rfl, rfl⟩
                go_wp2_with fail
                refine HV2.out.mono ?_
                rintro e w' ⟨rfl, rfl⟩
                go_wp2_with (at_builtin; refine wpList_append_own _ rfl _ _ 39 rfl w.heap.size 5 i0 (.int .u8 0) 1 1 Tryd.underlying39 hi hz0 hz1 hz2 rfl (by decide) _ _ _ rfl (hown.alloc _) ⟨wr.heap.size, 0, none⟩ 1 1 [_] rfl rfl (cell_one_new _ _ _) (by simp [Value.oneCell']) hml (by omega) (by simp; omega) ?_; intro v' w1 hown' hgrow _)
                have hB1 := (hB.alloc hB.size _).grown hgrow (by simp; omega) (fun j ej => (hown.lt j ej).1)
                go_roundw
                case rel =>
                  refine ⟨k + 3, acc ++ [c], by omega, by simp; omega, by go_num, HN.out, ?_, hB1⟩
                  rw [List.length_append, Lib.byteCells_append]
                  have ec : (16 * (i : Int) + (j : Int)) = (c.toNat : Int) := by rw [HCC.out]; omega
                  rw [ec] at hown'
                  exact hown'
                case measure => simp [intOf]; omega
        · have e37 : ((s[k].toNat : Int) != 37) = true := by
            have : s[k].toNat ≠ 37 := fun h => h37 (UInt8.toNat_inj.1 (by rw [h]; rfl))
            simp; omega
          have HN : Hid (UnqPost s w (.returned (.tuple #[.string ⟨#[]⟩, .int .i64 2])) wr) := by
            refine ⟨unq_no (raw_stuck HA.out H37.out hne ?_), hB⟩
            rw [hcons]
            exact none_head hp h37
          clear hp hcons hne h37
          go_wp2_with fail
          refine (refPlain_f _ _ HP.out).mono ?_
          rintro e w' ⟨rfl, rfl⟩
          go_wp2_with fail
          go_ret2
          exact HN.out
    · have hE := raw_end HA.out (by rw [HS.out]; omega) H37.out
      cases acc with
      | nil =>
        have HN : Hid (UnqPost s w (.returned (.tuple #[.string ⟨#[]⟩, .int .i64 2])) wr) := ⟨unq_no (fun t ht => (hE t ht).2 rfl), hB⟩
        clear hE
        rcases hown.2 with ⟨rfl, _⟩ | ⟨g, cap, cur, rfl, _⟩
        all_goals
          clear hown
          go_wp2_with fail
          go_ret2
          exact HN.out
      | cons a0 r0 =>
        obtain ⟨acc, hacc⟩ : ∃ acc, acc = a0 :: r0 := ⟨_, rfl⟩
        have hpos : 1 ≤ acc.length := by rw [hacc]; simp
        rw [← hacc] at hE hown hak
        clear hacc HA
        obtain ⟨n, hn⟩ : ∃ n, acc.length = n + 1 := ⟨acc.length - 1, by omega⟩
        rw [hn] at hown
        obtain ⟨g, cap, hv⟩ := ownsRow_succ hown
        subst hv
        have hconv := row_back hown hn.symm
        have hconv2 := fun m : Nat => row_back (W := wr.drewN m) hown hn.symm
        have hq := refQuote_any (txt acc) (by rw [txt_size]; omega) wr
        rw [txt_data] at hq
        have HQ := Lib.hid hq
        have hnz : (((n + 1 : Nat) : Int) == 0) = false := by rw [beq_eq_false_iff_ne]; omega
        have hnz2 : ((n : Int) + 1 == 0) = false := by rw [beq_eq_false_iff_ne]; omega
        by_cases he : quoteOf acc = s.data.toList
        · have HN : Hid (∀ m, UnqPost s w (.returned (.tuple #[.string (txt acc), .int .i64 0])) (wr.drewN m)) := fun m => ⟨unq_one he, below_drewN hB m⟩
          have ht : (!(txt (quoteOf acc)).toList == s.toList) = false := by rw [txt_toL, he, Lib.toList_data]; simp
          generalize quoteOf acc = qa at HQ ht
          clear hE he hq hown
          go_wp2_with fail
          refine HQ.out.mono ?_
          rintro e w2 ⟨rfl, m, rfl⟩
          go_wp2_with fail
          go_ret2
          exact HN.out m
        · have HN : Hid (∀ m, UnqPost s w (.returned (.tuple #[.string ⟨#[]⟩, .int .i64 2])) (wr.drewN m)) := fun m => ⟨unq_no (fun t ht => he (by rw [← (hE t ht).1]; exact ht)), below_drewN hB m⟩
          have ht : (!(txt (quoteOf acc)).toList == s.toList) = true := by rw [txt_toL, Lib.toList_data]; simp [he]
          generalize quoteOf acc = qa at HQ ht
          clear hE he hq hown
          go_wp2_with fail
          refine HQ.out.mono ?_
          rintro e w2 ⟨rfl, m, rfl⟩
          go_wp2_with fail
          go_ret2
          exact HN.out m

end Go.Proofs.YtllkibdpjpdbbaaDoor
