/-
  What the document's own Trim, Lines and Words answer, for every text that is not over long. No condition.
-/
import Derived.Maps.AppendAt
import Derived.Test.YtldddecaeloohaaDoorETrim
namespace Go.Proofs.YtldddecaeloohaaDoor
open Go.RowKit Go.Shelf

set_option maxHeartbeats 400000 in
theorem refBlank_any (c : UInt8) (w : World) : Calls Tryd.prog 48 #[.int .u8 (c.toNat : Int)] w fun e w' => e = .returned (.bool (blankB c)) ∧ w = w' := by
  by_cases h1 : c.toNat = 32
  · have e1 : ((c.toNat : Int) == 32) = true := by simp; omega
    have H := Lib.hid h1; clear h1
    go_enter Tryd.func48, Tryd.ntmps48
    go_wp2
    go_ret
    exact ⟨ret_bool (by simp [blankB, H.out]), rfl⟩
  · have e1 : ((c.toNat : Int) == 32) = false := by simp; omega
    have H := Lib.hid h1; clear h1
    go_enter Tryd.func48, Tryd.ntmps48
    go_wp2
    go_ret
    exact ⟨ret_bool (by simp [blankB, H.out]; exact nat_beq c.toNat 9), rfl⟩

theorem refBlank_t (c : UInt8) (w : World) (h : blankB c = true) : Calls Tryd.prog 48 #[.int .u8 (c.toNat : Int)] w fun e w' => e = .returned (.bool true) ∧ w = w' := by
  have := refBlank_any c w; rwa [h] at this

theorem refBlank_f (c : UInt8) (w : World) (h : blankB c = false) : Calls Tryd.prog 48 #[.int .u8 (c.toNat : Int)] w fun e w' => e = .returned (.bool false) ∧ w = w' := by
  have := refBlank_any c w; rwa [h] at this

theorem list_head (s : ByteArray) (h : 0 < s.size) : s.data.toList = s[0] :: s.data.toList.drop 1 := by
  have h' : 0 < s.data.toList.length := by rw [Array.length_toList]; exact h
  have := List.drop_eq_getElem_cons h'
  rw [List.drop_zero, Array.getElem_toList] at this
  exact this

theorem list_last (s : ByteArray) (h : 0 < s.size) : s.data.toList = s.data.toList.take (s.size - 1) ++ [s[s.size - 1]] := by
  have h' : s.size - 1 < s.data.toList.length := by rw [Array.length_toList]; show s.size - 1 < s.size; omega
  have := List.take_succ_eq_append_getElem h'
  rw [show s.size - 1 + 1 = s.size by omega, Array.getElem_toList, List.take_of_length_le (by rw [Array.length_toList]; exact Nat.le_refl _)] at this
  exact this

def strLen : Value → Nat
  | .string s => s.size
  | _ => 0

set_option maxRecDepth 100000 in
set_option maxHeartbeats 2000000 in
theorem refTrim_any (s : ByteArray) (hs : s.size ≤ maxLen) (w : World) : Calls Tryd.prog 32 #[.string s] w fun e w' => e = .returned (.string (txt (trimOf s.data.toList))) ∧ w = w' := by
  unfold maxLen at hs
  go_enter Tryd.func32, Tryd.ntmps32
  go_wp2
  go_loop [0] (fun v => ∃ x : ByteArray, v = .string x ∧ cutL x.data.toList = cutL s.data.toList ∧ x.size ≤ s.size) (fun v => strLen v)
  case atStart => exact ⟨s, rfl, rfl, Nat.le_refl _⟩
  case round =>
    obtain ⟨x, rfl, hx, hxs⟩ := hrel
    have HX := Lib.hid hx
    clear hx
    by_cases hx0 : x.toList = []
    · have HE : Hid (x.data.toList = cutL s.data.toList) := by
        show _ = _
        rw [Lib.toList_data] at hx0
        rw [← HX.out, hx0]; rfl
      go_wp2
      go_loop [0] (fun v => ∃ y : ByteArray, v = .string y ∧ cutR y.data.toList = trimOf s.data.toList ∧ y.size ≤ s.size) (fun v => strLen v)
      case atStart => exact ⟨x, rfl, by rw [HE.out]; rfl, hxs⟩
      case round =>
        obtain ⟨y, rfl, hy, hys⟩ := hrel
        have HY := Lib.hid hy
        clear hy
        by_cases hy0 : y.toList = []
        · have HD : Hid (txt (trimOf s.data.toList) = y) := by
            show _ = _
            rw [Lib.toList_data] at hy0
            rw [← HY.out, hy0]
            rw [← txt_toList y, hy0]
            rfl
          go_wp2
          go_ret
          exact ⟨by rw [HD.out]; rfl, rfl⟩
        · have ey : y.toList.isEmpty = false := by simpa using hy0
          have hpos : 0 < y.size := by
            rw [← size_list]; rw [Lib.toList_data] at hy0; exact List.length_pos_iff.2 hy0
          have hpos' : (0 : Int) ≤ (y.size : Int) - 1 := by omega
          have hlast := list_last y hpos
          have hb1 : y.size - 1 < y.size := by omega
          have hcast : (y.size : Int) - 1 = ((y.size - 1 : Nat) : Int) := by omega
          cases hbl : blankB y[y.size - 1] with
          | true =>
            have HN : Hid (cutR (y.extract 0 (y.size - 1)).data.toList = trimOf s.data.toList ∧ (y.extract 0 (y.size - 1)).size = y.size - 1) := by
              refine ⟨?_, ?_⟩
              · rw [Lib.extract_data, List.drop_zero, Nat.sub_zero]
                have := HY.out
                rw [hlast, cutR_snoc, if_pos hbl] at this
                exact this
              · rw [ByteArray.size_extract]; omega
            have HB := Lib.hid hbl
            clear hbl hlast hy0 hcast
            go_wp2_with (go_at_call 48; refine (refBlank_t _ _ HB.out).mono ?_; rintro e w' ⟨rfl, rfl⟩)
            go_round
            case rel => exact ⟨_, rfl, HN.out.1, by rw [HN.out.2]; omega⟩
            case measure => simp only [strLen]; rw [HN.out.2]; omega
          | false =>
            have HD : Hid (txt (trimOf s.data.toList) = y) := by
              show _ = _
              rw [← HY.out]
              conv => lhs; rw [hlast]
              rw [cutR_snoc, if_neg (by rw [hbl]; simp), ← hlast, txt_toList]
            have HB := Lib.hid hbl
            clear hbl hlast hy0 hcast
            go_wp2_with (go_at_call 48; refine (refBlank_f _ _ HB.out).mono ?_; rintro e w' ⟨rfl, rfl⟩)
            go_ret
            exact ⟨by rw [HD.out]; rfl, rfl⟩

    · have ex : x.toList.isEmpty = false := by simpa using hx0
      have hpos : 0 < x.size := by
        rw [← size_list]; rw [Lib.toList_data] at hx0; exact List.length_pos_iff.2 hx0
      have hcons := list_head x hpos
      cases hbl : blankB x[0] with
      | true =>
        have HN : Hid (cutL (x.extract 1 x.size).data.toList = cutL s.data.toList ∧ (x.extract 1 x.size).size = x.size - 1) := by
          refine ⟨?_, ?_⟩
          · rw [Lib.extract_to_end, ← HX.out]
            conv => rhs; rw [hcons]
            simp [cutL, List.dropWhile, hbl]
          · rw [ByteArray.size_extract]; omega
        have HB := Lib.hid hbl
        clear hbl hcons hx0
        go_wp2_with (go_at_call 48; refine (refBlank_t _ _ HB.out).mono ?_; rintro e w' ⟨rfl, rfl⟩)
        go_round
        case rel => exact ⟨_, rfl, HN.out.1, by rw [HN.out.2]; omega⟩
        case measure => simp only [strLen]; rw [HN.out.2]; omega
      | false =>
        have HE : Hid (x.data.toList = cutL s.data.toList) := by
          show _ = _
          rw [← HX.out]
          conv => rhs; rw [hcons]
          simp only [cutL, List.dropWhile, hbl]
          exact hcons
        have HB := Lib.hid hbl
        clear hbl hcons hx0
        go_wp2_with (go_at_call 48; refine (refBlank_f _ _ HB.out).mono ?_; rintro e w' ⟨rfl, rfl⟩)
        go_loop [0] (fun v => ∃ y : ByteArray, v = .string y ∧ cutR y.data.toList = trimOf s.data.toList ∧ y.size ≤ s.size) (fun v => strLen v)
        case atStart => exact ⟨x, rfl, by rw [HE.out]; rfl, hxs⟩
        case round =>
          obtain ⟨y, rfl, hy, hys⟩ := hrel
          have HY := Lib.hid hy
          clear hy
          by_cases hy0 : y.toList = []
          · have HD : Hid (txt (trimOf s.data.toList) = y) := by
              show _ = _
              rw [Lib.toList_data] at hy0
              rw [← HY.out, hy0]
              rw [← txt_toList y, hy0]
              rfl
            go_wp2
            go_ret
            exact ⟨by rw [HD.out]; rfl, rfl⟩
          · have ey : y.toList.isEmpty = false := by simpa using hy0
            have hpos : 0 < y.size := by
              rw [← size_list]; rw [Lib.toList_data] at hy0; exact List.length_pos_iff.2 hy0
            have hpos' : (0 : Int) ≤ (y.size : Int) - 1 := by omega
            have hlast := list_last y hpos
            have hb1 : y.size - 1 < y.size := by omega
            have hcast : (y.size : Int) - 1 = ((y.size - 1 : Nat) : Int) := by omega
            cases hbl : blankB y[y.size - 1] with
            | true =>
              have HN : Hid (cutR (y.extract 0 (y.size - 1)).data.toList = trimOf s.data.toList ∧ (y.extract 0 (y.size - 1)).size = y.size - 1) := by
                refine ⟨?_, ?_⟩
                · rw [Lib.extract_data, List.drop_zero, Nat.sub_zero]
                  have := HY.out
                  rw [hlast, cutR_snoc, if_pos hbl] at this
                  exact this
                · rw [ByteArray.size_extract]; omega
              have HB := Lib.hid hbl
              clear hbl hlast hy0 hcast
              go_wp2_with (go_at_call 48; refine (refBlank_t _ _ HB.out).mono ?_; rintro e w' ⟨rfl, rfl⟩)
              go_round
              case rel => exact ⟨_, rfl, HN.out.1, by rw [HN.out.2]; omega⟩
              case measure => simp only [strLen]; rw [HN.out.2]; omega
            | false =>
              have HD : Hid (txt (trimOf s.data.toList) = y) := by
                show _ = _
                rw [← HY.out]
                conv => lhs; rw [hlast]
                rw [cutR_snoc, if_neg (by rw [hbl]; simp), ← hlast, txt_toList]
              have HB := Lib.hid hbl
              clear hbl hlast hy0 hcast
              go_wp2_with (go_at_call 48; refine (refBlank_f _ _ HB.out).mono ?_; rintro e w' ⟨rfl, rfl⟩)
              go_ret
              exact ⟨by rw [HD.out]; rfl, rfl⟩

def isWord (x : ByteArray) : Bool := !x.toList.isEmpty

def wordsOf (l : List UInt8) : List ByteArray := ((pieces blankB l).map txt).filter isWord

theorem infoStr : (Tryd.prog.info? 9).map (fun i => (i.zero, i.size, i.bytes)) = some (some (.string ⟨#[]⟩), 1, 16) := by kernel_rfl

theorem txt_app (a b : List UInt8) : txt a ++ txt b = txt (a ++ b) := by
  rw [← txt_toList (txt a ++ txt b)]; simp [ByteArray.data_append, txt]

theorem extract_one' (s : ByteArray) (m : Nat) (h : m < s.size) : s.extract m (m + 1) = txt [s[m]] := by
  have h' : m < s.data.toList.length := by rw [Array.length_toList]; exact h
  rw [extract_txt, List.drop_eq_getElem_cons h', show m + 1 - m = 1 by omega, List.take_succ_cons, List.take_zero, Array.getElem_toList]; rfl

theorem take_more' (l : List UInt8) (a m : Nat) (ham : a ≤ m) (hm : m < l.length) : (l.drop a).take (m + 1 - a) = (l.drop a).take (m - a) ++ [l[m]] := by
  rw [show m + 1 - a = (m - a) + 1 by omega, List.take_succ_eq_append_getElem (by simp; omega)]
  simp [show a + (m - a) = m by omega]

theorem lines_last (l : List UInt8) (pre : List (List UInt8)) (last : List UInt8) (h : pieces nlB l = pre ++ [last]) : linesOf l = if last = [] then pre.map txt else pre.map txt ++ [txt last] := by
  unfold linesOf; rw [h]; simp

set_option maxRecDepth 100000 in
set_option maxHeartbeats 2000000 in
theorem refLines_any (s : ByteArray) (hs : s.size ≤ 100000) (w : World) :
    Calls Tryd.prog 27 #[.string s] w fun e W' => ∃ v, e = .returned v ∧ Reads W' W'.heap.size v (linesOf s.data.toList) ∧ Below w.heap.size w W' := by
  obtain ⟨i0, hi, hz0, hz1, hz2⟩ := info_parts infoStr
  have HS := Lib.hid (size_list s)
  go_enter Tryd.func27, Tryd.ntmps27
  go_wp2
  go_loopw [3, 4, 5] (fun v st i wr => ∃ (a m : Nat) (pre : List (List UInt8)), st = .int .i64 a ∧ i = .int .i64 m ∧ a ≤ m ∧ m ≤ s.size ∧ pre.length ≤ a ∧ (∀ c ∈ (s.data.toList.drop a).take (m - a), nlB c = false) ∧
      pieces nlB s.data.toList = pre ++ pieces nlB (s.data.toList.drop a) ∧ wr.ownsRow w.heap.size 9 1 v pre.length ((pre.map txt).map Value.string) ∧ Below w.heap.size w wr)
    (fun _ _ i _ => s.size - (intOf i).toNat)
  case atStart => exact ⟨0, 0, [], rfl, rfl, Nat.le_refl _, Nat.zero_le _, Nat.zero_le _, by simp, by simp, World.ownsRow_nil _ _ _ _, Below.refl _ _⟩
  case round =>
    obtain ⟨a, m, pre, rfl, rfl, ham, hms, hpa, hno, hp, hown, hB⟩ := hrel
    have hsz := hB.size
    have hml : pre.length + 1 ≤ maxLen := by unfold maxLen; omega
    by_cases hlt : m < s.size
    · have hlt' : m < s.data.toList.length := by rw [HS.out]; exact hlt
      have hgm : s.data.toList[m] = s[m] := by rw [Array.getElem_toList]; rfl
      by_cases h10 : s[m].toNat = 10
      · have e1 : ((s[m].toNat : Int) == 10) = true := by simp; omega
        have hcut := cut_at nlB s.data.toList a m ham hlt' hno (by rw [hgm]; simp [nlB, h10])
        have HP : Hid (pieces nlB s.data.toList = (pre ++ [(s.data.toList.drop a).take (m - a)]) ++ pieces nlB (s.data.toList.drop (m + 1))) := by
          show _ = _
          rw [hp, hcut]; simp
        clear hp hno hcut hgm h10
        go_wp2_with (at_builtin; refine wpList_append_own _ rfl _ _ 41 rfl w.heap.size 9 i0 (.string ⟨#[]⟩) 1 16 Tryd.underlying41 hi hz0 hz1 hz2 rfl (by decide) _ _ _ rfl (hown.alloc _) ⟨wr.heap.size, 0, none⟩ 1 1 [_] rfl rfl (cell_one_new _ _ _) (by simp [Value.oneCell']) hml (by omega) (by simp; omega) ?_; intro v' w1 hown' hgrow _)
        have hB1 := (hB.alloc hsz _).grown hgrow (by simp; omega) (fun j ej => (hown.lt j ej).1)
        go_roundw
        case rel =>
          refine ⟨m + 1, m + 1, pre ++ [(s.data.toList.drop a).take (m - a)], by go_num, by go_num, Nat.le_refl _, hlt, by simp; omega, by simp, HP.out, ?_, hB1⟩
          rw [List.length_append, List.map_append, List.map_append]
          rw [extract_txt] at hown'
          exact hown'
        case measure => simp [intOf]; omega
      · have e1 : ((s[m].toNat : Int) == 10) = false := by simp; omega
        have HN := Lib.hid (none_next nlB s.data.toList a m ham hlt' hno (by rw [hgm]; simp [nlB, h10]))
        have HP := Lib.hid hp
        clear hp hno hgm h10
        go_wp2_with fail
        go_roundw
        case rel => exact ⟨a, m + 1, pre, rfl, by go_num, by omega, hlt, hpa, HN.out, HP.out, hown, hB⟩
        case measure => simp [intOf]; omega
    · obtain rfl : m = s.size := by omega
      have hno1 : ∀ c ∈ s.data.toList.drop a, nlB c = false := fun c hc => hno c (by rw [take_rest]; exact hc)
      rw [pieces_none nlB _ hno1] at hp
      have HL := Lib.hid (lines_last _ _ _ hp)
      clear hno hno1 hp
      by_cases hrest : a < s.size
      · have hne : s.data.toList.drop a ≠ [] := by
          intro h
          have := congrArg List.length h
          rw [List.length_drop, HS.out] at this
          simp at this; omega
        have HNE := Lib.hid hne
        clear hne
        go_wp2_with (at_builtin; refine wpList_append_own _ rfl _ _ 41 rfl w.heap.size 9 i0 (.string ⟨#[]⟩) 1 16 Tryd.underlying41 hi hz0 hz1 hz2 rfl (by decide) _ _ _ rfl (hown.alloc _) ⟨wr.heap.size, 0, none⟩ 1 1 [_] rfl rfl (cell_one_new _ _ _) (by simp [Value.oneCell']) hml (by omega) (by simp; omega) ?_; intro v' w1 hown' hgrow _)
        have hB1 := (hB.alloc hsz _).grown hgrow (by simp; omega) (fun j ej => (hown.lt j ej).1)
        go_ret
        refine ⟨_, rfl, ?_, hB1⟩
        rw [HL.out, if_neg HNE.out]
        refine Reads.of_owns (base := w.heap.size) ?_
        rw [List.length_append, List.map_append, List.length_map]
        rw [extract_txt, take_rest] at hown'
        exact hown'
      · have he : s.data.toList.drop a = [] := List.drop_eq_nil_of_le (by rw [HS.out]; omega)
        have HE := Lib.hid he
        clear he
        go_wp2_with fail
        go_ret
        refine ⟨_, rfl, ?_, hB⟩
        rw [HL.out, if_pos HE.out]
        refine Reads.of_owns (base := w.heap.size) ?_
        rw [List.length_map]
        exact hown

theorem words_last (l : List UInt8) (pre : List (List UInt8)) (last : List UInt8) (h : pieces blankB l = pre ++ [last]) : wordsOf l = (pre.map txt).filter isWord ++ ([txt last].filter isWord) := by
  unfold wordsOf; rw [h, List.map_append, List.filter_append]; rfl

set_option maxRecDepth 100000 in
set_option maxHeartbeats 2000000 in
theorem refWords_any (s : ByteArray) (hs : s.size ≤ 100000) (w : World) :
    Calls Tryd.prog 49 #[.string s] w fun e W' => ∃ v, e = .returned v ∧ Reads W' W'.heap.size v (wordsOf s.data.toList) ∧ Below w.heap.size w W' := by
  obtain ⟨i0, hi, hz0, hz1, hz2⟩ := info_parts infoStr
  have HS := Lib.hid (size_list s)
  go_enter Tryd.func49, Tryd.ntmps49
  go_wp2
  go_loopw [3, 4, 5] (fun v wd i wr => ∃ (a m : Nat) (pre : List (List UInt8)) (ws : List ByteArray), wd = .string (txt ((s.data.toList.drop a).take (m - a))) ∧ i = .int .i64 m ∧ a ≤ m ∧ m ≤ s.size ∧ pre.length ≤ a ∧ (∀ c ∈ (s.data.toList.drop a).take (m - a), blankB c = false) ∧
      pieces blankB s.data.toList = pre ++ pieces blankB (s.data.toList.drop a) ∧ ws = (pre.map txt).filter isWord ∧ wr.ownsRow w.heap.size 9 1 v ws.length (ws.map Value.string) ∧ Below w.heap.size w wr)
    (fun _ _ i _ => s.size - (intOf i).toNat)
  case atStart => exact ⟨0, 0, [], [], rfl, rfl, Nat.le_refl _, Nat.zero_le _, Nat.zero_le _, by simp, by simp, rfl, World.ownsRow_nil _ _ _ _, Below.refl _ _⟩
  case round =>
    obtain ⟨a, m, pre, ws, rfl, rfl, ham, hms, hpa, hno, hp, hws, hown, hB⟩ := hrel
    have hsz := hB.size
    have hwl : ws.length ≤ pre.length := by rw [hws]; have := List.length_filter_le isWord (pre.map txt); simpa using this
    have hml : ws.length + 1 ≤ maxLen := by unfold maxLen; omega
    have hwz : ((s.data.toList.drop a).take (m - a)).length ≤ m := by rw [List.length_take]; omega
    by_cases hlt : m < s.size
    · have hlt' : m < s.data.toList.length := by rw [HS.out]; exact hlt
      have hgm : s.data.toList[m] = s[m] := by rw [Array.getElem_toList]; rfl
      cases hbl : blankB s[m] with
      | true =>
        have hcut := cut_at blankB s.data.toList a m ham hlt' hno (by rw [hgm]; exact hbl)
        obtain ⟨wd, hwd⟩ : ∃ wd, wd = (s.data.toList.drop a).take (m - a) := ⟨_, rfl⟩
        rw [← hwd] at hcut hwz ⊢
        have HP : Hid (pieces blankB s.data.toList = (pre ++ [wd]) ++ pieces blankB (s.data.toList.drop (m + 1))) := by
          show _ = _
          rw [hp, hcut]; simp
        have HW := Lib.hid hws
        have HB := Lib.hid hbl
        clear hp hno hcut hgm hwd hws hbl
        by_cases hwe : wd = []
        · have e0 : (txt wd).toList = [] := by rw [txt_toL]; exact hwe
          have HN : Hid (ws = ((pre ++ [wd]).map txt).filter isWord) := by
            show _ = _
            rw [List.map_append, List.filter_append, ← HW.out, hwe]
            simp [isWord, txt_toL]
          clear hwe
          go_wp2_with fail
          refine (refBlank_t _ _ HB.out).mono ?_
          rintro e w' ⟨rfl, rfl⟩
          go_wp2_with fail
          go_roundw
          case rel => exact ⟨m + 1, m + 1, pre ++ [wd], ws, by simp; rfl, by go_num, Nat.le_refl _, hlt, by simp; omega, by simp, HP.out, HN.out, hown, hB⟩
          case measure => simp [intOf]; omega
        · have e0 : (txt wd).toList.isEmpty = false := by rw [txt_toL]; simpa using hwe
          have HN : Hid (ws ++ [txt wd] = ((pre ++ [wd]).map txt).filter isWord) := by
            show _ = _
            rw [List.map_append, List.filter_append, ← HW.out]
            simp [isWord, txt_toL, hwe]
          clear hwe
          go_wp2_with fail
          refine (refBlank_t _ _ HB.out).mono ?_
          rintro e w' ⟨rfl, rfl⟩
          go_wp2_with (at_builtin; refine wpList_append_own _ rfl _ _ 41 rfl w.heap.size 9 i0 (.string ⟨#[]⟩) 1 16 Tryd.underlying41 hi hz0 hz1 hz2 rfl (by decide) _ _ _ rfl (hown.alloc _) ⟨wr.heap.size, 0, none⟩ 1 1 [_] rfl rfl (cell_one_new _ _ _) (by simp [Value.oneCell']) hml (by omega) (by simp; omega) ?_; intro v' w1 hown' hgrow _)
          have hB1 := (hB.alloc hsz _).grown hgrow (by simp; omega) (fun j ej => (hown.lt j ej).1)
          go_roundw
          case rel =>
            refine ⟨m + 1, m + 1, pre ++ [wd], ws ++ [txt wd], by simp; rfl, by go_num, Nat.le_refl _, hlt, by simp; omega, by simp, HP.out, HN.out, ?_, hB1⟩
            rw [List.length_append, List.map_append]
            exact hown'
          case measure => simp [intOf]; omega
      | false =>
        have HN := Lib.hid (none_next blankB s.data.toList a m ham hlt' hno (by rw [hgm]; exact hbl))
        have HT : Hid (txt ((s.data.toList.drop a).take (m + 1 - a)) = txt ((s.data.toList.drop a).take (m - a)) ++ s.extract m (m + 1)) := by
          show _ = _
          rw [take_more' _ a m ham hlt', extract_one' s m hlt, txt_app, hgm]
        have HP := Lib.hid hp
        have HW := Lib.hid hws
        have HB := Lib.hid hbl
        generalize (s.data.toList.drop a).take (m - a) = wd at hwz HT ⊢
        have hcat : ¬ 9223372036854775807 < wd.length + (min (m + 1) s.size - m) := by omega
        clear hp hno hgm hws hbl
        go_wp2_with fail
        refine (refBlank_f _ _ HB.out).mono ?_
        rintro e w' ⟨rfl, rfl⟩
        go_wp2_with fail
        go_roundw
        case rel => exact ⟨a, m + 1, pre, ws, by rw [HT.out], by go_num, by omega, hlt, hpa, HN.out, HP.out, HW.out, hown, hB⟩
        case measure => simp [intOf]; omega
    · obtain rfl : m = s.size := by omega
      have hno1 : ∀ c ∈ s.data.toList.drop a, blankB c = false := fun c hc => hno c (by rw [take_rest]; exact hc)
      rw [pieces_none blankB _ hno1] at hp
      have hL := words_last _ _ _ hp
      rw [← hws] at hL
      rw [take_rest] at hwz ⊢
      generalize s.data.toList.drop a = wd at hL hwz ⊢
      have HL := Lib.hid hL
      clear hno hno1 hp hws hL
      by_cases hwe : wd = []
      · have e0 : (txt wd).toList = [] := by rw [txt_toL]; exact hwe
        have HE : Hid (wordsOf s.data.toList = ws) := by show _ = _; rw [HL.out, hwe]; simp [isWord, txt_toL]
        clear hwe
        go_wp2_with fail
        go_ret
        refine ⟨_, rfl, ?_, hB⟩
        rw [HE.out]
        exact Reads.of_owns hown
      · have e0 : (txt wd).toList.isEmpty = false := by rw [txt_toL]; simpa using hwe
        have HE : Hid (wordsOf s.data.toList = ws ++ [txt wd]) := by show _ = _; rw [HL.out]; simp [isWord, txt_toL, hwe]
        clear hwe
        go_wp2_with (at_builtin; refine wpList_append_own _ rfl _ _ 41 rfl w.heap.size 9 i0 (.string ⟨#[]⟩) 1 16 Tryd.underlying41 hi hz0 hz1 hz2 rfl (by decide) _ _ _ rfl (hown.alloc _) ⟨wr.heap.size, 0, none⟩ 1 1 [_] rfl rfl (cell_one_new _ _ _) (by simp [Value.oneCell']) hml (by omega) (by simp; omega) ?_; intro v' w1 hown' hgrow _)
        have hB1 := (hB.alloc hsz _).grown hgrow (by simp; omega) (fun j ej => (hown.lt j ej).1)
        go_ret
        refine ⟨_, rfl, ?_, hB1⟩
        rw [HE.out]
        refine Reads.of_owns (base := w.heap.size) ?_
        rw [List.length_append, List.map_append]
        exact hown'

end Go.Proofs.YtldddecaeloohaaDoor
