/-
  What the document's own Trim, Lines and Words answer, for every text that is not over long. No condition.
  What text.Words answers, for every text. No condition.
  What the document's own answers (marks, Right, Open, Fill, Match, Subst, Any) are, for every text up to a size: the same as the program's.
  What the document's own Match, Subst and Any answer: the same as the program's.
  What text.Number and the document's own Number answer, for every text: the value of 1 to 9 digits that do not begin with 0, or of 0 alone, and true; else 0 and false.
-/
import Derived.Maps.AppendAt
import Derived.Shelf.Strings.Search1
import Derived.IntWalk
import Derived.Test.YtbngoodjgijmgaaGreatDoorHB
import Derived.Test.YtbngoodjgijmgaaGreatDoorHG
namespace Go.Proofs.YtbngoodjgijmgaaGreatDoor
open Go.RowKit Go.Shelf

set_option maxHeartbeats 400000 in
theorem refBlank_any (c : UInt8) (w : World) : Calls Tryz.prog 72 #[.int .u8 (c.toNat : Int)] w fun e w' => e = .returned (.bool (blankB c)) ∧ w = w' := by
  by_cases h1 : c.toNat = 32
  · have e1 : ((c.toNat : Int) == 32) = true := by simp; omega
    have H := Lib.hid h1; clear h1
    go_enter Tryz.func72, Tryz.ntmps72
    go_wp2
    go_ret
    exact ⟨ret_bool (by simp [blankB, H.out]), rfl⟩
  · have e1 : ((c.toNat : Int) == 32) = false := by simp; omega
    have H := Lib.hid h1; clear h1
    go_enter Tryz.func72, Tryz.ntmps72
    go_wp2
    go_ret
    exact ⟨ret_bool (by simp [blankB, H.out]; exact nat_beq c.toNat 9), rfl⟩

theorem refBlank_t (c : UInt8) (w : World) (h : blankB c = true) : Calls Tryz.prog 72 #[.int .u8 (c.toNat : Int)] w fun e w' => e = .returned (.bool true) ∧ w = w' := by
  have := refBlank_any c w; rwa [h] at this

theorem refBlank_f (c : UInt8) (w : World) (h : blankB c = false) : Calls Tryz.prog 72 #[.int .u8 (c.toNat : Int)] w fun e w' => e = .returned (.bool false) ∧ w = w' := by
  have := refBlank_any c w; rwa [h] at this

theorem list_head (s : ByteArray) (h : 0 < s.size) : s.data.toList = s[0] :: s.data.toList.drop 1 := by
  have h' : 0 < s.data.toList.length := by rw [Array.length_toList]; exact h
  have := List.drop_eq_getElem_cons h'
  rw [List.drop_zero, Array.getElem_toList] at this
  exact this

theorem list_last (s : ByteArray) (h : 0 < s.size) : s.data.toList = s.data.toList.take (s.size - 1) ++ [s[s.size - 1]] := by
  have h' : s.size - 1 < s.data.toList.length := by rw [Array.length_toList]; show s.size - 1 < s.size; omega
  have := List.take_succ_eq_append_getElem h'
  rw [show s.size - 1 + 1 = s.size by omega, Array.getElem_toList, List.take_of_length_le (by rw [Array.length_toList]; exact Nat.le_refl _)] at this
  exact this

def strLen : Value → Nat
  | .string s => s.size
  | _ => 0

set_option maxRecDepth 100000 in
set_option maxHeartbeats 2000000 in
theorem refTrim_any (s : ByteArray) (hs : s.size ≤ maxLen) (w : World) : Calls Tryz.prog 74 #[.string s] w fun e w' => e = .returned (.string (txt (trimOf s.data.toList))) ∧ w = w' := by
  unfold maxLen at hs
  go_enter Tryz.func74, Tryz.ntmps74
  go_wp2
  go_loop [0] (fun v => ∃ x : ByteArray, v = .string x ∧ cutL x.data.toList = cutL s.data.toList ∧ x.size ≤ s.size) (fun v => strLen v)
  case atStart => exact ⟨s, rfl, rfl, Nat.le_refl _⟩
  case round =>
    obtain ⟨x, rfl, hx, hxs⟩ := hrel
    have HX := Lib.hid hx
    clear hx
    by_cases hx0 : x.toList = []
    · have HE : Hid (x.data.toList = cutL s.data.toList) := by
        show _ = _
        rw [Lib.toList_data] at hx0
        rw [← HX.out, hx0]; rfl
      go_wp2
      go_loop [0] (fun v => ∃ y : ByteArray, v = .string y ∧ cutR y.data.toList = trimOf s.data.toList ∧ y.size ≤ s.size) (fun v => strLen v)
      case atStart => exact ⟨x, rfl, by rw [HE.out]; rfl, hxs⟩
      case round =>
        obtain ⟨y, rfl, hy, hys⟩ := hrel
        have HY := Lib.hid hy
        clear hy
        by_cases hy0 : y.toList = []
        · have HD : Hid (txt (trimOf s.data.toList) = y) := by
            show _ = _
            rw [Lib.toList_data] at hy0
            rw [← HY.out, hy0]
            rw [← txt_toList y, hy0]
            rfl
          go_wp2
          go_ret
          exact ⟨by rw [HD.out]; rfl, rfl⟩
        · have ey : y.toList.isEmpty = false := by simpa using hy0
          have hpos : 0 < y.size := by
            rw [← size_list]; rw [Lib.toList_data] at hy0; exact List.length_pos_iff.2 hy0
          have hpos' : (0 : Int) ≤ (y.size : Int) - 1 := by omega
          have hlast := list_last y hpos
          have hb1 : y.size - 1 < y.size := by omega
          have hcast : (y.size : Int) - 1 = ((y.size - 1 : Nat) : Int) := by omega
          cases hbl : blankB y[y.size - 1] with
          | true =>
            have HN : Hid (cutR (y.extract 0 (y.size - 1)).data.toList = trimOf s.data.toList ∧ (y.extract 0 (y.size - 1)).size = y.size - 1) := by
              refine ⟨?_, ?_⟩
              · rw [Lib.extract_data, List.drop_zero, Nat.sub_zero]
                have := HY.out
                rw [hlast, cutR_snoc, if_pos hbl] at this
                exact this
              · rw [ByteArray.size_extract]; omega
            have HB := Lib.hid hbl
            clear hbl hlast hy0 hcast
            go_wp2_with (go_at_call 72; refine (refBlank_t _ _ HB.out).mono ?_; rintro e w' ⟨rfl, rfl⟩)
            go_round
            case rel => exact ⟨_, rfl, HN.out.1, by rw [HN.out.2]; omega⟩
            case measure => simp only [strLen]; rw [HN.out.2]; omega
          | false =>
            have HD : Hid (txt (trimOf s.data.toList) = y) := by
              show _ = _
              rw [← HY.out]
              conv => lhs; rw [hlast]
              rw [cutR_snoc, if_neg (by rw [hbl]; simp), ← hlast, txt_toList]
            have HB := Lib.hid hbl
            clear hbl hlast hy0 hcast
            go_wp2_with (go_at_call 72; refine (refBlank_f _ _ HB.out).mono ?_; rintro e w' ⟨rfl, rfl⟩)
            go_ret
            exact ⟨by rw [HD.out]; rfl, rfl⟩

    · have ex : x.toList.isEmpty = false := by simpa using hx0
      have hpos : 0 < x.size := by
        rw [← size_list]; rw [Lib.toList_data] at hx0; exact List.length_pos_iff.2 hx0
      have hcons := list_head x hpos
      cases hbl : blankB x[0] with
      | true =>
        have HN : Hid (cutL (x.extract 1 x.size).data.toList = cutL s.data.toList ∧ (x.extract 1 x.size).size = x.size - 1) := by
          refine ⟨?_, ?_⟩
          · rw [Lib.extract_to_end, ← HX.out]
            conv => rhs; rw [hcons]
            simp [cutL, List.dropWhile, hbl]
          · rw [ByteArray.size_extract]; omega
        have HB := Lib.hid hbl
        clear hbl hcons hx0
        go_wp2_with (go_at_call 72; refine (refBlank_t _ _ HB.out).mono ?_; rintro e w' ⟨rfl, rfl⟩)
        go_round
        case rel => exact ⟨_, rfl, HN.out.1, by rw [HN.out.2]; omega⟩
        case measure => simp only [strLen]; rw [HN.out.2]; omega
      | false =>
        have HE : Hid (x.data.toList = cutL s.data.toList) := by
          show _ = _
          rw [← HX.out]
          conv => rhs; rw [hcons]
          simp only [cutL, List.dropWhile, hbl]
          exact hcons
        have HB := Lib.hid hbl
        clear hbl hcons hx0
        go_wp2_with (go_at_call 72; refine (refBlank_f _ _ HB.out).mono ?_; rintro e w' ⟨rfl, rfl⟩)
        go_loop [0] (fun v => ∃ y : ByteArray, v = .string y ∧ cutR y.data.toList = trimOf s.data.toList ∧ y.size ≤ s.size) (fun v => strLen v)
        case atStart => exact ⟨x, rfl, by rw [HE.out]; rfl, hxs⟩
        case round =>
          obtain ⟨y, rfl, hy, hys⟩ := hrel
          have HY := Lib.hid hy
          clear hy
          by_cases hy0 : y.toList = []
          · have HD : Hid (txt (trimOf s.data.toList) = y) := by
              show _ = _
              rw [Lib.toList_data] at hy0
              rw [← HY.out, hy0]
              rw [← txt_toList y, hy0]
              rfl
            go_wp2
            go_ret
            exact ⟨by rw [HD.out]; rfl, rfl⟩
          · have ey : y.toList.isEmpty = false := by simpa using hy0
            have hpos : 0 < y.size := by
              rw [← size_list]; rw [Lib.toList_data] at hy0; exact List.length_pos_iff.2 hy0
            have hpos' : (0 : Int) ≤ (y.size : Int) - 1 := by omega
            have hlast := list_last y hpos
            have hb1 : y.size - 1 < y.size := by omega
            have hcast : (y.size : Int) - 1 = ((y.size - 1 : Nat) : Int) := by omega
            cases hbl : blankB y[y.size - 1] with
            | true =>
              have HN : Hid (cutR (y.extract 0 (y.size - 1)).data.toList = trimOf s.data.toList ∧ (y.extract 0 (y.size - 1)).size = y.size - 1) := by
                refine ⟨?_, ?_⟩
                · rw [Lib.extract_data, List.drop_zero, Nat.sub_zero]
                  have := HY.out
                  rw [hlast, cutR_snoc, if_pos hbl] at this
                  exact this
                · rw [ByteArray.size_extract]; omega
              have HB := Lib.hid hbl
              clear hbl hlast hy0 hcast
              go_wp2_with (go_at_call 72; refine (refBlank_t _ _ HB.out).mono ?_; rintro e w' ⟨rfl, rfl⟩)
              go_round
              case rel => exact ⟨_, rfl, HN.out.1, by rw [HN.out.2]; omega⟩
              case measure => simp only [strLen]; rw [HN.out.2]; omega
            | false =>
              have HD : Hid (txt (trimOf s.data.toList) = y) := by
                show _ = _
                rw [← HY.out]
                conv => lhs; rw [hlast]
                rw [cutR_snoc, if_neg (by rw [hbl]; simp), ← hlast, txt_toList]
              have HB := Lib.hid hbl
              clear hbl hlast hy0 hcast
              go_wp2_with (go_at_call 72; refine (refBlank_f _ _ HB.out).mono ?_; rintro e w' ⟨rfl, rfl⟩)
              go_ret
              exact ⟨by rw [HD.out]; rfl, rfl⟩

def isWord (x : ByteArray) : Bool := !x.toList.isEmpty

def wordsOf (l : List UInt8) : List ByteArray := ((pieces blankB l).map txt).filter isWord

theorem infoStr : (Tryz.prog.info? 9).map (fun i => (i.zero, i.size, i.bytes)) = some (some (.string ⟨#[]⟩), 1, 16) := by kernel_rfl

theorem txt_app (a b : List UInt8) : txt a ++ txt b = txt (a ++ b) := by
  rw [← txt_toList (txt a ++ txt b)]; simp [ByteArray.data_append, txt]

theorem extract_one' (s : ByteArray) (m : Nat) (h : m < s.size) : s.extract m (m + 1) = txt [s[m]] := by
  have h' : m < s.data.toList.length := by rw [Array.length_toList]; exact h
  rw [extract_txt, List.drop_eq_getElem_cons h', show m + 1 - m = 1 by omega, List.take_succ_cons, List.take_zero, Array.getElem_toList]; rfl

theorem take_more' (l : List UInt8) (a m : Nat) (ham : a ≤ m) (hm : m < l.length) : (l.drop a).take (m + 1 - a) = (l.drop a).take (m - a) ++ [l[m]] := by
  rw [show m + 1 - a = (m - a) + 1 by omega, List.take_succ_eq_append_getElem (by simp; omega)]
  simp [show a + (m - a) = m by omega]

theorem words_last (l : List UInt8) (pre : List (List UInt8)) (last : List UInt8) (h : pieces blankB l = pre ++ [last]) : wordsOf l = (pre.map txt).filter isWord ++ ([txt last].filter isWord) := by
  unfold wordsOf; rw [h, List.map_append, List.filter_append]; rfl

set_option maxRecDepth 100000 in
set_option maxHeartbeats 2000000 in
theorem refWords_any (s : ByteArray) (hs : s.size ≤ 100000) (w : World) :
    Calls Tryz.prog 51 #[.string s] w fun e W' => ∃ v, e = .returned v ∧ Reads W' W'.heap.size v (wordsOf s.data.toList) ∧ Below w.heap.size w W' := by
  obtain ⟨i0, hi, hz0, hz1, hz2⟩ := info_parts infoStr
  have HS := Lib.hid (size_list s)
  go_enter Tryz.func51, Tryz.ntmps51
  go_wp2
  go_loopw [3, 4, 5] (fun v wd i wr => ∃ (a m : Nat) (pre : List (List UInt8)) (ws : List ByteArray), wd = .string (txt ((s.data.toList.drop a).take (m - a))) ∧ i = .int .i64 m ∧ a ≤ m ∧ m ≤ s.size ∧ pre.length ≤ a ∧ (∀ c ∈ (s.data.toList.drop a).take (m - a), blankB c = false) ∧
      pieces blankB s.data.toList = pre ++ pieces blankB (s.data.toList.drop a) ∧ ws = (pre.map txt).filter isWord ∧ wr.ownsRow w.heap.size 9 1 v ws.length (ws.map Value.string) ∧ Below w.heap.size w wr)
    (fun _ _ i _ => s.size - (intOf i).toNat)
  case atStart => exact ⟨0, 0, [], [], rfl, rfl, Nat.le_refl _, Nat.zero_le _, Nat.zero_le _, by simp, by simp, rfl, World.ownsRow_nil _ _ _ _, Below.refl _ _⟩
  case round =>
    obtain ⟨a, m, pre, ws, rfl, rfl, ham, hms, hpa, hno, hp, hws, hown, hB⟩ := hrel
    have hsz := hB.size
    have hwl : ws.length ≤ pre.length := by rw [hws]; have := List.length_filter_le isWord (pre.map txt); simpa using this
    have hml : ws.length + 1 ≤ maxLen := by unfold maxLen; omega
    have hwz : ((s.data.toList.drop a).take (m - a)).length ≤ m := by rw [List.length_take]; omega
    by_cases hlt : m < s.size
    · have hlt' : m < s.data.toList.length := by rw [HS.out]; exact hlt
      have hgm : s.data.toList[m] = s[m] := by rw [Array.getElem_toList]; rfl
      cases hbl : blankB s[m] with
      | true =>
        have hcut := cut_at blankB s.data.toList a m ham hlt' hno (by rw [hgm]; exact hbl)
        obtain ⟨wd, hwd⟩ : ∃ wd, wd = (s.data.toList.drop a).take (m - a) := ⟨_, rfl⟩
        rw [← hwd] at hcut hwz ⊢
        have HP : Hid (pieces blankB s.data.toList = (pre ++ [wd]) ++ pieces blankB (s.data.toList.drop (m + 1))) := by
          show _ = _
          rw [hp, hcut]; simp
        have HW := Lib.hid hws
        have HB := Lib.hid hbl
        clear hp hno hcut hgm hwd hws hbl
        by_cases hwe : wd = []
        · have e0 : (txt wd).toList = [] := by rw [txt_toL]; exact hwe
          have HN : Hid (ws = ((pre ++ [wd]).map txt).filter isWord) := by
            show _ = _
            rw [List.map_append, List.filter_append, ← HW.out, hwe]
            simp [isWord, txt_toL]
          clear hwe
          go_wp2_with fail
          refine (refBlank_t _ _ HB.out).mono ?_
          rintro e w' ⟨rfl, rfl⟩
          go_wp2_with fail
          go_roundw
          case rel => exact ⟨m + 1, m + 1, pre ++ [wd], ws, by simp; rfl, by go_num, Nat.le_refl _, hlt, by simp; omega, by simp, HP.out, HN.out, hown, hB⟩
          case measure => simp [intOf]; omega
        · have e0 : (txt wd).toList.isEmpty = false := by rw [txt_toL]; simpa using hwe
          have HN : Hid (ws ++ [txt wd] = ((pre ++ [wd]).map txt).filter isWord) := by
            show _ = _
            rw [List.map_append, List.filter_append, ← HW.out]
            simp [isWord, txt_toL, hwe]
          clear hwe
          go_wp2_with fail
          refine (refBlank_t _ _ HB.out).mono ?_
          rintro e w' ⟨rfl, rfl⟩
          go_wp2_with (at_builtin; refine wpList_append_own _ rfl _ _ 99 rfl w.heap.size 9 i0 (.string ⟨#[]⟩) 1 16 Tryz.underlying99 hi hz0 hz1 hz2 rfl (by decide) _ _ _ rfl (hown.alloc _) ⟨wr.heap.size, 0, none⟩ 1 1 [_] rfl rfl (cell_one_new _ _ _) (by simp [Value.oneCell']) hml (by omega) (by simp; omega) ?_; intro v' w1 hown' hgrow _)
          have hB1 := (hB.alloc hsz _).grown hgrow (by simp; omega) (fun j ej => (hown.lt j ej).1)
          go_roundw
          case rel =>
            refine ⟨m + 1, m + 1, pre ++ [wd], ws ++ [txt wd], by simp; rfl, by go_num, Nat.le_refl _, hlt, by simp; omega, by simp, HP.out, HN.out, ?_, hB1⟩
            rw [List.length_append, List.map_append]
            exact hown'
          case measure => simp [intOf]; omega
      | false =>
        have HN := Lib.hid (none_next blankB s.data.toList a m ham hlt' hno (by rw [hgm]; exact hbl))
        have HT : Hid (txt ((s.data.toList.drop a).take (m + 1 - a)) = txt ((s.data.toList.drop a).take (m - a)) ++ s.extract m (m + 1)) := by
          show _ = _
          rw [take_more' _ a m ham hlt', extract_one' s m hlt, txt_app, hgm]
        have HP := Lib.hid hp
        have HW := Lib.hid hws
        have HB := Lib.hid hbl
        generalize (s.data.toList.drop a).take (m - a) = wd at hwz HT ⊢
        have hcat : ¬ 9223372036854775807 < wd.length + (min (m + 1) s.size - m) := by omega
        clear hp hno hgm hws hbl
        go_wp2_with fail
        refine (refBlank_f _ _ HB.out).mono ?_
        rintro e w' ⟨rfl, rfl⟩
        go_wp2_with fail
        go_roundw
        case rel => exact ⟨a, m + 1, pre, ws, by rw [HT.out], by go_num, by omega, hlt, hpa, HN.out, HP.out, HW.out, hown, hB⟩
        case measure => simp [intOf]; omega
    · obtain rfl : m = s.size := by omega
      have hno1 : ∀ c ∈ s.data.toList.drop a, blankB c = false := fun c hc => hno c (by rw [take_rest]; exact hc)
      rw [pieces_none blankB _ hno1] at hp
      have hL := words_last _ _ _ hp
      rw [← hws] at hL
      rw [take_rest] at hwz ⊢
      generalize s.data.toList.drop a = wd at hL hwz ⊢
      have HL := Lib.hid hL
      clear hno hno1 hp hws hL
      by_cases hwe : wd = []
      · have e0 : (txt wd).toList = [] := by rw [txt_toL]; exact hwe
        have HE : Hid (wordsOf s.data.toList = ws) := by show _ = _; rw [HL.out, hwe]; simp [isWord, txt_toL]
        clear hwe
        go_wp2_with fail
        go_ret
        refine ⟨_, rfl, ?_, hB⟩
        rw [HE.out]
        exact Reads.of_owns hown
      · have e0 : (txt wd).toList.isEmpty = false := by rw [txt_toL]; simpa using hwe
        have HE : Hid (wordsOf s.data.toList = ws ++ [txt wd]) := by show _ = _; rw [HL.out]; simp [isWord, txt_toL, hwe]
        clear hwe
        go_wp2_with (at_builtin; refine wpList_append_own _ rfl _ _ 99 rfl w.heap.size 9 i0 (.string ⟨#[]⟩) 1 16 Tryz.underlying99 hi hz0 hz1 hz2 rfl (by decide) _ _ _ rfl (hown.alloc _) ⟨wr.heap.size, 0, none⟩ 1 1 [_] rfl rfl (cell_one_new _ _ _) (by simp [Value.oneCell']) hml (by omega) (by simp; omega) ?_; intro v' w1 hown' hgrow _)
        have hB1 := (hB.alloc hsz _).grown hgrow (by simp; omega) (fun j ej => (hown.lt j ej).1)
        go_ret
        refine ⟨_, rfl, ?_, hB1⟩
        rw [HE.out]
        refine Reads.of_owns (base := w.heap.size) ?_
        rw [List.length_append, List.map_append]
        exact hown'

end Go.Proofs.YtbngoodjgijmgaaGreatDoor

namespace Go.Proofs.YtbngoodjgijmgaaGreatDoor
open Go.RowKit Go.Shelf
attribute [local go_sem] Oper.semAt_some

def lays137_ren : Go.Shelf.Ren := ⟨fun | 137 => 153 | 217 => 81 | 266 => 108 | n => n, fun | 9 => 9 | 5 => 5 | 3 => 3 | n => n, fun | n => n⟩
theorem lays137 : Go.Proofs.Lays.n137 Tryz.prog lays137_ren := {
  mixed := by kernel_rfl
  f137 := Tryz.func153.trans (congrArg some (by kernel_rfl))
  f217 := Tryz.func81.trans (congrArg some (by kernel_rfl))
  f266 := Tryz.func108.trans (congrArg some (by kernel_rfl))
  t3 := Tryz.underlying3
  a3 := Tryz.isAgg3
  z3 := Tryz.sizeOf3
  v3 := Tryz.zeroValue3
  t5 := Tryz.underlying5
  a5 := Tryz.isAgg5
  z5 := Tryz.sizeOf5
  v5 := Tryz.zeroValue5
  t9 := Tryz.underlying9
  a9 := Tryz.isAgg9
  z9 := Tryz.sizeOf9
  v9 := Tryz.zeroValue9 }
theorem indexByte_any (s : ByteArray) (c : Int) (w : World) :
    Calls Tryz.prog 153 #[.string s, .int .u8 c] w fun e w' => e = .returned (.int .i64 (Lib.indexByte s.data.toList c.toNat.toUInt8)) ∧ w' = w := Any.strings_IndexByte lays137 s c w

theorem blank_index (c : UInt8) : decide (0 ≤ Lib.indexByte [32, 9] c) = blankB c := by
  by_cases h1 : (32 : UInt8) = c
  · subst h1; rfl
  · by_cases h2 : (9 : UInt8) = c
    · subst h2; rfl
    · have e1 : c.toNat ≠ 32 := fun h => h1 (UInt8.toNat_inj.1 (by rw [h]; rfl))
      have e2 : c.toNat ≠ 9 := fun h => h2 (UInt8.toNat_inj.1 (by rw [h]; rfl))
      simp [Lib.indexByte, blankB, h1, h2, e1, e2]

set_option maxHeartbeats 400000 in
theorem isBlank_any (c : UInt8) (w : World) : Calls Tryz.prog 169 #[.int .u8 (c.toNat : Int)] w fun e w' => e = .returned (.bool (blankB c)) ∧ w = w' := by
  go_enter Tryz.func169, Tryz.ntmps169
  go_wp2_with (go_at_call 153; refine (indexByte_any _ _ _).mono ?_; rintro e w' ⟨rfl, rfl⟩)
  go_ret
  exact ⟨ret_bool (blank_index c), rfl⟩

set_option maxHeartbeats 400000 in
theorem words0_any (s : ByteArray) (w : World) : Calls Tryz.prog 127 #[.string s] w fun e w' =>
    e = .returned (.func (.func 167) #[] #[.pointer (some ⟨w.heap.size, 0, none⟩)]) ∧ w.alloc (.cells #[.string s] 9) = w' := by
  go_enter Tryz.func127, Tryz.ntmps127
  go_wp2
  go_ret
  exact ⟨rfl, rfl⟩

set_option maxRecDepth 100000 in
set_option maxHeartbeats 1000000 in
theorem words1_tells (n : Nat) (s : ByteArray) (hs : s.size ≤ maxLen) (b1 : Nat) (w : World) (hb1 : Boxed w b1 9 (.string s)) :
    Tells n Tryz.prog 167 #[.pointer (some ⟨b1, 0, none⟩)] (fun x : ByteArray => #[Value.string x]) (fun j => j = b1) (wordsOf s.data.toList) w := by
  intro l J Jx W hW hJ hJx hY h0
  have hB1 := hW.boxed hb1 rfl
  refine callsIn_of_wp_marks Tryz.func167 rfl trivial ?_ rfl
  simp only [Tryz.ntmps167, List.size_toArray, List.length_cons, List.length_nil, Nat.reduceAdd, Nat.reduceSub, Array.replicate_succ, Array.replicate_zero, List.push_toArray, List.append_toArray, List.nil_append, List.cons_append]
  have hlt1 := hB1.lt
  have hc1 := (hB1.alloc (.cells #[.func (.yield l) #[] #[]] 69)).cell
  gi_wp2
  refine ⟨trivial, (fun h => (by cases h)), (callsIn_wide.2 (between_any _ _ _)).mono ?_⟩
  rintro e w' ⟨rfl, rfl⟩
  gi_wp2
  have bY : Boxed (((W.alloc (.cells #[.func (.yield l) #[] #[]] 69)).alloc (.cells #[.string s] 9)).alloc (.cells #[.func (.func 169) #[] #[]] 88)) W.heap.size 69 (.func (.yield l) #[] #[]) := ((Boxed.new W _ _).alloc _).alloc _
  have bS : Boxed (((W.alloc (.cells #[.func (.yield l) #[] #[]] 69)).alloc (.cells #[.string s] 9)).alloc (.cells #[.func (.func 169) #[] #[]] 88)) (W.heap.size + 1) 9 (.string s) := by
    have := (Boxed.new (W.alloc (.cells #[.func (.yield l) #[] #[]] 69)) 9 (.string s)).alloc (.cells #[.func (.func 169) #[] #[]] 88)
    rwa [World.size_alloc] at this
  have bC : Boxed (((W.alloc (.cells #[.func (.yield l) #[] #[]] 69)).alloc (.cells #[.string s] 9)).alloc (.cells #[.func (.func 169) #[] #[]] 88)) (W.heap.size + 1 + 1) 88 (.func (.func 169) #[] #[]) := by
    have := Boxed.new ((W.alloc (.cells #[.func (.yield l) #[] #[]] 69)).alloc (.cells #[.string s] 9)) 88 (.func (.func 169) #[] #[])
    rwa [World.size_alloc, World.size_alloc] at this
  have ht : Turned (fun j => j = b1) W (((W.alloc (.cells #[.func (.yield l) #[] #[]] 69)).alloc (.cells #[.string s] 9)).alloc (.cells #[.func (.func 169) #[] #[]] 88)) := ((Turned.alloc _ W _).trans (Turned.alloc _ _ _)).trans (Turned.alloc _ _ _)
  have hV : (((W.alloc (.cells #[.func (.yield l) #[] #[]] 69)).alloc (.cells #[.string s] 9)).alloc (.cells #[.func (.func 169) #[] #[]] 88)).heap.size = W.heap.size + 3 := by simp
  generalize (((W.alloc (.cells #[.func (.yield l) #[] #[]] 69)).alloc (.cells #[.string s] 9)).alloc (.cells #[.func (.func 169) #[] #[]] 88)) = V at bY bS bC ht hV ⊢
  have hI0 : Abides' (fun X (pre : List ByteArray) U => J (fun k => X k ∨ k = b1 ∨ k = W.heap.size) (pre.filter isWord) U ∧ Boxed U W.heap.size 69 (.func (.yield l) #[] #[]) ∧ ¬ X W.heap.size) := by
    rintro X X' pre A B ⟨hj, hb, hx⟩ hT hsub
    refine ⟨hJ _ _ _ _ _ hj (hT.wider fun k h => .inl h) ?_, hT.boxed hb hx, fun h => ?_⟩
    · rintro k (h | h)
      · rcases hsub k h with h | h
        · exact .inl (.inl h)
        · exact .inr h
      · exact .inl (.inr h)
    · rcases hsub _ h with h | h
      · exact hx h
      · have := hb.lt; omega
  have hIx0 : ∀ c, Abides' (fun X (_ : List ByteArray) U => c = Code.ret ∧ ∃ q, q <+: wordsOf s.data.toList ∧ Jx (fun k => X k ∨ k = b1 ∨ k = W.heap.size) q U) := by
    rintro c X X' pre A B ⟨hc, q, hq, hj⟩ hT hsub
    refine ⟨hc, q, hq, hJx _ _ _ _ _ hj (hT.wider fun k h => .inl h) ?_⟩
    rintro k (h | h)
    · rcases hsub k h with h | h
      · exact .inl (.inl h)
      · exact .inr h
    · exact .inl (.inr h)
  refine wpIn_range (gf := 199) rfl (enters_of Tryz.func199 (by kernel_rfl) rfl) (between1_tells (n - 1) s hs blankB 169 (enters_of Tryz.func169 (by kernel_rfl) rfl) isBlank_any (W.heap.size + 1) (W.heap.size + 1 + 1) V bS bC) (Kept.refl _ _) ?_ (fun _ => rfl)
    _ _ hI0 hIx0 ⟨hJ _ _ _ _ _ h0 ht ?_, bY, ?_⟩
    (fun x => { tmps := #[.func (.yield l) #[] #[], .pointer (some ⟨b1, 0, none⟩), .pointer (some ⟨W.heap.size, 0, none⟩), .string x, .string s, .func (.func 199) #[] #[.pointer (some ⟨W.heap.size + 1, 0, none⟩), .pointer (some ⟨W.heap.size + 1 + 1, 0, none⟩)], .string x, undef, undef, undef, undef, undef, undef, undef, undef], defers := [] }) ?assign ?body ?done ?stop
  case assign =>
    intro l x U K hK
    gi_wp2
    exact hK
  case body =>
    rintro l' X pre x U ⟨hj, hb, hx⟩ hpre
    have hcl := hb.cell
    cases hw : isWord x with
    | false =>
      have he : x.toList = [] := by simpa [isWord] using hw
      have HW := Lib.hid hw; clear hw
      gi_wp2
      refine ⟨fun _ h => (by cases h), ?_⟩
      gi_wp2
      exact ⟨Kept.refl _ _, by rw [List.filter_append, List.filter_cons_of_neg (by rw [HW.out]; simp)]; simpa using hj, hb, hx⟩
    | true =>
      have he : x.toList.isEmpty = false := by simpa [isWord] using hw
      have hp2 : pre.filter isWord ++ [x] <+: wordsOf s.data.toList := by
        have := List.IsPrefix.filter isWord hpre
        rwa [List.filter_append, List.filter_cons_of_pos hw] at this
      have hR0 := hY _ _ x _ hj hp2
      obtain ⟨fn, tmps, assign, body, hy, hR⟩ := hR0
      have HR := Lib.hid hR
      have HP := Lib.hid hp2
      have HW := Lib.hid hw; clear hw hR hp2
      gi_wp2
      refine ⟨(fun h => (by cases h)), (RoundIn.within l' HR.out).mono ?_⟩
      rintro e W3 ⟨hk3, (⟨rfl, hJ3⟩ | ⟨rfl, hJx3⟩)⟩
      · gi_wp2
        exact ⟨hk3.sub fun k h => .inl h, by rw [List.filter_append, List.filter_cons_of_pos HW.out]; exact hJ3, hk3.boxed hb (.inr (.inr rfl)), hx⟩
      · gi_wp2
        exact ⟨hk3.sub fun k h => .inl h, rfl, _, HP.out, hJx3⟩
  case done =>
    rintro D X U hD hXD ⟨hj, hb, hx⟩ hK
    gi_wp2
    refine ⟨by simp, .inl ⟨_, _, rfl, run_takeDeferred hK, ?_⟩⟩
    exact ⟨_, results_none rfl _ _ _, ⟨_, rfl⟩, _, .inl (hJ _ _ _ _ _ hj (Turned.putObj _ _ _ (.inl hXD)) (fun k h => .inl h))⟩
  case stop =>
    rintro D X c pre U hD hXD hpre ⟨rfl, q, hq, hj⟩ hK
    gi_wp2
    refine ⟨by simp, .inl ⟨_, _, rfl, run_takeDeferred hK, ?_⟩⟩
    exact ⟨_, results_none rfl _ _ _, ⟨_, rfl⟩, _, .inr ⟨q, hq, hJx _ _ _ _ _ hj (Turned.putObj _ _ _ (.inl hXD)) (fun k h => .inl h)⟩⟩
  · rintro k (rfl | rfl) <;> omega
  · rintro k ((h | h) | h | h)
    · exact .inr ⟨by omega, by omega⟩
    · exact .inr ⟨by omega, by omega⟩
    · exact .inl h
    · exact .inr ⟨by omega, by omega⟩
  · rintro (h | h) <;> omega

theorem wordsOf_len (l : List UInt8) : (wordsOf l).length ≤ l.length + 1 := by
  have h1 := pieces_len blankB l
  have h2 := List.length_filter_le isWord ((pieces blankB l).map txt)
  simp only [List.length_map] at h2
  unfold wordsOf
  omega

set_option maxHeartbeats 1000000 in
theorem words_any (s : ByteArray) (hs : s.size ≤ 8796093022207) (w : World) :
    Calls Tryz.prog 100 #[.string s] w fun e W' => ∃ v, e = .returned v ∧ Reads W' W'.heap.size v (wordsOf s.data.toList) ∧ Below w.heap.size w W' := by
  have hm : s.size ≤ maxLen := by unfold maxLen; omega
  have hl := wordsOf_len s.data.toList
  rw [size_list] at hl
  have bS := Boxed.new w 9 (.string s)
  have hG := gather_any 167 #[.pointer (some ⟨w.heap.size, 0, none⟩)] (enters_of Tryz.func167 (by kernel_rfl) rfl) (fun j => j = w.heap.size) (wordsOf s.data.toList) (w.alloc (.cells #[.string s] 9)) w.heap.size (by simp)
    (fun n => words1_tells n s hm w.heap.size _ bS) (by rintro k rfl; simp) (by omega)
  have HG := Lib.hid hG
  clear hG hl
  go_enter Tryz.func100, Tryz.ntmps100
  go_wp2_with fail
  refine (words0_any s w).mono ?_
  rintro e w' ⟨rfl, rfl⟩
  go_wp2_with fail
  refine HG.out.mono ?_
  rintro e w' ⟨v, rfl, hr, hb⟩
  go_wp2_with fail
  go_ret
  exact ⟨v, rfl, Reads.of_owns hr, ((Below.refl _ w).alloc (Nat.le_refl _) _).trans hb⟩

end Go.Proofs.YtbngoodjgijmgaaGreatDoor

namespace Go.Proofs.YtbngoodjgijmgaaGreatDoor
open Go.RowKit Go.Shelf

/-- How many signs there are among the first k bytes, and where the last one is (said only where there is one alone). -/
def MarkAt (l : List UInt8) (k n : Nat) (at' : Int) : Prop := n = (l.take k).count 37 ∧ (n = 1 → at' = ((aheadL (l.take k)).length : Int)) ∧ -1 ≤ at' ∧ at' < 9223372036854775807
theorem mark_start (l : List UInt8) : MarkAt l 0 0 (-1) := ⟨by simp, by simp, by omega, by omega⟩
theorem mark_le {l : List UInt8} {k n : Nat} {a : Int} (h : MarkAt l k n a) : n ≤ k := by
  rw [h.1]
  have h1 := List.count_le_length (a := (37 : UInt8)) (l := l.take k)
  rw [List.length_take] at h1
  omega
theorem mark_skip {l : List UInt8} {k n : Nat} {a : Int} (h : MarkAt l k n a) (hk : k < l.length) (hc : l[k] ≠ 37) : MarkAt l (k + 1) n a := by
  obtain ⟨h1, h2, h3⟩ := h
  rw [MarkAt, List.take_succ_eq_append_getElem hk]
  refine ⟨?_, fun hn => ?_, h3⟩
  · rw [List.count_append, ← h1, List.count_cons_of_ne hc]; simp
  · have hm : (37 : UInt8) ∈ l.take k := by rw [← List.count_pos_iff]; omega
    rw [ahead_more _ hm]
    exact h2 hn
theorem mark_hit {l : List UInt8} {k n : Nat} {a : Int} (h : MarkAt l k n a) (hk : k < l.length) (hc : l[k] = 37) (hb : k < 9223372036854775807) : MarkAt l (k + 1) (n + 1) k := by
  obtain ⟨h1, h2, h3⟩ := h
  rw [MarkAt, List.take_succ_eq_append_getElem hk, hc]
  refine ⟨?_, fun hn => ?_, by omega, by omega⟩
  · rw [List.count_append, ← h1]; simp
  · have hm : (37 : UInt8) ∉ l.take k := by rw [← List.count_eq_zero]; omega
    rw [ahead_cut _ [] hm, List.length_take]
    omega

/-- How many signs a text has. -/
def cntL (l : List UInt8) : Nat := l.count 37

def MarksPost (p : ByteArray) (w : World) (e : Ending) (w' : World) : Prop := ∃ a : Int, e = .returned (.tuple #[.int .i64 (cntL p.data.toList : Nat), .int .i64 a]) ∧ (openB p.data.toList = true → a = ((aheadL p.data.toList).length : Int)) ∧ (-1 ≤ a ∧ a < 9223372036854775807) ∧ w' = w

set_option maxRecDepth 100000 in
set_option maxHeartbeats 2000000 in
theorem marks_any (p : ByteArray) (hp : p.size ≤ maxLen) (w : World) : Calls Tryz.prog 105 #[.string p] w (MarksPost p w) := by
  unfold maxLen at hp
  go_enter Tryz.func105, Tryz.ntmps105
  go_wp2
  go_loop [4, 5, 6] (fun n a i => ∃ (k m : Nat) (at' : Int), k ≤ p.size ∧ m ≤ k ∧ i = .int .i64 k ∧ n = .int .i64 m ∧ a = .int .i64 at' ∧ Hid (MarkAt p.data.toList k m at')) (fun _ _ i => p.size - (intOf i).toNat)
  case atStart => exact ⟨0, 0, -1, Nat.zero_le _, Nat.le_refl _, rfl, rfl, rfl, mark_start _⟩
  case round =>
    obtain ⟨k, m, at', hk, hmk, rfl, rfl, rfl, HA⟩ := hrel
    by_cases hlt : k < p.size
    · have hlt' : k < p.data.toList.length := by rw [Array.length_toList]; exact hlt
      have hgk : p.data.toList[k] = p[k] := by rw [Array.getElem_toList]; rfl
      by_cases hc : p[k] = 37
      · have e1 : (((p[k]).toNat : Int) == 37) = true := by rw [hc]; rfl
        have HN : Hid (MarkAt p.data.toList (k + 1) (m + 1) k) := mark_hit HA.out hlt' (by rw [hgk]; exact hc) (by omega)
        clear hc hgk
        go_wp2
        go_round
        case rel => exact ⟨k + 1, m + 1, k, hlt, by omega, by go_num, by go_num, rfl, HN⟩
        case measure => simp [intOf]; omega
      · have e1 : (((p[k]).toNat : Int) == 37) = false := by
          rw [Bool.eq_false_iff]
          intro h
          simp at h
          exact hc (UInt8.toNat_inj.1 (by rw [show (37 : UInt8).toNat = 37 from rfl]; omega))
        have HN : Hid (MarkAt p.data.toList (k + 1) m at') := mark_skip HA.out hlt' (by rw [hgk]; exact hc)
        clear hc hgk
        go_wp2
        go_round
        case rel => exact ⟨k + 1, m, at', hlt, by omega, by go_num, rfl, rfl, HN⟩
        case measure => simp [intOf]; omega
    · have HN : Hid (m = cntL p.data.toList ∧ (openB p.data.toList = true → at' = ((aheadL p.data.toList).length : Int)) ∧ (-1 ≤ at' ∧ at' < 9223372036854775807)) := by
        have h := HA.out
        unfold MarkAt at h
        rw [List.take_of_length_le (by rw [size_list]; omega)] at h
        refine ⟨h.1, fun ho => h.2.1 ?_, h.2.2⟩
        rw [h.1]; simpa [openB] using ho
      go_wp2
      go_ret2
      exact ⟨at', by rw [← HN.out.1]; rfl, HN.out.2.1, HN.out.2.2, rfl⟩

theorem open_count {l : List UInt8} (h : cntL l = 1) : openB l = true := by unfold cntL at h; simp [openB, h]
theorem shut_count {l : List UInt8} (h : cntL l ≠ 1) : openB l = false := by unfold cntL at h; simp [openB, h]
theorem open_is (l : List UInt8) : openB l = decide (cntL l = 1) := rfl
theorem right_is (l : List UInt8) : rightB l = (!l.isEmpty && decide (cntL l ≤ 1)) := rfl

set_option maxRecDepth 100000 in
set_option maxHeartbeats 1000000 in
theorem refFill_any (p s : ByteArray) (hp : p.size ≤ 1000000000000) (hs : s.size ≤ 1000000000000) (w : World) : Calls Tryz.prog 107 #[.string p, .string s] w (FillPost (fillL p.data.toList s.data.toList) w) := by
  have hm := marks_any p (by unfold maxLen; omega)
  by_cases hc : cntL p.data.toList = 1
  · have h := open_count hc
    have hl := open_lens h
    rw [size_list] at hl
    have HM : Hid (∀ w, Calls Tryz.prog 105 #[.string p] w fun e w' => e = .returned (.tuple #[.int .i64 1, .int .i64 ((aheadL p.data.toList).length : Nat)]) ∧ w' = w) := by
      intro w
      refine (hm w).mono ?_
      rintro e w' ⟨a, rfl, ha, _, rfl⟩
      rw [ha h, hc]
      exact ⟨rfl, rfl⟩
    have HA := Lib.hid (ext_ahead h)
    have HB := Lib.hid (ext_behind h)
    have HF : Hid (txt (fillL p.data.toList s.data.toList) = p.extract 0 (aheadL p.data.toList).length ++ s ++ p.extract ((aheadL p.data.toList).length + 1) p.size) := by
      show _ = _
      rw [fill_open h, ← txt_append, ← txt_append, txt_toList, ext_ahead h, ext_behind h]
    have hz1 : (p.extract 0 (aheadL p.data.toList).length).size = (aheadL p.data.toList).length := by rw [ext_ahead h, txt_size]
    have hz2 : (p.extract ((aheadL p.data.toList).length + 1) p.size).size = (behindL p.data.toList).length := by rw [ext_behind h, txt_size]
    generalize (aheadL p.data.toList).length = n at hl HM HF hz1 hz2
    have h1 : n ≤ p.size := by omega
    have h2 : n + 1 ≤ p.size := by omega
    have g1 : ¬ 9223372036854775807 < (p.extract 0 n).size + s.size := by omega
    have g2 : ¬ 9223372036854775807 < (p.extract 0 n).size + s.size + (p.extract (n + 1) p.size).size := by omega
    have g3 : (p.extract 0 n ++ s).size = (p.extract 0 n).size + s.size := ByteArray.size_append ..
    clear hm hc h hl HA HB hs hz1 hz2
    go_enter Tryz.func107, Tryz.ntmps107
    go_wp2_with (go_at_call 105; refine (HM.out _).mono ?_; rintro e w' ⟨rfl, rfl⟩)
    go_quiet (fail)
    go_wp2
    go_ret
    exact ⟨by rw [HF.out]; rfl, _, rfl⟩
  · have h := shut_count hc
    have HF : Hid (txt (fillL p.data.toList s.data.toList) = p) := by show _ = _; rw [fill_shut h, txt_toList]
    have e1 : (((cntL p.data.toList : Nat) : Int) != 1) = true := by generalize cntL p.data.toList = n at hc; simp; omega
    have HM := Lib.hid hm
    clear h hm hp hs hc
    go_enter Tryz.func107, Tryz.ntmps107
    go_wp2_with (go_at_call 105; refine (HM.out _).mono ?_; rintro e w' ⟨a, rfl, _, _, rfl⟩)
    go_ret
    exact ⟨by rw [HF.out]; rfl, 0, rfl⟩

end Go.Proofs.YtbngoodjgijmgaaGreatDoor

namespace Go.Proofs.YtbngoodjgijmgaaGreatDoor
open Go.RowKit Go.Shelf

/-- The text that the document's loop tries. -/
def tried (p s : ByteArray) (n i k : Nat) : ByteArray := p.extract 0 n ++ s.extract i k ++ p.extract (n + 1) p.size
def OuterNo (p s : ByteArray) (n i : Nat) : Prop := n < i → ∀ k', n ≤ k' → k' ≤ s.size → tried p s n n k' ≠ s
def InnerNo (p s : ByteArray) (n i k : Nat) : Prop := i = n → ∀ k', n ≤ k' → k' < k → tried p s n n k' ≠ s
theorem outer_next {p s : ByteArray} {n i k : Nat} (h1 : OuterNo p s n i) (h2 : InnerNo p s n i k) (hk : s.size < k) : OuterNo p s n (i + 1) := by
  intro hn k' a b
  by_cases h : n < i
  · exact h1 h k' a b
  · exact h2 (by omega) k' a (by omega)
theorem inner_next {p s : ByteArray} {n i k : Nat} (h : InnerNo p s n i k) (hh : i ≠ n ∨ tried p s n i k ≠ s) : InnerNo p s n i (k + 1) := by
  intro hi k' a b
  by_cases hk : k' < k
  · exact h hi k' a hk
  · have : k' = k := by omega
    subst this
    rcases hh with hh | hh
    · exact absurd hi hh
    · rw [hi] at hh; exact hh
theorem tried_hit {p s : ByteArray} {k : Nat} (ho : openB p.data.toList = true) (h : tried p s (aheadL p.data.toList).length (aheadL p.data.toList).length k = s) :
    matchL p.data.toList s.data.toList = ((s.extract (aheadL p.data.toList).length k).data.toList, true) := by
  refine match_hit ho ?_
  unfold tried at h
  rw [ext_ahead ho, ext_behind ho] at h
  have := congrArg (fun x : ByteArray => x.data.toList) h
  simp only [ByteArray.data_append, Array.toList_append, txt_data] at this
  exact this.symm
theorem tried_none {p s : ByteArray} {i : Nat} (ho : openB p.data.toList = true) (h : OuterNo p s (aheadL p.data.toList).length i) (hi : s.size < i) : matchL p.data.toList s.data.toList = ([], false) := by
  cases hm : (matchL p.data.toList s.data.toList).2 with
  | false => rw [← match_miss hm, ← hm]
  | true =>
    exfalso
    have hs := match_inv ho hm
    have hl := congrArg List.length hs
    simp only [List.length_append] at hl
    rw [size_list] at hl
    refine h (by omega) ((aheadL p.data.toList).length + (matchL p.data.toList s.data.toList).1.length) (by omega) (by omega) ?_
    unfold tried
    rw [ext_ahead ho, ext_behind ho, extract_txt, Nat.add_sub_cancel_left]
    have e : (s.data.toList.drop (aheadL p.data.toList).length).take (matchL p.data.toList s.data.toList).1.length = (matchL p.data.toList s.data.toList).1 := by
      generalize (matchL p.data.toList s.data.toList).1 = t at hs
      rw [hs, List.append_assoc]; simp
    rw [e, txt_append, txt_append, ← hs, txt_toList]

set_option maxRecDepth 100000 in
set_option maxHeartbeats 4000000 in
theorem refMatch_open (p s : ByteArray) (hp : p.size ≤ 1000000000000) (hs : s.size ≤ 1000000000000) (ho : openB p.data.toList = true) (w : World) : Calls Tryz.prog 106 #[.string p, .string s] w (MatchPost p.data.toList s.data.toList w) := by
  have hm := marks_any p (by unfold maxLen; omega)
  have hc : cntL p.data.toList = 1 := by simpa [open_is] using ho
  have hl := open_lens ho
  rw [size_list] at hl
  have HM : Hid (∀ w, Calls Tryz.prog 105 #[.string p] w fun e w' => e = .returned (.tuple #[.int .i64 1, .int .i64 ((aheadL p.data.toList).length : Nat)]) ∧ w' = w) := by
    intro w
    refine (hm w).mono ?_
    rintro e w' ⟨a, rfl, ha, _, rfl⟩
    rw [ha ho, hc]
    exact ⟨rfl, rfl⟩
  have hz1 : (p.extract 0 (aheadL p.data.toList).length).size = (aheadL p.data.toList).length := by rw [ext_ahead ho, txt_size]
  have hz2 : (p.extract ((aheadL p.data.toList).length + 1) p.size).size = (behindL p.data.toList).length := by rw [ext_behind ho, txt_size]
  have HY : Hid (∀ k, tried p s (aheadL p.data.toList).length (aheadL p.data.toList).length k = s → matchL p.data.toList s.data.toList = ((s.extract (aheadL p.data.toList).length k).data.toList, true)) := fun k => tried_hit ho
  have HZ : Hid (∀ i, OuterNo p s (aheadL p.data.toList).length i → s.size < i → matchL p.data.toList s.data.toList = ([], false)) := fun i => tried_none ho
  have he : p.toList.isEmpty = false := by
    rw [Lib.toList_data]
    cases h : p.data.toList with
    | nil => rw [h] at ho; simp [openB] at ho
    | cons => rfl
  clear hm hc
  generalize (aheadL p.data.toList).length = n at hl HM hz1 hz2 HY HZ
  have h1 : n ≤ p.size := by omega
  have h2 : n + 1 ≤ p.size := by omega
  have hz : (p.extract 0 n).size + (p.extract (n + 1) p.size).size ≤ p.size := by omega
  clear hl ho hz1 hz2
  go_enter Tryz.func106, Tryz.ntmps106
  go_wp2_with (go_at_call 105; refine (HM.out _).mono ?_; rintro e w' ⟨rfl, rfl⟩)
  go_loopg [8, 9] (s.size + 1) (fun g i _ wr => ∃ (i' q : Nat), i' + g = s.size + 1 ∧ i = .int .i64 i' ∧ wr = w'.drewN q ∧ Hid (OuterNo p s n i'))
  case atStart => exact ⟨0, 0, by omega, rfl, rfl, fun h => absurd h (Nat.not_lt_zero _)⟩
  case round =>
    obtain ⟨i, q, hi, rfl, rfl, HA⟩ := hrel
    by_cases hlt : i ≤ s.size
    · have hlti : (i : Int) ≤ (s.size : Int) := by omega
      go_wp2
      go_loopg [9] (s.size + 1 - i) (fun g k wr => ∃ (k' q : Nat), i ≤ k' ∧ k' + g = s.size + 1 ∧ k = .int .i64 k' ∧ wr = w'.drewN q ∧ Hid (InnerNo p s n i k'))
      case atStart => exact ⟨i, q, Nat.le_refl _, by omega, rfl, rfl, fun _ k' a b => by omega⟩
      case round =>
        obtain ⟨k, q, hik, hk, rfl, rfl, HB⟩ := hrel
        by_cases hltk : k ≤ s.size
        · have hltk' : (k : Int) ≤ (s.size : Int) := by omega
          have hxs : (s.extract i k).size ≤ s.size := by rw [extract_txt, txt_size]; simp; omega
          have g1 : ¬ 9223372036854775807 < (p.extract 0 n).size + (s.extract i k).size := by omega
          have g2 : ¬ 9223372036854775807 < (p.extract 0 n).size + (s.extract i k).size + (p.extract (n + 1) p.size).size := by omega
          have g3 : (p.extract 0 n ++ s.extract i k).size = (p.extract 0 n).size + (s.extract i k).size := ByteArray.size_append ..
          by_cases ht : tried p s n i k = s
          · have e1 : ((p.extract 0 n ++ s.extract i k ++ p.extract (n + 1) p.size).toList == s.toList) = true := by rw [str_eq]; simpa [tried] using ht
            by_cases hin : i = n
            · subst hin
              have HR := Lib.hid (HY.out k ht)
              clear ht HA HB
              go_wp2
              go_quiet (fail)
              go_wp2
              go_ret2
              exact match_is HR.out ⟨_, rfl⟩
            · have e2 : ((i : Int) == (n : Int)) = false := by simp; omega
              have HN : Hid (InnerNo p s n i (k + 1)) := inner_next HB.out (.inl hin)
              clear ht hin
              go_wp2
              go_quiet (fail)
              go_wp2
              go_roundg (s.size + 1 - (k + 1))
              case measure => omega
              case rel => exact ⟨k + 1, _, by omega, by omega, by go_num, rfl, HN⟩
          · have e1 : ((p.extract 0 n ++ s.extract i k ++ p.extract (n + 1) p.size).toList == s.toList) = false := by rw [str_eq]; simpa [tried] using ht
            have HN : Hid (InnerNo p s n i (k + 1)) := inner_next HB.out (.inr ht)
            clear ht
            go_wp2
            go_quiet (fail)
            go_wp2
            go_roundg (s.size + 1 - (k + 1))
            case measure => omega
            case rel => exact ⟨k + 1, _, by omega, by omega, by go_num, rfl, HN⟩
        · have hltk' : ¬ (k : Int) ≤ (s.size : Int) := by omega
          have HN : Hid (OuterNo p s n (i + 1)) := outer_next HA.out HB.out (by omega)
          go_wp2
          go_roundg (s.size + 1 - (i + 1))
          case measure => omega
          case rel => exact ⟨i + 1, _, by omega, by go_num, rfl, HN⟩
    · have hlti : ¬ (i : Int) ≤ (s.size : Int) := by omega
      have HR := Lib.hid (HZ.out i HA.out (by omega))
      go_wp2
      go_ret2
      exact match_no HR.out ⟨_, rfl⟩

set_option maxRecDepth 100000 in
set_option maxHeartbeats 2000000 in
theorem refMatch_shut (p s : ByteArray) (hp : p.size ≤ 1000000000000) (ho : openB p.data.toList = false) (w : World) : Calls Tryz.prog 106 #[.string p, .string s] w (MatchPost p.data.toList s.data.toList w) := by
  have HM := Lib.hid (marks_any p (by unfold maxLen; omega))
  have hsh := match_shut (s := s.data.toList) ho
  have hc : cntL p.data.toList ≠ 1 := by simpa [open_is] using ho
  rw [right_is] at hsh
  cases he : p.toList.isEmpty with
  | true =>
    have HN : Hid (matchL p.data.toList s.data.toList = ([], false)) := by
      show _ = _
      rw [hsh]
      rw [Lib.toList_data] at he
      rw [he]; rfl
    clear hsh hc ho hp
    go_enter Tryz.func106, Tryz.ntmps106
    go_wp2_with (go_at_call 105; refine (HM.out _).mono ?_; rintro e w' ⟨a, rfl, _, _, rfl⟩)
    go_ret2
    exact match_no HN.out ⟨0, rfl⟩
  | false =>
    by_cases h1 : 1 < cntL p.data.toList
    · have e1 : decide (1 < ((cntL p.data.toList : Nat) : Int)) = true := by simp; omega
      have HN : Hid (matchL p.data.toList s.data.toList = ([], false)) := by
        show _ = _
        rw [hsh, decide_eq_false (by omega)]; simp
      clear hsh hc ho hp h1
      go_enter Tryz.func106, Tryz.ntmps106
      go_wp2_with (go_at_call 105; refine (HM.out _).mono ?_; rintro e w' ⟨a, rfl, _, _, rfl⟩)
      go_ret2
      exact match_no HN.out ⟨0, rfl⟩
    · have h0 : cntL p.data.toList = 0 := by omega
      have HM0 : Hid (∀ w, Calls Tryz.prog 105 #[.string p] w fun e w' => ∃ a : Int, e = .returned (.tuple #[.int .i64 0, .int .i64 a]) ∧ w' = w) := by
        intro w
        refine (HM.out w).mono ?_
        rintro e w' ⟨a, rfl, _, _, rfl⟩
        rw [h0]
        exact ⟨a, rfl, rfl⟩
      have HN : Hid (matchL p.data.toList s.data.toList = ([], p.toList == s.toList)) := by
        show _ = _
        rw [hsh, h0]
        rw [Lib.toList_data] at he
        rw [he, Lib.toList_data, Lib.toList_data, Bool.beq_comm (a := p.data.toList)]; rfl
      clear hsh hc ho hp h1 h0 HM
      go_enter Tryz.func106, Tryz.ntmps106
      go_wp2_with (go_at_call 105; refine (HM0.out _).mono ?_; rintro e w' ⟨a, rfl, rfl⟩)
      go_ret2
      exact match_is HN.out ⟨0, rfl⟩

theorem refMatch_any (p s : ByteArray) (hp : p.size ≤ 1000000000000) (hs : s.size ≤ 1000000000000) (w : World) : Calls Tryz.prog 106 #[.string p, .string s] w (MatchPost p.data.toList s.data.toList w) := by
  cases h : openB p.data.toList with
  | false => exact refMatch_shut p s hp h w
  | true => exact refMatch_open p s hp hs h w

set_option maxRecDepth 100000 in
set_option maxHeartbeats 1000000 in
theorem refSubst_any (p q s : ByteArray) (hp : p.size ≤ 1000000000000) (hq : q.size ≤ 1000000000000) (hs : s.size ≤ 1000000000000) (w : World) : Calls Tryz.prog 79 #[.string p, .string q, .string s] w (FillPost (substL p.data.toList q.data.toList s.data.toList) w) := by
  have hm := refMatch_any p s hp hs
  have hml := match_len p.data.toList s.data.toList
  rw [size_list] at hml
  unfold MatchPost at hm
  cases h : (matchL p.data.toList s.data.toList).2 with
  | false =>
    rw [h] at hm
    have HM := Lib.hid hm
    have HF : Hid (txt (substL p.data.toList q.data.toList s.data.toList) = s) := by show _ = _; rw [subst_miss h, txt_toList]
    clear h hp hs hm hml
    go_enter Tryz.func79, Tryz.ntmps79
    go_wp2_with (go_at_call 106; refine (HM.out _).mono ?_; rintro e w' ⟨rfl, nd, rfl⟩)
    go_ret
    exact ⟨by rw [HF.out]; rfl, nd, rfl⟩
  | true =>
    rw [h] at hm
    have HM := Lib.hid hm
    have hf := refFill_any q (txt (matchL p.data.toList s.data.toList).1) hq (by rw [txt_size]; omega)
    rw [txt_data, ← subst_hit h] at hf
    have HF := Lib.hid hf
    clear h hp hs hm hml hf
    go_enter Tryz.func79, Tryz.ntmps79
    go_wp2_with (first | (go_at_call 106; refine (HM.out _).mono ?_; rintro e w' ⟨rfl, nd, rfl⟩) | (go_at_call 107; refine (HF.out _).mono ?_; rintro e w' ⟨rfl, nf, rfl⟩))
    go_ret
    exact ⟨rfl, _, rfl⟩

set_option maxRecDepth 100000 in
set_option maxHeartbeats 2000000 in
theorem refAny_any (v : Value) (ps : List ByteArray) (s : ByteArray) (B : Nat) (w : World) (hr : ReadsO w B v ps) (hn : ps.length ≤ maxLen) (hz : ∀ p ∈ ps, p.size ≤ 1000000000000) (hs : s.size ≤ 1000000000000) :
    Calls Tryz.prog 183 #[v, .string s] w fun e w' => e = .returned (.bool (anyB ps s)) ∧ ∃ n, w' = w.drewN n := by
  unfold maxLen at hn
  obtain ⟨o, c, rfl, hx⟩ := hr
  have HX := Lib.hid hx
  have HZ := Lib.hid hz
  have HS := Lib.hid hs
  clear hx hz hs
  go_enter Tryz.func183, Tryz.ntmps183
  go_wp2
  go_loopw [5, 6, 7] (fun i _ _ wr => ∃ k q : Nat, k ≤ ps.length ∧ i = .int .i64 k ∧ wr = w.drewN q ∧ Hid (∀ j (hj : j < ps.length), j < k → oneB ps[j] s = false)) (fun i _ _ _ => ps.length - (intOf i).toNat)
  case atStart => exact ⟨0, 0, Nat.zero_le _, rfl, rfl, fun j hj h => absurd h (Nat.not_lt_zero _)⟩
  case round =>
    obtain ⟨k, q, hk, rfl, rfl, HA⟩ := hrel
    by_cases hlt : k < ps.length
    · obtain ⟨b, f, rfl, _, hkc, hcell⟩ := HX.out k ps[k] (List.getElem?_eq_getElem hlt)
      have hkc' : k < c := by omega
      have hc := refMatch_any ps[k] s (HZ.out _ (List.getElem_mem hlt)) HS.out
      unfold MatchPost at hc
      cases h1 : oneB ps[k] s with
      | true =>
        unfold oneB at h1
        rw [h1] at hc
        have HC := Lib.hid hc
        have HN : Hid (anyB ps s = true) := first_some hlt h1
        clear hc h1
        generalize (matchL ps[k].data.toList s.data.toList).1 = t at HC
        generalize ps[k] = x at hcell HC
        go_wp2_with (go_at_call 106; refine (HC.out _).mono ?_; rintro e w' ⟨rfl, nd, rfl⟩)
        go_ret
        exact ⟨ret_bool HN.out.symm, _, rfl⟩
      | false =>
        unfold oneB at h1
        rw [h1] at hc
        have HC := Lib.hid hc
        have HN : Hid (∀ j (hj : j < ps.length), j < k + 1 → oneB ps[j] s = false) := by
          intro j hj hjk
          by_cases hjk' : j < k
          · exact HA.out j hj hjk'
          · have : j = k := by omega
            subst this
            exact h1
        clear hc h1
        generalize (matchL ps[k].data.toList s.data.toList).1 = t at HC
        generalize ps[k] = x at hcell HC
        go_wp2_with (go_at_call 106; refine (HC.out _).mono ?_; rintro e w' ⟨rfl, nd, rfl⟩)
        go_roundw
        case rel => exact ⟨k + 1, _, hlt, by go_num, rfl, HN⟩
        case measure => simp [intOf]; omega
    · have HN : Hid (anyB ps s = false) := first_none fun j hj => HA.out j hj (by omega)
      go_wp2
      go_ret
      exact ⟨ret_bool HN.out.symm, _, rfl⟩

end Go.Proofs.YtbngoodjgijmgaaGreatDoor

namespace Go.Proofs.YtbngoodjgijmgaaGreatDoor
open Go.RowKit Go.Shelf

def digB (c : UInt8) : Bool := decide (48 ≤ c.toNat ∧ c.toNat ≤ 57)
set_option maxHeartbeats 400000 in
theorem isDigit_any (c : UInt8) (w : World) : Calls Tryz.prog 170 #[.int .u8 (c.toNat : Int)] w fun e w' => e = .returned (.bool (digB c)) ∧ w = w' := by
  by_cases h1 : 48 ≤ c.toNat <;> by_cases h2 : c.toNat ≤ 57
  all_goals first
    | (exfalso; omega)
    | (go_enter Tryz.func170, Tryz.ntmps170
       go_wp2
       go_ret
       exact ⟨ret_bool (by rw [Bool.eq_iff_iff]; simp [digB]; omega), rfl⟩)
theorem isDigit_t (c : UInt8) (w : World) (h : digB c = true) : Calls Tryz.prog 170 #[.int .u8 (c.toNat : Int)] w fun e w' => e = .returned (.bool true) ∧ w = w' := by
  have := isDigit_any c w; rwa [h] at this
theorem isDigit_f (c : UInt8) (w : World) (h : digB c = false) : Calls Tryz.prog 170 #[.int .u8 (c.toNat : Int)] w fun e w' => e = .returned (.bool false) ∧ w = w' := by
  have := isDigit_any c w; rwa [h] at this
def allB (p : UInt8 → Bool) (l : List UInt8) : Bool := l.all p
theorem all_take {p : UInt8 → Bool} {l : List UInt8} {k : Nat} (h : allB p (l.take k) = true) (hk : k < l.length) (hc : p l[k] = true) : allB p (l.take (k + 1)) = true := by
  unfold allB at h ⊢
  rw [List.take_succ_eq_append_getElem hk, List.all_append, h]; simp [hc]
theorem all_not {p : UInt8 → Bool} {l : List UInt8} {k : Nat} (hk : k < l.length) (hc : p l[k] = false) : allB p l = false := by
  unfold allB
  rw [List.all_eq_false]; exact ⟨l[k], List.getElem_mem hk, by simp [hc]⟩
def numVal (l : List UInt8) : Int := l.foldl (fun n c => n * 10 + ((c.toNat : Int) - 48)) 0
def numB (l : List UInt8) : Bool := !l.isEmpty && decide (l.length ≤ 9) && !(decide (1 < l.length) && l.head? == some 48) && allB digB l
def numV (l : List UInt8) : Int := if numB l then numVal l else 0

theorem numVal_snoc (l : List UInt8) (c : UInt8) : numVal (l ++ [c]) = numVal l * 10 + ((c.toNat : Int) - 48) := by simp [numVal]
theorem digB_bd {c : UInt8} (h : digB c = true) : 48 ≤ c.toNat ∧ c.toNat ≤ 57 := by simpa [digB] using h
theorem numVal_bd (l : List UInt8) (h : allB digB l = true) : 0 ≤ numVal l ∧ numVal l < 10 ^ l.length := by
  have main : ∀ m, m ≤ l.length → 0 ≤ numVal (l.take m) ∧ numVal (l.take m) < 10 ^ m := by
    intro m
    induction m with
    | zero => intro _; simp [numVal]
    | succ m ih =>
      intro hm
      have hlt : m < l.length := hm
      obtain ⟨h1, h2⟩ := ih (by omega)
      rw [List.take_succ_eq_append_getElem hlt, numVal_snoc]
      have hd := digB_bd (List.all_eq_true.1 h l[m] (List.getElem_mem hlt))
      have e : (10 : Int) ^ (m + 1) = 10 ^ m * 10 := by rw [Int.pow_succ]
      rw [e]
      omega
  have := main l.length (Nat.le_refl _)
  rwa [List.take_length] at this
theorem pow_le8 {k : Nat} (h : k ≤ 8) : (10 : Int) ^ k ≤ 100000000 := by
  have : k = 0 ∨ k = 1 ∨ k = 2 ∨ k = 3 ∨ k = 4 ∨ k = 5 ∨ k = 6 ∨ k = 7 ∨ k = 8 := by omega
  rcases this with rfl | rfl | rfl | rfl | rfl | rfl | rfl | rfl | rfl <;> decide
theorem numVal_small (l : List UInt8) (k : Nat) (hk : k ≤ 8) (h : allB digB (l.take k) = true) : 0 ≤ numVal (l.take k) ∧ numVal (l.take k) ≤ 100000000 := by
  have h1 := numVal_bd _ h
  have h2 : (l.take k).length ≤ 8 := Nat.le_trans (List.length_take_le _ _) hk
  have h3 := pow_le8 h2
  omega

theorem head_get (s : ByteArray) (h : 0 < s.size) : s.data.toList.head? = some s[0] := by
  have h' : 0 < s.data.toList.length := by rw [Array.length_toList]; exact h
  rw [List.head?_eq_getElem?, List.getElem?_eq_getElem h', Array.getElem_toList]; rfl

theorem numB_of (l : List UInt8) (n : Nat) (c : UInt8) (hl : l.length = n) (hh : l.head? = some c) (hn : n ≤ 9) (hz : ¬ (c.toNat = 48 ∧ 1 < n)) : numB l = allB digB l := by
  have e1 : l.isEmpty = false := by cases l <;> simp at hh ⊢
  have e2 : (decide (1 < l.length) && l.head? == some 48) = false := by
    rw [hl, hh]
    by_cases h1 : 1 < n
    · have : c ≠ 48 := fun h => hz ⟨by rw [h]; rfl, h1⟩
      simp [this]
    · simp [h1]
  unfold numB
  rw [e1, e2, hl]
  simp [hn]

set_option maxHeartbeats 400000 in
theorem digit_any (c : UInt8) (w : World) : Calls Tryz.prog 206 #[.int .u8 (c.toNat : Int)] w fun e w' => e = .returned (.bool (digB c)) ∧ w = w' := by
  by_cases h1 : 48 ≤ c.toNat <;> by_cases h2 : c.toNat ≤ 57
  all_goals first
    | (exfalso; omega)
    | (go_enter Tryz.func206, Tryz.ntmps206
       go_wp2
       go_ret
       exact ⟨ret_bool (by rw [Bool.eq_iff_iff]; simp [digB]; omega), rfl⟩)
theorem digit_t (c : UInt8) (w : World) (h : digB c = true) : Calls Tryz.prog 206 #[.int .u8 (c.toNat : Int)] w fun e w' => e = .returned (.bool true) ∧ w = w' := by
  have := digit_any c w; rwa [h] at this
theorem digit_f (c : UInt8) (w : World) (h : digB c = false) : Calls Tryz.prog 206 #[.int .u8 (c.toNat : Int)] w fun e w' => e = .returned (.bool false) ∧ w = w' := by
  have := digit_any c w; rwa [h] at this

def NumPost (s : ByteArray) (w : World) (e : Ending) (w' : World) : Prop := e = .returned (.tuple #[.int .i64 (numV s.data.toList), .bool (numB s.data.toList)]) ∧ w = w'
theorem num_no {s : ByteArray} {w : World} (h : numB s.data.toList = false) : NumPost s w (.returned (.tuple #[.int .i64 0, .bool false])) w := ⟨by simp [numV, h], rfl⟩
theorem num_yes {s : ByteArray} {w : World} (h : numB s.data.toList = true) : NumPost s w (.returned (.tuple #[.int .i64 (numVal s.data.toList), .bool true])) w := ⟨by simp [numV, h], rfl⟩

set_option maxRecDepth 100000 in
set_option maxHeartbeats 2000000 in
theorem number_any (s : ByteArray) (hs : s.size ≤ maxLen) (w : World) : Calls Tryz.prog 128 #[.string s] w (NumPost s w) := by
  unfold maxLen at hs
  have hsl := size_list s
  by_cases h0 : s.toList = []
  · have HN := Lib.hid (num_no (s := s) (w := w) (by rw [Lib.toList_data] at h0; simp [numB, h0]))
    clear hsl
    go_enter Tryz.func128, Tryz.ntmps128
    go_wp2
    go_ret2
    exact HN.out
  have h0e : s.toList.isEmpty = false := by simpa using h0
  have hpos : 0 < s.size := by
    rw [← hsl]; rw [Lib.toList_data] at h0; exact List.length_pos_iff.2 h0
  by_cases h9 : 9 < s.size
  · have HN := Lib.hid (num_no (s := s) (w := w) (by unfold numB; rw [hsl]; simp; omega))
    have h9' : decide (9 < (s.size : Int)) = true := by simp; omega
    clear hsl h0
    go_enter Tryz.func128, Tryz.ntmps128
    go_wp2
    go_ret2
    exact HN.out
  have h9' : decide (9 < (s.size : Int)) = false := by simp; omega
  have hhd := head_get s hpos
  by_cases hz : s[0].toNat = 48 ∧ 1 < s.size
  · obtain ⟨hz1, hz2⟩ := hz
    have HN := Lib.hid (num_no (s := s) (w := w) (by
      have : s[0] = 48 := UInt8.toNat_inj.1 (by rw [hz1]; rfl)
      unfold numB; rw [hsl, hhd, this]; simp [hz2]))
    have e1 : ((s[0].toNat : Int) == 48) = true := by simp; omega
    have e2 : decide (1 < (s.size : Int)) = true := by simp; omega
    clear hsl h0 hhd hz1
    go_enter Tryz.func128, Tryz.ntmps128
    go_wp2
    go_ret2
    exact HN.out
  have HB : Hid (numB s.data.toList = allB digB s.data.toList) := numB_of s.data.toList s.size s[0] hsl hhd (by omega) hz
  have hlead : ((s[0].toNat : Int) == 48) = false ∨ ((s[0].toNat : Int) == 48) = true ∧ decide (1 < (s.size : Int)) = false := by
    by_cases h : s[0].toNat = 48
    · right; refine ⟨by simp; omega, ?_⟩
      have : ¬ 1 < s.size := fun h1 => hz ⟨h, h1⟩
      simp; omega
    · left; simp; omega
  have H0 := Lib.hid h0
  clear hhd hz h0 hsl
  rcases hlead with hl1 | ⟨hl1, hl2⟩
  all_goals
    go_enter Tryz.func128, Tryz.ntmps128
    go_wp2
    go_loop [4, 25] (fun n i => ∃ k : Nat, k ≤ s.size ∧ i = .int .i64 k ∧ n = .int .i64 (numVal (s.data.toList.take k)) ∧ allB digB (s.data.toList.take k) = true) (fun _ i => s.size - (intOf i).toNat)
    case atStart => exact ⟨0, Nat.zero_le _, rfl, rfl, rfl⟩
    case round =>
      obtain ⟨k, hk, rfl, rfl, hall⟩ := hrel
      have HA := Lib.hid hall; clear hall
      by_cases hlt : k < s.size
      · have hlt' : k < s.data.toList.length := by rw [Array.length_toList]; exact hlt
        have hgk : s.data.toList[k] = s[k] := by rw [Array.getElem_toList]; rfl
        obtain ⟨hv1, hv2⟩ := numVal_small s.data.toList k (by omega) HA.out
        cases hp : digB s[k] with
        | true =>
          have HN : Hid (allB digB (s.data.toList.take (k + 1)) = true) := all_take HA.out hlt' (by rw [hgk]; exact hp)
          have HV : Hid (numVal (s.data.toList.take (k + 1)) = numVal (s.data.toList.take k) * 10 + ((s[k].toNat : Int) - 48)) := by
            show numVal _ = _
            rw [List.take_succ_eq_append_getElem hlt', numVal_snoc, hgk]
          obtain ⟨hd1, hd2⟩ := digB_bd hp
          have HP := Lib.hid hp; clear hp hgk
          go_wp2_with (go_at_call 170; refine (isDigit_t _ _ HP.out).mono ?_; rintro e w' ⟨rfl, rfl⟩)
          go_round
          case rel => exact ⟨k + 1, by omega, by go_num, by rw [HV.out], HN.out⟩
          case measure => simp [intOf]; omega
        | false =>
          have HN := Lib.hid (num_no (s := s) (w := w) (HB.out.trans (all_not hlt' (by rw [hgk]; exact hp))))
          have HP := Lib.hid hp; clear hp hgk
          go_wp2_with (go_at_call 170; refine (isDigit_f _ _ HP.out).mono ?_; rintro e w' ⟨rfl, rfl⟩)
          go_ret2
          exact HN.out
      · have hall : s.data.toList.take k = s.data.toList := List.take_of_length_le (by rw [Array.length_toList]; show s.size ≤ k; omega)
        have hY := num_yes (s := s) (w := w) (HB.out.trans (by rw [← hall]; exact HA.out))
        rw [← hall] at hY
        have HY : Hid (NumPost s w (.returned (.tuple #[.int .i64 (numVal (s.data.toList.take k)), .bool true])) w) := by
          show NumPost _ _ _ _
          rw [hall]; rw [hall] at hY; exact hY
        clear hY hall
        go_wp2
        go_ret2
        exact HY.out

set_option maxRecDepth 100000 in
set_option maxHeartbeats 2000000 in
theorem refNumber_any (s : ByteArray) (hs : s.size ≤ maxLen) (w : World) : Calls Tryz.prog 185 #[.string s] w (NumPost s w) := by
  unfold maxLen at hs
  have hsl := size_list s
  by_cases h0 : s.toList = []
  · have HN := Lib.hid (num_no (s := s) (w := w) (by rw [Lib.toList_data] at h0; simp [numB, h0]))
    have hs0 : s.size = 0 := by rw [← hsl, ← Lib.toList_data, h0]; rfl
    have e0 : decide ((s.size : Int) < 1) = true := by rw [hs0]; rfl
    clear hsl hs0
    go_enter Tryz.func185, Tryz.ntmps185
    go_wp2
    go_ret2
    exact HN.out
  have h0e : s.toList.isEmpty = false := by simpa using h0
  have hpos : 0 < s.size := by
    rw [← hsl]; rw [Lib.toList_data] at h0; exact List.length_pos_iff.2 h0
  have e0 : decide ((s.size : Int) < 1) = false := by simp; omega
  by_cases h9 : 9 < s.size
  · have HN := Lib.hid (num_no (s := s) (w := w) (by unfold numB; rw [hsl]; simp; omega))
    have h9' : decide (9 < (s.size : Int)) = true := by simp; omega
    clear hsl h0
    go_enter Tryz.func185, Tryz.ntmps185
    go_wp2
    go_ret2
    exact HN.out
  have h9' : decide (9 < (s.size : Int)) = false := by simp; omega
  have hhd := head_get s hpos
  by_cases hz : s[0].toNat = 48 ∧ 1 < s.size
  · obtain ⟨hz1, hz2⟩ := hz
    have HN := Lib.hid (num_no (s := s) (w := w) (by
      have : s[0] = 48 := UInt8.toNat_inj.1 (by rw [hz1]; rfl)
      unfold numB; rw [hsl, hhd, this]; simp [hz2]))
    have e1 : ((s[0].toNat : Int) == 48) = true := by simp; omega
    have e2 : decide (1 < (s.size : Int)) = true := by simp; omega
    clear hsl h0 hhd hz1
    go_enter Tryz.func185, Tryz.ntmps185
    go_wp2
    go_ret2
    exact HN.out
  have HB : Hid (numB s.data.toList = allB digB s.data.toList) := numB_of s.data.toList s.size s[0] hsl hhd (by omega) hz
  have hlead : decide (1 < (s.size : Int)) = false ∨ decide (1 < (s.size : Int)) = true ∧ ((s[0].toNat : Int) == 48) = false := by
    by_cases h : 1 < s.size
    · right; refine ⟨by simp; omega, ?_⟩
      have : ¬ s[0].toNat = 48 := fun h1 => hz ⟨h1, h⟩
      simp; omega
    · left; simp; omega
  have H0 := Lib.hid h0
  clear hhd hz h0 hsl
  rcases hlead with hl1 | ⟨hl1, hl2⟩
  all_goals
    go_enter Tryz.func185, Tryz.ntmps185
    go_wp2
    go_loop [4, 5] (fun n i => ∃ k : Nat, k ≤ s.size ∧ i = .int .i64 k ∧ n = .int .i64 (numVal (s.data.toList.take k)) ∧ allB digB (s.data.toList.take k) = true) (fun _ i => s.size - (intOf i).toNat)
    case atStart => exact ⟨0, Nat.zero_le _, rfl, rfl, rfl⟩
    case round =>
      obtain ⟨k, hk, rfl, rfl, hall⟩ := hrel
      have HA := Lib.hid hall; clear hall
      by_cases hlt : k < s.size
      · have hlt' : k < s.data.toList.length := by rw [Array.length_toList]; exact hlt
        have hgk : s.data.toList[k] = s[k] := by rw [Array.getElem_toList]; rfl
        obtain ⟨hv1, hv2⟩ := numVal_small s.data.toList k (by omega) HA.out
        cases hp : digB s[k] with
        | true =>
          have HN : Hid (allB digB (s.data.toList.take (k + 1)) = true) := all_take HA.out hlt' (by rw [hgk]; exact hp)
          have HV : Hid (numVal (s.data.toList.take (k + 1)) = numVal (s.data.toList.take k) * 10 + ((s[k].toNat : Int) - 48)) := by
            show numVal _ = _
            rw [List.take_succ_eq_append_getElem hlt', numVal_snoc, hgk]
          obtain ⟨hd1, hd2⟩ := digB_bd hp
          have HP := Lib.hid hp; clear hp hgk
          go_wp2_with (go_at_call 206; refine (digit_t _ _ HP.out).mono ?_; rintro e w' ⟨rfl, rfl⟩)
          go_round
          case rel => exact ⟨k + 1, by omega, by go_num, by rw [HV.out, Int.mul_comm], HN.out⟩
          case measure => simp [intOf]; omega
        | false =>
          have HN := Lib.hid (num_no (s := s) (w := w) (HB.out.trans (all_not hlt' (by rw [hgk]; exact hp))))
          have HP := Lib.hid hp; clear hp hgk
          go_wp2_with (go_at_call 206; refine (digit_f _ _ HP.out).mono ?_; rintro e w' ⟨rfl, rfl⟩)
          go_ret2
          exact HN.out
      · have hall : s.data.toList.take k = s.data.toList := List.take_of_length_le (by rw [Array.length_toList]; show s.size ≤ k; omega)
        have hY := num_yes (s := s) (w := w) (HB.out.trans (by rw [← hall]; exact HA.out))
        rw [← hall] at hY
        have HY : Hid (NumPost s w (.returned (.tuple #[.int .i64 (numVal (s.data.toList.take k)), .bool true])) w) := by
          show NumPost _ _ _ _
          rw [hall]; rw [hall] at hY; exact hY
        clear hY hall
        go_wp2
        go_ret2
        exact HY.out

end Go.Proofs.YtbngoodjgijmgaaGreatDoor
