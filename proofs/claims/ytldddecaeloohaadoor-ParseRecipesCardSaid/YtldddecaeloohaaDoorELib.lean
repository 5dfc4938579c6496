/-
  What the library's strings.TrimRight, TrimSuffix, HasPrefix and Cut answer at chapter 8's signs, and what cutGoOn answers, for every text. No condition.
-/
import Derived.Shelf.Strings.Search2
import Derived.Shelf.Strings.Prefix
import Derived.Shelf.Strings.SlTrimAscii
import Derived.Deep.QuietTactic
import Derived.Test.YtldddecaeloohaaDoorETrim
import Derived.Test.YtldddecaeloohaaDoorEJ
namespace Go.Proofs.YtldddecaeloohaaDoor
open Go.Shelf Go.RowKit

def lays162_ren : Go.Shelf.Ren := ⟨fun | 119 => 104 | 120 => 100 | 137 => 101 | 151 => 89 | 152 => 99 | 162 => 63 | 197 => 88 | 217 => 83 | 224 => 85 | 225 => 84 | 227 => 69 | 228 => 87 | 232 => 68 | 234 => 71 | 236 => 73 | 260 => 98 | 266 => 96 | 271 => 90 | n => n, fun | 0 => 0 | 3 => 3 | 4 => 4 | 5 => 5 | 9 => 9 | 21 => 21 | 46 => 115 | 105 => 116 | 116 => 98 | 117 => 99 | 119 => 127 | 124 => 102 | 138 => 129 | 139 => 130 | n => n, fun | 3 => 1 | 4 => 2 | n => n⟩
theorem lays162 : Go.Proofs.Lays.n162 Tryd.prog lays162_ren := {
  mixed := by kernel_rfl
  f119 := Tryd.func104.trans (congrArg some (by kernel_rfl))
  f120 := Tryd.func100.trans (congrArg some (by kernel_rfl))
  f137 := Tryd.func101.trans (congrArg some (by kernel_rfl))
  f151 := Tryd.func89.trans (congrArg some (by kernel_rfl))
  f152 := Tryd.func99.trans (congrArg some (by kernel_rfl))
  f162 := Tryd.func63.trans (congrArg some (by kernel_rfl))
  f197 := Tryd.func88.trans (congrArg some (by kernel_rfl))
  f217 := Tryd.func83.trans (congrArg some (by kernel_rfl))
  f224 := Tryd.func85.trans (congrArg some (by kernel_rfl))
  f225 := Tryd.func84.trans (congrArg some (by kernel_rfl))
  f227 := Tryd.func69.trans (congrArg some (by kernel_rfl))
  f228 := Tryd.func87.trans (congrArg some (by kernel_rfl))
  f232 := Tryd.func68.trans (congrArg some (by kernel_rfl))
  f234 := Tryd.func71.trans (congrArg some (by kernel_rfl))
  f236 := Tryd.func73.trans (congrArg some (by kernel_rfl))
  f260 := Tryd.func98.trans (congrArg some (by kernel_rfl))
  f266 := Tryd.func96.trans (congrArg some (by kernel_rfl))
  f271 := Tryd.func90.trans (congrArg some (by kernel_rfl))
  t0 := Tryd.underlying0
  a0 := Tryd.isAgg0
  z0 := Tryd.sizeOf0
  v0 := Tryd.zeroValue0
  t3 := Tryd.underlying3
  a3 := Tryd.isAgg3
  z3 := Tryd.sizeOf3
  v3 := Tryd.zeroValue3
  t4 := Tryd.underlying4
  a4 := Tryd.isAgg4
  z4 := Tryd.sizeOf4
  v4 := Tryd.zeroValue4
  t5 := Tryd.underlying5
  a5 := Tryd.isAgg5
  z5 := Tryd.sizeOf5
  v5 := Tryd.zeroValue5
  t9 := Tryd.underlying9
  a9 := Tryd.isAgg9
  z9 := Tryd.sizeOf9
  v9 := Tryd.zeroValue9
  t21 := Tryd.underlying21
  a21 := Tryd.isAgg21
  z21 := Tryd.sizeOf21
  v21 := Tryd.zeroValue21
  t46 := Tryd.underlying115
  a46 := Tryd.isAgg115
  z46 := Tryd.sizeOf115
  v46 := Tryd.zeroValue115
  t105 := Tryd.underlying116
  a105 := Tryd.isAgg116
  z105 := Tryd.sizeOf116
  v105 := Tryd.zeroValue116
  t116 := Tryd.underlying98
  a116 := Tryd.isAgg98
  z116 := Tryd.sizeOf98
  t117 := Tryd.underlying99
  a117 := Tryd.isAgg99
  z117 := Tryd.sizeOf99
  v117 := Tryd.zeroValue99
  t119 := Tryd.underlying127
  a119 := Tryd.isAgg127
  z119 := Tryd.sizeOf127
  t124 := Tryd.underlying102
  a124 := Tryd.isAgg102
  z124 := Tryd.sizeOf102
  v124 := Tryd.zeroValue102
  t138 := Tryd.underlying129
  a138 := Tryd.isAgg129
  z138 := Tryd.sizeOf129
  v138 := Tryd.zeroValue129
  t139 := Tryd.underlying130
  a139 := Tryd.isAgg130
  z139 := Tryd.sizeOf130
  v139 := Tryd.zeroValue130
  g3 := by kernel_rfl
  g4 := by kernel_rfl }
def lays102_ren : Go.Shelf.Ren := ⟨fun | 102 => 64 | 207 => 93 | 209 => 79 | n => n, fun | 3 => 3 | 4 => 4 | 9 => 9 | n => n, fun | n => n⟩
theorem lays102 : Go.Proofs.Lays.n102 Tryd.prog lays102_ren := {
  mixed := by kernel_rfl
  f102 := Tryd.func64.trans (congrArg some (by kernel_rfl))
  f207 := Tryd.func93.trans (congrArg some (by kernel_rfl))
  f209 := Tryd.func79.trans (congrArg some (by kernel_rfl))
  t3 := Tryd.underlying3
  a3 := Tryd.isAgg3
  z3 := Tryd.sizeOf3
  v3 := Tryd.zeroValue3
  t4 := Tryd.underlying4
  a4 := Tryd.isAgg4
  z4 := Tryd.sizeOf4
  v4 := Tryd.zeroValue4
  t9 := Tryd.underlying9
  a9 := Tryd.isAgg9
  z9 := Tryd.sizeOf9
  v9 := Tryd.zeroValue9 }
def lays99_ren : Go.Shelf.Ren := ⟨fun | 99 => 42 | 206 => 55 | n => n, fun | 3 => 3 | 4 => 4 | 9 => 9 | n => n, fun | n => n⟩
theorem lays99 : Go.Proofs.Lays.n99 Tryd.prog lays99_ren := {
  mixed := by kernel_rfl
  f99 := Tryd.func42.trans (congrArg some (by kernel_rfl))
  f206 := Tryd.func55.trans (congrArg some (by kernel_rfl))
  t3 := Tryd.underlying3
  a3 := Tryd.isAgg3
  z3 := Tryd.sizeOf3
  v3 := Tryd.zeroValue3
  t4 := Tryd.underlying4
  a4 := Tryd.isAgg4
  z4 := Tryd.sizeOf4
  v4 := Tryd.zeroValue4
  t9 := Tryd.underlying9
  a9 := Tryd.isAgg9
  z9 := Tryd.sizeOf9
  v9 := Tryd.zeroValue9 }
def lays219_ren : Go.Shelf.Ren := ⟨fun | 217 => 83 | 219 => 66 | 224 => 85 | 225 => 84 | 266 => 96 | 267 => 86 | 314 => 97 | n => n, fun | 3 => 3 | 4 => 4 | 5 => 5 | 9 => 9 | 46 => 115 | 51 => 120 | 146 => 121 | n => n, fun | 1 => 0 | n => n⟩
theorem lays219 : Go.Proofs.Lays.n219 Tryd.prog lays219_ren := {
  mixed := by kernel_rfl
  f217 := Tryd.func83.trans (congrArg some (by kernel_rfl))
  f219 := Tryd.func66.trans (congrArg some (by kernel_rfl))
  f224 := Tryd.func85.trans (congrArg some (by kernel_rfl))
  f225 := Tryd.func84.trans (congrArg some (by kernel_rfl))
  f266 := Tryd.func96.trans (congrArg some (by kernel_rfl))
  f267 := Tryd.func86.trans (congrArg some (by kernel_rfl))
  f314 := Tryd.func97.trans (congrArg some (by kernel_rfl))
  t3 := Tryd.underlying3
  a3 := Tryd.isAgg3
  z3 := Tryd.sizeOf3
  v3 := Tryd.zeroValue3
  t4 := Tryd.underlying4
  a4 := Tryd.isAgg4
  z4 := Tryd.sizeOf4
  v4 := Tryd.zeroValue4
  t5 := Tryd.underlying5
  a5 := Tryd.isAgg5
  z5 := Tryd.sizeOf5
  v5 := Tryd.zeroValue5
  t9 := Tryd.underlying9
  a9 := Tryd.isAgg9
  z9 := Tryd.sizeOf9
  v9 := Tryd.zeroValue9
  t46 := Tryd.underlying115
  a46 := Tryd.isAgg115
  z46 := Tryd.sizeOf115
  v46 := Tryd.zeroValue115
  t51 := Tryd.underlying120
  a51 := Tryd.isAgg120
  z51 := Tryd.sizeOf120
  v51 := Tryd.zeroValue120
  t146 := Tryd.underlying121
  a146 := Tryd.isAgg121
  z146 := Tryd.sizeOf121
  v146 := Tryd.zeroValue121
  g1 := by kernel_rfl }

/-! ### plain words -/
theorem contains_stroke (c : UInt8) : ([92] : List UInt8).contains c = strokeB c := by
  by_cases h : c = 92
  · subst h; rfl
  · have e : c.toNat ≠ 92 := fun q => h (UInt8.toNat_inj.1 (by rw [q]; rfl))
    simp [strokeB, h, e]
theorem trimR_len (l : BS) : (Lib.trimRightS l [92]).length + strokes l = l.length := by
  have e : (fun c => ([92] : List UInt8).contains c) = strokeB := funext contains_stroke
  unfold Lib.trimRightS strokes
  rw [e, List.length_reverse]
  have := congrArg List.length (List.takeWhile_append_dropWhile (p := strokeB) (l := l.reverse))
  rw [List.length_append, List.length_reverse] at this
  omega
theorem suffix_odd {l : BS} (h : oddB l = true) : Lib.trimSuffix l [92] = l.dropLast := by
  obtain ⟨u, rfl⟩ := odd_last h
  unfold Lib.trimSuffix Lib.hasSuffix
  rw [if_pos (by rw [List.isSuffixOf_iff_suffix]; exact List.suffix_append _ _), List.dropLast_concat]
  simp
theorem prefix_tab (l : BS) : Lib.hasPrefix l [9] = tabL l := by
  cases l with
  | nil => rfl
  | cons c r =>
    show ([9] : List UInt8).isPrefixOf (c :: r) = ((c :: r).head? == some 9)
    by_cases h : c = 9
    · subst h; simp [List.isPrefixOf]
    · have h' : (9 == c) = false := by simpa using fun e : 9 = c => h e.symm
      have h2 : (c == 9) = false := by simpa using h
      simp [List.isPrefixOf, h', h2]
theorem index_bare : ∀ l : BS, (Lib.indexByte l 35 = -1 ∧ bareL l = l) ∨ (Lib.indexByte l 35 = ((bareL l).length : Nat) ∧ (bareL l).length < l.length ∧ l.take (bareL l).length = bareL l)
  | [] => .inl ⟨rfl, rfl⟩
  | c :: r => by
    rw [bare_cons]
    unfold Lib.indexByte
    by_cases h : c = 35
    · subst h; right; simp
    · rw [if_neg (by simpa using h), if_neg h]
      rcases index_bare r with ⟨h1, h2⟩ | ⟨h1, h2, h3⟩
      · left; rw [h1, h2]; exact ⟨rfl, rfl⟩
      · right
        rw [h1, if_neg (by simp)]
        refine ⟨by simp, by simpa using h2, ?_⟩
        rw [List.length_cons, List.take_succ_cons, h3]

/-! ### the library's -/
theorem trimRight_any (s : ByteArray) (hs : s.size ≤ maxLen) (w : World) : Calls Tryd.prog 63 #[.string s, .string ⟨#[92]⟩] w fun e w' => (∃ t : ByteArray, e = .returned (.string t) ∧ t.size + strokes s.data.toList = s.size) ∧ Below w.heap.size w w' := by
  unfold maxLen at hs
  refine (Any.strings_TrimRight_laid lays162 (by kernel_rfl) s ⟨#[92]⟩ w (by omega) (by decide) (ascii_of_all (by decide))).mono ?_
  rintro e w' ⟨rfl, hb⟩
  refine ⟨⟨_, rfl, ?_⟩, hb⟩
  have := trimR_len s.data.toList
  rw [size_list] at this
  rw [← this]
  show (Lib.trimRightS s.data.toList [92]).toArray.size + _ = _
  rw [List.size_toArray]
theorem trimSuffix_odd (s : ByteArray) (hs : s.size ≤ maxLen) (h : oddB s.data.toList = true) (w : World) : Calls Tryd.prog 64 #[.string s, .string ⟨#[92]⟩] w fun e w' => e = .returned (.string (txt s.data.toList.dropLast)) ∧ w' = w := by
  unfold maxLen at hs
  have := Any.strings_TrimSuffix lays102 s ⟨#[92]⟩ w (by omega)
  rw [show (ByteArray.mk #[92]).data.toList = [92] from rfl, suffix_odd h] at this
  exact this
theorem hasPrefix_tab (s : ByteArray) (w : World) : Calls Tryd.prog 42 #[.string s, .string ⟨#[9]⟩] w fun e w' => e = .returned (.bool (tabL s.data.toList)) ∧ w' = w := by
  have := Any.strings_HasPrefix lays99 s ⟨#[9]⟩ w
  rw [show (ByteArray.mk #[9]).data.toList = [9] from rfl, prefix_tab] at this
  exact this
theorem index_one (s : ByteArray) (i : Int) (h : Lib.indexByte s.data.toList 35 = i) (w : World) : Calls Tryd.prog 66 #[.string s, .string ⟨#[35]⟩] w fun e w' => e = .returned (.int .i64 i) ∧ w' = w := by
  have := Any.stringslite_Index_one lays219 s 35 w
  rw [h] at this
  exact this
theorem drewN_below (B : Nat) (w : World) (n : Nat) : Below B w (w.drewN n) := ⟨(Below.refl B w).os, (Below.refl B w).tape, (Below.refl B w).output, (Below.refl B w).size, (Below.refl B w).block⟩
def CutPost (l : BS) (w : World) (e : Ending) (w' : World) : Prop := (∃ r b, e = .returned (.tuple #[.string (txt l), .string r, .bool b])) ∧ Below w.heap.size w w'

set_option maxRecDepth 100000 in
set_option maxHeartbeats 1000000 in
theorem cutlite_any (s : ByteArray) (hs : s.size ≤ maxLen) (w : World) : Calls Tryd.prog 56 #[.string s, .string ⟨#[35]⟩] w (CutPost (bareL s.data.toList) w) := by
  unfold maxLen at hs
  rcases index_bare s.data.toList with ⟨h1, h2⟩ | ⟨h1, h2, h3⟩
  · have HI := Lib.hid (index_one s _ h1)
    have HE : Hid (txt (bareL s.data.toList) = s) := by show _ = _; rw [h2, txt_toList]
    clear h1 h2
    go_enter Tryd.func56, Tryd.ntmps56
    go_wp2_with (go_at_call 66; refine (HI.out _).mono ?_; rintro e w' ⟨rfl, rfl⟩)
    go_ret3
    exact ⟨⟨_, _, by rw [HE.out]; rfl⟩, Below.refl _ _⟩
  · have HI := Lib.hid (index_one s _ h1)
    rw [size_list] at h2
    have HA : Hid (s.extract 0 (bareL s.data.toList).length = txt (bareL s.data.toList)) := by show _ = _; rw [extract_txt]; simp [h3]
    clear h1 h3
    generalize hn : (bareL s.data.toList).length = n at h2 HI HA
    have q1 : n ≤ s.size := by omega
    have q2 : n + 1 ≤ s.size := by omega
    clear hn h2
    go_enter Tryd.func56, Tryd.ntmps56
    go_wp2_with (go_at_call 66; refine (HI.out _).mono ?_; rintro e w' ⟨rfl, rfl⟩)
    go_quiet (fail)
    go_wp2
    go_ret3
    exact ⟨⟨_, _, by rw [← HA.out]; rfl⟩, drewN_below _ _ _⟩

set_option maxRecDepth 100000 in
set_option maxHeartbeats 1000000 in
theorem cut_any (s : ByteArray) (hs : s.size ≤ maxLen) (w : World) : Calls Tryd.prog 43 #[.string s, .string ⟨#[35]⟩] w (CutPost (bareL s.data.toList) w) := by
  have HC := Lib.hid (cutlite_any s hs)
  clear hs
  go_enter Tryd.func43, Tryd.ntmps43
  go_wp2_with (go_at_call 56; refine (HC.out _).mono ?_; rintro e w' ⟨⟨r, b, rfl⟩, hb⟩)
  go_ret3
  exact ⟨⟨_, _, rfl⟩, hb⟩

/-! ### cutGoOn -/
def GoOnPost (l : BS) (w : World) (e : Ending) (w' : World) : Prop := e = .returned (.tuple #[.string (txt (coreL l)), .bool (oddB l)]) ∧ Below w.heap.size w w'
set_option maxRecDepth 100000 in
set_option maxHeartbeats 1000000 in
theorem goOn_any (s : ByteArray) (hs : s.size ≤ maxLen) (w : World) : Calls Tryd.prog 53 #[.string s] w (GoOnPost s.data.toList w) := by
  cases ho : oddB s.data.toList with
  | false =>
    have HE : Hid (txt (coreL s.data.toList) = s ∧ oddB s.data.toList = false) := ⟨by rw [core_even ho, txt_toList], ho⟩
    have HR := Lib.hid (trimRight_any s hs w)
    have hk : strokes s.data.toList % 2 = 0 := by
      unfold oddB at ho
      simp at ho; omega
    unfold maxLen at hs
    generalize strokes s.data.toList = k at HR hk
    clear ho
    go_enter Tryd.func53, Tryd.ntmps53
    go_wp2_with fail
    refine HR.out.mono ?_
    rintro e w1 ⟨⟨t, rfl, ht⟩, hb⟩
    have e1 : (s.size : Int) - (t.size : Int) = (k : Nat) := by omega
    have e2 : Int.tmod (k : Nat) 2 = 0 := (Int.ofNat_tmod k 2).symm.trans (by rw [hk]; rfl)
    go_wp2_with fail
    go_ret2
    exact ⟨by rw [HE.out.1, HE.out.2]; rfl, hb⟩
  | true =>
    have HR := Lib.hid (trimRight_any s hs w)
    have HS := Lib.hid (fun w => trimSuffix_odd s hs ho w)
    have HE : Hid (coreL s.data.toList = s.data.toList.dropLast ∧ oddB s.data.toList = true) := ⟨core_odd ho, ho⟩
    have hk : strokes s.data.toList % 2 = 1 := by
      unfold oddB at ho
      simpa using ho
    unfold maxLen at hs
    generalize strokes s.data.toList = k at HR hk
    clear ho
    go_enter Tryd.func53, Tryd.ntmps53
    go_wp2_with fail
    refine HR.out.mono ?_
    rintro e w1 ⟨⟨t, rfl, ht⟩, hb⟩
    have e1 : (s.size : Int) - (t.size : Int) = (k : Nat) := by omega
    have e2 : Int.tmod (k : Nat) 2 = 1 := (Int.ofNat_tmod k 2).symm.trans (by rw [hk]; rfl)
    go_wp2_with fail
    refine (HS.out w1).mono ?_
    rintro e w2 ⟨rfl, rfl⟩
    go_wp2_with fail
    go_ret2
    exact ⟨by rw [HE.out.1, HE.out.2]; rfl, hb⟩

end Go.Proofs.YtldddecaeloohaaDoor
