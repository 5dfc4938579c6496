/-
  What Take answers, for every text.
-/
import Derived.Deep.QuietTactic
import Derived.BigQuiet
import Derived.Test.YtllkibdpjpdbbaaDoorLUnqAll
namespace Go.Proofs.YtllkibdpjpdbbaaDoor
open Go.RowKit Go.Shelf


theorem unquoteAll_any (s : ByteArray) (hs : s.size ≤ 13000) (w : World) : Calls Tryd.prog 31 #[.string s] w (AllPost s.data.toList w) := by
  by_cases h : s.data.toList.getLast? = some 32
  · exact unquoteAll_yes s hs h w
  · exact unquoteAll_no s (by unfold maxLen; omega) h w

theorem ownsRow_from {W : World} {base base' : Nat} {e : TypeId} {size : Nat} {v : Value} {n : Nat} {xs : List Value} (h : W.ownsRow base e size v n xs) (hb : base' ≤ base) : W.ownsRow base' e size v n xs := by
  refine ⟨h.1, ?_⟩
  rcases h.2 with hn | ⟨g, cap, cur, rfl, h1, rest⟩
  · exact .inl hn
  · exact .inr ⟨g, cap, cur, rfl, by omega, rest⟩

/-- What Take answers beside an error, and which one. -/
def TakeErr (l : List UInt8) (c : Int) : Prop := (takeOf l = .short ∧ c = 14) ∨ (takeOf l = .form ∧ c = 2) ∨ (takeOf l = .sum ∧ c = 13)
def TakePost (l : List UInt8) (w : World) (e : Ending) (w' : World) : Prop := Below w.heap.size w w' ∧
  ((∃ c, TakeErr l c ∧ e = .returned (.tuple #[.slice none 0 0, .string ⟨#[]⟩, .int .i64 c])) ∨
   ∃ xs r v, takeOf l = .ok xs r ∧ e = .returned (.tuple #[v, .string (txt r), .int .i64 0]) ∧ w'.ownsRow w.heap.size 9 1 v xs.length ((xs.map txt).map Value.string))

theorem take_short {l : List UInt8} (h : (headOf l).length = l.length) : takeOf l = .short := by unfold takeOf; rw [if_pos h]
theorem take_bad {l : List UInt8} (h : (headOf l).length ≠ l.length) (hb : BadHead (headOf l)) : takeOf l = .form := by unfold BadHead at hb; unfold takeOf; rw [if_neg h, if_pos hb]
theorem take_noform {l : List UInt8} (h : (headOf l).length ≠ l.length) (hb : ¬ BadHead (headOf l)) (hf : formOf ((headOf l).take ((headOf l).length - 8)) = none) : takeOf l = .form := by
  unfold BadHead at hb; unfold takeOf; rw [if_neg h, if_neg hb, hf]
theorem take_form {l : List UInt8} {xs : List (List UInt8)} (h : (headOf l).length ≠ l.length) (hb : ¬ BadHead (headOf l)) (hf : formOf ((headOf l).take ((headOf l).length - 8)) = some xs) :
    takeOf l = if sealOf ((headOf l).take ((headOf l).length - 8)) = (headOf l).drop ((headOf l).length - 8) then .ok xs (l.drop ((headOf l).length + 1)) else .sum := by
  unfold BadHead at hb; unfold takeOf; rw [if_neg h, if_neg hb, hf]

set_option maxRecDepth 100000 in
set_option maxHeartbeats 2000000 in
theorem take_any (s : ByteArray) (hs : s.size ≤ maxLen) (w : World) : Calls Tryd.prog 14 #[.string s] w (TakePost s.data.toList w) := by
  have hsl := size_list s
  by_cases h : (headOf s.data.toList).length = s.size
  · have HC := Lib.hid (cut_no s h)
    have HT : Hid (takeOf s.data.toList = .short) := take_short (by rw [hsl]; exact h)
    clear h hs hsl
    go_enter Tryd.func14, Tryd.ntmps14
    go_wp2_with fail
    refine (HC.out _).mono ?_
    rintro e w1 ⟨rfl, m, rfl⟩
    go_wp2_with fail
    go_ret3
    exact ⟨below_drewN (Below.refl _ _) m, .inl ⟨14, .inl ⟨HT.out, rfl⟩, rfl⟩⟩
  have hl := head_le s.data.toList
  rw [hsl] at hl
  have HC := Lib.hid (cut_yes s hs h)
  have hn : (headOf s.data.toList).length ≠ s.data.toList.length := by rw [hsl]; exact h
  by_cases hb : BadHead (headOf s.data.toList)
  · have HS := Lib.hid (cutSum_bad (txt (headOf s.data.toList)) (by rw [txt_size]; unfold maxLen at hs ⊢; omega) (by rw [txt_data]; exact hb))
    have HT : Hid (takeOf s.data.toList = .form) := take_bad hn hb
    generalize txt (headOf s.data.toList) = hd at HC HS
    generalize txt (s.data.toList.drop ((headOf s.data.toList).length + 1)) = tl at HC
    clear hb hn hl h hs hsl
    go_enter Tryd.func14, Tryd.ntmps14
    go_wp2_with fail
    refine (HC.out _).mono ?_
    rintro e w1 ⟨rfl, m, rfl⟩
    go_wp2_with fail
    refine (HS.out _).mono ?_
    rintro e w2 ⟨rfl, hb2⟩
    go_wp2_with fail
    go_ret3
    exact ⟨(below_drewN (Below.refl _ _) m).trans hb2, .inl ⟨2, .inr (.inl ⟨HT.out, rfl⟩), rfl⟩⟩
  have hgood := cutSum_good (txt (headOf s.data.toList)) (by rw [txt_data]; exact hb)
  rw [txt_data] at hgood
  have h13 : (headOf s.data.toList).length < 13000 := by
    unfold BadHead at hb
    exact Nat.lt_of_not_le fun x => hb (.inr (.inl x))
  have hua := unquoteAll_any (txt ((headOf s.data.toList).take ((headOf s.data.toList).length - 8))) (by rw [txt_size, List.length_take]; omega)
  have hse := seal_any (txt ((headOf s.data.toList).take ((headOf s.data.toList).length - 8))) (by rw [txt_size, List.length_take]; unfold maxLen; omega)
  rw [txt_data] at hua hse
  have hqe : (!(txt ((headOf s.data.toList).drop ((headOf s.data.toList).length - 8))).toList == (txt (sealOf ((headOf s.data.toList).take ((headOf s.data.toList).length - 8)))).toList) = !decide (sealOf ((headOf s.data.toList).take ((headOf s.data.toList).length - 8)) = (headOf s.data.toList).drop ((headOf s.data.toList).length - 8)) := by
    rw [str_eq]
    congr 1
    rw [decide_eq_decide]
    exact ⟨fun e => (txt_inj e).symm, fun e => by rw [e]⟩
  have hnf := fun (hf : formOf ((headOf s.data.toList).take ((headOf s.data.toList).length - 8)) = none) => take_noform hn hb hf
  have hsf := fun xs (hf : formOf ((headOf s.data.toList).take ((headOf s.data.toList).length - 8)) = some xs) => take_form hn hb hf
  have HG := Lib.hid hgood
  have HU := Lib.hid hua
  have HS := Lib.hid hse
  have HQ := Lib.hid hqe
  have HNF := Lib.hid hnf
  have HSF := Lib.hid hsf
  clear hgood hua hse hqe hnf hsf h13 hb hn hl h hs hsl
  have hqs : (sealOf ((headOf s.data.toList).take ((headOf s.data.toList).length - 8)) = (headOf s.data.toList).drop ((headOf s.data.toList).length - 8)) ∨ ¬ (sealOf ((headOf s.data.toList).take ((headOf s.data.toList).length - 8)) = (headOf s.data.toList).drop ((headOf s.data.toList).length - 8)) := Classical.em _
  generalize txt (headOf s.data.toList) = hd at HC HG
  generalize txt ((headOf s.data.toList).drop ((headOf s.data.toList).length - 8)) = td at HG HQ
  generalize txt ((headOf s.data.toList).take ((headOf s.data.toList).length - 8)) = tb at HG HU HS
  generalize txt (sealOf ((headOf s.data.toList).take ((headOf s.data.toList).length - 8))) = ts at HS HQ
  obtain ⟨tr, htr⟩ : ∃ tr, tr = s.data.toList.drop ((headOf s.data.toList).length + 1) := ⟨_, rfl⟩
  rw [← htr] at HC HSF
  clear htr
  go_enter Tryd.func14, Tryd.ntmps14
  go_wp2_with fail
  refine (HC.out _).mono ?_
  rintro e w1 ⟨rfl, m, rfl⟩
  have hb1 : Below w.heap.size w (w.drewN m) := below_drewN (Below.refl _ _) m
  go_wp2_with fail
  refine (HG.out _).mono ?_
  rintro e w2 ⟨rfl, hb2⟩
  have hb3 := hb1.trans hb2
  clear hb2 HC HG
  go_wp2_with fail
  refine (HU.out _).mono ?_
  rintro e w3 ⟨hb4, (⟨hf, rfl⟩ | ⟨xs, v, hf, rfl, hown⟩)⟩
  · have HT := Lib.hid (HNF.out hf)
    have hb5 := below2 hb3 hb4
    clear HNF HSF HU hf hb4 hb3 hqs
    go_wp2_with fail
    go_ret3
    exact ⟨hb5, .inl ⟨2, .inr (.inl ⟨HT.out, rfl⟩), rfl⟩⟩
  · have HT := Lib.hid (HSF.out xs hf)
    have hb5 := below2 hb3 hb4
    clear HNF HSF HU hf
    rcases hqs with hq | hq
    · have HT2 : Hid (takeOf s.data.toList = .ok xs tr) := by show _ = _; rw [HT.out, if_pos hq]
      have e1 : (!td.toList == ts.toList) = false := by rw [HQ.out, decide_eq_true hq]; rfl
      clear hq HQ HT
      go_wp2_with fail
      refine (HS.out _).mono ?_
      rintro e w4 ⟨rfl, hb6⟩
      have hown2 := (turned_of_below (X := fun _ => False) hb6).ownsRow hown (fun _ _ h => h)
      rw [show w2.heap.size = w2.heap.size from rfl] at hown2
      go_wp2_with fail
      go_ret3
      refine ⟨below2 hb5 hb6, .inr ⟨xs, tr, v, HT2.out, rfl, ?_⟩⟩
      exact ownsRow_from hown2 hb3.size
    · have HT2 : Hid (takeOf s.data.toList = .sum) := by show _ = _; rw [HT.out, if_neg hq]
      have e1 : (!td.toList == ts.toList) = true := by rw [HQ.out, decide_eq_false hq]; rfl
      clear hq HQ HT hown
      go_wp2_with fail
      refine (HS.out _).mono ?_
      rintro e w4 ⟨rfl, hb6⟩
      go_wp2_with fail
      go_ret3
      exact ⟨below2 hb5 hb6, .inl ⟨13, .inr (.inr ⟨HT2.out, rfl⟩), rfl⟩⟩

end Go.Proofs.YtllkibdpjpdbbaaDoor
