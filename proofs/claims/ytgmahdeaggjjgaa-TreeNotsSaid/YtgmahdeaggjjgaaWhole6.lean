/-
  tree.whole: HAS A FILTER, WHATEVER ITS KIDS ARE, THE PARTS OF ITS KIND?
-/
import Derived.Test.YtgmahdeaggjjgaaOwnName
import Derived.Test.YtgmahdeaggjjgaaNodes6
namespace Go.Proofs.Ytgmahdeaggjjgaa
open Go.RowKit Go

/-- Has it the parts of its kind? -/
def Ft.whole (o : Int) (n t : ByteArray) (k : Nat) : Bool :=
  if o = 1 ∨ o = 2 then decide (n = ⟨#[]⟩) && decide (t = ⟨#[]⟩) && decide (k = 0)
  else if o = 3 ∨ o = 4 then decide (n = ⟨#[]⟩) && decide (k = 0)
  else if o = 5 then MW.name n.data.toList && decide (k = 0)
  else if o = 6 then decide (n = ⟨#[]⟩) && decide (t = ⟨#[]⟩) && decide (k = 1)
  else if o = 7 ∨ o = 8 then decide (n = ⟨#[]⟩) && decide (t = ⟨#[]⟩) && decide (2 ≤ k)
  else false

theorem Ft.rowOK_whole (r : Ft.Row) : Ft.rowOK r = (decide (r.deep ≤ 18) && Ft.whole r.op r.name r.text r.kids) := by
  obtain ⟨o, n, t, k, d⟩ := r
  unfold Ft.rowOK Ft.whole Ft.kidsOK
  simp only
  by_cases ho : 1 ≤ o ∧ o ≤ 8
  · have ho8 : o = 1 ∨ o = 2 ∨ o = 3 ∨ o = 4 ∨ o = 5 ∨ o = 6 ∨ o = 7 ∨ o = 8 := by omega
    rcases ho8 with rfl | rfl | rfl | rfl | rfl | rfl | rfl | rfl <;> simp <;> grind
  · have h1 : ¬ (o = 1 ∨ o = 2) := by omega
    have h2 : ¬ (o = 3 ∨ o = 4) := by omega
    have h3 : ¬ (o = 5) := by omega
    have h4 : ¬ (o = 6) := by omega
    have h5 : ¬ (o = 7 ∨ o = 8) := by omega
    simp only [decide_eq_false ho, h1, h2, h3, h4, h5, ↓reduceIte, Bool.false_and, Bool.and_false]

theorem str_cases (s : ByteArray) : (¬ s = ⟨#[]⟩ ∧ s.toList.isEmpty = false) ∨ (s = ⟨#[]⟩ ∧ s.toList.isEmpty = true) := by
  by_cases e : s = ⟨#[]⟩
  · exact .inr ⟨e, by rw [e, Lib.toList_data]; rfl⟩
  · refine .inl ⟨e, ?_⟩
    rw [Bool.eq_false_iff]
    intro h
    exact e (toList_inj _ _ (by rw [List.isEmpty_iff.1 h, Lib.toList_data]))

set_option maxHeartbeats 4000000 in
set_option maxRecDepth 100000 in
theorem whole_any (o : Int) (nm t : ByteArray) (a : Option Addr) (k c : Nat) (hk63 : k ≤ 9223372036854775807) (w : World) :
    Calls Try.prog 29 #[.agg #[.int .i64 o, .string nm, .string t, .slice a k c]] w fun e w' => e = .returned (.bool (Ft.whole o nm t k)) ∧ Lay w w' := by
  obtain ⟨b, hb⟩ : ∃ b, MW.name nm.data.toList = b := ⟨_, rfl⟩
  have HN := Lib.hid (own_name_any nm)
  rw [hb] at HN
  have hal : Lay w (w.alloc (.cells #[.int .i64 o, .string nm, .string t, .slice a k c] 26)) := (Keep.refl _ _).alloc _
  have HAL := Lib.hid hal
  clear hal
  have E0 : Hid (((k : Int) == 0) = decide (k = 0)) := Lib.hid (by rw [Bool.eq_iff_iff]; simp; try omega)
  have E1 : Hid (((k : Int) == 1) = decide (k = 1)) := Lib.hid (by rw [Bool.eq_iff_iff]; simp; try omega)
  have E2 : Hid (decide (2 ≤ (k : Int)) = decide (2 ≤ k)) := Lib.hid (by rw [Bool.eq_iff_iff]; simp; try omega)
  by_cases ho5 : o = 5
  · subst ho5
    have HB := Lib.hid hb
    clear hb
    cases b
    all_goals
      rcases str_cases nm with ⟨hn, hn2⟩ | ⟨hn, hn2⟩
      all_goals
        clear hn
        go_enter Try.func29, Try.ntmps29
        go_wp2_with (go_at_call 36; refine (HN.out _).mono ?_; rintro e w' ⟨rfl, hl⟩)
        go_ret
        refine ⟨ret_bool ?_, Keep.trans HAL.out hl⟩
        simp [Ft.whole, HB.out, E0.out]
  by_cases ho : 1 ≤ o ∧ o ≤ 8
  · have ho8 : o = 1 ∨ o = 2 ∨ o = 3 ∨ o = 4 ∨ o = 6 ∨ o = 7 ∨ o = 8 := by omega
    clear ho hb
    rcases str_cases nm with ⟨hn, hn2⟩ | ⟨hn, hn2⟩
    · have HNM := Lib.hid hn
      clear hn
      rcases ho8 with rfl | rfl | rfl | rfl | rfl | rfl | rfl
      all_goals
        go_enter Try.func29, Try.ntmps29
        go_wp2_with fail
        go_ret
        refine ⟨ret_bool ?_, HAL.out⟩
        simp [Ft.whole, HNM.out]
    · have HNM := Lib.hid hn
      clear hn
      rcases str_cases t with ⟨ht, ht2⟩ | ⟨ht, ht2⟩
      all_goals
        have HT := Lib.hid ht
        clear ht
        rcases ho8 with rfl | rfl | rfl | rfl | rfl | rfl | rfl
        all_goals
          go_enter Try.func29, Try.ntmps29
          go_wp2_with fail
          go_ret
          refine ⟨ret_bool ?_, HAL.out⟩
          simp [Ft.whole, HNM.out, HT.out, E0.out, E1.out, E2.out]
  · have h1 : (o == 1) = false := by simp; omega
    have h2 : (o == 2) = false := by simp; omega
    have h3 : (o == 3) = false := by simp; omega
    have h4 : (o == 4) = false := by simp; omega
    have h5 : (o == 5) = false := by simp; omega
    have h6 : (o == 6) = false := by simp; omega
    have h7 : (o == 7) = false := by simp; omega
    have h8 : (o == 8) = false := by simp; omega
    have HW : Hid (Ft.whole o nm t k = false) := Lib.hid (by
      unfold Ft.whole
      rw [if_neg (by omega), if_neg (by omega), if_neg (by omega), if_neg (by omega), if_neg (by omega)])
    clear ho hb
    rcases str_cases nm with ⟨hn, hn2⟩ | ⟨hn, hn2⟩
    all_goals
      clear hn
      go_enter Try.func29, Try.ntmps29
      go_wp2_with fail
      go_ret
      exact ⟨ret_bool HW.out.symm, HAL.out⟩

end Go.Proofs.Ytgmahdeaggjjgaa
