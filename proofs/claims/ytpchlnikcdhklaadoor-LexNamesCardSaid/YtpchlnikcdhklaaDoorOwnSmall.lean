/-
  PACKAGE lex: special, letter, step; IsWord.
-/
import Derived.Test.YtpchlnikcdhklaaDoorOwnName
import Derived.Test.YtpchlnikcdhklaaDoorRefSmall
import Derived.Test.YtpchlnikcdhklaaDoorRuneFn
import Derived.OwnWalk
namespace Go.Proofs.YtpchlnikcdhklaaDoor
open Go.RowKit Go

def spec (c : Nat) : Bool := decide (c = 34) || decide (c = 92)

theorem spec_iff (c : Nat) : spec c = true ↔ c = 34 ∨ c = 92 := by unfold spec; simp

set_option maxHeartbeats 1000000 in
theorem special_any (c : Nat) (w : World) : Calls Tryd.prog 26 #[.int .i32 (c : Int)] w fun e w' => e = .returned (.bool (spec c)) ∧ w = w' := by
  go_enter Tryd.func26, Tryd.ntmps26
  go_wp2
  all_goals
    go_ret
    refine ⟨ret_bool ?_, rfl⟩
    rw [Bool.eq_iff_iff, spec_iff]
    simp
    try omega

/-- Is a rune a byte of a row? -/
def lett (c : Nat) : Bool := decide (c < 128) && MW.letter c

set_option maxHeartbeats 1000000 in
set_option maxRecDepth 100000 in
theorem lett_any (c : Nat) (w : World) : Calls Tryd.prog 52 #[.int .i32 (c : Int)] w fun e w' => e = .returned (.bool (lett c)) ∧ w = w' := by
  by_cases h : c < 128
  · obtain ⟨b, hb⟩ : ∃ b, MW.letter c = b := ⟨_, rfl⟩
    have HL := fun w => own_letter_nat c b hb w
    have e : lett c = b := by unfold lett; rw [hb, decide_eq_true h]; rfl
    rw [e]
    have HH := Lib.hid HL
    clear HL hb e
    go_enter Tryd.func52, Tryd.ntmps52
    go_wp2_with (go_at_call 63; refine (HH.out _).mono ?_; rintro e w' ⟨rfl, rfl⟩)
    go_ret
    exact ⟨rfl, rfl⟩
  · have e : lett c = false := by unfold lett; rw [decide_eq_false h]; rfl
    rw [e]
    clear e
    go_enter Tryd.func52, Tryd.ntmps52
    go_wp2_with fail
    go_ret
    exact ⟨rfl, rfl⟩


open LX (stepN)

set_option maxHeartbeats 2000000 in
theorem step_any (st c : Nat) (w : World) : Calls Tryd.prog 49 #[.int .i64 (st : Int), .int .i32 (c : Int)] w fun e w' => e = .returned (.int .i64 (stepN st c : Nat)) ∧ w = w' := by
  have HS := Lib.hid (special_any c)
  obtain ⟨b, hb⟩ : ∃ b, spec c = b := ⟨_, rfl⟩
  have HB : Hid (b = true ↔ c = 34 ∨ c = 92) := Lib.hid (by rw [← hb]; exact spec_iff c)
  rw [hb] at HS
  clear hb
  obtain ⟨r, hr⟩ : ∃ r, stepN st c = r := ⟨_, rfl⟩
  rw [hr]
  have HR := Lib.hid hr
  clear hr
  by_cases h1 : st = 1
  · subst h1
    cases b
    all_goals
      have hb := HB.out
      go_enter Tryd.func49, Tryd.ntmps49
      go_wp2_with (go_at_call 26; refine (HS.out _).mono ?_; rintro e w' ⟨rfl, rfl⟩)
      go_ret
      refine ⟨?_, rfl⟩
      rw [← HR.out]
      unfold stepN
      simp at hb
      simp [hb]
  · have h1' : ((st : Int) == 1) = false := by simp; omega
    by_cases h10 : c = 10
    · subst h10
      go_enter Tryd.func49, Tryd.ntmps49
      go_wp2_with fail
      go_ret
      refine ⟨?_, rfl⟩
      rw [← HR.out]
      simp [stepN, h1]
    have h10' : ((c : Int) == 10) = false := by simp; omega
    by_cases h92 : c = 92
    · subst h92
      go_enter Tryd.func49, Tryd.ntmps49
      go_wp2_with fail
      go_ret
      refine ⟨?_, rfl⟩
      rw [← HR.out]
      simp [stepN, h1]
    have h92' : ((c : Int) == 92) = false := by simp; omega
    by_cases h34 : c = 34
    · subst h34
      go_enter Tryd.func49, Tryd.ntmps49
      go_wp2_with fail
      go_ret
      refine ⟨?_, rfl⟩
      rw [← HR.out]
      simp [stepN, h1]
    · have h34' : ((c : Int) == 34) = false := by simp; omega
      go_enter Tryd.func49, Tryd.ntmps49
      go_wp2_with fail
      go_ret
      refine ⟨?_, rfl⟩
      rw [← HR.out]
      simp [stepN, h1, h10, h92, h34]

/-- One of a row of tests answers it. -/
theorem isWord_yes {l : List UInt8} (x : List UInt8) (hx : LX.words.contains x = true) (h : (l == x) = true) : LX.isWord l = true := by
  rw [eq_of_beq h]
  exact hx

set_option maxHeartbeats 4000000 in
set_option maxRecDepth 100000 in
/-- lex.IsWord. -/
theorem own_isWord_any (s : ByteArray) (w : World) : Calls Tryd.prog 12 #[.string s] w fun e w' => e = .returned (.bool (LX.isWord s.data.toList)) ∧ w' = w := by
  obtain ⟨b, hb⟩ : ∃ b, LX.isWord s.data.toList = b := ⟨_, rfl⟩
  rw [hb]
  rw [← Lib.toList_data] at hb
  have HB := Lib.hid hb
  clear hb
  go_enter Tryd.func12, Tryd.ntmps12
  go_wp2
  all_goals first
    | (rename_i h1 h2; exfalso; exact absurd (show true = false from h1.symm.trans h2) (by decide))
    | (rename_i h1 h2; go_ret; exact ⟨ret_bool ((isWord_yes _ (by decide) h1).symm.trans HB.out), rfl⟩)
    | (rename_i h1; go_ret; exact ⟨ret_bool ((isWord_yes _ (by decide) h1).symm.trans HB.out), rfl⟩)
    | (go_ret
       refine ⟨ret_bool (Eq.trans (Eq.symm ?_) HB.out), rfl⟩
       rw [Bool.eq_false_iff]
       intro h
       unfold LX.isWord LX.words at h
       simp_all)

end Go.Proofs.YtpchlnikcdhklaaDoor
