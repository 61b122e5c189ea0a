/-
  magpielaw04.RecordNames: the walk.
-/
import Derived.Test.YtgcldnojmdabpaaAlive
import Derived.Laws.Concat
namespace Go.Proofs.Ytgcldnojmdabpaa
open Go.RowKit Go

theorem name_a (l : List UInt8) : MW.name (l ++ [97]) = (decide (l.length < 20) && (MW.name l || l.isEmpty)) := by
  unfold MW.name
  have c97 : MW.ch 97 = true := by decide
  cases l with
  | nil => decide
  | cons a r =>
    have e1 : (a :: r ++ [97]).isEmpty = false := rfl
    have e2 : (a :: r).isEmpty = false := rfl
    have e3 : (a :: r ++ [97]).headD 0 = a := rfl
    have e4 : (a :: r).headD 0 = a := rfl
    rw [e1, e2, e3, e4, List.all_append]
    have e5 : [(97 : UInt8)].all MW.ch = true := by simp [c97]
    rw [e5, List.length_append]
    by_cases h : (a :: r).length < 20
    · have h1 : (a :: r).length + [(97 : UInt8)].length ≤ 20 := by simp at h ⊢; omega
      have h2 : (a :: r).length ≤ 20 := by omega
      rw [decide_eq_true h, decide_eq_true h1, decide_eq_true h2]
      simp
    · have h1 : ¬ (a :: r).length + [(97 : UInt8)].length ≤ 20 := by simp at h ⊢; omega
      rw [decide_eq_false h, decide_eq_false h1]
      simp

theorem name_bad (l : List UInt8) (c : UInt8) (h : MW.ch c = false) : MW.name (l ++ [c]) = false := by
  unfold MW.name
  rw [List.all_append]
  simp [h]

theorem name_9 (l : List UInt8) : MW.name (57 :: l) = false := by
  unfold MW.name
  have : MW.dig ((57 :: l).headD 0) = true := rfl
  rw [this]
  simp

set_option maxHeartbeats 4000000 in
set_option maxRecDepth 100000 in
theorem names_walk (s : ByteArray) (w : World) : Calls Try.prog 9 #[.string s] w fun e w' => e = .returned (.bool true) ∧ Below w.heap.size w w' := by
  have hsz : s.data.toList.length = s.size := (Lib.size_eq s).symm
  by_cases h100 : 100 < s.size
  · have d : decide (100 < (s.size : Int)) = true := by simp; omega
    go_enter Try.func9, Try.ntmps9
    go_wp2_with fail
    refine (alive_any w).mono ?_
    rintro e w1 ⟨rfl, hl1⟩
    have HL1 := Lib.hid hl1
    clear hl1
    go_wp2_with fail
    go_ret
    exact ⟨rfl, Lay.below HL1.out⟩
  have d100 : decide (100 < (s.size : Int)) = false := by simp; omega
  have hem : s.toList.isEmpty = s.data.toList.isEmpty := by rw [Lib.toList_data]
  have HA : Hid (∀ w, Calls Try.prog 16 #[.string (s ++ ⟨#[97]⟩)] w fun e w' => e = .returned (.bool (decide (s.size < 20) && (MW.name s.data.toList || s.data.toList.isEmpty))) ∧ Lay w w') := Lib.hid fun w => by
    have := name_any (s ++ ⟨#[97]⟩) w
    rw [append_data, show (⟨#[97]⟩ : ByteArray).data.toList = [97] from rfl, name_a, hsz] at this
    exact this
  have HB : Hid (∀ w, Calls Try.prog 16 #[.string (s ++ ⟨#[45]⟩)] w fun e w' => e = .returned (.bool false) ∧ Lay w w') := Lib.hid fun w => by
    have := name_any (s ++ ⟨#[45]⟩) w
    rw [append_data, show (⟨#[45]⟩ : ByteArray).data.toList = [45] from rfl, name_bad _ _ (by decide)] at this
    exact this
  have HC : Hid (∀ w, Calls Try.prog 16 #[.string (s ++ ⟨#[32]⟩)] w fun e w' => e = .returned (.bool false) ∧ Lay w w') := Lib.hid fun w => by
    have := name_any (s ++ ⟨#[32]⟩) w
    rw [append_data, show (⟨#[32]⟩ : ByteArray).data.toList = [32] from rfl, name_bad _ _ (by decide)] at this
    exact this
  have HD : Hid (∀ w, Calls Try.prog 16 #[.string ((⟨#[57]⟩ : ByteArray) ++ s)] w fun e w' => e = .returned (.bool false) ∧ Lay w w') := Lib.hid fun w => by
    have := name_any ((⟨#[57]⟩ : ByteArray) ++ s) w
    rw [append_data, show (⟨#[57]⟩ : ByteArray).data.toList ++ s.data.toList = 57 :: s.data.toList from rfl, name_9] at this
    exact this
  have HE : Hid (∀ w, Calls Try.prog 16 #[.string s] w fun e w' => e = .returned (.bool (MW.name s.data.toList)) ∧ Lay w w') := Lib.hid fun w => name_any s w
  rw [hem.symm] at HA
  obtain ⟨em, hem'⟩ : ∃ em, s.toList.isEmpty = em := ⟨_, rfl⟩
  obtain ⟨nm, hnm⟩ : ∃ nm, MW.name s.data.toList = nm := ⟨_, rfl⟩
  obtain ⟨b20, hb⟩ : ∃ b, decide (s.size < 20) = b := ⟨_, rfl⟩
  have hbI : decide ((s.size : Int) < 20) = b20 := by rw [← hb, decide_eq_decide]; omega
  rw [hem', hnm, hb] at HA
  rw [hnm] at HE
  have z97 : (⟨#[97]⟩ : ByteArray).size = 1 := rfl
  have z45 : (⟨#[45]⟩ : ByteArray).size = 1 := rfl
  have z32 : (⟨#[32]⟩ : ByteArray).size = 1 := rfl
  have z57 : (⟨#[57]⟩ : ByteArray).size = 1 := rfl
  have hs100 : s.size ≤ 100 := by omega
  have a97 : ∀ w, (Op.stringOp .add s ⟨#[97]⟩).run Try.prog w = .ok (.string (s ++ ⟨#[97]⟩)) w := fun w => run_string_add_sum w s _ (by rw [z97]; omega)
  have a45 : ∀ w, (Op.stringOp .add s ⟨#[45]⟩).run Try.prog w = .ok (.string (s ++ ⟨#[45]⟩)) w := fun w => run_string_add_sum w s _ (by rw [z45]; omega)
  have a32 : ∀ w, (Op.stringOp .add s ⟨#[32]⟩).run Try.prog w = .ok (.string (s ++ ⟨#[32]⟩)) w := fun w => run_string_add_sum w s _ (by rw [z32]; omega)
  have a57 : ∀ w, (Op.stringOp .add ⟨#[57]⟩ s).run Try.prog w = .ok (.string (⟨#[57]⟩ ++ s)) w := fun w => run_string_add_sum w _ s (by rw [z57]; omega)
  clear hem hnm hb hsz h100
  cases b20 <;> cases nm <;> cases em
  all_goals
    simp only [Bool.false_and, Bool.true_and, Bool.false_or, Bool.true_or] at HA
    go_enter Try.func9, Try.ntmps9
    go_wp2_with fail
    refine (alive_any w).mono ?_
    rintro e w1 ⟨rfl, hl1⟩
    have HL1 := Lib.hid hl1
    clear hl1
    go_wp2_with fail
    refine (HE.out _).mono ?_
    rintro e w2 ⟨rfl, hl2⟩
    have HL2 := Lib.hid (Keep.trans HL1.out hl2)
    clear hl2
    go_wp2_with fail
    refine (HA.out _).mono ?_
    rintro e w3 ⟨rfl, hl3⟩
    have HL3 := Lib.hid (Keep.trans HL2.out hl3)
    clear hl3
    go_wp2_with fail
    refine (HB.out _).mono ?_
    rintro e w4 ⟨rfl, hl4⟩
    have HL4 := Lib.hid (Keep.trans HL3.out hl4)
    clear hl4
    go_wp2_with fail
    refine (HC.out _).mono ?_
    rintro e w5 ⟨rfl, hl5⟩
    have HL5 := Lib.hid (Keep.trans HL4.out hl5)
    clear hl5
    go_wp2_with fail
    refine (HD.out _).mono ?_
    rintro e w6 ⟨rfl, hl6⟩
    have HL6 := Lib.hid (Keep.trans HL5.out hl6)
    clear hl6
    go_wp2_with fail
    go_ret
    exact ⟨rfl, Lay.below HL6.out⟩

end Go.Proofs.Ytgcldnojmdabpaa
