/-
  WHAT THE PROGRAM HAS, AS THE DOCUMENT's QUESTION (the law's ofAny); A QUESTION WITHOUT WHAT ITS KIND HASN'T (the document's Plain); ARE TWO THE SAME? (the document's Same)
-/
import Derived.Test.YtaghogfkkmphoaaDoorTy12
import Derived.Test.YtaghogfkkmphoaaDoorHw
namespace Go.Proofs.YtaghogfkkmphoaaDoor.E4
open Go.RowKit Go

def Ask.pav (a : Ask) (av : Value) : Value := if a.kd = 1 then av else .slice none 0 0
def Ask.pmv (a : Ask) (mv : Value) : Value := if a.kd = 2 then mv else .slice none 0 0
theorem pcells1 {a : Ask} (h : a.kd = 1) (av mv : Value) : a.plain.cells (a.pav av) (a.pmv mv) = #[.int .i64 1, .int .i64 a.src, .int .i64 a.til, av, .slice none 0 0] := by
  unfold Ask.cells Ask.pav Ask.pmv Ask.plain
  rw [if_pos h, if_pos h, if_neg (by omega)]
  simp only [h]
theorem pcells2 {a : Ask} (h : a.kd = 2) (av mv : Value) : a.plain.cells (a.pav av) (a.pmv mv) = #[.int .i64 2, .int .i64 a.src, .int .i64 a.til, .slice none 0 0, mv] := by
  unfold Ask.cells Ask.pav Ask.pmv Ask.plain
  rw [if_neg (by omega), if_pos h, if_neg (by omega), if_pos h]
  simp only [h]
theorem pcells3 {a : Ask} (h : a.kd = 3) (av mv : Value) : a.plain.cells (a.pav av) (a.pmv mv) = #[.int .i64 3, .int .i64 a.src, .int .i64 a.til, .slice none 0 0, .slice none 0 0] := by
  unfold Ask.cells Ask.pav Ask.pmv Ask.plain
  rw [if_neg (by omega), if_neg (by omega), if_pos h, if_neg (by omega), if_neg (by omega)]
  simp only [h]
theorem pcells0 {a : Ask} (h : ¬ (1 ≤ a.kd ∧ a.kd ≤ 3)) (av mv : Value) : a.plain.cells (a.pav av) (a.pmv mv) = #[.int .i64 0, .int .i64 0, .int .i64 0, .slice none 0 0, .slice none 0 0] := by
  unfold Ask.cells Ask.pav Ask.pmv Ask.plain
  rw [if_neg (by omega), if_neg (by omega), if_neg (by omega), if_neg (by omega), if_neg (by omega)]
theorem plain_texts {a : Ask} {w : World} {av : Value} (h : TextsAt w av a.all) : TextsAt w (a.pav av) a.plain.all := by
  unfold Ask.pav Ask.plain
  by_cases h1 : a.kd = 1
  · rw [if_pos h1, if_pos h1]; exact h
  · rw [if_neg h1, if_neg h1]
    have : (if a.kd = 2 then { a with all := [] } else if a.kd = 3 then { a with all := [], mat := [] } else (⟨0, 0, 0, [], []⟩ : Ask)).all = [] := by
      split
      · rfl
      · split <;> rfl
    rw [this]
    exact ⟨none, 0, rfl, by simp, .inl rfl⟩
theorem plain_mats {a : Ask} {w : World} {mv : Value} (h : MsAt w mv a.mat) : MsAt w (a.pmv mv) a.plain.mat := by
  unfold Ask.pmv Ask.plain
  by_cases h2 : a.kd = 2
  · rw [if_pos h2, if_neg (by omega), if_pos h2]; exact h
  · rw [if_neg h2, if_neg h2]
    have : (if a.kd = 1 then { a with mat := [] } else if a.kd = 3 then { a with all := [], mat := [] } else (⟨0, 0, 0, [], []⟩ : Ask)).mat = [] := by
      split
      · rfl
      · split <;> rfl
    rw [this]
    exact ⟨none, 0, rfl, by simp, .inl rfl⟩

set_option maxHeartbeats 2000000 in
set_option maxRecDepth 100000 in
theorem ofAny_any (a : Ask) (x y : Option Addr) (n c m d : Nat) (w : World) :
    Calls Tryd.prog 23 #[a.dyn (.slice x n c) (.slice y m d)] w fun e w' => e = .returned (.agg (a.plain.cells (a.pav (.slice x n c)) (a.pmv (.slice y m d)))) ∧ Below w.heap.size w w' := by
  have q1 := is59_yes
  have q2 := is59_nil
  have q3 := is59_no66
  have q4 := is59_no55
  have r1 := is66_yes
  have r2 := is66_nil
  have r3 := is66_no55
  have s1 := is55_yes
  have s2 := is55_nil
  by_cases h1 : a.kd = 1
  · have HP := Lib.hid (pcells1 (a := a) h1 (.slice x n c) (.slice y m d))
    rw [dyn1 h1]
    clear h1
    go_enter Tryd.func23, Tryd.ntmps23
    go_wp2_with fail
    refine bodyPost_ret (v := .agg #[.int .i64 1, .int .i64 a.src, .int .i64 a.til, .slice x n c, .slice none 0 0]) (by simp [results, Tryd.results23, go_sem]) rfl ⟨by rw [HP.out], ((Below.refl _ _).alloc (Nat.le_refl _) _).alloc (by simp) _⟩
  by_cases h2 : a.kd = 2
  · have HP := Lib.hid (pcells2 (a := a) h2 (.slice x n c) (.slice y m d))
    rw [dyn2 h2]
    clear h1 h2
    go_enter Tryd.func23, Tryd.ntmps23
    go_wp2_with fail
    refine bodyPost_ret (v := .agg #[.int .i64 2, .int .i64 a.src, .int .i64 a.til, .slice none 0 0, .slice y m d]) (by simp [results, Tryd.results23, go_sem]) rfl ⟨by rw [HP.out], ((Below.refl _ _).alloc (Nat.le_refl _) _).alloc (by simp) _⟩
  by_cases h3 : a.kd = 3
  · have HP := Lib.hid (pcells3 (a := a) h3 (.slice x n c) (.slice y m d))
    rw [dyn3 h3]
    clear h1 h2 h3
    go_enter Tryd.func23, Tryd.ntmps23
    go_wp2_with fail
    refine bodyPost_ret (v := .agg #[.int .i64 3, .int .i64 a.src, .int .i64 a.til, .slice none 0 0, .slice none 0 0]) (by simp [results, Tryd.results23, go_sem]) rfl ⟨by rw [HP.out], ((Below.refl _ _).alloc (Nat.le_refl _) _).alloc (by simp) _⟩
  · have HP := Lib.hid (pcells0 (a := a) (by omega) (.slice x n c) (.slice y m d))
    rw [dyn0 (by omega)]
    clear h1 h2 h3
    go_enter Tryd.func23, Tryd.ntmps23
    go_wp2_with fail
    refine bodyPost_ret (v := .agg #[.int .i64 0, .int .i64 0, .int .i64 0, .slice none 0 0, .slice none 0 0]) (by simp [results, Tryd.results23, go_sem]) rfl ⟨by rw [HP.out], (Below.refl _ _).alloc (Nat.le_refl _) _⟩

set_option maxHeartbeats 2000000 in
set_option maxRecDepth 100000 in
theorem askPlain_any (a : Ask) (x y : Option Addr) (n c m d : Nat) (w : World) :
    Calls Tryd.prog 50 #[.agg (a.cells (.slice x n c) (.slice y m d))] w fun e w' => e = .returned (.agg (a.plain.cells (a.pav (.slice x n c)) (a.pmv (.slice y m d)))) ∧ Below w.heap.size w w' := by
  change Calls Tryd.prog 50 #[.agg #[.int .i64 a.kd, .int .i64 a.src, .int .i64 a.til, .slice x n c, .slice y m d]] w _
  by_cases h1 : a.kd = 1
  · have HP := Lib.hid (pcells1 (a := a) h1 (.slice x n c) (.slice y m d))
    have e1 : (a.kd == 1) = true := by simp [h1]
    clear h1
    go_enter Tryd.func50, Tryd.ntmps50
    go_wp2_with fail
    refine bodyPost_ret (v := .agg #[.int .i64 1, .int .i64 a.src, .int .i64 a.til, .slice x n c, .slice none 0 0]) (by simp [results, Tryd.results50, go_sem]) rfl ⟨by rw [HP.out], ((Below.refl _ _).alloc (Nat.le_refl _) _).alloc (by simp) _⟩
  by_cases h2 : a.kd = 2
  · have HP := Lib.hid (pcells2 (a := a) h2 (.slice x n c) (.slice y m d))
    have e1 : (a.kd == 1) = false := by simp [h1]
    have e2 : (a.kd == 2) = true := by simp [h2]
    clear h1 h2
    go_enter Tryd.func50, Tryd.ntmps50
    go_wp2_with fail
    refine bodyPost_ret (v := .agg #[.int .i64 2, .int .i64 a.src, .int .i64 a.til, .slice none 0 0, .slice y m d]) (by simp [results, Tryd.results50, go_sem]) rfl ⟨by rw [HP.out], ((Below.refl _ _).alloc (Nat.le_refl _) _).alloc (by simp) _⟩
  by_cases h3 : a.kd = 3
  · have HP := Lib.hid (pcells3 (a := a) h3 (.slice x n c) (.slice y m d))
    have e1 : (a.kd == 1) = false := by simp [h1]
    have e2 : (a.kd == 2) = false := by simp [h2]
    have e3 : (a.kd == 3) = true := by simp [h3]
    clear h1 h2 h3
    go_enter Tryd.func50, Tryd.ntmps50
    go_wp2_with fail
    refine bodyPost_ret (v := .agg #[.int .i64 3, .int .i64 a.src, .int .i64 a.til, .slice none 0 0, .slice none 0 0]) (by simp [results, Tryd.results50, go_sem]) rfl ⟨by rw [HP.out], ((Below.refl _ _).alloc (Nat.le_refl _) _).alloc (by simp) _⟩
  · have HP := Lib.hid (pcells0 (a := a) (by omega) (.slice x n c) (.slice y m d))
    have e1 : (a.kd == 1) = false := by simp [h1]
    have e2 : (a.kd == 2) = false := by simp [h2]
    have e3 : (a.kd == 3) = false := by simp [h3]
    clear h1 h2 h3
    go_enter Tryd.func50, Tryd.ntmps50
    go_wp2_with fail
    refine bodyPost_ret (v := .agg #[.int .i64 0, .int .i64 0, .int .i64 0, .slice none 0 0, .slice none 0 0]) (by simp [results, Tryd.results50, go_sem]) rfl ⟨by rw [HP.out], ((Below.refl _ _).alloc (Nat.le_refl _) _).alloc (by simp) _⟩


end Go.Proofs.YtaghogfkkmphoaaDoor.E4
