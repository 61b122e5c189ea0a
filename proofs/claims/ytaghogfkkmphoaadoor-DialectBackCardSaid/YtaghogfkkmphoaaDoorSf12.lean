/-
  THE DOCUMENT's Same OF A QUESTION, AND OF IT AS THE PROGRAM HAS IT.
-/
import Derived.Test.YtaghogfkkmphoaaDoorSe12
namespace Go.Proofs.YtaghogfkkmphoaaDoor.E4
open Go.RowKit Go

theorem Ask.plain1 {a : Ask} (h : a.kd = 1) : a.plain = { a with mat := [] } := by unfold Ask.plain; rw [if_pos h]
theorem Ask.plain2 {a : Ask} (h : a.kd = 2) : a.plain = { a with all := [] } := by unfold Ask.plain; rw [if_neg (by omega), if_pos h]
theorem Ask.plain3 {a : Ask} (h : a.kd = 3) : a.plain = { a with all := [], mat := [] } := by unfold Ask.plain; rw [if_neg (by omega), if_neg (by omega), if_pos h]
theorem Ask.plain0 {a : Ask} (h : ¬ (1 ≤ a.kd ∧ a.kd ≤ 3)) : a.plain = ⟨0, 0, 0, [], []⟩ := by unfold Ask.plain; rw [if_neg (by omega), if_neg (by omega), if_neg (by omega)]
theorem Ask.plain_plain (a : Ask) : a.plain.plain = a.plain := by
  by_cases h1 : a.kd = 1
  · rw [Ask.plain1 h1, Ask.plain1 (by exact h1)]
  by_cases h2 : a.kd = 2
  · rw [Ask.plain2 h2, Ask.plain2 (by exact h2)]
  by_cases h3 : a.kd = 3
  · rw [Ask.plain3 h3, Ask.plain3 (by exact h3)]
  · rw [Ask.plain0 (a := a) (by omega)]; exact Ask.plain0 (by decide)

theorem sameT (x y : Ask) (xa xm ya ym : Value) (w : World) (h1 : TextsAt w xa x.all) (h2 : MsAt w xm x.mat) (h3 : TextsAt w ya y.all) (h4 : MsAt w ym y.mat) (h : x.plain = y.plain) :
    Calls Tryd.prog 22 #[.agg (x.cells xa xm), .agg (y.cells ya ym)] w fun e w' => e = .returned (.bool true) ∧ Below w.heap.size w w' :=
  (same_any12 x y xa xm ya ym w h1 h2 h3 h4).mono fun e w' ⟨r, he, hr, hb⟩ => ⟨by rw [he, hr.2 h], hb⟩
theorem sameF (x y : Ask) (xa xm ya ym : Value) (w : World) (h1 : TextsAt w xa x.all) (h2 : MsAt w xm x.mat) (h3 : TextsAt w ya y.all) (h4 : MsAt w ym y.mat) (h : x.plain ≠ y.plain) :
    Calls Tryd.prog 22 #[.agg (x.cells xa xm), .agg (y.cells ya ym)] w fun e w' => e = .returned (.bool false) ∧ Below w.heap.size w w' :=
  (same_any12 x y xa xm ya ym w h1 h2 h3 h4).mono fun e w' ⟨r, he, hr, hb⟩ => ⟨by
    cases r with
    | true => exact absurd (hr.1 rfl) h
    | false => exact he, hb⟩
/-- A question, and it as the program has it. -/
theorem same_self (a : Ask) (av mv xa xm : Value) (w : World) (h1 : TextsAt w av a.all) (h2 : MsAt w mv a.mat) (h3 : TextsAt w xa a.all) (h4 : MsAt w xm a.mat) :
    Calls Tryd.prog 22 #[.agg (a.plain.cells (a.pav av) (a.pmv mv)), .agg (a.cells xa xm)] w fun e w' => e = .returned (.bool true) ∧ Below w.heap.size w w' :=
  sameT a.plain a _ _ xa xm w (plain_texts h1) (plain_mats h2) h3 h4 (Ask.plain_plain a)
theorem texts_nil12 (w : World) : TextsAt w (.slice none 0 0) [] := ⟨none, 0, rfl, by simp, .inl rfl⟩
theorem ms_nil12 (w : World) : MsAt w (.slice none 0 0) [] := ⟨none, 0, rfl, by simp, .inl rfl⟩

/-- ofAny of each kind. -/
theorem of1 (src til : Int) (all : List (List ByteArray)) (mat : List Mt) (x : Value) (w : World) (h : TextsAt w x all) :
    Calls Tryd.prog 23 #[.iface 59 (.agg #[.int .i64 src, .int .i64 til, x])] w fun e w' => e = .returned (.agg #[.int .i64 1, .int .i64 src, .int .i64 til, x, .slice none 0 0]) ∧ Below w.heap.size w w' := by
  obtain ⟨a, c, rfl, _, _⟩ := h
  have h := ofAny_any ⟨1, src, til, all, mat⟩ a none all.length c 0 0 w
  rw [dyn1 rfl, pcells1 rfl] at h
  exact h
theorem of2 (src til : Int) (all : List (List ByteArray)) (mat : List Mt) (x : Value) (w : World) (h : MsAt w x mat) :
    Calls Tryd.prog 23 #[.iface 66 (.agg #[.int .i64 src, .int .i64 til, x])] w fun e w' => e = .returned (.agg #[.int .i64 2, .int .i64 src, .int .i64 til, .slice none 0 0, x]) ∧ Below w.heap.size w w' := by
  obtain ⟨a, c, rfl, _, _⟩ := h
  have h := ofAny_any ⟨2, src, til, all, mat⟩ none a 0 0 mat.length c w
  rw [dyn2 rfl, pcells2 rfl] at h
  exact h
theorem self1 (src til : Int) (all : List (List ByteArray)) (mat : List Mt) (x xa xm : Value) (w : World) (h : TextsAt w x all) (h3 : TextsAt w xa all) (h4 : MsAt w xm mat) :
    Calls Tryd.prog 22 #[.agg #[.int .i64 1, .int .i64 src, .int .i64 til, x, .slice none 0 0], .agg #[.int .i64 1, .int .i64 src, .int .i64 til, xa, xm]] w fun e w' => e = .returned (.bool true) ∧ Below w.heap.size w w' := by
  have h := same_self ⟨1, src, til, all, mat⟩ x xm xa xm w h h4 h3 h4
  rw [pcells1 rfl] at h
  exact h
theorem self2 (src til : Int) (all : List (List ByteArray)) (mat : List Mt) (x xa xm : Value) (w : World) (h : MsAt w x mat) (h3 : TextsAt w xa all) (h4 : MsAt w xm mat) :
    Calls Tryd.prog 22 #[.agg #[.int .i64 2, .int .i64 src, .int .i64 til, .slice none 0 0, x], .agg #[.int .i64 2, .int .i64 src, .int .i64 til, xa, xm]] w fun e w' => e = .returned (.bool true) ∧ Below w.heap.size w w' := by
  have h := same_self ⟨2, src, til, all, mat⟩ xa x xa xm w h3 h h3 h4
  rw [pcells2 rfl] at h
  exact h

end Go.Proofs.YtaghogfkkmphoaaDoor.E4
