/-
  IS AN ENTRY MORE THAN IS PLAYED? (the texts of stage 4).
-/
import Derived.Test.YtaghogfkkmphoaaDoorEt
import Derived.Test.YtaghogfkkmphoaaDoorNb
import Derived.Shelf.Small.Wraps
import Derived.Test.YtaghogfkkmphoaaDoorProg
import Derived.Laws.Cover1
import Derived.Deep.QuietTactic
import Derived.BigQuiet
import Derived.Deep.RegionWith
import Derived.Outline
namespace Go.Proofs.YtaghogfkkmphoaaDoor.E4
open Go.RowKit Go

/-! ### Great, Many -/

def Lab.big (x : Lab) : Bool := decide (200 < x.n.size) || decide (200 < x.v.size)
def Ent.big (e : Ent) : Bool := decide (20 < e.labs.length) || decide (1000 < e.line.size) || e.labs.any Lab.big

set_option maxHeartbeats 4000000 in
set_option maxRecDepth 100000 in
/-- The document's Great. -/
theorem great_any {G : Nat → Prop} {w : World} {e : Ent} {lv : Value} (h : LabsAt G w lv e.labs) :
    Calls Tryd.prog 9 #[e.val lv] w fun x w' => x = .returned (.bool e.big) ∧ Lay w w' := by
  obtain ⟨a, ca, rfl, hl63, ha⟩ := h
  obtain ⟨tm, labs, line⟩ := e
  have HA := Lib.hid ha
  have HL0 : Hid (Lay w (w.alloc (.cells #[.int .i64 tm, .slice a labs.length ca, .string line] 28))) := Lib.hid ((Keep.refl _ _).alloc _)
  have HOK : Hid (Ent.big ⟨tm, labs, line⟩ = (decide (20 < labs.length) || decide (1000 < line.size) || labs.any Lab.big)) := Lib.hid rfl
  unfold Ent.val
  clear ha
  simp only [] at hl63 HA ⊢
  by_cases h20 : 20 < labs.length
  · have d20 : decide (20 < (labs.length : Int)) = true := by simp; omega
    have HR : Hid (Ent.big ⟨tm, labs, line⟩ = true) := Lib.hid (by rw [HOK.out, decide_eq_true h20]; rfl)
    clear h20
    go_enter Tryd.func9, Tryd.ntmps9
    go_wp2_with fail
    go_ret
    exact ⟨by rw [HR.out]; rfl, HL0.out⟩
  · have d20 : decide (20 < (labs.length : Int)) = false := by simp; omega
    by_cases h1000 : 1000 < line.size
    · have d1 : decide (1000 < (line.size : Int)) = true := by simp; omega
      have HR : Hid (Ent.big ⟨tm, labs, line⟩ = true) := Lib.hid (by rw [HOK.out, decide_eq_true h1000]; simp)
      clear h20 h1000
      go_enter Tryd.func9, Tryd.ntmps9
      go_wp2_with fail
      go_ret
      exact ⟨by rw [HR.out]; rfl, HL0.out⟩
    · have d1 : decide (1000 < (line.size : Int)) = false := by simp; omega
      have HO := HOK.out
      rw [decide_eq_false h20, decide_eq_false h1000, Bool.false_or, Bool.false_or] at HO
      have HR := Lib.hid HO
      clear HO HOK h1000
      go_enter Tryd.func9, Tryd.ntmps9
      go_wp2_with fail
      clear d20 d1
      go_loopw [18] (fun vi wr => ∃ k : Nat, vi = .int .i64 k ∧ k ≤ labs.length ∧ Lay w wr ∧ labs.any Lab.big = (labs.drop k).any Lab.big) (fun vi _ => labs.length - (intOf vi).toNat)
      case atStart => exact ⟨0, rfl, Nat.zero_le _, HL0.out, by simp⟩
      case round =>
        obtain ⟨k, rfl, hk, hl, hz⟩ := hrel
        have HZ := Lib.hid hz
        have HL := Lib.hid hl
        clear hz
        by_cases hlt : k < labs.length
        · rcases HA.out with h0 | ⟨bx, ox, rfl, hgx, hbx, hcx⟩
          · exact absurd hlt (by rw [h0]; simp)
          obtain ⟨x0, x1⟩ := hcx k hlt
          have g0 := (hl.cell hbx).trans x0
          have g1 := (hl.cell hbx).trans x1
          have hdx := Lib.hid (List.drop_eq_getElem_cons hlt)
          generalize labs[k] = x at g0 g1 hdx x0 x1
          clear x0 x1 hcx hl
          by_cases hn : 200 < x.n.size
          · have dn : decide (200 < (x.n.size : Int)) = true := by simp; omega
            have HB : Hid (Lab.big x = true) := Lib.hid (by unfold Lab.big; rw [decide_eq_true hn]; rfl)
            clear hn
            go_wp2_with fail
            go_ret
            refine ⟨ret_bool ?_, HL.out.alloc _⟩
            rw [HR.out, HZ.out, hdx.out, List.any_cons, HB.out, Bool.true_or]
          · have dn : decide (200 < (x.n.size : Int)) = false := by simp; omega
            by_cases hv : 200 < x.v.size
            · have dv : decide (200 < (x.v.size : Int)) = true := by simp; omega
              have HB : Hid (Lab.big x = true) := Lib.hid (by unfold Lab.big; rw [decide_eq_true hv]; simp)
              clear hn hv
              go_wp2_with fail
              go_ret
              refine ⟨ret_bool ?_, HL.out.alloc _⟩
              rw [HR.out, HZ.out, hdx.out, List.any_cons, HB.out, Bool.true_or]
            · have dv : decide (200 < (x.v.size : Int)) = false := by simp; omega
              have HB : Hid (Lab.big x = false) := Lib.hid (by unfold Lab.big; rw [decide_eq_false hn, decide_eq_false hv]; rfl)
              clear hn hv
              go_wp2_with fail
              go_roundw
              case rel => exact ⟨k + 1, by go_num, by omega, HL.out.alloc _, by rw [HZ.out, hdx.out, List.any_cons, HB.out, Bool.false_or]⟩
              case measure => simp [intOf]; omega
        · obtain rfl : k = labs.length := by omega
          go_wp2_with fail
          go_ret
          refine ⟨ret_bool ?_, HL.out⟩
          rw [HR.out, HZ.out, List.drop_length]
          rfl

end Go.Proofs.YtaghogfkkmphoaaDoor.E4
