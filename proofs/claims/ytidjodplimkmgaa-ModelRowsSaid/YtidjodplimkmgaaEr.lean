/-
  THE DOCUMENT'S OWN Sort, All (the texts of stage 4, joined).
-/
import Derived.Test.YtidjodplimkmgaaEt
import Derived.Outline
import Derived.Lib.Strings
import Derived.Test.YtidjodplimkmgaaEb
import Derived.Deep.RegionWith
import Derived.Deep.QuietTactic
import Derived.BigQuiet
import Derived.Deep.DeepCutAuto
import Derived.Test.YtidjodplimkmgaaEs
import Derived.Shelf.SlSortCmp.QuietGrown
namespace Go.Proofs.Ytidjodplimkmgaa.E4
open Go.RowKit Go

theorem same_self (y : Ent) : decide (entC y y = 0) = true := decide_eq_true (entC_lc.refl y)

end Go.Proofs.Ytidjodplimkmgaa.E4

namespace Go.Proofs.Ytidjodplimkmgaa.E4
open Go.RowKit Go

set_option maxHeartbeats 8000000 in
set_option maxRecDepth 100000 in
theorem all_any {G L G' L' : Nat → Prop} {w : World} {v1 v2 : Value} {es : List Ent} (h1 : EntsAt G L w v1 es) (h2 : EntsAt G' L' w v2 es) :
    Calls Try.prog 8 #[v1, v2] w fun e w' => e = .returned (.bool true) ∧ Lay w w' := by
  obtain ⟨a, ca, rfl, hl63, ha⟩ := h1
  obtain ⟨b, cb, rfl, _, hb⟩ := h2
  have HA := Lib.hid ha
  have HB := Lib.hid hb
  have hmx : Try.prog.follows .mixedOrders = true := by kernel_rfl
  clear ha hb
  go_enter Try.func8, Try.ntmps8
  go_wp2_with fail
  go_loopw [13] (fun vi wr => ∃ k : Nat, vi = .int .i64 k ∧ k ≤ es.length ∧ Lay w wr) (fun vi _ => es.length - (intOf vi).toNat)
  case atStart => exact ⟨0, rfl, Nat.zero_le _, Keep.refl _ _⟩
  case round =>
    obtain ⟨k, rfl, hk, hl⟩ := hrel
    have HL := Lib.hid hl
    by_cases hlt : k < es.length
    · rcases HA.out with h0 | ⟨bx, ox, rfl, hgx, hbx, hcx⟩
      · exact absurd hlt (by rw [h0]; simp)
      rcases HB.out with h0 | ⟨by', oy, rfl, hgy, hby, hcy⟩
      · exact absurd hlt (by rw [h0]; simp)
      obtain ⟨lv, x0, x1, x2, x3⟩ := hcx k hlt
      obtain ⟨mv, y0, y1, y2, y3⟩ := hcy k hlt
      have hbxr : bx < wr.heap.size := Nat.lt_of_lt_of_le hbx hl.size
      have hbyr : by' < wr.heap.size := Nat.lt_of_lt_of_le hby hl.size
      generalize es[k] = x at x0 x1 x2 x3 y0 y1 y2 y3
      obtain ⟨ax, cx, rfl, _⟩ := id x3
      obtain ⟨ay, cy, rfl, _⟩ := id y3
      have fx0 := cell_grown (w := wr) (a := ⟨bx, ox + k * 3, none⟩) hbxr ((hl.cell hbx).trans x0)
      have fx1 := cell_grown (w := wr) (a := ⟨bx, ox + k * 3 + 1, none⟩) hbxr ((hl.cell hbx).trans x1)
      have fx2 := cell_grown (w := wr) (a := ⟨bx, ox + k * 3 + 2, none⟩) hbxr ((hl.cell hbx).trans x2)
      have fy0 := cell_grown (w := wr) (a := ⟨by', oy + k * 3, none⟩) hbyr ((hl.cell hby).trans y0)
      have fy1 := cell_grown (w := wr) (a := ⟨by', oy + k * 3 + 1, none⟩) hbyr ((hl.cell hby).trans y1)
      have fy2 := cell_grown (w := wr) (a := ⟨by', oy + k * 3 + 2, none⟩) hbyr ((hl.cell hby).trans y2)
      have hS : ∀ n os, Calls Try.prog 9 #[.agg #[.int .i64 x.tm, .slice ax x.labs.length cx, .string x.line], .agg #[.int .i64 x.tm, .slice ay x.labs.length cy, .string x.line]] (Sort.grow (wr.drewN n) os) fun e w'' => e = .returned (.bool true) ∧ ∃ p : GrownBy, w'' = Sort.grow (wr.drewN p.n) p.os := fun n os => by
        have h := same_any (x := x) (y := x) (x3.lay (hl.trans (Lay.of_grown n os))) (y3.lay (hl.trans (Lay.of_grown n os)))
        rw [same_self] at h
        exact grown_of_lay h
      have hi1 : (k : Int) < (es.length : Int) := by omega
      have hi0 : ¬ (k : Int) < 0 := by omega
      clear x0 x1 x2 x3 y0 y1 y2 y3 hcx hcy hl
      go_wp2_with fail
      go_quiet_grown ((go_at_call 9; with_reducible exact hS _ _))
      go_wp2_with fail
      go_roundw
      case rel => exact ⟨k + 1, by go_num, by omega, HL.out.trans (Lay.of_grown nq osq)⟩
      case measure => simp [intOf]; omega
    · obtain rfl : k = es.length := by omega
      clear hl
      go_wp2_with fail
      go_ret
      exact ⟨rfl, HL.out⟩

end Go.Proofs.Ytidjodplimkmgaa.E4
