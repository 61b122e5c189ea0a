/-
  THE DOCUMENT'S OWN Before.
-/
import Derived.Test.YtgcldnojmdabpaaCmp
import Derived.Deep.QuietTactic
import Derived.BigQuiet
import Derived.Deep.RegionWith
import Derived.Outline
namespace Go.Proofs.Ytgcldnojmdabpaa
open Go.RowKit Go

theorem entC_tm {x y : Ent} (h : x.tm ≠ y.tm) : decide (entC x y = -1) = decide (x.tm < y.tm) := by
  unfold entC orI
  have h0 : ¬ intC x.tm y.tm = 0 := fun e => h (intC_lc.eq _ _ e)
  rw [if_neg h0]
  rw [decide_eq_decide]
  exact intC_lt
theorem entC_rest {x y : Ent} (h : x.tm = y.tm) : entC x y = orI (listC labC x.labs y.labs) (strC x.line y.line) := by
  unfold entC
  rw [h, intC_lc.refl]
  simp [orI]

set_option maxHeartbeats 8000000 in
set_option maxRecDepth 100000 in
theorem before_any {G H : Nat → Prop} {w : World} {x y : Ent} {xl yl : Value} (hx : LabsAt G w xl x.labs) (hy : LabsAt H w yl y.labs) :
    Calls Try.prog 23 #[x.val xl, y.val yl] w fun e w' => e = .returned (.bool (decide (entC x y = -1))) ∧ Lay w w' := by
  obtain ⟨a, ca, rfl, hlx, ha⟩ := hx
  obtain ⟨b, cb, rfl, hly, hb⟩ := hy
  obtain ⟨xt, xs, xline⟩ := x
  obtain ⟨yt, ys, yline⟩ := y
  have HA := Lib.hid ha
  have HB := Lib.hid hb
  have HL0 : Hid (Lay w ((w.alloc (.cells #[.int .i64 xt, .slice a xs.length ca, .string xline] 24)).alloc (.cells #[.int .i64 yt, .slice b ys.length cb, .string yline] 24))) := Lib.hid (((Keep.refl _ _).alloc _).alloc _)
  unfold Ent.val
  clear ha hb
  simp only [] at hlx hly HA HB ⊢
  by_cases htm : xt = yt
  · subst htm
    have HE := Lib.hid (entC_rest (x := ⟨xt, xs, xline⟩) (y := ⟨xt, ys, yline⟩) rfl)
    have hLs := eq_strC xline yline
    have hLl := less_strC xline yline
    go_enter Try.func23, Try.ntmps23
    go_wp2_with fail
    go_loopw [5] (fun vi wr => ∃ k : Nat, vi = .int .i64 k ∧ k ≤ xs.length ∧ k ≤ ys.length ∧ Lay ((w.alloc (.cells #[.int .i64 xt, .slice a xs.length ca, .string xline] 24)).alloc (.cells #[.int .i64 xt, .slice b ys.length cb, .string yline] 24)) wr ∧ listC labC xs ys = listC labC (xs.drop k) (ys.drop k)) (fun vi _ => xs.length - (intOf vi).toNat)
    case atStart => exact ⟨0, rfl, Nat.zero_le _, Nat.zero_le _, Keep.refl _ _, by simp⟩
    case round =>
      obtain ⟨k, rfl, hk, hky, hl, hz⟩ := hrel
      have HZ := Lib.hid hz
      have x1 : wr.cell? ⟨w.heap.size, 1, none⟩ = some (.slice a xs.length ca) := (Lay.cell hl (by simp; try omega)).trans (by go_simp)
      have x2 : wr.cell? ⟨w.heap.size, 2, none⟩ = some (.string xline) := (Lay.cell hl (by simp; try omega)).trans (by go_simp)
      have y1 : wr.cell? ⟨w.heap.size + 1, 1, none⟩ = some (.slice b ys.length cb) := (Lay.cell hl (by simp; try omega)).trans (by go_simp)
      have y2 : wr.cell? ⟨w.heap.size + 1, 2, none⟩ = some (.string yline) := (Lay.cell hl (by simp; try omega)).trans (by go_simp)
      have hwr : w.heap.size + 1 < wr.heap.size := Nat.lt_of_lt_of_le (by simp) hl.size
      have hn1 : ¬ w.heap.size + 1 = wr.heap.size := by omega
      have hn2 : ¬ w.heap.size = wr.heap.size := by omega
      have hn3 : w.heap.size < wr.heap.size := by omega
      have HL := Lib.hid (Keep.trans HL0.out hl)
      have HLA := Lib.hid hl
      clear hz hl
      by_cases hlt : k < xs.length
      · by_cases hlty : k < ys.length
        · rcases HA.out with h0 | ⟨bx, ox, rfl, hgx, hbx, hcx⟩
          · exact absurd hlt (by rw [h0]; simp)
          rcases HB.out with h0 | ⟨b', oy, rfl, hgy, hby, hcy⟩
          · exact absurd hlty (by rw [h0]; simp)
          obtain ⟨u0, u1⟩ := hcx k hlt
          obtain ⟨v0, v1⟩ := hcy k hlty
          have g0 := (Lay.cell HL.out hbx).trans u0
          have g1 := (Lay.cell HL.out hbx).trans u1
          have k0 := (Lay.cell HL.out hby).trans v0
          have k1 := (Lay.cell HL.out hby).trans v1
          have hdx := Lib.hid (List.drop_eq_getElem_cons hlt)
          have hdy := Lib.hid (List.drop_eq_getElem_cons hlty)
          generalize xs[k] = x at g0 g1 hdx u0 u1
          generalize ys[k] = y at k0 k1 hdy v0 v1
          have hbw : bx < wr.heap.size := Nat.lt_of_lt_of_le hbx HL.out.size
          have hbw' : b' < wr.heap.size := Nat.lt_of_lt_of_le hby HL.out.size
          clear hcx hcy u0 u1 v0 v1 x2 y2 hLs hLl
          have hen := eq_strC x.n y.n
          have hln := less_strC x.n y.n
          have hev := eq_strC x.v y.v
          have hlv := less_strC x.v y.v
          have HLAB : Hid (labC x y = orI (strC x.n y.n) (strC x.v y.v)) := Lib.hid rfl
          have HLIST : Hid (listC labC xs ys = orI (labC x y) (listC labC (xs.drop (k + 1)) (ys.drop (k + 1)))) := Lib.hid (by rw [HZ.out, hdx.out, hdy.out]; rfl)
          generalize strC x.n y.n = r1 at hen hln HLAB
          generalize strC x.v y.v = r2 at hev hlv HLAB
          by_cases h1 : r1 = 0
          · have HLAB2 : Hid (labC x y = r2) := Lib.hid (by rw [HLAB.out, h1]; rfl)
            rw [decide_eq_true h1] at hen
            clear HLAB hln h1
            by_cases h2 : r2 = 0
            · rw [decide_eq_true h2] at hev
              have HLIST2 : Hid (listC labC xs ys = listC labC (xs.drop (k + 1)) (ys.drop (k + 1))) := Lib.hid (by rw [HLIST.out, HLAB2.out, h2]; rfl)
              clear HLAB2 hlv h2
              go_wp2_with fail
              go_region
              all_goals
                go_wp2_with fail
                go_roundw
                case rel => exact ⟨k + 1, by go_num, by omega, by omega, ((HLA.out.alloc _).alloc _).drew, HLIST2.out⟩
                case measure => simp [intOf]; omega
            · rw [decide_eq_false h2] at hev
              have HR : Hid (entC ⟨xt, xs, xline⟩ ⟨xt, ys, yline⟩ = r2) := Lib.hid (by rw [HE.out, HLIST.out, HLAB2.out]; simp [orI, h2])
              clear HLAB2 h2
              go_wp2_with fail
              go_region
              all_goals
                go_wp2_with fail
                go_ret
                exact ⟨by rw [HR.out]; rfl, ((HL.out.alloc _).alloc _).drew⟩
          · rw [decide_eq_false h1] at hen
            have HR : Hid (entC ⟨xt, xs, xline⟩ ⟨xt, ys, yline⟩ = r1) := Lib.hid (by rw [HE.out, HLIST.out, HLAB.out]; simp [orI, h1])
            clear HLAB h1
            go_wp2_with fail
            go_region
            all_goals
              go_wp2_with fail
              go_ret
              exact ⟨by rw [HR.out]; rfl, ((HL.out.alloc _).alloc _).drew⟩
        · obtain rfl : k = ys.length := by omega
          have hr : entC ⟨xt, xs, xline⟩ ⟨xt, ys, yline⟩ = 1 := by
            rw [HE.out, HZ.out, List.drop_length, List.drop_eq_getElem_cons hlt]
            rfl
          have HR := Lib.hid hr
          have hne : ((xs.length : Int) == (ys.length : Int)) = false := by simp; omega
          have hll : decide ((xs.length : Int) < (ys.length : Int)) = false := by simp; omega
          have hl2 : decide (xs.length < ys.length) = false := by simp; omega
          clear hr
          go_wp2_with fail
          go_ret
          exact ⟨by rw [HR.out]; rfl, HL.out⟩
      · obtain rfl : k = xs.length := by omega
        by_cases hlty : xs.length < ys.length
        · have hr : entC ⟨xt, xs, xline⟩ ⟨xt, ys, yline⟩ = -1 := by
            rw [HE.out, HZ.out, List.drop_length, List.drop_eq_getElem_cons hlty]
            rfl
          have HR := Lib.hid hr
          have hne : ((xs.length : Int) == (ys.length : Int)) = false := by simp; omega
          have hll : decide ((xs.length : Int) < (ys.length : Int)) = true := by simp; omega
          clear hr
          go_wp2_with fail
          go_ret
          exact ⟨by rw [HR.out]; rfl, HL.out⟩
        · have hxy : xs.length = ys.length := by omega
          have hr : entC ⟨xt, xs, xline⟩ ⟨xt, ys, yline⟩ = strC xline yline := by
            rw [HE.out, HZ.out, List.drop_length, hxy, List.drop_length]
            rfl
          have HR := Lib.hid hr
          have hne : ((xs.length : Int) == (ys.length : Int)) = true := by simp; omega
          clear hr
          go_wp2_with fail
          go_ret
          exact ⟨by rw [HR.out]; rfl, HL.out⟩
  · have HE := Lib.hid (entC_tm (x := ⟨xt, xs, xline⟩) (y := ⟨yt, ys, yline⟩) htm)
    have hne : (xt == yt) = false := by simpa using htm
    clear htm
    go_enter Try.func23, Try.ntmps23
    go_wp2_with fail
    go_ret
    exact ⟨by rw [HE.out]; rfl, HL0.out⟩

end Go.Proofs.Ytgcldnojmdabpaa
