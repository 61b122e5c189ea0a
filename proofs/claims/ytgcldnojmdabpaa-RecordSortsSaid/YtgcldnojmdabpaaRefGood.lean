/-
  THE DOCUMENT'S OWN Good.
-/
import Derived.Test.YtgcldnojmdabpaaRefName
import Derived.Test.YtgcldnojmdabpaaGood
namespace Go.Proofs.Ytgcldnojmdabpaa
open Go.RowKit Go

theorem time_no {n : Int} (h : timeOK n = false) : decide (1099511627776 < n) = true ∨ (decide (1099511627776 < n) = false ∧ decide (n < -1099511627776) = true) := by
  unfold timeOK at h
  simp at h
  simp
  omega
theorem time_yes {n : Int} (h : timeOK n = true) : decide (1099511627776 < n) = false ∧ decide (n < -1099511627776) = false := by
  unfold timeOK at h
  simp at h
  simp
  omega

set_option maxHeartbeats 8000000 in
set_option maxRecDepth 100000 in
/-- The document's Good. -/
theorem refGood_any {G : Nat → Prop} {w : World} {e : Ent} {lv : Value} (h : LabsAt G w lv e.labs) :
    Calls Try.prog 15 #[e.val lv] w fun x w' => x = .returned (.bool e.ok) ∧ Lay w w' := by
  obtain ⟨a, ca, rfl, hl63, ha⟩ := h
  obtain ⟨tm, labs, line⟩ := e
  have HA := Lib.hid ha
  have HL0 : Hid (Lay w (w.alloc (.cells #[.int .i64 tm, .slice a labs.length ca, .string line] 24))) := Lib.hid ((Keep.refl _ _).alloc _)
  have HOK : Hid (Ent.ok ⟨tm, labs, line⟩ = (timeOK tm && labsOK labs && lineOK line)) := Lib.hid rfl
  unfold Ent.val
  clear ha
  simp only [] at hl63 HA ⊢
  cases ht : timeOK tm with
  | false =>
    have HO := HOK.out
    rw [ht, Bool.false_and, Bool.false_and] at HO
    have HR := Lib.hid HO
    clear HO
    rcases time_no ht with d1 | ⟨d1, d2⟩
    all_goals
      go_enter Try.func15, Try.ntmps15
      go_wp2_with fail
      go_ret
      exact ⟨by rw [HR.out]; rfl, HL0.out⟩
  | true =>
    obtain ⟨d1, d2⟩ := time_yes ht
    have HO := HOK.out
    rw [ht, Bool.true_and] at HO
    have HOK := Lib.hid HO
    clear HO ht
    by_cases h4 : labs.length ≤ 4
    · have d4 : decide (4 < (labs.length : Int)) = false := by simp; omega
      by_cases h200 : line.size ≤ 200
      · have d200 : decide (200 < (line.size : Int)) = false := by simp; omega
        have HO := HOK.out
        unfold lineOK at HO
        rw [decide_eq_true h200, Bool.true_and] at HO
        have HOK := Lib.hid HO
        clear HO
        go_enter Try.func15, Try.ntmps15
        go_wp2_with fail
        clear d1 d2 d4 d200
        go_loopw [29] (fun vi wr => ∃ k : Nat, vi = .int .i64 k ∧ k ≤ labs.length ∧ Lay (w.alloc (.cells #[.int .i64 tm, .slice a labs.length ca, .string line] 24)) wr ∧ ∀ j, j < k → labOK labs j = true) (fun vi _ => labs.length - (intOf vi).toNat)
        case atStart => exact ⟨0, rfl, Nat.zero_le _, Keep.refl _ _, fun j hj => by omega⟩
        case round =>
          obtain ⟨k, rfl, hk, hl, hz⟩ := hrel
          have HZ := Lib.hid hz
          have e0 : wr.cell? ⟨w.heap.size, 0, none⟩ = some (.int .i64 tm) := (Lay.cell hl (by simp)).trans (by go_simp)
          have e1 : wr.cell? ⟨w.heap.size, 1, none⟩ = some (.slice a labs.length ca) := (Lay.cell hl (by simp)).trans (by go_simp)
          have e2 : wr.cell? ⟨w.heap.size, 2, none⟩ = some (.string line) := (Lay.cell hl (by simp)).trans (by go_simp)
          have hwr : w.heap.size < wr.heap.size := Nat.lt_of_lt_of_le (by simp) hl.size
          have HL := Lib.hid (Keep.trans HL0.out hl)
          have HLA := Lib.hid hl
          clear hz hl
          by_cases hlt : k < labs.length
          · rcases HA.out with h0 | ⟨bx, ox, rfl, hgx, hbx, hcx⟩
            · exact absurd hlt (by rw [h0]; simp)
            obtain ⟨x0, x1⟩ := hcx k hlt
            have g0 := (Lay.cell HL.out hbx).trans x0
            have g1 := (Lay.cell HL.out hbx).trans x1
            have hbw : bx < wr.heap.size := Nat.lt_of_lt_of_le hbx HL.out.size
            have hx : labs.getD k noLab = labs[k] := by simp [List.getD, hlt]
            generalize labs[k] = x at g0 g1 hx x0 x1
            have p0 : 0 < k → wr.cell? ⟨bx, ox + (k - 1) * 2, none⟩ = some (.string (labs.getD (k - 1) noLab).n) := fun h0 => by
              have := (hcx (k - 1) (by omega)).1
              rw [show (labs.getD (k - 1) noLab) = labs[k - 1] from by simp [List.getD, show k - 1 < labs.length by omega]]
              exact (Lay.cell HL.out hbx).trans this
            have HP0 := Lib.hid p0
            have HX := Lib.hid hx
            have HOKK : Hid (labOK labs k = (MW.name x.n.data.toList && decide (x.v.size ≤ 20) && (k == 0 || decide (strC (labs.getD (k - 1) noLab).n x.n = -1)))) := Lib.hid (by unfold labOK; rw [HX.out])
            have HNM := Lib.hid (fun w => refName_any x.n w)
            clear hcx hx x0 x1 p0 e0 e2
            cases hnm : MW.name x.n.data.toList with
            | false =>
              have HO := HOKK.out
              rw [hnm] at HO HNM
              have HR := Lib.hid (labsOK_no hlt (HO.trans rfl))
              clear HO hnm
              go_wp2_with fail
              go_quiet ((go_at_call 17; exact Calls.quiet_of_same (HNM.out _)))
              go_wp2_with fail
              go_ret
              exact ⟨by rw [HOK.out, HR.out]; rfl, (HL.out.alloc _).drewN _⟩
            | true =>
              rw [hnm] at HNM
              have HO := HOKK.out
              rw [hnm, Bool.true_and] at HO
              have HOKK := Lib.hid HO
              clear HO hnm
              by_cases hv : x.v.size ≤ 20
              · have d20 : decide (20 < (x.v.size : Int)) = false := by simp; omega
                have HO := HOKK.out
                rw [decide_eq_true hv, Bool.true_and] at HO
                have HOKK := Lib.hid HO
                clear HO hv
                by_cases hk0 : k = 0
                · subst hk0
                  rw [Nat.zero_mul, Nat.add_zero] at g0 g1
                  have HR : Hid (labOK labs 0 = true) := Lib.hid (HOKK.out.trans rfl)
                  go_wp2_with fail
                  go_quiet ((go_at_call 17; exact Calls.quiet_of_same (HNM.out _)))
                  go_wp2_with fail
                  go_roundw
                  case rel => exact ⟨1, by go_num, by omega, (HLA.out.alloc _).drewN _, fun j hj => (show j = 0 by omega) ▸ HR.out⟩
                  case measure => simp [intOf]; omega
                · have p0 := HP0.out (by omega)
                  have dk : decide (0 < k) = true := by simp; omega
                  have kk : ((k : Int) - 1).toNat = k - 1 := by omega
                  have hkz : (k == 0) = false := by simpa using hk0
                  have HO := HOKK.out
                  rw [hkz, Bool.false_or] at HO
                  have HOKK := Lib.hid HO
                  clear HO hkz
                  generalize (labs.getD (k - 1) noLab).n = y at p0 HOKK
                  by_cases hc : strC y x.n = -1
                  · have hbl : Op.bytesLess y.toList x.n.toList = true := by rw [less_strC]; exact decide_eq_true hc
                    have HR : Hid (labOK labs k = true) := Lib.hid (HOKK.out.trans (decide_eq_true hc))
                    clear hc
                    go_wp2_with fail
                    go_quiet ((go_at_call 17; exact Calls.quiet_of_same (HNM.out _)))
                    go_wp2_with fail
                    go_roundw
                    case rel =>
                      refine ⟨k + 1, by go_num, by omega, (HLA.out.alloc _).drewN _, fun j hj => ?_⟩
                      by_cases e : j = k
                      · rw [e]; exact HR.out
                      · exact HZ.out j (by omega)
                    case measure => simp [intOf]; omega
                  · have hbl : Op.bytesLess y.toList x.n.toList = false := by rw [less_strC]; exact decide_eq_false hc
                    have HR := Lib.hid (labsOK_no hlt (HOKK.out.trans (decide_eq_false hc)))
                    clear hc
                    go_wp2_with fail
                    go_quiet ((go_at_call 17; exact Calls.quiet_of_same (HNM.out _)))
                    go_wp2_with fail
                    go_ret
                    exact ⟨by rw [HOK.out, HR.out]; rfl, (HL.out.alloc _).drewN _⟩
              · have d20 : decide (20 < (x.v.size : Int)) = true := by simp; omega
                have HO := HOKK.out
                rw [decide_eq_false hv] at HO
                have HR := Lib.hid (labsOK_no hlt (HO.trans rfl))
                clear HO hv
                go_wp2_with fail
                go_quiet ((go_at_call 17; exact Calls.quiet_of_same (HNM.out _)))
                go_wp2_with fail
                go_ret
                exact ⟨by rw [HOK.out, HR.out]; rfl, (HL.out.alloc _).drewN _⟩
          · obtain rfl : k = labs.length := by omega
            have hok := labsOK_yes h4 HZ.out
            have HO := HOK.out
            rw [hok, Bool.true_and] at HO
            have HOK := Lib.hid HO
            clear HO hok
            have E2 := Lib.hid e2
            have hsz := Lib.hid (show line.data.toList.length = line.size from (Lib.size_eq line).symm)
            clear e0 e1 hk
            obtain ⟨wA, rfl⟩ : ∃ wA : World, wA = wr := ⟨_, rfl⟩
            go_wp2_with fail
            go_loopw [5] (fun vi wr => ∃ k : Nat, vi = .int .i64 k ∧ k ≤ line.size ∧ wr = wA ∧ line.data.toList.all (· != 10) = (line.data.toList.drop k).all (· != 10)) (fun vi _ => line.size - (intOf vi).toNat)
            case atStart => exact ⟨0, rfl, Nat.zero_le _, rfl, by simp⟩
            case round =>
              obtain ⟨k, rfl, hk, hw2, hz⟩ := hrel
              have HZ := Lib.hid hz
              have HW := Lib.hid hw2
              have k2 : wr.cell? ⟨w.heap.size, 2, none⟩ = some (.string line) := by rw [hw2]; exact E2.out
              have HL2 : Hid (Lay w wr) := Lib.hid (by rw [hw2]; exact HL.out)
              clear hw2 hz
              by_cases hlt : k < line.size
              · have HD := Lib.hid (byte_drop line k hlt)
                obtain ⟨c, hc⟩ : ∃ c, c = line[k] := ⟨_, rfl⟩
                obtain ⟨m, hm⟩ : ∃ m, line[k].toNat = m := ⟨_, rfl⟩
                have hix := fun w => idx_run line k m hlt hm w
                rw [← hc] at HD hm
                have HC := Lib.hid hm
                clear hc hm
                by_cases h10 : m = 10
                · subst h10
                  have e10 : c = 10 := UInt8.toNat_inj.1 HC.out
                  have HE := Lib.hid e10
                  clear e10
                  go_wp2_with fail
                  go_ret
                  refine ⟨ret_bool ?_, HL2.out⟩
                  rw [HOK.out, HZ.out, HD.out, HE.out]
                  rfl
                · have e10 : ((m : Int) == 10) = false := by simp; omega
                  have HE : Hid ((c != 10) = true) := Lib.hid (by
                    rw [bne_iff_ne]
                    intro e
                    exact h10 (by rw [← HC.out, e]; rfl))
                  clear h10
                  go_wp2_with fail
                  go_roundw
                  case rel => exact ⟨k + 1, by go_num, by omega, HW.out, by rw [HZ.out, HD.out, List.all_cons, HE.out, Bool.true_and]⟩
                  case measure => simp [intOf]; omega
              · obtain rfl : k = line.size := by omega
                go_wp2_with fail
                go_ret
                refine ⟨ret_bool ?_, HL2.out⟩
                rw [HOK.out, HZ.out, List.drop_of_length_le (by rw [hsz.out]; exact Nat.le_refl _)]
                rfl
      · have d200 : decide (200 < (line.size : Int)) = true := by simp; omega
        have HR : Hid (Ent.ok ⟨tm, labs, line⟩ = false) := Lib.hid (by rw [HOK.out]; unfold lineOK; rw [decide_eq_false h200, Bool.false_and, Bool.and_false])
        clear h4 h200
        go_enter Try.func15, Try.ntmps15
        go_wp2_with fail
        go_ret
        exact ⟨by rw [HR.out]; rfl, HL0.out⟩
    · have d4 : decide (4 < (labs.length : Int)) = true := by simp; omega
      have HR : Hid (Ent.ok ⟨tm, labs, line⟩ = false) := Lib.hid (by rw [HOK.out, labsOK_many h4, Bool.false_and])
      clear h4
      go_enter Try.func15, Try.ntmps15
      go_wp2_with fail
      go_ret
      exact ⟨by rw [HR.out]; rfl, HL0.out⟩

end Go.Proofs.Ytgcldnojmdabpaa
