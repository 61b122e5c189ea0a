/-
  CAN A QUESTION BE? (the document's Good; what IsText answers is handed in)
-/
import Derived.Test.YtgfjbboeappemaaGreatDoorTy12
import Derived.Test.YtgfjbboeappemaaGreatDoorNb
namespace Go.Proofs.YtgfjbboeappemaaGreatDoor.E4
open Go.RowKit Go

def smallW (w : ByteArray) : Bool := decide (w.size ≤ 1024)
def rowG (l : List ByteArray) : Bool := decide (l.length ≤ 64) && l.all smallW
def matG (isT : ByteArray → Bool) (m : Mt) : Bool := MW.name m.name.data.toList && decide (m.value.size ≤ 1024) && isT m.value
def Ask.inn (a : Ask) : Prop := (1 ≤ a.kd ∧ a.kd ≤ 3) ∧ (-1099511627776 ≤ a.src ∧ a.src ≤ 1099511627776) ∧ (-1099511627776 ≤ a.til ∧ a.til ≤ 1099511627776)
instance (a : Ask) : Decidable a.inn := by unfold Ask.inn; infer_instance
/-- Can it be? -/
def Ask.good (isT : ByteArray → Bool) (a : Ask) : Bool := decide a.inn && (if a.kd = 1 then a.all.all rowG && decide (a.all.length ≤ 64) else if a.kd = 2 then a.mat.all (matG isT) && decide (a.mat.length ≤ 4) else true)

variable {isT : ByteArray → Bool}
theorem good_no {a : Ask} (h : a.kd < 1 ∨ 3 < a.kd ∨ 1099511627776 < a.src ∨ a.src < -1099511627776 ∨ 1099511627776 < a.til ∨ a.til < -1099511627776) : a.good isT = false := by
  unfold Ask.good
  rw [decide_eq_false (by unfold Ask.inn; omega)]
  rfl
theorem good_1 {a : Ask} (h : a.inn) (k : a.kd = 1) : a.good isT = (a.all.all rowG && decide (a.all.length ≤ 64)) := by
  unfold Ask.good
  rw [decide_eq_true h, if_pos k]
  rfl
theorem good_2 {a : Ask} (h : a.inn) (k : a.kd = 2) : a.good isT = (a.mat.all (matG isT) && decide (a.mat.length ≤ 4)) := by
  unfold Ask.good
  rw [decide_eq_true h, if_neg (by omega), if_pos k]
  rfl
theorem good_3 {a : Ask} (h : a.inn) (k1 : ¬ a.kd = 1) (k2 : ¬ a.kd = 2) : a.good isT = true := by
  unfold Ask.good
  rw [decide_eq_true h, if_neg k1, if_neg k2]
  rfl
theorem all_take {α : Type} (p : α → Bool) (l : List α) (k : Nat) (h : k < l.length) (h0 : (l.take k).all p = true) : (l.take (k + 1)).all p = p l[k] := by
  rw [← List.take_append_getElem h, List.all_append, h0]
  simp
theorem all_no {α : Type} {p : α → Bool} {l : List α} {x : α} (h : x ∈ l) (hp : p x = false) : l.all p = false := by
  rw [List.all_eq_false]
  exact ⟨x, h, by simp [hp]⟩

set_option maxHeartbeats 8000000 in
set_option maxRecDepth 100000 in
theorem askGood_any {Tb : World → Prop} (hTb : ∀ W W', Below W.heap.size W W' → Tb W → Tb W') (hI : ∀ (s : ByteArray) (W : World), s.size ≤ 1024 → Tb W → Calls Tryz.prog 38 #[.string s] W fun e W' => e = .returned (.bool (isT s)) ∧ Below W.heap.size W W')
    (a : Ask) (v : Value) (w : World) (h : AskAt w v a) (hT : Tb w) :
    Calls Tryz.prog 18 #[v] w fun e w' => e = .returned (.bool (a.good isT)) ∧ Below w.heap.size w w' := by
  have hmx : Tryz.prog.follows .mixedOrders = true := by kernel_rfl
  obtain ⟨av, mv, rfl, hall, hmat⟩ := h
  obtain ⟨aa, ca, rfl, ha63, hac⟩ := id hall
  obtain ⟨am, cm, rfl, hm63, hmc⟩ := id hmat
  unfold Ask.cells
  obtain ⟨w1, hw1⟩ : ∃ w1, w1 = w.alloc (.cells #[.int .i64 a.kd, .int .i64 a.src, .int .i64 a.til, .slice aa a.all.length ca, .slice am a.mat.length cm] 26) := ⟨_, rfl⟩
  have hb1 : Below w.heap.size w w1 := by rw [hw1]; exact (Below.refl _ w).alloc (Nat.le_refl _) _
  have hk1 : Bl w1 w.heap.size 26 #[.int .i64 a.kd, .int .i64 a.src, .int .i64 a.til, .slice aa a.all.length ca, .slice am a.mat.length cm] := by rw [hw1]; exact Bl.new w 26 _
  have HW1 := Lib.hid hw1.symm
  have HB1 := Lib.hid hb1
  have HK1 := Lib.hid hk1
  have HAC := Lib.hid hac
  have HMC := Lib.hid hmc
  have HTB := Lib.hid hTb
  have HI := Lib.hid hI
  have HT := Lib.hid hT
  have c0 := hk1.cell 0
  have c1 := hk1.cell 1
  have c2 := hk1.cell 2
  have c3 := hk1.cell 3
  have c4 := hk1.cell 4
  simp only [List.getElem?_toArray, List.getElem?_cons_succ, List.getElem?_cons_zero] at c0 c1 c2 c3 c4
  clear hall hmat hw1 hb1 hk1 hac hmc hTb hI hT
  go_enter Tryz.func18, Tryz.ntmps18
  go_upto_region 1 with fail
  rw [HW1.out]
  by_cases k1 : a.kd < 1
  · have HNO : Hid (a.good isT = false) := Lib.hid (good_no (by omega))
    go_wp2_with fail
    go_ret
    exact ⟨by rw [HNO.out]; rfl, HB1.out⟩
  by_cases k2 : 3 < a.kd
  · have HNO : Hid (a.good isT = false) := Lib.hid (good_no (by omega))
    go_wp2_with fail
    go_ret
    exact ⟨by rw [HNO.out]; rfl, HB1.out⟩
  by_cases k3 : 1099511627776 < a.src
  · have HNO : Hid (a.good isT = false) := Lib.hid (good_no (by omega))
    go_wp2_with fail
    go_ret
    exact ⟨by rw [HNO.out]; rfl, HB1.out⟩
  by_cases k4 : a.src < -1099511627776
  · have HNO : Hid (a.good isT = false) := Lib.hid (good_no (by omega))
    go_wp2_with fail
    go_ret
    exact ⟨by rw [HNO.out]; rfl, HB1.out⟩
  by_cases k5 : 1099511627776 < a.til
  · have HNO : Hid (a.good isT = false) := Lib.hid (good_no (by omega))
    go_wp2_with fail
    go_ret
    exact ⟨by rw [HNO.out]; rfl, HB1.out⟩
  by_cases k6 : a.til < -1099511627776
  · have HNO : Hid (a.good isT = false) := Lib.hid (good_no (by omega))
    go_wp2_with fail
    go_ret
    exact ⟨by rw [HNO.out]; rfl, HB1.out⟩
  have hin : a.inn := by unfold Ask.inn; omega
  have HIN := Lib.hid hin
  clear hin
  by_cases d1 : a.kd = 1
  · have HG : Hid (a.good isT = (a.all.all rowG && decide (a.all.length ≤ 64))) := Lib.hid (good_1 HIN.out d1)
    have e1 : (a.kd == 1) = true := by simp [d1]
    clear d1
    go_wp2_with fail
    clear k1 k2 k3 k4 k5 k6 e1
    go_loopw [43] (fun vi wr => ∃ k : Nat, vi = .int .i64 k ∧ k ≤ a.all.length ∧ (a.all.take k).all rowG = true ∧ wr = w1) (fun vi _ => a.all.length - (intOf vi).toNat)
    case atStart => exact ⟨0, rfl, Nat.zero_le _, by simp, by first | rfl | trivial⟩
    case round =>
      obtain ⟨k, rfl, hk, hany, rfl⟩ := hrel
      by_cases hlt : k < a.all.length
      · rcases HAC.out with h0 | ⟨br, off, rfl, hbr, hcells⟩
        · exact absurd hlt (by rw [h0]; simp)
        obtain ⟨rv, hc0, hsr⟩ := hcells k hlt
        have hc : wr.cell? ⟨br, off + k, none⟩ = some rv := (HB1.out.cell hbr).trans hc0
        have htk := all_take rowG a.all k hlt hany
        have hmem : a.all[k] ∈ a.all := List.getElem_mem hlt
        generalize a.all[k] = l at hsr htk hmem
        obtain ⟨al, cl, rfl, hl63, hlc⟩ := id hsr
        have HLC := Lib.hid hlc
        have HTK := Lib.hid htk
        have HMEM := Lib.hid hmem
        clear hc0 hsr hlc htk hmem hany hcells
        by_cases h1 : 64 < l.length
        · have d1 : (64 : Int) < (l.length : Int) := by omega
          have HANS : Hid (a.good isT = false) := Lib.hid (by rw [HG.out, all_no HMEM.out (by unfold rowG; rw [decide_eq_false (by omega)]; rfl)]; rfl)
          clear h1
          go_wp2_with fail
          go_ret
          exact ⟨by rw [HANS.out]; rfl, HB1.out⟩
        have d1 : ¬ (64 : Int) < (l.length : Int) := by omega
        have HBL : Hid (rowG l = l.all smallW) := Lib.hid (by unfold rowG; rw [decide_eq_true (by omega)]; rfl)
        clear h1
        go_wp2_with fail
        clear d1
        go_loopw [52] (fun vj wq => ∃ j : Nat, vj = .int .i64 j ∧ j ≤ l.length ∧ (l.take j).all smallW = true ∧ wq = wr) (fun vj _ => l.length - (intOf vj).toNat)
        case atStart => exact ⟨0, rfl, Nat.zero_le _, by simp, by first | rfl | trivial⟩
        case round =>
          obtain ⟨j, rfl, hj, hanyj, rfl⟩ := hrel
          by_cases hltj : j < l.length
          · rcases HLC.out with h0 | ⟨bl, offl, rfl, hbl, hcl⟩
            · exact absurd hltj (by rw [h0]; simp)
            have hx := (HB1.out.cell (p := ⟨bl, offl + j, none⟩) hbl).trans (hcl j hltj)
            have htj := all_take smallW l j hltj hanyj
            have hmj : l[j] ∈ l := List.getElem_mem hltj
            generalize l[j] = s at hx htj hmj
            have HTJ := Lib.hid htj
            have HMJ := Lib.hid hmj
            clear hcl htj hmj hanyj
            by_cases h2 : 1024 < s.size
            · have d2 : (1024 : Int) < (s.size : Int) := by omega
              have HANS : Hid (a.good isT = false) := Lib.hid (by rw [HG.out, all_no HMEM.out (by rw [HBL.out]; exact all_no HMJ.out (by unfold smallW; rw [decide_eq_false (by omega)]))]; rfl)
              clear h2
              go_wp2_with fail
              go_ret
              exact ⟨by rw [HANS.out]; rfl, HB1.out⟩
            · have d2 : ¬ (1024 : Int) < (s.size : Int) := by omega
              have HNX : Hid ((l.take (j + 1)).all smallW = true) := Lib.hid (by rw [HTJ.out]; unfold smallW; rw [decide_eq_true (by omega)])
              clear h2
              go_wp2_with fail
              go_roundw
              case rel => exact ⟨j + 1, by go_num, by omega, HNX.out, by first | rfl | trivial⟩
              case measure => simp [intOf]; omega
          · obtain rfl : j = l.length := by omega
            rw [List.take_of_length_le (Nat.le_refl _)] at hanyj
            have HW : Hid ((a.all.take (k + 1)).all rowG = true) := Lib.hid (by rw [HTK.out, HBL.out]; exact hanyj)
            clear hanyj
            go_wp2_with fail
            go_roundw
            case rel => exact ⟨k + 1, by go_num, by omega, HW.out, by first | rfl | trivial⟩
            case measure => simp [intOf]; omega
      · obtain rfl : k = a.all.length := by omega
        rw [List.take_of_length_le (Nat.le_refl _)] at hany
        have HANS : Hid (a.good isT = decide ((a.all.length : Int) ≤ 64)) := Lib.hid (by
          rw [HG.out, hany, Bool.true_and]
          exact decide_eq_decide.2 (by omega))
        clear hany
        go_wp2_with fail
        go_ret
        exact ⟨by rw [HANS.out]; rfl, HB1.out⟩
  have e1 : (a.kd == 1) = false := by simp [d1]
  by_cases d2 : a.kd = 2
  · have HG : Hid (a.good isT = (a.mat.all (matG isT) && decide (a.mat.length ≤ 4))) := Lib.hid (good_2 HIN.out d2)
    have e2 : (a.kd == 2) = true := by simp [d2]
    clear d1 d2
    go_wp2_with fail
    clear k1 k2 k3 k4 k5 k6 e1 e2
    go_loopw [71] (fun vj wq => ∃ j : Nat, vj = .int .i64 j ∧ j ≤ a.mat.length ∧ (a.mat.take j).all (matG isT) = true ∧ Below w1.heap.size w1 wq) (fun vj _ => a.mat.length - (intOf vj).toNat)
    case atStart => exact ⟨0, rfl, Nat.zero_le _, by simp, Below.refl _ _⟩
    case round =>
      obtain ⟨j, rfl, hj, hanyj, hbw⟩ := hrel
      have HBW := Lib.hid hbw
      by_cases hlt : j < a.mat.length
      · rcases HMC.out with h0 | ⟨br, off, rfl, hbr, hcells⟩
        · exact absurd hlt (by rw [h0]; simp)
        obtain ⟨x0, x1, x2⟩ := hcells j hlt
        have hb2 := below_mid12 HB1.out hbw
        have y0 := (hb2.cell (p := ⟨br, off + j * 3, none⟩) hbr).trans x0
        have y1 := (hb2.cell (p := ⟨br, off + j * 3 + 1, none⟩) hbr).trans x1
        have y2 := (hb2.cell (p := ⟨br, off + j * 3 + 2, none⟩) hbr).trans x2
        have htj := all_take (matG isT) a.mat j hlt hanyj
        have hmj : a.mat[j] ∈ a.mat := List.getElem_mem hlt
        generalize a.mat[j] = m at x0 x1 x2 y0 y1 y2 htj hmj
        have HTJ := Lib.hid htj
        have HMJ := Lib.hid hmj
        have HWA := Lib.hid (below_mid12 HB1.out (HBW.out.alloc HBW.out.size (.cells #[.string m.name, .bool m.not, .string m.value] 59)))
        have HWAR := Lib.hid (HBW.out.alloc HBW.out.size (.cells #[.string m.name, .bool m.not, .string m.value] 59))
        have hn0 := Bl.new wr 59 #[.string m.name, .bool m.not, .string m.value]
        have HNM := Lib.hid (refName_any m.name (wr.alloc (.cells #[.string m.name, .bool m.not, .string m.value] 59)))
        clear x0 x1 x2 hb2 htj hmj hanyj hcells hbw hn0
        go_wp2_with fail
        refine HNM.out.mono ?_
        rintro e w3 ⟨rfl, rfl⟩
        cases hnm : MW.name m.name.data.toList with
        | false =>
          have HANS : Hid (a.good isT = false) := Lib.hid (by rw [HG.out, all_no HMJ.out (by unfold matG; rw [hnm]; rfl)]; rfl)
          clear hnm
          go_wp2_with fail
          go_ret
          exact ⟨by rw [HANS.out]; rfl, HWA.out⟩
        | true =>
        have HNT := Lib.hid hnm
        by_cases h2 : 1024 < m.value.size
        · have d2 : (1024 : Int) < (m.value.size : Int) := by omega
          have HANS : Hid (a.good isT = false) := Lib.hid (by rw [HG.out, all_no HMJ.out (by unfold matG; rw [hnm, decide_eq_false (by omega)]; rfl)]; rfl)
          clear hnm h2
          go_wp2_with fail
          go_ret
          exact ⟨by rw [HANS.out]; rfl, HWA.out⟩
        have d2 : ¬ (1024 : Int) < (m.value.size : Int) := by omega
        have HIT := Lib.hid (HI.out m.value _ (by omega) (HTB.out _ _ HWA.out HT.out))
        have HSZ : Hid (decide (m.value.size ≤ 1024) = true) := Lib.hid (decide_eq_true (by omega))
        clear hnm h2
        go_wp2_with fail
        refine HIT.out.mono ?_
        rintro e w4 ⟨rfl, hb4⟩
        have HB4 := Lib.hid (below_mid12 HWA.out hb4)
        have HB4R := Lib.hid (below_mid12 HWAR.out hb4)
        clear hb4 HIT y0 y1 y2
        cases hit : isT m.value with
        | false =>
          have HANS : Hid (a.good isT = false) := Lib.hid (by rw [HG.out, all_no HMJ.out (by unfold matG; rw [hit, Bool.and_false])]; rfl)
          clear hit
          go_wp2_with fail
          go_ret
          exact ⟨by rw [HANS.out]; rfl, HB4.out⟩
        | true =>
          have HNX : Hid ((a.mat.take (j + 1)).all (matG isT) = true) := Lib.hid (by rw [HTJ.out]; unfold matG; rw [HNT.out, HSZ.out, hit]; rfl)
          clear hit
          go_wp2_with fail
          go_roundw
          case rel => exact ⟨j + 1, by go_num, by omega, HNX.out, HB4R.out⟩
          case measure => simp [intOf]; omega
      · obtain rfl : j = a.mat.length := by omega
        rw [List.take_of_length_le (Nat.le_refl _)] at hanyj
        have HANS : Hid (a.good isT = decide ((a.mat.length : Int) ≤ 4)) := Lib.hid (by
          rw [HG.out, hanyj, Bool.true_and]
          exact decide_eq_decide.2 (by omega))
        have hkw := Bl.below HK1.out hbw
        clear hanyj hbw c0 c1 c2 c3 c4
        have c0 := hkw.cell 0
        have c1 := hkw.cell 1
        have c2 := hkw.cell 2
        have c3 := hkw.cell 3
        have c4 := hkw.cell 4
        simp only [List.getElem?_toArray, List.getElem?_cons_succ, List.getElem?_cons_zero] at c0 c1 c2 c3 c4
        clear hkw
        go_wp2_with fail
        go_ret
        exact ⟨by rw [HANS.out]; rfl, below_mid12 HB1.out HBW.out⟩
  · have HG : Hid (a.good isT = true) := Lib.hid (good_3 HIN.out d1 d2)
    have e2 : (a.kd == 2) = false := by simp [d2]
    clear d1 d2
    go_wp2_with fail
    go_ret
    exact ⟨by rw [HG.out]; rfl, HB1.out⟩

end Go.Proofs.YtgfjbboeappemaaGreatDoor.E4
