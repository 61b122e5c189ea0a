/-
  Gk12.
-/
import Derived.Test.YtoobjjpheegmdaaGreatJ09
import Derived.Deep.DeepCutAuto
import Derived.Deep.CutBlock
namespace Go.Proofs.YtoobjjpheegmdaaGreat.E4
open Go.RowKit Go
def bigW (l : List ByteArray) : Bool := l.any fun w => decide (2000 < w.size)
def bigL (l : List ByteArray) : Bool := decide (100 < l.length) || bigW l
def bigM (m : Mt) : Bool := decide (200 < m.name.size) || decide (2000 < m.value.size)
def Ask.great (a : Ask) : Bool := decide (100 < a.all.length) || decide (20 < a.mat.length) || a.all.any bigL || a.mat.any bigM
theorem Ask.great1 {a : Ask} (h : 100 < a.all.length) : a.great = true := by unfold Ask.great; rw [decide_eq_true h]; rfl
theorem Ask.great2 {a : Ask} (h : 20 < a.mat.length) : a.great = true := by unfold Ask.great; rw [decide_eq_true h, Bool.or_true]; rfl
theorem Ask.great3 {a : Ask} {l : List ByteArray} (h : l ∈ a.all) (hb : bigL l = true) : a.great = true := by
  unfold Ask.great
  rw [show a.all.any bigL = true from List.any_eq_true.2 ⟨l, h, hb⟩, Bool.or_true]
  rfl
theorem Ask.great4 {a : Ask} {m : Mt} (h : m ∈ a.mat) (hb : bigM m = true) : a.great = true := by
  unfold Ask.great
  rw [show a.mat.any bigM = true from List.any_eq_true.2 ⟨m, h, hb⟩, Bool.or_true]
theorem Ask.great0 {a : Ask} (h1 : ¬ 100 < a.all.length) (h2 : ¬ 20 < a.mat.length) (h3 : a.all.any bigL = false) (h4 : a.mat.any bigM = false) : a.great = false := by
  unfold Ask.great
  rw [decide_eq_false h1, decide_eq_false h2, h3, h4]
  rfl
theorem any_take {α : Type} (p : α → Bool) (l : List α) (k : Nat) (h : k < l.length) (h0 : (l.take k).any p = false) : (l.take (k + 1)).any p = p l[k] := by
  rw [← List.take_append_getElem h, List.any_append, h0]
  simp
set_option maxHeartbeats 4000000 in
set_option maxRecDepth 100000 in
theorem askGreat_any (a : Ask) (v : Value) (w : World) (h : AskAt w v a) :
    Calls Tryz.prog 23 #[v] w fun e w' => e = .returned (.bool a.great) ∧ Below w.heap.size w w' := by
  have hmx : Tryz.prog.follows .mixedOrders = true := by kernel_rfl
  obtain ⟨av, mv, rfl, hall, hmat⟩ := h
  obtain ⟨aa, ca, rfl, ha63, hac⟩ := id hall
  obtain ⟨am, cm, rfl, hm63, hmc⟩ := id hmat
  unfold Ask.cells
  obtain ⟨w1, hw1⟩ : ∃ w1, w1 = w.alloc (.cells #[.int .i64 a.kd, .int .i64 a.src, .int .i64 a.til, .slice aa a.all.length ca, .slice am a.mat.length cm] 36) := ⟨_, rfl⟩
  have hb1 : Below w.heap.size w w1 := by rw [hw1]; exact (Below.refl _ w).alloc (Nat.le_refl _) _
  have hk1 : Bl w1 w.heap.size 36 #[.int .i64 a.kd, .int .i64 a.src, .int .i64 a.til, .slice aa a.all.length ca, .slice am a.mat.length cm] := by rw [hw1]; exact Bl.new w 36 _
  have HW1 := Lib.hid hw1.symm
  have HB1 := Lib.hid hb1
  have HK1 := Lib.hid hk1
  have HAC := Lib.hid hac
  have HMC := Lib.hid hmc
  have HS1 : Hid (w.heap.size ≤ w1.heap.size) := Lib.hid hb1.size
  have c0 := hk1.cell 0
  have c1 := hk1.cell 1
  have c2 := hk1.cell 2
  have c3 := hk1.cell 3
  have c4 := hk1.cell 4
  simp only [List.getElem?_toArray, List.getElem?_cons_succ, List.getElem?_cons_zero] at c0 c1 c2 c3 c4
  clear hall hmat hw1 hb1 hk1 hac hmc
  go_enter Tryz.func23, Tryz.ntmps23
  go_upto_region 1 with fail
  rw [HW1.out]
  by_cases h1 : 100 < a.all.length
  · have d1 : (100 : Int) < (a.all.length : Int) := by omega
    have HANS := Lib.hid (Ask.great1 h1)
    clear h1
    go_wp2_with fail
    go_ret
    exact ⟨by rw [HANS.out]; rfl, HB1.out⟩
  have d1 : ¬ (100 : Int) < (a.all.length : Int) := by omega
  by_cases h2 : 20 < a.mat.length
  · have d2 : (20 : Int) < (a.mat.length : Int) := by omega
    have HANS := Lib.hid (Ask.great2 h2)
    clear h1 h2
    go_wp2_with fail
    go_ret
    exact ⟨by rw [HANS.out]; rfl, HB1.out⟩
  have d2 : ¬ (20 : Int) < (a.mat.length : Int) := by omega
  have HN1 := Lib.hid h1
  have HN2 := Lib.hid h2
  clear h1 h2
  go_wp2_with fail
  clear d1 d2
  go_loopw [22] (fun vi wr => ∃ k : Nat, vi = .int .i64 k ∧ k ≤ a.all.length ∧ (a.all.take k).any bigL = false ∧ wr = w1) (fun vi _ => a.all.length - (intOf vi).toNat)
  case atStart => exact ⟨0, rfl, Nat.zero_le _, by simp, rfl⟩
  case round =>
    obtain ⟨k, rfl, hk, hany, rfl⟩ := hrel
    by_cases hlt : k < a.all.length
    · rcases HAC.out with h0 | ⟨br, off, rfl, hbr, hcells⟩
      · exact absurd hlt (by rw [h0]; simp)
      obtain ⟨rv, hc0, hsr⟩ := hcells k hlt
      have hc : wr.cell? ⟨br, off + k, none⟩ = some rv := (HB1.out.cell hbr).trans hc0
      have htk := any_take bigL a.all k hlt hany
      have hmem : a.all[k] ∈ a.all := List.getElem_mem hlt
      generalize a.all[k] = l at hsr htk hmem
      obtain ⟨al, cl, rfl, hl63, hlc⟩ := id hsr
      have HLC := Lib.hid hlc
      have HTK := Lib.hid htk
      have HMEM := Lib.hid hmem
      clear hc0 hsr hlc htk hmem hany hcells
      by_cases h1 : 100 < l.length
      · have d1 : (100 : Int) < (l.length : Int) := by omega
        have hbl : bigL l = true := by unfold bigL; rw [decide_eq_true h1]; rfl
        have HANS := Lib.hid (Ask.great3 HMEM.out hbl)
        clear h1 hbl
        go_wp2_with fail
        go_ret
        exact ⟨by rw [HANS.out]; rfl, HB1.out⟩
      have d1 : ¬ (100 : Int) < (l.length : Int) := by omega
      have hbl : bigL l = bigW l := by unfold bigL; rw [decide_eq_false h1]; rfl
      have HBL := Lib.hid hbl
      clear h1 hbl
      go_wp2_with fail
      clear d1
      go_loopw [31] (fun vj wq => ∃ j : Nat, vj = .int .i64 j ∧ j ≤ l.length ∧ ((l.take j).any fun w => decide (2000 < w.size)) = false ∧ wq = wr) (fun vj _ => l.length - (intOf vj).toNat)
      case atStart => exact ⟨0, rfl, Nat.zero_le _, by simp, rfl⟩
      case round =>
        obtain ⟨j, rfl, hj, hanyj, rfl⟩ := hrel
        by_cases hltj : j < l.length
        · rcases HLC.out with h0 | ⟨bl, offl, rfl, hbl, hcl⟩
          · exact absurd hltj (by rw [h0]; simp)
          have hx := (HB1.out.cell (p := ⟨bl, offl + j, none⟩) hbl).trans (hcl j hltj)
          have htj := any_take (fun w => decide (2000 < w.size)) l j hltj hanyj
          have hmj : l[j] ∈ l := List.getElem_mem hltj
          generalize l[j] = s at hx htj hmj
          have HTJ := Lib.hid htj
          have HMJ := Lib.hid hmj
          clear hcl htj hmj hanyj
          by_cases h2 : 2000 < s.size
          · have d2 : (2000 : Int) < (s.size : Int) := by omega
            have HANS := Lib.hid (Ask.great3 HMEM.out (by rw [HBL.out]; exact List.any_eq_true.2 ⟨s, HMJ.out, decide_eq_true h2⟩))
            clear h2
            go_wp2_with fail
            go_ret
            exact ⟨by rw [HANS.out]; rfl, HB1.out⟩
          · have d2 : ¬ (2000 : Int) < (s.size : Int) := by omega
            rw [decide_eq_false h2] at HTJ
            clear h2
            go_wp2_with fail
            go_roundw
            case rel => exact ⟨j + 1, by go_num, by omega, HTJ.out, by first | rfl | trivial⟩
            case measure => simp [intOf]; omega
        · obtain rfl : j = l.length := by omega
          rw [List.take_of_length_le (Nat.le_refl _)] at hanyj
          have HW : Hid ((a.all.take (k + 1)).any bigL = false) := Lib.hid (by rw [HTK.out, HBL.out]; exact hanyj)
          clear hanyj
          go_wp2_with fail
          go_roundw
          case rel => exact ⟨k + 1, by go_num, by omega, HW.out, by first | rfl | trivial⟩
          case measure => simp [intOf]; omega
    · obtain rfl : k = a.all.length := by omega
      rw [List.take_of_length_le (Nat.le_refl _)] at hany
      have HA0 := Lib.hid hany
      clear hany HAC
      go_wp2_with fail
      go_loopw [43] (fun vj wq => ∃ j : Nat, vj = .int .i64 j ∧ j ≤ a.mat.length ∧ (a.mat.take j).any bigM = false ∧ Below wr.heap.size wr wq) (fun vj _ => a.mat.length - (intOf vj).toNat)
      case atStart => exact ⟨0, rfl, Nat.zero_le _, by simp, Below.refl _ _⟩
      case round =>
        obtain ⟨j, rfl, hj, hanyj, hbw⟩ := hrel
        have HBW := Lib.hid hbw
        by_cases hlt : j < a.mat.length
        · rcases HMC.out with h0 | ⟨br, off, rfl, hbr, hcells⟩
          · exact absurd hlt (by rw [h0]; simp)
          obtain ⟨x0, x1, x2⟩ := hcells j hlt
          have hb2 := below_mid12 HB1.out hbw
          have y0 := (hb2.cell (p := ⟨br, off + j * 3, none⟩) hbr).trans x0
          have y1 := (hb2.cell (p := ⟨br, off + j * 3 + 1, none⟩) hbr).trans x1
          have y2 := (hb2.cell (p := ⟨br, off + j * 3 + 2, none⟩) hbr).trans x2
          have htj := any_take bigM a.mat j hlt hanyj
          have hmj : a.mat[j] ∈ a.mat := List.getElem_mem hlt
          generalize a.mat[j] = m at x0 x1 x2 y0 y1 y2 htj hmj
          have HTJ := Lib.hid htj
          have HMJ := Lib.hid hmj
          clear x0 x1 x2 hb2 htj hmj hanyj hcells hbw
          by_cases h1 : 200 < m.name.size
          · have e1 : (200 : Int) < (m.name.size : Int) := by omega
            have HANS := Lib.hid (Ask.great4 HMJ.out (by unfold bigM; rw [decide_eq_true h1]; rfl))
            clear h1
            go_wp2_with fail
            go_ret
            exact ⟨by rw [HANS.out]; rfl, below_mid12 HB1.out (HBW.out.alloc HBW.out.size _)⟩
          have e1 : ¬ (200 : Int) < (m.name.size : Int) := by omega
          by_cases h2 : 2000 < m.value.size
          · have e2 : (2000 : Int) < (m.value.size : Int) := by omega
            have HANS := Lib.hid (Ask.great4 HMJ.out (by unfold bigM; rw [decide_eq_true h2, Bool.or_true]))
            clear h1 h2
            go_wp2_with fail
            go_ret
            exact ⟨by rw [HANS.out]; rfl, below_mid12 HB1.out (HBW.out.alloc HBW.out.size _)⟩
          have e2 : ¬ (2000 : Int) < (m.value.size : Int) := by omega
          have HNB : Hid ((a.mat.take (j + 1)).any bigM = false) := Lib.hid (by rw [HTJ.out]; unfold bigM; rw [decide_eq_false h1, decide_eq_false h2]; rfl)
          clear h1 h2
          go_wp2_with fail
          go_roundw
          case rel => exact ⟨j + 1, by go_num, by omega, HNB.out, HBW.out.alloc HBW.out.size _⟩
          case measure => simp [intOf]; omega
        · obtain rfl : j = a.mat.length := by omega
          rw [List.take_of_length_le (Nat.le_refl _)] at hanyj
          have HANS := Lib.hid (Ask.great0 HN1.out HN2.out HA0.out hanyj)
          clear hanyj hbw
          go_wp2_with fail
          go_ret
          exact ⟨by rw [HANS.out]; rfl, below_mid12 HB1.out HBW.out⟩
end Go.Proofs.YtoobjjpheegmdaaGreat.E4
