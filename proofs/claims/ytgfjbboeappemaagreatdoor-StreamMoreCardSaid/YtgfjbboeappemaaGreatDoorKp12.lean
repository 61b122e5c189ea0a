/-
  DOES A QUESTION ASK FOR AN ENTRY? (the document's Keeps; what Has and Labels answer is handed in)
-/
import Derived.Test.YtgfjbboeappemaaGreatDoorGo12
namespace Go.Proofs.YtgfjbboeappemaaGreatDoor.E4
open Go.RowKit Go

/-- Does it ask for an entry? -/
def Ask.keeps (has : ByteArray → ByteArray → Bool) (labs : List Mt → Ent → Bool) (a : Ask) (e : Ent) : Bool :=
  decide ((1 ≤ a.kd ∧ a.kd ≤ 3) ∧ a.src ≤ e.tm ∧ e.tm ≤ a.til) && (if a.kd = 2 then labs a.mat e else if a.kd = 3 then true else a.all.all fun l => l.any (has e.line))

variable {has : ByteArray → ByteArray → Bool} {labs : List Mt → Ent → Bool}
theorem keeps_no {a : Ask} {e : Ent} (h : a.kd < 1 ∨ 3 < a.kd ∨ e.tm < a.src ∨ a.til < e.tm) : a.keeps has labs e = false := by
  unfold Ask.keeps
  rw [decide_eq_false (by omega)]
  rfl
theorem keeps_in {a : Ask} {e : Ent} (h : (1 ≤ a.kd ∧ a.kd ≤ 3) ∧ a.src ≤ e.tm ∧ e.tm ≤ a.til) : a.keeps has labs e = if a.kd = 2 then labs a.mat e else if a.kd = 3 then true else a.all.all fun l => l.any (has e.line) := by
  unfold Ask.keeps
  rw [decide_eq_true h]
  rfl
theorem cnt_take {α : Type} (p : α → Bool) (l : List α) (j : Nat) (h : j < l.length) : ((l.take (j + 1)).filter p).length = ((l.take j).filter p).length + if p l[j] then 1 else 0 := by
  rw [← List.take_append_getElem h, List.filter_append, List.length_append]
  cases hp : p l[j] <;> simp [hp]
theorem cnt_any {α : Type} (p : α → Bool) (l : List α) : l.any p = !decide ((l.filter p).length = 0) := by
  rw [Bool.eq_iff_iff]
  simp only [List.any_eq_true, Bool.not_eq_true', decide_eq_false_iff_not, List.length_eq_zero_iff, List.filter_eq_nil_iff]
  constructor
  · rintro ⟨x, hx, hp⟩ h
    exact h x hx hp
  · intro h
    apply Classical.byContradiction
    intro hn
    exact h fun x hx hp => hn ⟨x, hx, hp⟩

set_option maxHeartbeats 8000000 in
set_option maxRecDepth 100000 in
theorem askKeeps_any {Tb : World → Prop} (hTb : ∀ W W', Below W.heap.size W W' → Tb W → Tb W')
    (hH : ∀ (s t : ByteArray) (W : World), s.size ≤ 1048576 → Tb W → Calls Tryz.prog 54 #[.string s, .string t] W fun e W' => e = .returned (.bool (has s t)) ∧ Below W.heap.size W W')
    (hL : ∀ (l : List Mt) (mv : Value) (e : Ent) (lv : Value) (W : World), MsAt W mv l → LabsAt (fun _ => True) W lv e.labs → Calls Tryz.prog 53 #[mv, e.val lv] W fun x W' => x = .returned (.bool (labs l e)) ∧ Below W.heap.size W W')
    (a : Ask) (v : Value) (e : Ent) (lv : Value) (w : World) (h : AskAt w v a) (he : LabsAt (fun _ => True) w lv e.labs) (hs : e.line.size ≤ 1048576) (hT : Tb w) :
    Calls Tryz.prog 31 #[v, e.val lv] w fun x w' => x = .returned (.bool (a.keeps has labs e)) ∧ Below w.heap.size w w' := by
  have hmx : Tryz.prog.follows .mixedOrders = true := by kernel_rfl
  obtain ⟨av, mv, rfl, hall, hmat⟩ := h
  obtain ⟨aa, ca, rfl, ha63, hac⟩ := id hall
  obtain ⟨am, cm, rfl, hm63, hmc⟩ := id hmat
  obtain ⟨al, cl, rfl, hl63, hlc⟩ := id he
  unfold Ask.cells
  obtain ⟨w1, hw1⟩ : ∃ w1, w1 = w.alloc (.cells #[.int .i64 a.kd, .int .i64 a.src, .int .i64 a.til, .slice aa a.all.length ca, .slice am a.mat.length cm] 26) := ⟨_, rfl⟩
  have hb1 : Below w.heap.size w w1 := by rw [hw1]; exact (Below.refl _ w).alloc (Nat.le_refl _) _
  have hk1 : Bl w1 w.heap.size 26 #[.int .i64 a.kd, .int .i64 a.src, .int .i64 a.til, .slice aa a.all.length ca, .slice am a.mat.length cm] := by rw [hw1]; exact Bl.new w 26 _
  obtain ⟨w2, hw2⟩ : ∃ w2, w2 = w1.alloc (.cells #[.int .i64 e.tm, .slice al e.labs.length cl, .string e.line] 29) := ⟨_, rfl⟩
  have hs1 : w1.heap.size = w.heap.size + 1 := by rw [hw1]; simp
  have hb12 : Below w1.heap.size w1 w2 := by rw [hw2]; exact (Below.refl _ w1).alloc (Nat.le_refl _) _
  have hk2 : Bl w2 (w.heap.size + 1) 29 #[.int .i64 e.tm, .slice al e.labs.length cl, .string e.line] := by rw [hw2, ← hs1]; exact Bl.new w1 29 _
  have hb2 := below_mid12 hb1 hb12
  have hka := Bl.below hk1 hb12
  rw [hw1] at hw2
  have HW2 := Lib.hid hw2.symm
  have HB2 := Lib.hid hb2
  have HKA := Lib.hid hka
  have HKE := Lib.hid hk2
  have HAC := Lib.hid hac
  have HTB := Lib.hid hTb
  have HH := Lib.hid hH
  have HT := Lib.hid hT
  have HLB := Lib.hid (hL a.mat _ e _ w2 (MsAt.below12 hmat hb2) (he.carry hb2.size fun b _ hlt => hb2.block b hlt))
  simp only [Ent.val] at HLB
  have c0 := hka.cell 0
  have c1 := hka.cell 1
  have c2 := hka.cell 2
  have c3 := hka.cell 3
  have c4 := hka.cell 4
  simp only [List.getElem?_toArray, List.getElem?_cons_succ, List.getElem?_cons_zero] at c0 c1 c2 c3 c4
  have d0 := hk2.cell 0
  have d1 := hk2.cell 1
  have d2 := hk2.cell 2
  simp only [List.getElem?_toArray, List.getElem?_cons_succ, List.getElem?_cons_zero] at d0 d1 d2
  clear hall hmat hw1 hw2 hb1 hb12 hb2 hk1 hk2 hka hac hmc hTb hH hL hT he hlc hs1
  unfold Ent.val
  go_enter Tryz.func31, Tryz.ntmps31
  go_upto_region 1 with fail
  rw [HW2.out]
  by_cases k1 : a.kd < 1
  · have HNO : Hid (a.keeps has labs e = false) := Lib.hid (keeps_no (by omega))
    go_wp2_with fail
    go_ret
    exact ⟨by rw [HNO.out]; rfl, HB2.out⟩
  by_cases k2 : 3 < a.kd
  · have HNO : Hid (a.keeps has labs e = false) := Lib.hid (keeps_no (by omega))
    go_wp2_with fail
    go_ret
    exact ⟨by rw [HNO.out]; rfl, HB2.out⟩
  by_cases k3 : e.tm < a.src
  · have HNO : Hid (a.keeps has labs e = false) := Lib.hid (keeps_no (by omega))
    go_wp2_with fail
    go_ret
    exact ⟨by rw [HNO.out]; rfl, HB2.out⟩
  by_cases k4 : a.til < e.tm
  · have HNO : Hid (a.keeps has labs e = false) := Lib.hid (keeps_no (by omega))
    go_wp2_with fail
    go_ret
    exact ⟨by rw [HNO.out]; rfl, HB2.out⟩
  have HIN : Hid (a.keeps has labs e = if a.kd = 2 then labs a.mat e else if a.kd = 3 then true else a.all.all fun l => l.any (has e.line)) := Lib.hid (keeps_in (by omega))
  by_cases q2 : a.kd = 2
  · have HG : Hid (a.keeps has labs e = labs a.mat e) := Lib.hid (by rw [HIN.out, if_pos q2])
    have e2 : (a.kd == 2) = true := by simp [q2]
    clear q2
    go_wp2_with fail
    refine HLB.out.mono ?_
    rintro x w3 ⟨rfl, hb3⟩
    have HB3 := Lib.hid (below_mid12 HB2.out hb3)
    clear hb3 HLB c0 c1 c2 c3 c4 d0 d1 d2
    go_wp2_with fail
    go_ret
    exact ⟨by rw [HG.out]; rfl, HB3.out⟩
  have e2 : (a.kd == 2) = false := by simp [q2]
  by_cases q3 : a.kd = 3
  · have HG : Hid (a.keeps has labs e = true) := Lib.hid (by rw [HIN.out, if_neg q2, if_pos q3])
    have e3 : (a.kd == 3) = true := by simp [q3]
    clear q2 q3
    go_wp2_with fail
    go_ret
    exact ⟨by rw [HG.out]; rfl, HB2.out⟩
  have HG : Hid (a.keeps has labs e = a.all.all fun l => l.any (has e.line)) := Lib.hid (by rw [HIN.out, if_neg q2, if_neg q3])
  have e3 : (a.kd == 3) = false := by simp [q3]
  clear q2 q3
  go_wp2_with fail
  clear k1 k2 k3 k4 e2 e3
  go_loopw [45] (fun vi wr => ∃ k : Nat, vi = .int .i64 k ∧ k ≤ a.all.length ∧ ((a.all.take k).all fun l => l.any (has e.line)) = true ∧ Below w2.heap.size w2 wr) (fun vi _ => a.all.length - (intOf vi).toNat)
  case atStart => exact ⟨0, rfl, Nat.zero_le _, by simp, Below.refl _ _⟩
  case round =>
    obtain ⟨k, rfl, hk, hany, hbw⟩ := hrel
    have HBW := Lib.hid hbw
    have HBWW := Lib.hid (below_mid12 HB2.out hbw)
    by_cases hlt : k < a.all.length
    · rcases HAC.out with h0 | ⟨br, off, rfl, hbr, hcells⟩
      · exact absurd hlt (by rw [h0]; simp)
      obtain ⟨rv, hc0, hsr⟩ := hcells k hlt
      have hc : wr.cell? ⟨br, off + k, none⟩ = some rv := (HBWW.out.cell hbr).trans hc0
      have htk := all_take (fun l : List ByteArray => l.any (has e.line)) a.all k hlt hany
      have hmem : a.all[k] ∈ a.all := List.getElem_mem hlt
      generalize a.all[k] = l at hsr htk hmem
      obtain ⟨al2, cl2, rfl, hl263, hlc⟩ := id hsr
      have HLC := Lib.hid hlc
      have HTK := Lib.hid htk
      have HMEM := Lib.hid hmem
      clear hc0 hsr hlc htk hmem hany hcells hbw
      go_wp2_with fail
      clear hc
      go_loopw [51, 7] (fun vj vn wq => ∃ j : Nat, vj = .int .i64 j ∧ j ≤ l.length ∧ vn = .int .i64 (((l.take j).filter (has e.line)).length : Nat) ∧ Below wr.heap.size wr wq) (fun vj _ _ => l.length - (intOf vj).toNat)
      case atStart => exact ⟨0, rfl, Nat.zero_le _, by simp, Below.refl _ _⟩
      case round =>
        obtain ⟨j, rfl, hj, rfl, hbq⟩ := hrel
        have HBQ := Lib.hid (below_mid12 HBWW.out hbq)
        have HBQ2 := Lib.hid (below_mid12 HBW.out hbq)
        have HBQR := Lib.hid hbq
        by_cases hltj : j < l.length
        · rcases HLC.out with h0 | ⟨bl, offl, rfl, hbl, hcl⟩
          · exact absurd hltj (by rw [h0]; simp)
          have hx := (HBQ.out.cell (p := ⟨bl, offl + j, none⟩) hbl).trans (hcl j hltj)
          have hct := cnt_take (has e.line) l j hltj
          generalize l[j] = s at hx hct
          have hnb : ((l.take j).filter (has e.line)).length ≤ 9223372036854775806 := by
            have h1 := List.length_filter_le (has e.line) (l.take j)
            rw [List.length_take] at h1
            omega
          generalize hcn : ((l.take j).filter (has e.line)).length = cn at hct hnb ⊢
          have HCT := Lib.hid hct
          have HHS := Lib.hid (HH.out e.line s _ hs (HTB.out _ _ HBQ.out HT.out))
          have hke := Bl.below HKE.out HBQ2.out
          clear hcn hct hcl hbq d0 d1 d2 c0 c1 c2 c3 c4
          have d0 := hke.cell 0
          have d1 := hke.cell 1
          have d2 := hke.cell 2
          simp only [List.getElem?_toArray, List.getElem?_cons_succ, List.getElem?_cons_zero] at d0 d1 d2
          clear hke
          go_wp2_with fail
          refine HHS.out.mono ?_
          rintro x w5 ⟨rfl, hb5⟩
          have HB5 := Lib.hid (below_mid12 HBQR.out hb5)
          clear hb5 HHS hx d0 d1 d2
          cases hh : has e.line s with
          | false =>
            rw [hh] at HCT
            clear hh
            go_wp2_with fail
            go_roundw
            case rel => exact ⟨j + 1, by go_num, by omega, by rw [HCT.out]; rfl, HB5.out⟩
            case measure => simp [intOf]; omega
          | true =>
            rw [hh] at HCT
            clear hh
            go_wp2_with fail
            go_roundw
            case rel => exact ⟨j + 1, by go_num, by omega, by rw [HCT.out]; simp, HB5.out⟩
            case measure => simp [intOf]; omega
        · obtain rfl : j = l.length := by omega
          have hca := cnt_any (has e.line) l
          rw [List.take_of_length_le (Nat.le_refl _)]
          generalize (l.filter (has e.line)).length = cn at hca ⊢
          have HCA := Lib.hid hca
          clear hca hbq d0 d1 d2 c0 c1 c2 c3 c4
          by_cases hz : cn = 0
          · have hz1 : ((cn : Int) == 0) = true := by simp [hz]
            have HANS : Hid (a.keeps has labs e = false) := Lib.hid (by rw [HG.out]; exact all_no HMEM.out (by rw [HCA.out, decide_eq_true hz]; rfl))
            clear hz
            go_wp2_with fail
            go_ret
            exact ⟨by rw [HANS.out]; rfl, HBQ.out⟩
          · have hz1 : ((cn : Int) == 0) = false := by simp [hz]
            have HNX : Hid (((a.all.take (k + 1)).all fun l => l.any (has e.line)) = true) := Lib.hid (by rw [HTK.out, HCA.out, decide_eq_false hz]; rfl)
            clear hz
            go_wp2_with fail
            go_roundw
            case rel => exact ⟨k + 1, by go_num, by omega, HNX.out, HBQ2.out⟩
            case measure => simp [intOf]; omega
    · obtain rfl : k = a.all.length := by omega
      rw [List.take_of_length_le (Nat.le_refl _)] at hany
      have HANS : Hid (a.keeps has labs e = true) := Lib.hid (by rw [HG.out]; exact hany)
      clear hany hbw
      go_wp2_with fail
      go_ret
      exact ⟨by rw [HANS.out]; rfl, HBWW.out⟩

end Go.Proofs.YtgfjbboeappemaaGreatDoor.E4
