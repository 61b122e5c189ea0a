/-
  slices.BinarySearchFunc OF ENTRIES BY record.Compare.
-/
import Derived.Test.YtgfjbboeappemaaGreatDoorBb14
import Derived.Shelf.SlSortCmp.QuietGrown
namespace Go.Proofs.YtgfjbboeappemaaGreatDoor.E4
open Go.RowKit Go
open Go.Sort (grow)

/-- How many come ahead of e. -/
def BsI (es : List Ent) (e : Ent) (i : Nat) : Prop := i ≤ es.length ∧ (∀ j (h : j < es.length), j < i → entC es[j] e = -1) ∧ ∀ j (h : j < es.length), i ≤ j → entC es[j] e ≠ -1

theorem bs_mem {es : List Ent} {e : Ent} {i : Nat} (hs : Strict entC es) (h : BsI es e i) : e ∈ es ↔ ∃ h : i < es.length, entC es[i] e = 0 := by
  constructor
  · intro hm
    obtain ⟨j, hj, hje⟩ := List.getElem_of_mem hm
    have h0 : entC es[j] e = 0 := by rw [hje]; exact entC_lc.refl e
    have hij : i ≤ j := Nat.le_of_not_lt fun hlt => by have := h.2.1 j hj hlt; omega
    by_cases he : i = j
    · subst he; exact ⟨hj, h0⟩
    · exfalso
      have h1 := (List.pairwise_iff_getElem.1 hs) i j (by omega) hj (by omega)
      rw [hje] at h1
      exact h.2.2 i (by omega) (Nat.le_refl _) h1
  · rintro ⟨hi, h0⟩
    rw [← entC_lc.eq _ _ h0]
    exact List.getElem_mem hi

set_option maxHeartbeats 8000000 in
set_option maxRecDepth 100000 in
theorem bsearch_any {G L H : Nat → Prop} {w : World} {v : Value} {es : List Ent} {e : Ent} {la : Value} (h : EntsAt G L w v es) (he : LabsAt H w la e.labs) (hs : Strict entC es) (hn : es.length ≤ 1000) :
    Calls Tryz.prog 63 #[v, e.val la, .func (.func 62) #[] #[]] w fun x w' => ∃ i, BsI es e i ∧ x = .returned (.tuple #[.int .i64 i, .bool (hasE es e)]) ∧ Lay w w' := by
  have hmx : Tryz.prog.follows .mixedOrders = true := by kernel_rfl
  have eg : ∀ args w, (callFunc 62 args).run Tryz.prog w = .ok (.enter 62 args) w := enters_of Tryz.func62 (by kernel_rfl) rfl
  obtain ⟨a, c, rfl, h63, hc⟩ := id h
  obtain ⟨al, cl, rfl, hl63, _⟩ := id he
  obtain ⟨w1, hw1⟩ : ∃ w1, w1 = w.alloc (.cells #[.int .i64 e.tm, .slice al e.labs.length cl, .string e.line] 29) := ⟨_, rfl⟩
  have hl1 : Lay w w1 := by rw [hw1]; exact (Keep.refl _ w).alloc _
  have hk1 : Bl w1 w.heap.size 29 #[.int .i64 e.tm, .slice al e.labs.length cl, .string e.line] := by rw [hw1]; exact Bl.new w 29 _
  have HW1 := Lib.hid hw1.symm
  have HL1 := Lib.hid hl1
  have HK1 := Lib.hid hk1
  have HC := Lib.hid hc
  have HE := Lib.hid (he.lay hl1)
  have HS := Lib.hid hs
  have HMO : Hid (∀ i j (hi : i < es.length) (hj : j < es.length), i ≤ j → entC es[j] e = -1 → entC es[i] e = -1) := Lib.hid fun i j hi hj hij h1 => by
    by_cases hq : i = j
    · subst hq; exact h1
    · exact entC_lc.tr _ _ _ ((List.pairwise_iff_getElem.1 hs) i j hi hj (by omega)) h1
  clear hc he h hs hl1 hk1 hw1
  unfold Ent.val
  go_enter Tryz.func63, Tryz.ntmps63
  go_upto_region 1 with fail
  rw [HW1.out]
  go_wp2_with fail
  go_loopw [9, 10] (fun vi vj wr => ∃ lo hi : Nat, vi = .int .i64 lo ∧ vj = .int .i64 hi ∧ lo ≤ hi ∧ hi ≤ es.length ∧ (∀ t (h : t < es.length), t < lo → entC es[t] e = -1) ∧ (∀ t (h : t < es.length), hi ≤ t → entC es[t] e ≠ -1) ∧ Lay w1 wr) (fun vi vj _ => (intOf vj).toNat - (intOf vi).toNat)
  case atStart => exact ⟨0, es.length, rfl, rfl, Nat.zero_le _, Nat.le_refl _, fun t _ h => absurd h (Nat.not_lt_zero _), fun t h1 h2 => absurd h1 (by omega), Keep.refl _ _⟩
  case round =>
    obtain ⟨lo, hi, rfl, rfl, hlh, hin, hA, hB, hl⟩ := hrel
    have HA := Lib.hid hA
    have HB := Lib.hid hB
    have HL := Lib.hid hl
    clear hA hB
    by_cases hlt : lo < hi
    · obtain ⟨m, hm⟩ : ∃ m, m = (lo + hi) / 2 := ⟨_, rfl⟩
      have hml : m < es.length := by omega
      rcases HC.out with h0 | ⟨be, oe, rfl, _, hbe, hce⟩
      · exact absurd hml (by rw [h0]; simp)
      obtain ⟨lv, x0, x1, x2, x3⟩ := hce m hml
      have HM := Lib.hid hm
      have hl01 : Lay w wr := Keep.trans HL1.out hl
      generalize hy : es[m] = y at x0 x1 x2 x3
      have HY := Lib.hid hy
      obtain ⟨ay, cy, rfl, hy63, _⟩ := id x3
      have y0 : wr.cell? ⟨be, oe + m * 3, none⟩ = _ := (hl01.cell hbe).trans x0
      have y1 : wr.cell? ⟨be, oe + m * 3 + 1, none⟩ = _ := (hl01.cell hbe).trans x1
      have y2 : wr.cell? ⟨be, oe + m * 3 + 2, none⟩ = _ := (hl01.cell hbe).trans x2
      have hkr := HK1.out.below (lay_below hl)
      have k0 := hkr.cell 0
      have k1 := hkr.cell 1
      have k2 := hkr.cell 2
      simp only [List.getElem?_toArray, List.getElem?_cons_succ, List.getElem?_cons_zero] at k0 k1 k2
      rw [hm] at y0 y1 y2
      have gy0 := cell_grown (World.block_lt_of_cell? wr _ y0) y0
      have gy1 := cell_grown (World.block_lt_of_cell? wr _ y1) y1
      have gy2 := cell_grown (World.block_lt_of_cell? wr _ y2) y2
      have gk0 := cell_grown (World.block_lt_of_cell? wr _ k0) k0
      have gk1 := cell_grown (World.block_lt_of_cell? wr _ k1) k1
      have gk2 := cell_grown (World.block_lt_of_cell? wr _ k2) k2
      have hS : ∀ n os, Calls Tryz.prog 62 #[y.val (.slice ay y.labs.length cy), e.val (.slice al e.labs.length cl)] (Sort.grow (wr.drewN n) os) fun x w'' => x = .returned (.int .i64 (entC y e)) ∧ ∃ p : GrownBy, w'' = Sort.grow (wr.drewN p.n) p.os :=
        fun n os => grown_of_lay (compare_any ((x3.lay hl01).lay (Lay.of_grown n os)) ((HE.out.lay hl).lay (Lay.of_grown n os)))
      simp only [Ent.val] at hS
      have htri := entC_lc.tri y e
      have hj1 : ((lo : Int) + (hi : Int)) / 2 < (es.length : Int) := by omega
      have hj0 : ¬ ((lo : Int) + (hi : Int)) / 2 < 0 := by omega
      have hj2 : (((lo : Int) + (hi : Int)) / 2).toNat = (lo + hi) / 2 := by omega
      clear x0 x1 x2 x3 hce hl hl01 hkr y0 y1 y2 k0 k1 k2 hy63
      by_cases hlo : entC y e = -1
      · have d1 : entC y e < 0 := by omega
        have HLO := Lib.hid hlo
        clear hlo htri hm
        obtain ⟨r, hr⟩ : ∃ r, r = entC y e := ⟨_, rfl⟩
        rw [← hr] at hS d1
        clear hr
        go_wp2_with fail
        go_quiet_grown (with_reducible exact hS _ _)
        go_wp2_with fail
        go_roundw
        case rel =>
          have hmv := HM.out
          exact ⟨m + 1, hi, by rw [show ((lo : Int) + (hi : Int)) / 2 + 1 = ((m + 1 : Nat) : Int) by omega], rfl, by omega, hin, fun t ht h => HMO.out t m ht hml (by omega) (by rw [HY.out]; exact HLO.out), HB.out, Keep.trans HL.out (Lay.of_grown nq osq)⟩
        case measure => simp [intOf]; omega
      · have d1 : ¬ entC y e < 0 := by omega
        have HLO := Lib.hid hlo
        clear hlo htri hm
        obtain ⟨r, hr⟩ : ∃ r, r = entC y e := ⟨_, rfl⟩
        rw [← hr] at hS d1
        clear hr
        go_wp2_with fail
        go_quiet_grown (with_reducible exact hS _ _)
        go_wp2_with fail
        go_roundw
        case rel =>
          have hmv := HM.out
          exact ⟨lo, m, rfl, by rw [show ((lo : Int) + (hi : Int)) / 2 = (m : Int) by omega], by omega, by omega, HA.out, fun t ht h hq => HLO.out (by rw [← HY.out]; exact HMO.out m t hml ht h hq), Keep.trans HL.out (Lay.of_grown nq osq)⟩
        case measure => simp [intOf]; omega
    · obtain rfl : hi = lo := by omega
      have HI : Hid (BsI es e hi) := Lib.hid ⟨hin, HA.out, HB.out⟩
      by_cases hlt2 : hi < es.length
      · rcases HC.out with h0 | ⟨be, oe, rfl, _, hbe, hce⟩
        · exact absurd hlt2 (by rw [h0]; simp)
        obtain ⟨lv, x0, x1, x2, x3⟩ := hce hi hlt2
        have hl01 : Lay w wr := Keep.trans HL1.out hl
        have HME : Hid (hasE es e = decide (entC es[hi] e = 0)) := Lib.hid (by
          rw [Bool.eq_iff_iff, hasE_iff, bs_mem HS.out HI.out, decide_eq_true_iff]
          exact ⟨fun ⟨_, h⟩ => h, fun h => ⟨hlt2, h⟩⟩)
        generalize es[hi] = y at x0 x1 x2 x3 HME
        obtain ⟨ay, cy, rfl, hy63, _⟩ := id x3
        have y0 : wr.cell? ⟨be, oe + hi * 3, none⟩ = _ := (hl01.cell hbe).trans x0
        have y1 : wr.cell? ⟨be, oe + hi * 3 + 1, none⟩ = _ := (hl01.cell hbe).trans x1
        have y2 : wr.cell? ⟨be, oe + hi * 3 + 2, none⟩ = _ := (hl01.cell hbe).trans x2
        have hkr := HK1.out.below (lay_below hl)
        have k0 := hkr.cell 0
        have k1 := hkr.cell 1
        have k2 := hkr.cell 2
        simp only [List.getElem?_toArray, List.getElem?_cons_succ, List.getElem?_cons_zero] at k0 k1 k2
        have gy0 := cell_grown (World.block_lt_of_cell? wr _ y0) y0
        have gy1 := cell_grown (World.block_lt_of_cell? wr _ y1) y1
        have gy2 := cell_grown (World.block_lt_of_cell? wr _ y2) y2
        have gk0 := cell_grown (World.block_lt_of_cell? wr _ k0) k0
        have gk1 := cell_grown (World.block_lt_of_cell? wr _ k1) k1
        have gk2 := cell_grown (World.block_lt_of_cell? wr _ k2) k2
        have hS : ∀ n os, Calls Tryz.prog 62 #[y.val (.slice ay y.labs.length cy), e.val (.slice al e.labs.length cl)] (Sort.grow (wr.drewN n) os) fun x w'' => x = .returned (.int .i64 (entC y e)) ∧ ∃ p : GrownBy, w'' = Sort.grow (wr.drewN p.n) p.os :=
          fun n os => grown_of_lay (compare_any ((x3.lay hl01).lay (Lay.of_grown n os)) ((HE.out.lay hl).lay (Lay.of_grown n os)))
        simp only [Ent.val] at hS
        have d1 : (hi : Int) < (es.length : Int) := by omega
        clear x0 x1 x2 x3 hce hl hl01 hkr y0 y1 y2 k0 k1 k2 hy63
        generalize entC y e = r at hS HME
        have d2 : (r == 0) = decide (r = 0) := by rw [Bool.eq_iff_iff]; simp
        go_wp2_with fail
        go_quiet_grown (with_reducible exact hS _ _)
        go_wp2_with fail
        refine bodyPost_ret (v := .tuple #[.int .i64 hi, .bool (decide (r = 0))]) (by simp [results, Tryz.results63, go_sem]) rfl ⟨hi, HI.out, by rw [HME.out], Keep.trans (Keep.trans HL1.out HL.out) (Lay.of_grown nq osq)⟩
      · have hie : hi = es.length := by omega
        have HME : Hid (hasE es e = false) := Lib.hid (by
          cases hq : hasE es e with
          | false => rfl
          | true => exact absurd ((bs_mem HS.out HI.out).1 (hasE_iff.1 hq)).1 hlt2)
        have d0 : ¬ (hi : Int) < (es.length : Int) := by omega
        have d1 : decide ((hi : Int) < (es.length : Int)) = false := decide_eq_false d0
        clear hie hl
        go_wp2_with fail
        go_quiet (fail)
        go_wp2_with fail
        refine bodyPost_ret (v := .tuple #[.int .i64 hi, .bool false]) (by simp [results, Tryz.results63, go_sem]) rfl ⟨hi, HI.out, by rw [HME.out], Keep.trans (Keep.trans HL1.out HL.out) ((Keep.refl _ _).drewN _)⟩

end Go.Proofs.YtgfjbboeappemaaGreatDoor.E4
