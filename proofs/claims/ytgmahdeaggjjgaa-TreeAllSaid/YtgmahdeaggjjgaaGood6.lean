/-
  THE DOCUMENT'S OWN Good.
-/
import Derived.Test.YtgmahdeaggjjgaaRows6
import Derived.Test.YtgmahdeaggjjgaaRefName
import Derived.Deep.QuietTactic
import Derived.BigQuiet
namespace Go.Proofs.Ytgmahdeaggjjgaa
open Go.RowKit Go

theorem flatW_get : ∀ (R : List Ft.Row) (i : Nat) (h : i < R.length) (c : Nat), c < 5 → (flatW R)[i * 5 + c]? = (rowC R[i])[c]?
  | [], i, h, _, _ => by simp at h
  | x :: r, 0, _, c, hc => by
    simp only [flatW, Nat.zero_mul, Nat.zero_add, List.getElem_cons_zero]
    rw [List.getElem?_append_left (by simp [rowC]; omega)]
  | x :: r, i + 1, h, c, hc => by
    simp only [flatW, List.getElem_cons_succ]
    rw [List.getElem?_append_right (by simp [rowC]; omega), ← flatW_get r i (by simpa using h) c hc]
    congr 1
    simp [rowC]
    omega

/-- Rows that lie so. -/
theorem Rk.rowAt {G : Nat → Prop} {w : World} {v : Value} {R : List Ft.Row} (h : Rk 5 G w v R.length (flatW R)) : ∃ a cap, v = .slice a R.length cap ∧ (R = [] ∨ ∃ b, a = some ⟨b, 0, none⟩ ∧ G b ∧ b < w.heap.size ∧
    ∀ i (h : i < R.length), w.cell? ⟨b, i * 5, none⟩ = some (.int .i64 R[i].op) ∧ w.cell? ⟨b, i * 5 + 1, none⟩ = some (.string R[i].name) ∧ w.cell? ⟨b, i * 5 + 2, none⟩ = some (.string R[i].text) ∧
      w.cell? ⟨b, i * 5 + 3, none⟩ = some (.int .i64 (R[i].kids : Nat)) ∧ w.cell? ⟨b, i * 5 + 4, none⟩ = some (.int .i64 (R[i].deep : Nat))) := by
  obtain ⟨_, ⟨rfl, h0⟩ | ⟨g, cap, rfl, hg, hlt, _, _, hc, _⟩⟩ := h
  · have := List.eq_nil_of_length_eq_zero h0
    subst this
    exact ⟨none, 0, rfl, .inl rfl⟩
  · refine ⟨_, _, rfl, .inr ⟨g, rfl, hg, hlt, fun i hi => ?_⟩⟩
    have get : ∀ c, c < 5 → w.cell? ⟨g, i * 5 + c, none⟩ = (rowC R[i])[c]? := fun c hc' => by
      rw [← flatW_get R i hi c hc']
      exact hc _ (by rw [flatW_length]; omega)
    exact ⟨get 0 (by omega), get 1 (by omega), get 2 (by omega), get 3 (by omega), get 4 (by omega)⟩

set_option maxHeartbeats 16000000 in
set_option maxRecDepth 100000 in
theorem refGood_any (f : Ft) (w : World) (v : Value) (hf : FAt w v f) (hcount : f.count ≤ 100000) : Calls Try.prog 21 #[v] w fun e w' => e = .returned (.bool (Ft.good f)) ∧ Lay w w' := by
  have hmx : Try.prog.follows .mixedOrders = true := by kernel_rfl
  obtain ⟨kv, rfl, hks⟩ := hf
  obtain ⟨ak, ck, rfl⟩ := hks.shape
  have hal : Lay w (w.alloc (.cells #[.int .i64 f.op, .string f.name, .string f.text, .slice ak f.kids.length ck] 26)) := (Keep.refl _ _).alloc _
  have HAL := Lib.hid hal
  have HC := Lib.hid (rows_any f.count f 0 _ (f.val (.slice ak f.kids.length ck)) (Nat.le_refl _) hcount (by omega) ⟨_, rfl, KsAt.below hal.below _ f hks⟩)
  obtain ⟨R, hR⟩ : ∃ R, R = Ft.rows 0 f := ⟨_, rfl⟩
  have hRl : R.length ≤ 100000 := by rw [hR, Ft.rows_length]; exact hcount
  have HG : Hid (Ft.good f = R.all Ft.rowOK) := Lib.hid (by rw [hR]; rfl)
  rw [← hR] at HC
  clear hks hal hR hcount
  simp only [Ft.val] at HC ⊢
  go_enter Try.func21, Try.ntmps21
  go_wp2_with fail
  refine HC.out.mono ?_
  rintro e w1 ⟨v1, rfl, hr1, hl1⟩
  obtain ⟨a1, c1, rfl, hrow⟩ := hr1.rowAt
  have HL1 := Lib.hid (Keep.trans HAL.out hl1)
  have HROW := Lib.hid hrow
  clear hr1 hl1 hrow HC
  go_wp2_with fail
  go_loopw [9] (fun vi wr => ∃ i : Nat, vi = .int .i64 i ∧ i ≤ R.length ∧ (R.take i).all Ft.rowOK = true ∧ Lay w1 wr) (fun vi _ => R.length - (intOf vi).toNat)
  case atStart => exact ⟨0, rfl, Nat.zero_le _, rfl, Keep.refl _ _⟩
  case round =>
    obtain ⟨i, rfl, hi, hok, hl⟩ := hrel
    have HL := Lib.hid hl
    have HOK := Lib.hid hok
    clear hok
    by_cases hlt : i < R.length
    · rcases HROW.out with h0 | ⟨b, rfl, hg, hb, hc⟩
      · exact absurd hlt (by rw [h0]; simp)
      obtain ⟨x0, x1, x2, x3, x4⟩ := hc i hlt
      have y0 := (hl.cell hb).trans x0
      have y1 := (hl.cell hb).trans x1
      have y2 := (hl.cell hb).trans x2
      have y3 := (hl.cell hb).trans x3
      have y4 := (hl.cell hb).trans x4
      have HSN : Hid ((R.take (i + 1)).all Ft.rowOK = Ft.rowOK R[i]) := Lib.hid (by
        rw [List.take_succ_eq_append_getElem hlt, List.all_append, HOK.out]
        simp)
      have HBAD : Hid (Ft.rowOK R[i] = false → Ft.good f = false) := Lib.hid fun h => by
        rw [HG.out, Bool.eq_false_iff]
        intro e
        rw [List.all_eq_true.1 e _ (List.getElem_mem hlt)] at h
        cases h
      have hbr : b < wr.heap.size := Nat.lt_of_lt_of_le hb hl.size
      generalize R[i] = r at y0 y1 y2 y3 y4 HSN HBAD
      obtain ⟨o, nm, t, k, dp⟩ := r
      simp only at y0 y1 y2 y3 y4
      have CN : ∀ w, Calls Try.prog 30 #[.string nm] w fun e w' => e = .returned (.bool (MW.name nm.data.toList)) ∧ w = w' := fun w => (refName_any nm w).mono fun _ _ h => ⟨h.1, h.2.symm⟩
      clear hc x0 x1 x2 x3 x4 hl
      by_cases ho : o < 1 ∨ 8 < o ∨ 18 < dp
      · have hbad : Ft.rowOK ⟨o, nm, t, k, dp⟩ = false := by
          unfold Ft.rowOK
          rcases ho with h | h | h
          · rw [decide_eq_false (by simp only; omega)]; simp
          · rw [decide_eq_false (by simp only; omega)]; simp
          · rw [decide_eq_false (p := dp ≤ 18) (by omega)]; simp
        have HB := Lib.hid (HBAD.out hbad)
        have hcs : decide (o < 1) = true ∨ (decide (o < 1) = false ∧ decide (8 < o) = true) ∨ (decide (o < 1) = false ∧ decide (8 < o) = false ∧ decide (18 < (dp : Int)) = true) := by
          simp
          omega
        clear hbad ho
        rcases hcs with h1 | ⟨h1, h2⟩ | ⟨h1, h2, h3⟩
        all_goals
          go_wp2_with fail
          go_quiet (fail)
          go_wp2_with fail
          go_ret
          rw [HB.out]
          refine ⟨rfl, Keep.trans HL1.out (Keep.trans HL.out ?_)⟩
          first | exact (((Keep.refl _ _).alloc _).alloc _).drewN _ | exact ((Keep.refl _ _).alloc _).drewN _
      · have ho8 : o = 1 ∨ o = 2 ∨ o = 3 ∨ o = 4 ∨ o = 5 ∨ o = 6 ∨ o = 7 ∨ o = 8 := by omega
        have hdp : dp ≤ 18 := by omega
        have hdp' : decide (18 < (dp : Int)) = false := by simp; omega
        have hes : ∀ s : ByteArray, (¬ s = ⟨#[]⟩ ∧ s.toList.isEmpty = false) ∨ (s = ⟨#[]⟩ ∧ s.toList.isEmpty = true) := fun s => by
          by_cases e : s = ⟨#[]⟩
          · exact .inr ⟨e, by rw [e, Lib.toList_data]; rfl⟩
          · refine .inl ⟨e, ?_⟩
            rw [Bool.eq_false_iff]
            intro h
            exact e (toList_inj _ _ (by rw [List.isEmpty_iff.1 h, Lib.toList_data]))
        have hnc := hes nm
        have htc := hes t
        clear ho hes
        rcases ho8 with rfl | rfl | rfl | rfl | rfl | rfl | rfl | rfl
        · by_cases hk : k = 0
          · subst hk
            rcases hnc with ⟨hn, hn2⟩ | ⟨hn, hn2⟩
            · rcases htc with ⟨ht, ht2⟩ | ⟨ht, ht2⟩
              all_goals
                have HB := Lib.hid (HBAD.out (by simp [Ft.rowOK, Ft.kidsOK, hn]))
                clear HBAD HSN
                go_wp2_with fail
                go_quiet (fail)
                go_wp2_with (go_at_call 30; refine (CN _).mono ?_; rintro e w' ⟨rfl, rfl⟩)
                go_ret
                rw [HB.out]
                refine ⟨rfl, Keep.trans HL1.out (Keep.trans HL.out ?_)⟩
                first | exact (((Keep.refl _ _).alloc _).alloc _).drewN _ | exact ((Keep.refl _ _).alloc _).drewN _
            · rcases htc with ⟨ht, ht2⟩ | ⟨ht, ht2⟩
              · have HB := Lib.hid (HBAD.out (by simp [Ft.rowOK, Ft.kidsOK, hn, ht]))
                clear HBAD HSN
                go_wp2_with fail
                go_quiet (fail)
                go_wp2_with (go_at_call 30; refine (CN _).mono ?_; rintro e w' ⟨rfl, rfl⟩)
                go_ret
                rw [HB.out]
                refine ⟨rfl, Keep.trans HL1.out (Keep.trans HL.out ?_)⟩
                first | exact (((Keep.refl _ _).alloc _).alloc _).drewN _ | exact ((Keep.refl _ _).alloc _).drewN _
              · have hr : Ft.rowOK ⟨1, nm, t, 0, dp⟩ = true := by simp [Ft.rowOK, Ft.kidsOK, hn, ht, hdp]; try omega
                have HSN2 := Lib.hid (HSN.out.trans hr)
                clear HBAD HSN hr
                go_wp2_with fail
                go_quiet (fail)
                go_wp2_with (go_at_call 30; refine (CN _).mono ?_; rintro e w' ⟨rfl, rfl⟩)
                go_roundw
                case rel =>
                  refine ⟨i + 1, by go_num, by omega, HSN2.out, Keep.trans HL.out ?_⟩
                  first | exact (((Keep.refl _ _).alloc _).alloc _).drewN _ | exact ((Keep.refl _ _).alloc _).drewN _
                case measure => simp [intOf]; omega
          · have hk' : ((k : Int) != 0) = true := by simp; omega
            have HB := Lib.hid (HBAD.out (by simp [Ft.rowOK, Ft.kidsOK, hk]))
            clear HBAD HSN
            go_wp2_with fail
            go_quiet (fail)
            go_wp2_with (go_at_call 30; refine (CN _).mono ?_; rintro e w' ⟨rfl, rfl⟩)
            go_ret
            rw [HB.out]
            refine ⟨rfl, Keep.trans HL1.out (Keep.trans HL.out ?_)⟩
            first | exact (((Keep.refl _ _).alloc _).alloc _).drewN _ | exact ((Keep.refl _ _).alloc _).drewN _
        · by_cases hk : k = 0
          · subst hk
            rcases hnc with ⟨hn, hn2⟩ | ⟨hn, hn2⟩
            · rcases htc with ⟨ht, ht2⟩ | ⟨ht, ht2⟩
              all_goals
                have HB := Lib.hid (HBAD.out (by simp [Ft.rowOK, Ft.kidsOK, hn]))
                clear HBAD HSN
                go_wp2_with fail
                go_quiet (fail)
                go_wp2_with (go_at_call 30; refine (CN _).mono ?_; rintro e w' ⟨rfl, rfl⟩)
                go_ret
                rw [HB.out]
                refine ⟨rfl, Keep.trans HL1.out (Keep.trans HL.out ?_)⟩
                first | exact (((Keep.refl _ _).alloc _).alloc _).drewN _ | exact ((Keep.refl _ _).alloc _).drewN _
            · rcases htc with ⟨ht, ht2⟩ | ⟨ht, ht2⟩
              · have HB := Lib.hid (HBAD.out (by simp [Ft.rowOK, Ft.kidsOK, hn, ht]))
                clear HBAD HSN
                go_wp2_with fail
                go_quiet (fail)
                go_wp2_with (go_at_call 30; refine (CN _).mono ?_; rintro e w' ⟨rfl, rfl⟩)
                go_ret
                rw [HB.out]
                refine ⟨rfl, Keep.trans HL1.out (Keep.trans HL.out ?_)⟩
                first | exact (((Keep.refl _ _).alloc _).alloc _).drewN _ | exact ((Keep.refl _ _).alloc _).drewN _
              · have hr : Ft.rowOK ⟨2, nm, t, 0, dp⟩ = true := by simp [Ft.rowOK, Ft.kidsOK, hn, ht, hdp]; try omega
                have HSN2 := Lib.hid (HSN.out.trans hr)
                clear HBAD HSN hr
                go_wp2_with fail
                go_quiet (fail)
                go_wp2_with (go_at_call 30; refine (CN _).mono ?_; rintro e w' ⟨rfl, rfl⟩)
                go_roundw
                case rel =>
                  refine ⟨i + 1, by go_num, by omega, HSN2.out, Keep.trans HL.out ?_⟩
                  first | exact (((Keep.refl _ _).alloc _).alloc _).drewN _ | exact ((Keep.refl _ _).alloc _).drewN _
                case measure => simp [intOf]; omega
          · have hk' : ((k : Int) != 0) = true := by simp; omega
            have HB := Lib.hid (HBAD.out (by simp [Ft.rowOK, Ft.kidsOK, hk]))
            clear HBAD HSN
            go_wp2_with fail
            go_quiet (fail)
            go_wp2_with (go_at_call 30; refine (CN _).mono ?_; rintro e w' ⟨rfl, rfl⟩)
            go_ret
            rw [HB.out]
            refine ⟨rfl, Keep.trans HL1.out (Keep.trans HL.out ?_)⟩
            first | exact (((Keep.refl _ _).alloc _).alloc _).drewN _ | exact ((Keep.refl _ _).alloc _).drewN _
        · by_cases hk : k = 0
          · subst hk
            rcases hnc with ⟨hn, hn2⟩ | ⟨hn, hn2⟩
            · rcases htc with ⟨ht, ht2⟩ | ⟨ht, ht2⟩
              all_goals
                have HB := Lib.hid (HBAD.out (by simp [Ft.rowOK, Ft.kidsOK, hn]))
                clear HBAD HSN
                go_wp2_with fail
                go_quiet (fail)
                go_wp2_with (go_at_call 30; refine (CN _).mono ?_; rintro e w' ⟨rfl, rfl⟩)
                go_ret
                rw [HB.out]
                refine ⟨rfl, Keep.trans HL1.out (Keep.trans HL.out ?_)⟩
                first | exact (((Keep.refl _ _).alloc _).alloc _).drewN _ | exact ((Keep.refl _ _).alloc _).drewN _
            · rcases htc with ⟨ht, ht2⟩ | ⟨ht, ht2⟩
              all_goals
                have hr : Ft.rowOK ⟨3, nm, t, 0, dp⟩ = true := by simp [Ft.rowOK, Ft.kidsOK, hn, hdp]; try omega
                have HSN2 := Lib.hid (HSN.out.trans hr)
                clear HBAD HSN hr
                go_wp2_with fail
                go_quiet (fail)
                go_wp2_with (go_at_call 30; refine (CN _).mono ?_; rintro e w' ⟨rfl, rfl⟩)
                go_roundw
                case rel =>
                  refine ⟨i + 1, by go_num, by omega, HSN2.out, Keep.trans HL.out ?_⟩
                  first | exact (((Keep.refl _ _).alloc _).alloc _).drewN _ | exact ((Keep.refl _ _).alloc _).drewN _
                case measure => simp [intOf]; omega
          · have hk' : ((k : Int) != 0) = true := by simp; omega
            have HB := Lib.hid (HBAD.out (by simp [Ft.rowOK, Ft.kidsOK, hk]))
            clear HBAD HSN
            go_wp2_with fail
            go_quiet (fail)
            go_wp2_with (go_at_call 30; refine (CN _).mono ?_; rintro e w' ⟨rfl, rfl⟩)
            go_ret
            rw [HB.out]
            refine ⟨rfl, Keep.trans HL1.out (Keep.trans HL.out ?_)⟩
            first | exact (((Keep.refl _ _).alloc _).alloc _).drewN _ | exact ((Keep.refl _ _).alloc _).drewN _
        · by_cases hk : k = 0
          · subst hk
            rcases hnc with ⟨hn, hn2⟩ | ⟨hn, hn2⟩
            · rcases htc with ⟨ht, ht2⟩ | ⟨ht, ht2⟩
              all_goals
                have HB := Lib.hid (HBAD.out (by simp [Ft.rowOK, Ft.kidsOK, hn]))
                clear HBAD HSN
                go_wp2_with fail
                go_quiet (fail)
                go_wp2_with (go_at_call 30; refine (CN _).mono ?_; rintro e w' ⟨rfl, rfl⟩)
                go_ret
                rw [HB.out]
                refine ⟨rfl, Keep.trans HL1.out (Keep.trans HL.out ?_)⟩
                first | exact (((Keep.refl _ _).alloc _).alloc _).drewN _ | exact ((Keep.refl _ _).alloc _).drewN _
            · rcases htc with ⟨ht, ht2⟩ | ⟨ht, ht2⟩
              all_goals
                have hr : Ft.rowOK ⟨4, nm, t, 0, dp⟩ = true := by simp [Ft.rowOK, Ft.kidsOK, hn, hdp]; try omega
                have HSN2 := Lib.hid (HSN.out.trans hr)
                clear HBAD HSN hr
                go_wp2_with fail
                go_quiet (fail)
                go_wp2_with (go_at_call 30; refine (CN _).mono ?_; rintro e w' ⟨rfl, rfl⟩)
                go_roundw
                case rel =>
                  refine ⟨i + 1, by go_num, by omega, HSN2.out, Keep.trans HL.out ?_⟩
                  first | exact (((Keep.refl _ _).alloc _).alloc _).drewN _ | exact ((Keep.refl _ _).alloc _).drewN _
                case measure => simp [intOf]; omega
          · have hk' : ((k : Int) != 0) = true := by simp; omega
            have HB := Lib.hid (HBAD.out (by simp [Ft.rowOK, Ft.kidsOK, hk]))
            clear HBAD HSN
            go_wp2_with fail
            go_quiet (fail)
            go_wp2_with (go_at_call 30; refine (CN _).mono ?_; rintro e w' ⟨rfl, rfl⟩)
            go_ret
            rw [HB.out]
            refine ⟨rfl, Keep.trans HL1.out (Keep.trans HL.out ?_)⟩
            first | exact (((Keep.refl _ _).alloc _).alloc _).drewN _ | exact ((Keep.refl _ _).alloc _).drewN _
        · by_cases hk : k = 0
          · subst hk
            cases hn : MW.name nm.data.toList with
            | false =>
              rw [hn] at CN
              rcases htc with ⟨ht, ht2⟩ | ⟨ht, ht2⟩
              all_goals
                have HB := Lib.hid (HBAD.out (by simp [Ft.rowOK, Ft.kidsOK, hn]))
                clear HBAD HSN
                go_wp2_with fail
                go_quiet (fail)
                go_wp2_with (go_at_call 30; refine (CN _).mono ?_; rintro e w' ⟨rfl, rfl⟩)
                go_ret
                rw [HB.out]
                refine ⟨rfl, Keep.trans HL1.out (Keep.trans HL.out ?_)⟩
                first | exact (((Keep.refl _ _).alloc _).alloc _).drewN _ | exact ((Keep.refl _ _).alloc _).drewN _
            | true =>
              rw [hn] at CN
              rcases htc with ⟨ht, ht2⟩ | ⟨ht, ht2⟩
              all_goals
                have hr : Ft.rowOK ⟨5, nm, t, 0, dp⟩ = true := by simp [Ft.rowOK, Ft.kidsOK, hn, hdp]; try omega
                have HSN2 := Lib.hid (HSN.out.trans hr)
                clear HBAD HSN hr
                go_wp2_with fail
                go_quiet (fail)
                go_wp2_with (go_at_call 30; refine (CN _).mono ?_; rintro e w' ⟨rfl, rfl⟩)
                go_roundw
                case rel =>
                  refine ⟨i + 1, by go_num, by omega, HSN2.out, Keep.trans HL.out ?_⟩
                  first | exact (((Keep.refl _ _).alloc _).alloc _).drewN _ | exact ((Keep.refl _ _).alloc _).drewN _
                case measure => simp [intOf]; omega
          · have hk' : ((k : Int) != 0) = true := by simp; omega
            have HB := Lib.hid (HBAD.out (by simp [Ft.rowOK, Ft.kidsOK, hk]))
            clear HBAD HSN
            go_wp2_with fail
            go_quiet (fail)
            go_wp2_with (go_at_call 30; refine (CN _).mono ?_; rintro e w' ⟨rfl, rfl⟩)
            go_ret
            rw [HB.out]
            refine ⟨rfl, Keep.trans HL1.out (Keep.trans HL.out ?_)⟩
            first | exact (((Keep.refl _ _).alloc _).alloc _).drewN _ | exact ((Keep.refl _ _).alloc _).drewN _
        · by_cases hk : k = 1
          · subst hk
            rcases hnc with ⟨hn, hn2⟩ | ⟨hn, hn2⟩
            · rcases htc with ⟨ht, ht2⟩ | ⟨ht, ht2⟩
              all_goals
                have HB := Lib.hid (HBAD.out (by simp [Ft.rowOK, Ft.kidsOK, hn]))
                clear HBAD HSN
                go_wp2_with fail
                go_quiet (fail)
                go_wp2_with (go_at_call 30; refine (CN _).mono ?_; rintro e w' ⟨rfl, rfl⟩)
                go_ret
                rw [HB.out]
                refine ⟨rfl, Keep.trans HL1.out (Keep.trans HL.out ?_)⟩
                first | exact (((Keep.refl _ _).alloc _).alloc _).drewN _ | exact ((Keep.refl _ _).alloc _).drewN _
            · rcases htc with ⟨ht, ht2⟩ | ⟨ht, ht2⟩
              · have HB := Lib.hid (HBAD.out (by simp [Ft.rowOK, Ft.kidsOK, hn, ht]))
                clear HBAD HSN
                go_wp2_with fail
                go_quiet (fail)
                go_wp2_with (go_at_call 30; refine (CN _).mono ?_; rintro e w' ⟨rfl, rfl⟩)
                go_ret
                rw [HB.out]
                refine ⟨rfl, Keep.trans HL1.out (Keep.trans HL.out ?_)⟩
                first | exact (((Keep.refl _ _).alloc _).alloc _).drewN _ | exact ((Keep.refl _ _).alloc _).drewN _
              · have hr : Ft.rowOK ⟨6, nm, t, 1, dp⟩ = true := by simp [Ft.rowOK, Ft.kidsOK, hn, ht, hdp]; try omega
                have HSN2 := Lib.hid (HSN.out.trans hr)
                clear HBAD HSN hr
                go_wp2_with fail
                go_quiet (fail)
                go_wp2_with (go_at_call 30; refine (CN _).mono ?_; rintro e w' ⟨rfl, rfl⟩)
                go_roundw
                case rel =>
                  refine ⟨i + 1, by go_num, by omega, HSN2.out, Keep.trans HL.out ?_⟩
                  first | exact (((Keep.refl _ _).alloc _).alloc _).drewN _ | exact ((Keep.refl _ _).alloc _).drewN _
                case measure => simp [intOf]; omega
          · have hk' : ((k : Int) != 1) = true := by simp; omega
            have HB := Lib.hid (HBAD.out (by simp [Ft.rowOK, Ft.kidsOK, hk]))
            clear HBAD HSN
            go_wp2_with fail
            go_quiet (fail)
            go_wp2_with (go_at_call 30; refine (CN _).mono ?_; rintro e w' ⟨rfl, rfl⟩)
            go_ret
            rw [HB.out]
            refine ⟨rfl, Keep.trans HL1.out (Keep.trans HL.out ?_)⟩
            first | exact (((Keep.refl _ _).alloc _).alloc _).drewN _ | exact ((Keep.refl _ _).alloc _).drewN _
        · by_cases hk : 2 ≤ k
          · have hk' : decide ((k : Int) < 2) = false := by simp; omega
            rcases hnc with ⟨hn, hn2⟩ | ⟨hn, hn2⟩
            · rcases htc with ⟨ht, ht2⟩ | ⟨ht, ht2⟩
              all_goals
                have HB := Lib.hid (HBAD.out (by simp [Ft.rowOK, Ft.kidsOK, hn]))
                clear HBAD HSN
                go_wp2_with fail
                go_quiet (fail)
                go_wp2_with (go_at_call 30; refine (CN _).mono ?_; rintro e w' ⟨rfl, rfl⟩)
                go_ret
                rw [HB.out]
                refine ⟨rfl, Keep.trans HL1.out (Keep.trans HL.out ?_)⟩
                first | exact (((Keep.refl _ _).alloc _).alloc _).drewN _ | exact ((Keep.refl _ _).alloc _).drewN _
            · rcases htc with ⟨ht, ht2⟩ | ⟨ht, ht2⟩
              · have HB := Lib.hid (HBAD.out (by simp [Ft.rowOK, Ft.kidsOK, hn, ht]))
                clear HBAD HSN
                go_wp2_with fail
                go_quiet (fail)
                go_wp2_with (go_at_call 30; refine (CN _).mono ?_; rintro e w' ⟨rfl, rfl⟩)
                go_ret
                rw [HB.out]
                refine ⟨rfl, Keep.trans HL1.out (Keep.trans HL.out ?_)⟩
                first | exact (((Keep.refl _ _).alloc _).alloc _).drewN _ | exact ((Keep.refl _ _).alloc _).drewN _
              · have hr : Ft.rowOK ⟨7, nm, t, k, dp⟩ = true := by simp [Ft.rowOK, Ft.kidsOK, hn, ht, hdp, hk]; try omega
                have HSN2 := Lib.hid (HSN.out.trans hr)
                clear HBAD HSN hr
                go_wp2_with fail
                go_quiet (fail)
                go_wp2_with (go_at_call 30; refine (CN _).mono ?_; rintro e w' ⟨rfl, rfl⟩)
                go_roundw
                case rel =>
                  refine ⟨i + 1, by go_num, by omega, HSN2.out, Keep.trans HL.out ?_⟩
                  first | exact (((Keep.refl _ _).alloc _).alloc _).drewN _ | exact ((Keep.refl _ _).alloc _).drewN _
                case measure => simp [intOf]; omega
          · have hk' : decide ((k : Int) < 2) = true := by simp; omega
            have HB := Lib.hid (HBAD.out (by simp [Ft.rowOK, Ft.kidsOK, hk]))
            clear HBAD HSN
            go_wp2_with fail
            go_quiet (fail)
            go_wp2_with (go_at_call 30; refine (CN _).mono ?_; rintro e w' ⟨rfl, rfl⟩)
            go_ret
            rw [HB.out]
            refine ⟨rfl, Keep.trans HL1.out (Keep.trans HL.out ?_)⟩
            first | exact (((Keep.refl _ _).alloc _).alloc _).drewN _ | exact ((Keep.refl _ _).alloc _).drewN _
        · by_cases hk : 2 ≤ k
          · have hk' : decide ((k : Int) < 2) = false := by simp; omega
            rcases hnc with ⟨hn, hn2⟩ | ⟨hn, hn2⟩
            · rcases htc with ⟨ht, ht2⟩ | ⟨ht, ht2⟩
              all_goals
                have HB := Lib.hid (HBAD.out (by simp [Ft.rowOK, Ft.kidsOK, hn]))
                clear HBAD HSN
                go_wp2_with fail
                go_quiet (fail)
                go_wp2_with (go_at_call 30; refine (CN _).mono ?_; rintro e w' ⟨rfl, rfl⟩)
                go_ret
                rw [HB.out]
                refine ⟨rfl, Keep.trans HL1.out (Keep.trans HL.out ?_)⟩
                first | exact (((Keep.refl _ _).alloc _).alloc _).drewN _ | exact ((Keep.refl _ _).alloc _).drewN _
            · rcases htc with ⟨ht, ht2⟩ | ⟨ht, ht2⟩
              · have HB := Lib.hid (HBAD.out (by simp [Ft.rowOK, Ft.kidsOK, hn, ht]))
                clear HBAD HSN
                go_wp2_with fail
                go_quiet (fail)
                go_wp2_with (go_at_call 30; refine (CN _).mono ?_; rintro e w' ⟨rfl, rfl⟩)
                go_ret
                rw [HB.out]
                refine ⟨rfl, Keep.trans HL1.out (Keep.trans HL.out ?_)⟩
                first | exact (((Keep.refl _ _).alloc _).alloc _).drewN _ | exact ((Keep.refl _ _).alloc _).drewN _
              · have hr : Ft.rowOK ⟨8, nm, t, k, dp⟩ = true := by simp [Ft.rowOK, Ft.kidsOK, hn, ht, hdp, hk]; try omega
                have HSN2 := Lib.hid (HSN.out.trans hr)
                clear HBAD HSN hr
                go_wp2_with fail
                go_quiet (fail)
                go_wp2_with (go_at_call 30; refine (CN _).mono ?_; rintro e w' ⟨rfl, rfl⟩)
                go_roundw
                case rel =>
                  refine ⟨i + 1, by go_num, by omega, HSN2.out, Keep.trans HL.out ?_⟩
                  first | exact (((Keep.refl _ _).alloc _).alloc _).drewN _ | exact ((Keep.refl _ _).alloc _).drewN _
                case measure => simp [intOf]; omega
          · have hk' : decide ((k : Int) < 2) = true := by simp; omega
            have HB := Lib.hid (HBAD.out (by simp [Ft.rowOK, Ft.kidsOK, hk]))
            clear HBAD HSN
            go_wp2_with fail
            go_quiet (fail)
            go_wp2_with (go_at_call 30; refine (CN _).mono ?_; rintro e w' ⟨rfl, rfl⟩)
            go_ret
            rw [HB.out]
            refine ⟨rfl, Keep.trans HL1.out (Keep.trans HL.out ?_)⟩
            first | exact (((Keep.refl _ _).alloc _).alloc _).drewN _ | exact ((Keep.refl _ _).alloc _).drewN _
    · obtain rfl : i = R.length := by omega
      have hok := HOK.out
      rw [List.take_length] at hok
      clear hl
      go_wp2_with fail
      go_ret
      rw [HG.out, hok]
      exact ⟨rfl, Keep.trans HL1.out HL.out⟩

end Go.Proofs.Ytgmahdeaggjjgaa
