/-
  ScanIs: Ask AND Len ANSWER WHAT THE DOCUMENT SAYS.
-/
import Derived.Test.YtdjddlebjbngfaaGreatDoorFn15
import Derived.Test.YtdjddlebjbngfaaGreatDoorEr
namespace Go.Proofs.YtdjddlebjbngfaaGreatDoor.E4
open Go.RowKit Go
open Go.Sort (grow)

set_option maxHeartbeats 8000000 in
set_option maxRecDepth 100000 in
theorem is_walk15 {G L : Nat → Prop} {w : World} {v av mv ml : Value} {es : List Ent} {a : Ask} {has desc : Bool} {m : Ent} {n : Int} (h : EntsAt G L w v es) (h1 : TextsAt w av a.all) (h2 : MsAt w mv a.mat) (hm : LabsAt (fun _ => True) w ml m.labs)
    (hwf : ∀ e ∈ es, e.Wf) (hT : MaxI w) :
    Calls Tryz.prog 3 #[v, .agg (a.cells av mv), mkV has m ml, .bool desc, .int .i64 n] w fun x w' => x = .returned (.bool true) ∧ Below w.heap.size w w' := by
  have hmx : Tryz.prog.follows .mixedOrders = true := by kernel_rfl
  obtain ⟨ae, ce, rfl, he63, _⟩ := id h
  obtain ⟨ma, mc, rfl, hm63, _⟩ := id hm
  obtain ⟨aa, ca, rfl, ha63, _⟩ := id h1
  obtain ⟨am, cm, rfl, hm6, _⟩ := id h2
  have hq : AskAt w (.agg (a.cells (.slice aa a.all.length ca) (.slice am a.mat.length cm))) a := ⟨_, _, rfl, h1, h2⟩
  obtain ⟨w1, hw1⟩ : ∃ w1, w1 = w.alloc (.cells #[.int .i64 a.kd, .int .i64 a.src, .int .i64 a.til, .slice aa a.all.length ca, .slice am a.mat.length cm] 26) := ⟨_, rfl⟩
  have hb1 : Below w.heap.size w w1 := by rw [hw1]; exact (Below.refl _ w).alloc (Nat.le_refl _) _
  have hk1 : Bl w1 w.heap.size 26 #[.int .i64 a.kd, .int .i64 a.src, .int .i64 a.til, .slice aa a.all.length ca, .slice am a.mat.length cm] := by rw [hw1]; exact Bl.new w 26 _
  obtain ⟨w2, hw2⟩ : ∃ w2, w2 = w1.alloc (.cells #[.bool has, .int .i64 m.tm, .slice ma m.labs.length mc, .string m.line] 31) := ⟨_, rfl⟩
  have hb12 : Below w1.heap.size w1 w2 := by rw [hw2]; exact (Below.refl _ w1).alloc (Nat.le_refl _) _
  have hs1 : w1.heap.size = w.heap.size + 1 := by rw [hw1]; simp
  have hk2 : Bl w2 (w.heap.size + 1) 31 #[.bool has, .int .i64 m.tm, .slice ma m.labs.length mc, .string m.line] := by rw [hw2, ← hs1]; exact Bl.new w1 31 _
  have hb2 := below_mid hb1 hb12
  have hka := Bl.below hk1 hb12
  rw [hw1] at hw2
  have HW2 := Lib.hid hw2.symm
  have HAL := Lib.hid (alive_any w2 (MaxI.below1 hT hb2))
  have HANY := Lib.hid (fun W => anyOf_any a (.slice aa a.all.length ca) (.slice am a.mat.length cm) W ⟨_, _, _, rfl⟩ ⟨_, _, _, rfl⟩)
  have HH := Lib.hid h
  have HH1 := Lib.hid h1
  have HH2 := Lib.hid h2
  have HQ := Lib.hid hq
  have HM := Lib.hid hm
  have HT := Lib.hid hT
  have HWF := Lib.hid hwf
  have HB2 := Lib.hid hb2
  have HKA := Lib.hid hka
  have HKM := Lib.hid hk2
  obtain ⟨dv, hdv⟩ : ∃ dv, dv = a.dyn (.slice aa a.all.length ca) (.slice am a.mat.length cm) := ⟨_, rfl⟩
  rw [← hdv] at HANY
  have HDV := Lib.hid hdv
  simp only [Ask.cells] at HANY HQ ⊢
  simp only [mkV]
  clear h h1 h2 hq hm hT hwf hw1 hw2 hb1 hb12 hb2 hk1 hk2 hka hs1 hdv
  go_enter Tryz.func3, Tryz.ntmps3
  go_upto_region 1 with fail
  rw [HW2.out]
  go_upto_region 3 with (go_at_call 7; refine HAL.out.mono ?_; rintro x w3 ⟨rfl, hb3⟩)
  have HB3 := Lib.hid (below_mid HB2.out hb3)
  have HGR := Lib.hid (lawGreat_any (has := has) (HH.out.below1 HB3.out) (HQ.out.below HB3.out) (HM.out.below1 HB3.out))
  have hka := HKA.out.below hb3
  have c0 := hka.cell 0
  have c1 := hka.cell 1
  have c2 := hka.cell 2
  have c3 := hka.cell 3
  have c4 := hka.cell 4
  have hkm := HKM.out.below hb3
  have d0 := hkm.cell 0
  have d1 := hkm.cell 1
  have d2 := hkm.cell 2
  have d3 := hkm.cell 3
  simp only [List.getElem?_toArray, List.getElem?_cons_succ, List.getElem?_cons_zero] at c0 c1 c2 c3 c4 d0 d1 d2 d3
  simp only [mkV] at HGR
  have HK3 := Lib.hid hka
  have HM3 := Lib.hid hkm
  clear hka hkm hb3 HAL
  cases hbig : bigF es a m with
  | true =>
    rw [hbig] at HGR
    go_wp2_with (go_at_call 8; refine HGR.out.mono ?_; rintro x w4 ⟨rfl, hb4⟩)
    go_ret
    exact ⟨rfl, below_mid HB3.out hb4⟩
  | false =>
    rw [hbig] at HGR
    have HBG := Lib.hid (bigF_no hbig)
    clear hbig
    go_upto_region 5 with (go_at_call 8; refine HGR.out.mono ?_; rintro x w4 ⟨rfl, hb4⟩)
    have HB4 := Lib.hid (below_mid HB3.out hb4)
    have HK4 := Lib.hid (HK3.out.below hb4)
    have HM4 := Lib.hid (HM3.out.below hb4)
    have HFI := Lib.hid (filled_any (HH.out.below1 HB4.out) (by have := HBG.out.1; omega) (MaxI.below1 HT.out HB4.out))
    clear hb4 HGR c0 c1 c2 c3 c4 d0 d1 d2 d3
    go_upto_region 6 with (go_at_call 9; refine HFI.out.mono ?_; rintro x w5 ⟨gb, rfl, heng, hb5⟩)
    have HB5 := Lib.hid (below_mid HB4.out hb5)
    have hdr : Below w5.heap.size w5 w5.drew := lay_below ((Keep.refl (fun _ => False) w5).drew)
    have HKF : Hid (∀ W1, Below w5.drew.heap.size w5.drew W1 → Bl W1 w.heap.size 26 #[.int .i64 a.kd, .int .i64 a.src, .int .i64 a.til, .slice aa a.all.length ca, .slice am a.mat.length cm]) := Lib.hid fun W1 hW => (HK4.out.below hb5).below (below_mid hdr hW)
    have HMF : Hid (∀ W1, Below w5.drew.heap.size w5.drew W1 → Bl W1 (w.heap.size + 1) 31 #[.bool has, .int .i64 m.tm, .slice ma m.labs.length mc, .string m.line]) := Lib.hid fun W1 hW => (HM4.out.below hb5).below (below_mid hdr hW)
    obtain ⟨LL, hLL⟩ : ∃ LL, LL = askL (addAll [] es) a (mkO has m) desc n := ⟨_, rfl⟩
    obtain ⟨bb, hbb⟩ : ∃ bb, bb = askB (addAll [] es) a (mkO has m) desc n := ⟨_, rfl⟩
    obtain ⟨kk, hkk⟩ : ∃ kk, kk = askK a := ⟨_, rfl⟩
    have HAQ : Hid (∀ W1, Below w5.drew.heap.size w5.drew W1 → Calls Tryz.prog 10 #[.pointer (some ⟨gb, 0, none⟩), dv, .agg #[.bool has, .int .i64 m.tm, .slice ma m.labs.length mc, .string m.line], .bool desc, .int .i64 n] W1 fun x w' => ∃ u, x = .returned (.tuple #[u, .bool bb, .int .i64 kk]) ∧ EntsAt (fun b => W1.heap.size ≤ b) (fun _ => True) w' u LL ∧ Below W1.heap.size W1 w') := Lib.hid fun W1 hW => by
      have hb := below_mid HB5.out (below_mid hdr hW)
      have hc := ask_any (addAll [] es) a (.slice aa a.all.length ca) (.slice am a.mat.length cm) has desc m (.slice ma m.labs.length mc) n w4.heap.size gb W1 (heng.below (below_mid hdr hW)) ⟨_, _, _, rfl⟩ ⟨_, _, _, rfl⟩ (HM.out.below1 hb)
        (by have h1 := addAll_len (es := []) (l := es); have h2 := HBG.out.1; simp only [List.length_nil] at h1; omega)
      rw [← HDV.out] at hc
      refine hc.mono fun x w' h => ?_
      rw [hLL, hbb, hkk]
      exact h.q.1
    have HASK := HAQ
    have HENG := Lib.hid heng
    have HLL := Lib.hid hLL
    have HBB := Lib.hid hbb
    have HKK := Lib.hid hkk
    clear heng hb5 hdr hLL hbb hkk HFI HAQ
    refine (wpIn_wide (n := 9)).1 ?_
    refine H3.wpIn_region_flow (fun _ => trivial) (by kernel_rfl) (fun _ _ W => Below w5.drew.heap.size w5.drew W) (fun _ _ W1 W2 => Below W1.heap.size W1 W2) (GV [some (.pointer (some ⟨gb, 0, none⟩)), some (.agg #[.int .i64 a.kd, .int .i64 a.src, .int .i64 a.til, .slice aa a.all.length ca, .slice am a.mat.length cm]), some (dv), some (.agg #[.bool has, .int .i64 m.tm, .slice ma m.labs.length mc, .string m.line]), some (.bool desc), some (.int .i64 n), none, none, none, some (.bool bb), some (.int .i64 kk), none, some (.bool bb), some (.int .i64 kk)] [6, 7, 8, 11] (AZ (w5.drew.heap.size) (LL) bb kk)) (fun j => j == 11 || j == 12 || j == 13) (by kernel_rfl) (by kernel_rfl) ?hst (Below.refl _ _) ?step ?fin
    case hst =>
      intro i j ys v w1 w2 hij hanc hned hV hR
      by_cases hj6 : j = 6
      · subst hj6
        exact GV.keep (sp := AZ (w5.drew.heap.size) (LL) bb kk) (fun _ _ _ _ h hb => AZ.below h hb) hij hV hR
      by_cases hj7 : j = 7
      · subst hj7
        exact GV.keep (sp := AZ (w5.drew.heap.size) (LL) bb kk) (fun _ _ _ _ h hb => AZ.below h hb) hij hV hR
      by_cases hj8 : j = 8
      · subst hj8
        exact GV.keep (sp := AZ (w5.drew.heap.size) (LL) bb kk) (fun _ _ _ _ h hb => AZ.below h hb) hij hV hR
      by_cases hj11 : j = 11
      · subst hj11
        exact GV.keep (sp := AZ (w5.drew.heap.size) (LL) bb kk) (fun _ _ _ _ h hb => AZ.below h hb) hij hV hR
      exact gvq_keep (by simp; omega) hij hV
    case step =>
      refine ⟨?_, ?_, ?_, ?_, ?_, ?_, ?_, ?_, ?_, ?_, ?_, ?_, ?_, ?_, trivial⟩
      · intro listed ys X W1 hsz hsd hi2 hall hX hI hd K hK
        have e11 : X.tmps.getD 11 undef = .pointer (some ⟨gb, 0, none⟩) := hX 11 (Nat.le_of_ble_eq_true rfl)
        have HI := Lib.hid hI
        refine H3.step_run (.inl rfl) ?_
        clear hX hd hI
        go_simp
        exact hK _ _ HI.out (Below.refl _ _) (GV.of (by decide) (fun u h => by cases h; rfl))
      · intro listed ys X W1 hsz hsd hi2 hall hX hI hd K hK
        have e6 : X.tmps.getD 6 undef = .pointer (some ⟨w.heap.size, 0, none⟩) := hX 6 (Nat.le_of_ble_eq_true rfl)
        have hx := HKF.out W1 hI
        have x0 := hx.cell 0
        have x1 := hx.cell 1
        have x2 := hx.cell 2
        have x3 := hx.cell 3
        have x4 := hx.cell 4
        simp only [List.getElem?_toArray, List.getElem?_cons_succ, List.getElem?_cons_zero] at x0 x1 x2 x3 x4
        clear hx
        have HI := Lib.hid hI
        refine H3.step_run (.inl rfl) ?_
        clear hX hd hI
        go_simp
        exact hK _ _ HI.out (Below.refl _ _) (GV.of (by decide) (fun u h => by cases h; rfl))
      · intro listed ys X W1 hsz hsd hi2 hall hX hI hd K hK
        have e32 : X.tmps.getD 32 undef = .agg #[.int .i64 a.kd, .int .i64 a.src, .int .i64 a.til, .slice aa a.all.length ca, .slice am a.mat.length cm] := (hX 32 (Nat.le_of_ble_eq_true rfl)).trans (GV.val (hd ⟨1, .data⟩ (by simp) rfl) (by decide) rfl)
        have HI := Lib.hid hI
        refine H3.step_run (.inl rfl) ?_
        clear hX hd hI
        go_simp
        refine ⟨trivial, (callsIn_wide.2 (HANY.out W1)).mono ?_⟩
        rintro x w7 ⟨rfl, hb⟩
        exact hK _ _ (HI.out.trans (hb.mono HI.out.size)) hb (GV.of (by decide) (fun u h => by cases h; rfl))
      · intro listed ys X W1 hsz hsd hi2 hall hX hI hd K hK
        have e7 : X.tmps.getD 7 undef = .pointer (some ⟨w.heap.size + 1, 0, none⟩) := hX 7 (Nat.le_of_ble_eq_true rfl)
        have hx := HMF.out W1 hI
        have x0 := hx.cell 0
        have x1 := hx.cell 1
        have x2 := hx.cell 2
        have x3 := hx.cell 3
        simp only [List.getElem?_toArray, List.getElem?_cons_succ, List.getElem?_cons_zero] at x0 x1 x2 x3
        clear hx
        have HI := Lib.hid hI
        refine H3.step_run (.inl rfl) ?_
        clear hX hd hI
        go_simp
        exact hK _ _ HI.out (Below.refl _ _) (GV.of (by decide) (fun u h => by cases h; rfl))
      · intro listed ys X W1 hsz hsd hi2 hall hX hI hd K hK
        have e3 : X.tmps.getD 3 undef = .bool desc := hX 3 (Nat.le_of_ble_eq_true rfl)
        have HI := Lib.hid hI
        refine H3.step_run (.inl rfl) ?_
        clear hX hd hI
        go_simp
        exact hK _ _ HI.out (Below.refl _ _) (GV.of (by decide) (fun u h => by cases h; rfl))
      · intro listed ys X W1 hsz hsd hi2 hall hX hI hd K hK
        have e4 : X.tmps.getD 4 undef = .int .i64 n := hX 4 (Nat.le_of_ble_eq_true rfl)
        have HI := Lib.hid hI
        refine H3.step_run (.inl rfl) ?_
        clear hX hd hI
        go_simp
        exact hK _ _ HI.out (Below.refl _ _) (GV.of (by decide) (fun u h => by cases h; rfl))
      · intro listed ys X W1 hsz hsd hi2 hall hX hI hd K hK
        have e31 : X.tmps.getD 31 undef = .pointer (some ⟨gb, 0, none⟩) := (hX 31 (Nat.le_of_ble_eq_true rfl)).trans (GV.val (hd ⟨0, .data⟩ (by simp) rfl) (by decide) rfl)
        have e33 : X.tmps.getD 33 undef = dv := (hX 33 (Nat.le_of_ble_eq_true rfl)).trans (GV.val (hd ⟨2, .data⟩ (by simp) rfl) (by decide) rfl)
        have e34 : X.tmps.getD 34 undef = .agg #[.bool has, .int .i64 m.tm, .slice ma m.labs.length mc, .string m.line] := (hX 34 (Nat.le_of_ble_eq_true rfl)).trans (GV.val (hd ⟨3, .data⟩ (by simp) rfl) (by decide) rfl)
        have e35 : X.tmps.getD 35 undef = .bool desc := (hX 35 (Nat.le_of_ble_eq_true rfl)).trans (GV.val (hd ⟨4, .data⟩ (by simp) rfl) (by decide) rfl)
        have e36 : X.tmps.getD 36 undef = .int .i64 n := (hX 36 (Nat.le_of_ble_eq_true rfl)).trans (GV.val (hd ⟨5, .data⟩ (by simp) rfl) (by decide) rfl)
        have HI := Lib.hid hI
        have HC := Lib.hid (HASK.out W1 hI)
        have hBW := HI.out.size
        refine H3.step_run (.inl rfl) ?_
        clear hX hd hI
        go_simp
        refine ⟨trivial, (callsIn_wide.2 HC.out).mono ?_⟩
        rintro x w7 ⟨u, rfl, hent, hb⟩
        exact hK _ _ (HI.out.trans (hb.mono HI.out.size)) hb (GV.ofsp (by decide) (show AZ _ _ _ _ 6 _ w7 from ⟨u, rfl, hent.mono (fun b hb2 _ => Nat.le_trans hBW hb2) (fun _ _ _ => trivial)⟩))
      · intro listed ys X W1 hsz hsd hi2 hall hX hI hd K hK
        have e37 : X.tmps.getD 37 undef = ys 6 := hX 37 (Nat.le_of_ble_eq_true rfl)
        have hv6 := GV.spv (hd ⟨6, .data⟩ (by simp) rfl) (by decide)
        have HI := Lib.hid hI
        have HV := Lib.hid hv6
        refine H3.step_run (.inl rfl) ?_
        clear hX hd hI hv6
        go_simp
        exact hK _ _ HI.out (Below.refl _ _) (GV.ofsp (by decide) (show AZ _ _ _ _ 7 _ W1 from HV.out))
      · intro listed ys X W1 hsz hsd hi2 hall hX hI hd K hK
        have e30 : X.tmps.getD 30 undef = ys 7 := hX 30 (Nat.le_of_ble_eq_true rfl)
        have hv7 := GV.spv (hd ⟨7, .data⟩ (by simp) rfl) (by decide)
        have HI := Lib.hid hI
        obtain ⟨u, hv, hent⟩ : AT (w5.drew.heap.size) (LL) bb kk (ys 7) W1 := hv7
        rw [hv] at e30
        have HV := Lib.hid hent
        refine H3.step_run (.inl rfl) ?_
        clear hX hd hI hent hv
        go_simp
        exact hK _ _ HI.out (Below.refl _ _) (GV.ofsp (by decide) (show AZ _ _ _ _ 8 _ W1 from HV.out))
      · intro listed ys X W1 hsz hsd hi2 hall hX hI hd K hK
        have e30 : X.tmps.getD 30 undef = ys 7 := hX 30 (Nat.le_of_ble_eq_true rfl)
        have hv7 := GV.spv (hd ⟨7, .data⟩ (by simp) rfl) (by decide)
        have HI := Lib.hid hI
        obtain ⟨u, hv, hent⟩ : AT (w5.drew.heap.size) (LL) bb kk (ys 7) W1 := hv7
        rw [hv] at e30
        have HV := Lib.hid hent
        refine H3.step_run (.inl rfl) ?_
        clear hX hd hI hent hv
        go_simp
        exact hK _ _ HI.out (Below.refl _ _) (GV.of (by decide) (fun u h => by cases h; rfl))
      · intro listed ys X W1 hsz hsd hi2 hall hX hI hd K hK
        have e30 : X.tmps.getD 30 undef = ys 7 := hX 30 (Nat.le_of_ble_eq_true rfl)
        have hv7 := GV.spv (hd ⟨7, .data⟩ (by simp) rfl) (by decide)
        have HI := Lib.hid hI
        obtain ⟨u, hv, hent⟩ : AT (w5.drew.heap.size) (LL) bb kk (ys 7) W1 := hv7
        rw [hv] at e30
        have HV := Lib.hid hent
        refine H3.step_run (.inl rfl) ?_
        clear hX hd hI hent hv
        go_simp
        exact hK _ _ HI.out (Below.refl _ _) (GV.of (by decide) (fun u h => by cases h; rfl))
      · intro listed ys X W1 hsz hsd hi2 hall hX hI hd K hK
        have e38 : X.tmps.getD 38 undef = ys 8 := hX 38 (Nat.le_of_ble_eq_true rfl)
        have hv8 := GV.spv (hd ⟨8, .data⟩ (by simp) rfl) (by decide)
        have HI := Lib.hid hI
        have HV := Lib.hid hv8
        refine H3.step_run (.inl rfl) ?_
        clear hX hd hI hv8
        go_simp
        exact hK _ _ HI.out (Below.refl _ _) (GV.ofsp (by decide) (show AZ _ _ _ _ 11 _ W1 from HV.out))
      · intro listed ys X W1 hsz hsd hi2 hall hX hI hd K hK
        have e39 : X.tmps.getD 39 undef = .bool bb := (hX 39 (Nat.le_of_ble_eq_true rfl)).trans (GV.val (hd ⟨9, .data⟩ (by simp) rfl) (by decide) rfl)
        have HI := Lib.hid hI
        refine H3.step_run (.inl rfl) ?_
        clear hX hd hI
        go_simp
        exact hK _ _ HI.out (Below.refl _ _) (GV.of (by decide) (fun u h => by cases h; rfl))
      · intro listed ys X W1 hsz hsd hi2 hall hX hI hd K hK
        have e40 : X.tmps.getD 40 undef = .int .i64 kk := (hX 40 (Nat.le_of_ble_eq_true rfl)).trans (GV.val (hd ⟨10, .data⟩ (by simp) rfl) (by decide) rfl)
        have HI := Lib.hid hI
        refine H3.step_run (.inl rfl) ?_
        clear hX hd hI
        go_simp
        exact hK _ _ HI.out (Below.refl _ _) (GV.of (by decide) (fun u h => by cases h; rfl))
    case fin =>
      intro listed ys w6 hall hI hV
      have hent : EntsAt (fun b => w5.drew.heap.size ≤ b) (fun _ => True) w6 (ys 11) LL := GV.spv (hV 11 (by decide) rfl) (by decide)
      have e12 : ys 12 = .bool bb := GV.val (hV 12 (by decide) rfl) (by decide) rfl
      have e13 : ys 13 = .int .i64 kk := GV.val (hV 13 (by decide) rfl) (by decide) rfl
      obtain ⟨lv, hlv⟩ : ∃ v, ys 11 = v := ⟨_, rfl⟩
      rw [hlv] at hent
      have hb56 : Below w5.heap.size w5 w6 := below_mid (lay_below ((Keep.refl (fun _ => False) w5).drew)) hI
      have HB6 := Lib.hid (below_mid HB5.out hb56)
      have hkq := HKF.out w6 hI
      have hkm := HMF.out w6 hI
      have c0 := hkq.cell 0
      have c1 := hkq.cell 1
      have c2 := hkq.cell 2
      have c3 := hkq.cell 3
      have c4 := hkq.cell 4
      have d0 := hkm.cell 0
      have d1 := hkm.cell 1
      have d2 := hkm.cell 2
      have d3 := hkm.cell 3
      simp only [List.getElem?_toArray, List.getElem?_cons_succ, List.getElem?_cons_zero] at c0 c1 c2 c3 c4 d0 d1 d2 d3
      have HK6 := Lib.hid hkq
      have HM6 := Lib.hid hkm
      have HE6 := Lib.hid (HENG.out.below hb56)
      have HENT := Lib.hid hent
      have HRF := Lib.hid (refAsk_any es a (.slice ae es.length ce) _ has desc m (.slice ma m.labs.length mc) n w6 (HH.out.below1 HB6.out) (HQ.out.below HB6.out) (HM.out.below1 HB6.out) (by have := HBG.out.1; omega))
      simp only [mkV] at HRF
      clear hent hI hV hall hb56 hkq hkm HKF HMF HASK
      simp only [H3.putsFrom]
      simp only [hlv, e12, e13, Act.put, List.setIfInBounds_toArray, List.set_cons_succ, List.set_cons_zero]
      clear hlv e12 e13
      go_wp2_with fail
      refine HRF.out.mono ?_
      rintro x w7 hx
      obtain ⟨v7, rfl, hent7, hb7⟩ := hx.q.1
      rw [← askL_same (added_mem es), ← HLL.out] at hent7
      rw [← askB_same (added_mem es), ← HBB.out, ← HKK.out]
      have HAL := Lib.hid (all_any (HENT.out.below1 hb7) hent7)
      have HB7 := Lib.hid hb7
      obtain ⟨la, lc, rfl, _⟩ := id HENT.out
      obtain ⟨ra, rc, rfl, _⟩ := id hent7
      clear hent7 hb7 hx HRF c0 c1 c2 c3 c4 d0 d1 d2 d3
      have hbb : (bb != bb) = false := by cases bb <;> rfl
      have hkk : (kk != kk) = false := by simp
      go_wp2_with fail
      refine HAL.out.mono ?_
      rintro x w8 ⟨rfl, hl8⟩
      have HB8 := Lib.hid (below_mid HB7.out (lay_below hl8))
      have HLEN := Lib.hid (len_any w8 w4.heap.size gb (addAll [] es) (HE6.out.below HB8.out))
      have HCNT := Lib.hid (refCount_any (HH.out.below1 (below_mid HB6.out HB8.out)) (by have := HBG.out.1; omega))
      clear hl8 HAL
      go_wp2_with (go_at_call 14; refine HLEN.out.mono ?_; rintro x w8' ⟨rfl, rfl⟩)
      refine HCNT.out.mono ?_
      rintro x w9 ⟨srt, hsrt, rfl, hb9⟩
      have hcl := count_len hsrt
      rw [hcl]
      have HB9 := Lib.hid (below_mid HB8.out hb9)
      clear hsrt hb9 HCNT HLEN hcl
      have HAN := Lib.hid (fun W => add_nil W)
      go_upto_region 12 with (go_at_call 16; refine (HAN.out _).mono ?_; rintro x w10 ⟨rfl, hb10⟩)
      have HB10 := Lib.hid (below_mid HB9.out hb10)
      have hdr : Below w10.heap.size w10 w10.drew := lay_below ((Keep.refl (fun _ => False) w10).drew)
      have HKG : Hid (∀ W1, Below w10.drew.heap.size w10.drew W1 → Bl W1 w.heap.size 26 #[.int .i64 a.kd, .int .i64 a.src, .int .i64 a.til, .slice aa a.all.length ca, .slice am a.mat.length cm]) := Lib.hid fun W1 hW => (HK6.out.below HB10.out).below (below_mid hdr hW)
      have HMG : Hid (∀ W1, Below w10.drew.heap.size w10.drew W1 → Bl W1 (w.heap.size + 1) 31 #[.bool has, .int .i64 m.tm, .slice ma m.labs.length mc, .string m.line]) := Lib.hid fun W1 hW => (HM6.out.below HB10.out).below (below_mid hdr hW)
      have HASN : Hid (∀ W1, Below w10.drew.heap.size w10.drew W1 → Calls Tryz.prog 10 #[.pointer none, dv, .agg #[.bool has, .int .i64 m.tm, .slice ma m.labs.length mc, .string m.line], .bool desc, .int .i64 n] W1 fun x w' => ∃ u, x = .returned (.tuple #[u, .bool false, .int .i64 2]) ∧ EntsAt (fun b => W1.heap.size ≤ b) (fun _ => True) w' u [] ∧ Below W1.heap.size W1 w') := Lib.hid fun W1 hW => by
        have hc := ask_nil dv has desc m (.slice ma m.labs.length mc) n W1 (HM.out.below1 (below_mid HB6.out (below_mid HB10.out (below_mid hdr hW))))
        refine hc.mono fun x w' h => ?_
        exact ⟨_, h.1, EntsAt.none _ _ _ _, h.2⟩
      clear hb10 hdr HAN hbb hkk
      refine (wpIn_wide (n := 9)).1 ?_
      refine H3.wpIn_region_flow (fun _ => trivial) (by kernel_rfl) (fun _ _ W => Below w10.drew.heap.size w10.drew W) (fun _ _ W1 W2 => Below W1.heap.size W1 W2) (GV [some (.pointer none), some (.agg #[.int .i64 a.kd, .int .i64 a.src, .int .i64 a.til, .slice aa a.all.length ca, .slice am a.mat.length cm]), some (dv), some (.agg #[.bool has, .int .i64 m.tm, .slice ma m.labs.length mc, .string m.line]), some (.bool desc), some (.int .i64 n), none, none, none, some (.bool false), some (.int .i64 2), none, some (.bool false), some (.int .i64 2)] [6, 7, 8, 11] (AZ (w10.drew.heap.size) ([]) false 2)) (fun j => j == 11 || j == 12 || j == 13) (by kernel_rfl) (by kernel_rfl) ?hst (Below.refl _ _) ?step ?fin
      case hst =>
        intro i j ys v w1 w2 hij hanc hned hV hR
        by_cases hj6 : j = 6
        · subst hj6
          exact GV.keep (sp := AZ (w10.drew.heap.size) ([]) false 2) (fun _ _ _ _ h hb => AZ.below h hb) hij hV hR
        by_cases hj7 : j = 7
        · subst hj7
          exact GV.keep (sp := AZ (w10.drew.heap.size) ([]) false 2) (fun _ _ _ _ h hb => AZ.below h hb) hij hV hR
        by_cases hj8 : j = 8
        · subst hj8
          exact GV.keep (sp := AZ (w10.drew.heap.size) ([]) false 2) (fun _ _ _ _ h hb => AZ.below h hb) hij hV hR
        by_cases hj11 : j = 11
        · subst hj11
          exact GV.keep (sp := AZ (w10.drew.heap.size) ([]) false 2) (fun _ _ _ _ h hb => AZ.below h hb) hij hV hR
        exact gvq_keep (by simp; omega) hij hV
      case step =>
        refine ⟨?_, ?_, ?_, ?_, ?_, ?_, ?_, ?_, ?_, ?_, ?_, ?_, ?_, ?_, trivial⟩
        · intro listed ys X W1 hsz hsd hi2 hall hX hI hd K hK
          have e18 : X.tmps.getD 18 undef = .pointer none := hX 18 (Nat.le_of_ble_eq_true rfl)
          have HI := Lib.hid hI
          refine H3.step_run (.inl rfl) ?_
          clear hX hd hI
          go_simp
          exact hK _ _ HI.out (Below.refl _ _) (GV.of (by decide) (fun u h => by cases h; rfl))
        · intro listed ys X W1 hsz hsd hi2 hall hX hI hd K hK
          have e6 : X.tmps.getD 6 undef = .pointer (some ⟨w.heap.size, 0, none⟩) := hX 6 (Nat.le_of_ble_eq_true rfl)
          have hx := HKG.out W1 hI
          have x0 := hx.cell 0
          have x1 := hx.cell 1
          have x2 := hx.cell 2
          have x3 := hx.cell 3
          have x4 := hx.cell 4
          simp only [List.getElem?_toArray, List.getElem?_cons_succ, List.getElem?_cons_zero] at x0 x1 x2 x3 x4
          clear hx
          have HI := Lib.hid hI
          refine H3.step_run (.inl rfl) ?_
          clear hX hd hI
          go_simp
          exact hK _ _ HI.out (Below.refl _ _) (GV.of (by decide) (fun u h => by cases h; rfl))
        · intro listed ys X W1 hsz hsd hi2 hall hX hI hd K hK
          have e77 : X.tmps.getD 77 undef = .agg #[.int .i64 a.kd, .int .i64 a.src, .int .i64 a.til, .slice aa a.all.length ca, .slice am a.mat.length cm] := (hX 77 (Nat.le_of_ble_eq_true rfl)).trans (GV.val (hd ⟨1, .data⟩ (by simp) rfl) (by decide) rfl)
          have HI := Lib.hid hI
          refine H3.step_run (.inl rfl) ?_
          clear hX hd hI
          go_simp
          refine ⟨trivial, (callsIn_wide.2 (HANY.out W1)).mono ?_⟩
          rintro x w7 ⟨rfl, hb⟩
          exact hK _ _ (HI.out.trans (hb.mono HI.out.size)) hb (GV.of (by decide) (fun u h => by cases h; rfl))
        · intro listed ys X W1 hsz hsd hi2 hall hX hI hd K hK
          have e7 : X.tmps.getD 7 undef = .pointer (some ⟨w.heap.size + 1, 0, none⟩) := hX 7 (Nat.le_of_ble_eq_true rfl)
          have hx := HMG.out W1 hI
          have x0 := hx.cell 0
          have x1 := hx.cell 1
          have x2 := hx.cell 2
          have x3 := hx.cell 3
          simp only [List.getElem?_toArray, List.getElem?_cons_succ, List.getElem?_cons_zero] at x0 x1 x2 x3
          clear hx
          have HI := Lib.hid hI
          refine H3.step_run (.inl rfl) ?_
          clear hX hd hI
          go_simp
          exact hK _ _ HI.out (Below.refl _ _) (GV.of (by decide) (fun u h => by cases h; rfl))
        · intro listed ys X W1 hsz hsd hi2 hall hX hI hd K hK
          have e3 : X.tmps.getD 3 undef = .bool desc := hX 3 (Nat.le_of_ble_eq_true rfl)
          have HI := Lib.hid hI
          refine H3.step_run (.inl rfl) ?_
          clear hX hd hI
          go_simp
          exact hK _ _ HI.out (Below.refl _ _) (GV.of (by decide) (fun u h => by cases h; rfl))
        · intro listed ys X W1 hsz hsd hi2 hall hX hI hd K hK
          have e4 : X.tmps.getD 4 undef = .int .i64 n := hX 4 (Nat.le_of_ble_eq_true rfl)
          have HI := Lib.hid hI
          refine H3.step_run (.inl rfl) ?_
          clear hX hd hI
          go_simp
          exact hK _ _ HI.out (Below.refl _ _) (GV.of (by decide) (fun u h => by cases h; rfl))
        · intro listed ys X W1 hsz hsd hi2 hall hX hI hd K hK
          have e76 : X.tmps.getD 76 undef = .pointer none := (hX 76 (Nat.le_of_ble_eq_true rfl)).trans (GV.val (hd ⟨0, .data⟩ (by simp) rfl) (by decide) rfl)
          have e78 : X.tmps.getD 78 undef = dv := (hX 78 (Nat.le_of_ble_eq_true rfl)).trans (GV.val (hd ⟨2, .data⟩ (by simp) rfl) (by decide) rfl)
          have e79 : X.tmps.getD 79 undef = .agg #[.bool has, .int .i64 m.tm, .slice ma m.labs.length mc, .string m.line] := (hX 79 (Nat.le_of_ble_eq_true rfl)).trans (GV.val (hd ⟨3, .data⟩ (by simp) rfl) (by decide) rfl)
          have e80 : X.tmps.getD 80 undef = .bool desc := (hX 80 (Nat.le_of_ble_eq_true rfl)).trans (GV.val (hd ⟨4, .data⟩ (by simp) rfl) (by decide) rfl)
          have e81 : X.tmps.getD 81 undef = .int .i64 n := (hX 81 (Nat.le_of_ble_eq_true rfl)).trans (GV.val (hd ⟨5, .data⟩ (by simp) rfl) (by decide) rfl)
          have HI := Lib.hid hI
          have HC := Lib.hid (HASN.out W1 hI)
          have hBW := HI.out.size
          refine H3.step_run (.inl rfl) ?_
          clear hX hd hI
          go_simp
          refine ⟨trivial, (callsIn_wide.2 HC.out).mono ?_⟩
          rintro x w7 ⟨u, rfl, hent, hb⟩
          exact hK _ _ (HI.out.trans (hb.mono HI.out.size)) hb (GV.ofsp (by decide) (show AZ _ _ _ _ 6 _ w7 from ⟨u, rfl, hent.mono (fun b hb2 _ => Nat.le_trans hBW hb2) (fun _ _ _ => trivial)⟩))
        · intro listed ys X W1 hsz hsd hi2 hall hX hI hd K hK
          have e82 : X.tmps.getD 82 undef = ys 6 := hX 82 (Nat.le_of_ble_eq_true rfl)
          have hv6 := GV.spv (hd ⟨6, .data⟩ (by simp) rfl) (by decide)
          have HI := Lib.hid hI
          have HV := Lib.hid hv6
          refine H3.step_run (.inl rfl) ?_
          clear hX hd hI hv6
          go_simp
          exact hK _ _ HI.out (Below.refl _ _) (GV.ofsp (by decide) (show AZ _ _ _ _ 7 _ W1 from HV.out))
        · intro listed ys X W1 hsz hsd hi2 hall hX hI hd K hK
          have e75 : X.tmps.getD 75 undef = ys 7 := hX 75 (Nat.le_of_ble_eq_true rfl)
          have hv7 := GV.spv (hd ⟨7, .data⟩ (by simp) rfl) (by decide)
          have HI := Lib.hid hI
          obtain ⟨u, hv, hent⟩ : AT (w10.drew.heap.size) ([]) false 2 (ys 7) W1 := hv7
          rw [hv] at e75
          have HV := Lib.hid hent
          refine H3.step_run (.inl rfl) ?_
          clear hX hd hI hent hv
          go_simp
          exact hK _ _ HI.out (Below.refl _ _) (GV.ofsp (by decide) (show AZ _ _ _ _ 8 _ W1 from HV.out))
        · intro listed ys X W1 hsz hsd hi2 hall hX hI hd K hK
          have e75 : X.tmps.getD 75 undef = ys 7 := hX 75 (Nat.le_of_ble_eq_true rfl)
          have hv7 := GV.spv (hd ⟨7, .data⟩ (by simp) rfl) (by decide)
          have HI := Lib.hid hI
          obtain ⟨u, hv, hent⟩ : AT (w10.drew.heap.size) ([]) false 2 (ys 7) W1 := hv7
          rw [hv] at e75
          have HV := Lib.hid hent
          refine H3.step_run (.inl rfl) ?_
          clear hX hd hI hent hv
          go_simp
          exact hK _ _ HI.out (Below.refl _ _) (GV.of (by decide) (fun u h => by cases h; rfl))
        · intro listed ys X W1 hsz hsd hi2 hall hX hI hd K hK
          have e75 : X.tmps.getD 75 undef = ys 7 := hX 75 (Nat.le_of_ble_eq_true rfl)
          have hv7 := GV.spv (hd ⟨7, .data⟩ (by simp) rfl) (by decide)
          have HI := Lib.hid hI
          obtain ⟨u, hv, hent⟩ : AT (w10.drew.heap.size) ([]) false 2 (ys 7) W1 := hv7
          rw [hv] at e75
          have HV := Lib.hid hent
          refine H3.step_run (.inl rfl) ?_
          clear hX hd hI hent hv
          go_simp
          exact hK _ _ HI.out (Below.refl _ _) (GV.of (by decide) (fun u h => by cases h; rfl))
        · intro listed ys X W1 hsz hsd hi2 hall hX hI hd K hK
          have e83 : X.tmps.getD 83 undef = ys 8 := hX 83 (Nat.le_of_ble_eq_true rfl)
          have hv8 := GV.spv (hd ⟨8, .data⟩ (by simp) rfl) (by decide)
          have HI := Lib.hid hI
          have HV := Lib.hid hv8
          refine H3.step_run (.inl rfl) ?_
          clear hX hd hI hv8
          go_simp
          exact hK _ _ HI.out (Below.refl _ _) (GV.ofsp (by decide) (show AZ _ _ _ _ 11 _ W1 from HV.out))
        · intro listed ys X W1 hsz hsd hi2 hall hX hI hd K hK
          have e84 : X.tmps.getD 84 undef = .bool false := (hX 84 (Nat.le_of_ble_eq_true rfl)).trans (GV.val (hd ⟨9, .data⟩ (by simp) rfl) (by decide) rfl)
          have HI := Lib.hid hI
          refine H3.step_run (.inl rfl) ?_
          clear hX hd hI
          go_simp
          exact hK _ _ HI.out (Below.refl _ _) (GV.of (by decide) (fun u h => by cases h; rfl))
        · intro listed ys X W1 hsz hsd hi2 hall hX hI hd K hK
          have e85 : X.tmps.getD 85 undef = .int .i64 2 := (hX 85 (Nat.le_of_ble_eq_true rfl)).trans (GV.val (hd ⟨10, .data⟩ (by simp) rfl) (by decide) rfl)
          have HI := Lib.hid hI
          refine H3.step_run (.inl rfl) ?_
          clear hX hd hI
          go_simp
          exact hK _ _ HI.out (Below.refl _ _) (GV.of (by decide) (fun u h => by cases h; rfl))
      case fin =>
        intro listed ys w11 hall hI hV
        have hent : EntsAt (fun b => w10.drew.heap.size ≤ b) (fun _ => True) w11 (ys 11) [] := GV.spv (hV 11 (by decide) rfl) (by decide)
        have e12 : ys 12 = .bool false := GV.val (hV 12 (by decide) rfl) (by decide) rfl
        have e13 : ys 13 = .int .i64 2 := GV.val (hV 13 (by decide) rfl) (by decide) rfl
        obtain ⟨na, nc, hnv, _⟩ := hent
        have HB11 := Lib.hid (below_mid HB6.out (below_mid HB10.out (below_mid (lay_below ((Keep.refl (fun _ => False) w10).drew)) hI)))
        have HLN := Lib.hid (len_nil w11)
        clear hI hV hall HKG HMG HASN
        simp only [H3.putsFrom]
        simp only [hnv, e12, e13, Act.put, List.setIfInBounds_toArray, List.set_cons_succ, List.set_cons_zero]
        clear hnv e12 e13
        simp only [List.length_nil]
        go_wp2_with (go_at_call 14; refine HLN.out.mono ?_; rintro x w12 ⟨rfl, rfl⟩)
        go_ret
        exact ⟨rfl, HB11.out⟩

end Go.Proofs.YtdjddlebjbngfaaGreatDoor.E4
