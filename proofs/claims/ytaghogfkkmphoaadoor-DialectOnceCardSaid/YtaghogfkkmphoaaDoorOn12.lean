/-
  DialectOnce.
-/
import Derived.Test.YtaghogfkkmphoaaDoorGd12
import Derived.Test.YtaghogfkkmphoaaDoorMn12
import Derived.Test.YtaghogfkkmphoaaDoorBd12
import Derived.Test.YtaghogfkkmphoaaDoorGv12
import Derived.Test.YtaghogfkkmphoaaDoorPt12
import Derived.Lib.QuietBelow
namespace Go.Proofs.YtaghogfkkmphoaaDoor.E4
open Go.RowKit Go
open Go.Sort (grow)
attribute [local irreducible] wpQuiet

set_option maxHeartbeats 8000000 in
set_option maxRecDepth 100000 in
theorem once_walk (a b : Ask) (av mv bv nv : Value) (w : World) (h1 : TextsAt w av a.all) (h2 : MsAt w mv a.mat) (h3 : TextsAt w bv b.all) (h4 : MsAt w nv b.mat) (hT : Lib.Utf8Tabs 0 1 w) :
    Calls Tryd.prog 6 #[.agg (a.cells av mv), .agg (b.cells bv nv)] w fun x w' => x = .returned (.bool true) ∧ Below w.heap.size w w' := by
  have hmx : Tryd.prog.follows .mixedOrders = true := by kernel_rfl
  obtain ⟨xa, xc, rfl, hz1, hz2⟩ := id h1
  obtain ⟨ma, mc, rfl, hz3, hz4⟩ := id h2
  obtain ⟨ya, yc, rfl, hz5, hz6⟩ := id h3
  obtain ⟨na, nc, rfl, hz7, hz8⟩ := id h4
  clear hz1 hz2 hz3 hz4 hz5 hz6 hz7 hz8
  obtain ⟨w1, hw1⟩ : ∃ w1, w1 = w.alloc (.cells #[.int .i64 a.kd, .int .i64 a.src, .int .i64 a.til, .slice xa a.all.length xc, .slice ma a.mat.length mc] 25) := ⟨_, rfl⟩
  have hs1 : w1.heap.size = w.heap.size + 1 := by rw [hw1]; simp
  have hb1 : Below w.heap.size w w1 := by rw [hw1]; exact (Below.refl _ w).alloc (Nat.le_refl _) _
  have ha1 : Bl w1 w.heap.size 25 #[.int .i64 a.kd, .int .i64 a.src, .int .i64 a.til, .slice xa a.all.length xc, .slice ma a.mat.length mc] := by rw [hw1]; exact Bl.new w 25 _
  obtain ⟨w2, hw2⟩ : ∃ w2, w2 = w1.alloc (.cells #[.int .i64 b.kd, .int .i64 b.src, .int .i64 b.til, .slice ya b.all.length yc, .slice na b.mat.length nc] 25) := ⟨_, rfl⟩
  have hb2 : Below w1.heap.size w1 w2 := by rw [hw2]; exact (Below.refl _ w1).alloc (Nat.le_refl _) _
  have he2 : Bl w2 (w.heap.size + 1) 25 #[.int .i64 b.kd, .int .i64 b.src, .int .i64 b.til, .slice ya b.all.length yc, .slice na b.mat.length nc] := by rw [hw2, ← hs1]; exact Bl.new w1 25 _
  have hbb := below_mid12 hb1 hb2
  have HA := Lib.hid (ha1.below hb2)
  have HB := Lib.hid he2
  have H1 := Lib.hid (h1.below hbb)
  have H2 := Lib.hid (MsAt.below12 h2 hbb)
  have H3A := Lib.hid (h3.below hbb)
  have H4M := Lib.hid (MsAt.below12 h4 hbb)
  have HT := Lib.hid (Utf8Tabs_below hT hbb)
  have HBB := Lib.hid hbb
  rw [hw1] at hw2
  have HW2 := Lib.hid hw2.symm
  have HAL := Lib.hid (alive12 w2)
  clear hw1 hw2 hs1 hb1 hb2 ha1 he2 hbb h1 h2 h3 h4 hT
  simp only [Ask.cells]
  go_enter Tryd.func6, Tryd.ntmps6
  go_upto_region 1 with fail
  rw [HW2.out]
  clear HW2
  go_wp2_with fail
  refine HAL.out.mono ?_
  rintro x w4 ⟨rfl, hb⟩
  have HBB := Lib.hid (below_mid12 HBB.out hb)
  have HA := Lib.hid (HA.out.below hb)
  have HB := Lib.hid (HB.out.below hb)
  have H1 := Lib.hid (H1.out.below hb)
  have H2 := Lib.hid (MsAt.below12 H2.out hb)
  have H3A := Lib.hid (H3A.out.below hb)
  have H4M := Lib.hid (MsAt.below12 H4M.out hb)
  have HT := Lib.hid (Utf8Tabs_below HT.out hb)
  clear hb HAL
  have c0 := HA.out.cell 0
  have c1 := HA.out.cell 1
  have c2 := HA.out.cell 2
  have c3 := HA.out.cell 3
  have c4 := HA.out.cell 4
  simp only [List.getElem?_toArray, List.getElem?_cons_succ, List.getElem?_cons_zero] at c0 c1 c2 c3 c4
  have d0 := HB.out.cell 0
  have d1 := HB.out.cell 1
  have d2 := HB.out.cell 2
  have d3 := HB.out.cell 3
  have d4 := HB.out.cell 4
  simp only [List.getElem?_toArray, List.getElem?_cons_succ, List.getElem?_cons_zero] at d0 d1 d2 d3 d4
  have HGR := Lib.hid (askGreat_any a _ w4 ⟨_, _, rfl, H1.out, H2.out⟩)
  simp only [Ask.cells] at HGR
  cases hg : a.great with
  | true =>
    rw [hg] at HGR
    clear hg
    go_wp2_with (go_at_call 8; refine HGR.out.mono ?_; rintro x wz ⟨rfl, hbz⟩)
    go_ret
    exact ⟨rfl, below_mid12 HBB.out hbz⟩
  | false =>
  rw [hg] at HGR
  have HNa := Lib.hid (Ask.small_of hg)
  clear hg
  go_wp2_with fail
  refine HGR.out.mono ?_
  rintro x w5 ⟨rfl, hb⟩
  have HBB := Lib.hid (below_mid12 HBB.out hb)
  have HA := Lib.hid (HA.out.below hb)
  have HB := Lib.hid (HB.out.below hb)
  have H1 := Lib.hid (H1.out.below hb)
  have H2 := Lib.hid (MsAt.below12 H2.out hb)
  have H3A := Lib.hid (H3A.out.below hb)
  have H4M := Lib.hid (MsAt.below12 H4M.out hb)
  have HT := Lib.hid (Utf8Tabs_below HT.out hb)
  clear hb HGR c0 c1 c2 c3 c4 d0 d1 d2 d3 d4
  have c0 := HA.out.cell 0
  have c1 := HA.out.cell 1
  have c2 := HA.out.cell 2
  have c3 := HA.out.cell 3
  have c4 := HA.out.cell 4
  simp only [List.getElem?_toArray, List.getElem?_cons_succ, List.getElem?_cons_zero] at c0 c1 c2 c3 c4
  have d0 := HB.out.cell 0
  have d1 := HB.out.cell 1
  have d2 := HB.out.cell 2
  have d3 := HB.out.cell 3
  have d4 := HB.out.cell 4
  simp only [List.getElem?_toArray, List.getElem?_cons_succ, List.getElem?_cons_zero] at d0 d1 d2 d3 d4
  have HGR := Lib.hid (askGreat_any b _ w5 ⟨_, _, rfl, H3A.out, H4M.out⟩)
  simp only [Ask.cells] at HGR
  cases hg : b.great with
  | true =>
    rw [hg] at HGR
    clear hg
    go_wp2_with (go_at_call 8; refine HGR.out.mono ?_; rintro x wz ⟨rfl, hbz⟩)
    go_ret
    exact ⟨rfl, below_mid12 HBB.out hbz⟩
  | false =>
  rw [hg] at HGR
  have HNb := Lib.hid (Ask.small_of hg)
  clear hg
  go_wp2_with fail
  refine HGR.out.mono ?_
  rintro x w6 ⟨rfl, hb⟩
  have HBB := Lib.hid (below_mid12 HBB.out hb)
  have HA := Lib.hid (HA.out.below hb)
  have HB := Lib.hid (HB.out.below hb)
  have H1 := Lib.hid (H1.out.below hb)
  have H2 := Lib.hid (MsAt.below12 H2.out hb)
  have H3A := Lib.hid (H3A.out.below hb)
  have H4M := Lib.hid (MsAt.below12 H4M.out hb)
  have HT := Lib.hid (Utf8Tabs_below HT.out hb)
  clear hb HGR c0 c1 c2 c3 c4 d0 d1 d2 d3 d4
  have c0 := HA.out.cell 0
  have c1 := HA.out.cell 1
  have c2 := HA.out.cell 2
  have c3 := HA.out.cell 3
  have c4 := HA.out.cell 4
  simp only [List.getElem?_toArray, List.getElem?_cons_succ, List.getElem?_cons_zero] at c0 c1 c2 c3 c4
  have d0 := HB.out.cell 0
  have d1 := HB.out.cell 1
  have d2 := HB.out.cell 2
  have d3 := HB.out.cell 3
  have d4 := HB.out.cell 4
  simp only [List.getElem?_toArray, List.getElem?_cons_succ, List.getElem?_cons_zero] at d0 d1 d2 d3 d4
  have HGR := Lib.hid (askGood_any (isT := isTx) (Tb := fun W => Lib.Utf8Tabs 0 1 W) (fun W W' hb hT => Utf8Tabs_below hT hb) (fun s W hs hT => isText_any s (by omega) W hT) a _ w6 ⟨_, _, rfl, H1.out, H2.out⟩ HT.out)
  simp only [Ask.cells] at HGR
  cases hg : a.good isTx with
  | false =>
    rw [hg] at HGR
    clear hg
    go_wp2_with (go_at_call 15; refine HGR.out.mono ?_; rintro x wz ⟨rfl, hbz⟩)
    go_ret
    exact ⟨rfl, below_mid12 HBB.out hbz⟩
  | true =>
  rw [hg] at HGR
  have HOa := Lib.hid (Ask.ok_of hg)
  clear hg
  go_wp2_with fail
  refine HGR.out.mono ?_
  rintro x w7 ⟨rfl, hb⟩
  have HBB := Lib.hid (below_mid12 HBB.out hb)
  have HA := Lib.hid (HA.out.below hb)
  have HB := Lib.hid (HB.out.below hb)
  have H1 := Lib.hid (H1.out.below hb)
  have H2 := Lib.hid (MsAt.below12 H2.out hb)
  have H3A := Lib.hid (H3A.out.below hb)
  have H4M := Lib.hid (MsAt.below12 H4M.out hb)
  have HT := Lib.hid (Utf8Tabs_below HT.out hb)
  clear hb HGR c0 c1 c2 c3 c4 d0 d1 d2 d3 d4
  have c0 := HA.out.cell 0
  have c1 := HA.out.cell 1
  have c2 := HA.out.cell 2
  have c3 := HA.out.cell 3
  have c4 := HA.out.cell 4
  simp only [List.getElem?_toArray, List.getElem?_cons_succ, List.getElem?_cons_zero] at c0 c1 c2 c3 c4
  have d0 := HB.out.cell 0
  have d1 := HB.out.cell 1
  have d2 := HB.out.cell 2
  have d3 := HB.out.cell 3
  have d4 := HB.out.cell 4
  simp only [List.getElem?_toArray, List.getElem?_cons_succ, List.getElem?_cons_zero] at d0 d1 d2 d3 d4
  have HGR := Lib.hid (askGood_any (isT := isTx) (Tb := fun W => Lib.Utf8Tabs 0 1 W) (fun W W' hb hT => Utf8Tabs_below hT hb) (fun s W hs hT => isText_any s (by omega) W hT) b _ w7 ⟨_, _, rfl, H3A.out, H4M.out⟩ HT.out)
  simp only [Ask.cells] at HGR
  cases hg : b.good isTx with
  | false =>
    rw [hg] at HGR
    clear hg
    go_wp2_with (go_at_call 15; refine HGR.out.mono ?_; rintro x wz ⟨rfl, hbz⟩)
    go_ret
    exact ⟨rfl, below_mid12 HBB.out hbz⟩
  | true =>
  rw [hg] at HGR
  have HOb := Lib.hid (Ask.ok_of hg)
  clear hg
  go_wp2_with fail
  refine HGR.out.mono ?_
  rintro x w8 ⟨rfl, hb⟩
  have HBB := Lib.hid (below_mid12 HBB.out hb)
  have HA := Lib.hid (HA.out.below hb)
  have HB := Lib.hid (HB.out.below hb)
  have H1 := Lib.hid (H1.out.below hb)
  have H2 := Lib.hid (MsAt.below12 H2.out hb)
  have H3A := Lib.hid (H3A.out.below hb)
  have H4M := Lib.hid (MsAt.below12 H4M.out hb)
  have HT := Lib.hid (Utf8Tabs_below HT.out hb)
  clear hb HGR c0 c1 c2 c3 c4 d0 d1 d2 d3 d4
  have c0 := HA.out.cell 0
  have c1 := HA.out.cell 1
  have c2 := HA.out.cell 2
  have c3 := HA.out.cell 3
  have c4 := HA.out.cell 4
  simp only [List.getElem?_toArray, List.getElem?_cons_succ, List.getElem?_cons_zero] at c0 c1 c2 c3 c4
  have d0 := HB.out.cell 0
  have d1 := HB.out.cell 1
  have d2 := HB.out.cell 2
  have d3 := HB.out.cell 3
  have d4 := HB.out.cell 4
  simp only [List.getElem?_toArray, List.getElem?_cons_succ, List.getElem?_cons_zero] at d0 d1 d2 d3 d4
  go_upto_region 5 with fail
  clear c0 c1 c2 c3 c4 d0 d1 d2 d3 d4
  obtain ⟨dva, hdva⟩ : ∃ v, v = a.dyn (.slice xa a.all.length xc) (.slice ma a.mat.length mc) := ⟨_, rfl⟩
  obtain ⟨dvb, hdvb⟩ : ∃ v, v = b.dyn (.slice ya b.all.length yc) (.slice na b.mat.length nc) := ⟨_, rfl⟩
  have HDA := Lib.hid hdva
  have HDB := Lib.hid hdvb
  have HAA := Lib.hid (fun W => anyOf_any a (.slice xa a.all.length xc) (.slice ma a.mat.length mc) W ⟨_, _, _, rfl⟩ ⟨_, _, _, rfl⟩)
  have HAB := Lib.hid (fun W => anyOf_any b (.slice ya b.all.length yc) (.slice na b.mat.length nc) W ⟨_, _, _, rfl⟩ ⟨_, _, _, rfl⟩)
  rw [← hdva] at HAA
  rw [← hdvb] at HAB
  have hpa : ∀ W, Below w8.heap.size w8 W → Calls Tryd.prog 17 #[.slice none 0 0, a.dyn (.slice xa a.all.length xc) (.slice ma a.mat.length mc)] W fun e w' => ∃ u, e = .returned u ∧ Bs 0 w' u a.bytes ∧ Below W.heap.size W w' := fun W hW => put_nil a W (H1.out.below hW) (MsAt.below12 H2.out hW) HOa.out
  have hpb : ∀ W, Below w8.heap.size w8 W → Calls Tryd.prog 17 #[.slice none 0 0, b.dyn (.slice ya b.all.length yc) (.slice na b.mat.length nc)] W fun e w' => ∃ u, e = .returned u ∧ Bs 0 w' u b.bytes ∧ Below W.heap.size W w' := fun W hW => put_nil b W (H3A.out.below hW) (MsAt.below12 H4M.out hW) HOb.out
  rw [← hdva] at hpa
  rw [← hdvb] at hpb
  have HPA := Lib.hid hpa
  have HPB := Lib.hid hpb
  clear hpa hpb hdva hdvb
  simp only [Ask.cells] at HAA HAB
  obtain ⟨sa, hsa⟩ : ∃ s, s = bs a.bytes := ⟨_, rfl⟩
  obtain ⟨sb, hsb⟩ : ∃ s, s = bs b.bytes := ⟨_, rfl⟩
  have HSA : Hid (sa.data.toList = a.bytes) := Lib.hid (by rw [hsa]; exact bs_data _)
  have HSB : Hid (sb.data.toList = b.bytes) := Lib.hid (by rw [hsb]; exact bs_data _)
  have HEA := Lib.hid hsa
  have HEB := Lib.hid hsb
  clear hsa hsb
  have HDR : Hid (Below w8.heap.size w8 w8.drew) := Lib.hid ⟨rfl, rfl, rfl, Nat.le_refl _, fun _ _ => rfl⟩
  refine (wpIn_wide (n := 9)).1 ?_
  refine H3.wpIn_region_flow (fun _ => trivial) (by kernel_rfl) (fun _ _ w' => Below w8.heap.size w8 w') (fun _ _ u1 u2 => Below u1.heap.size u1 u2) (GV [some (.agg #[.int .i64 a.kd, .int .i64 a.src, .int .i64 a.til, .slice xa a.all.length xc, .slice ma a.mat.length mc]), some (dva), none, some (.string sa), some (.agg #[.int .i64 b.kd, .int .i64 b.src, .int .i64 b.til, .slice ya b.all.length yc, .slice na b.mat.length nc]), some (dvb), none, some (.string sb), some (.string sa), some (.string sb)] [2, 6] (fun j v W => Bs 0 W v (putB a.bytes b.bytes j))) (fun j => j == 8 || j == 9) (by kernel_rfl) (by kernel_rfl) (fun i j ys v w w' hij _ _ hV hR => GV.keep (fun _ _ _ _ h hb => h.below (Nat.le_refl _) hb) hij hV hR) HDR.out ?step ?fin
  case step =>
    refine ⟨?_, ?_, ?_, ?_, ?_, ?_, ?_, ?_, ?_, ?_, trivial⟩
    · intro listed ys X W hsz hsd hi2 hall hX hI hd K hK
      have e2 : X.tmps.getD 2 undef = .pointer (some ⟨w.heap.size, 0, none⟩) := hX 2 (Nat.le_of_ble_eq_true rfl)
      have c0 := Bl.cell (HA.out.below hI) 0
      have c1 := Bl.cell (HA.out.below hI) 1
      have c2 := Bl.cell (HA.out.below hI) 2
      have c3 := Bl.cell (HA.out.below hI) 3
      have c4 := Bl.cell (HA.out.below hI) 4
      simp only [List.getElem?_toArray, List.getElem?_cons_succ, List.getElem?_cons_zero] at c0 c1 c2 c3 c4
      have HI := Lib.hid hI
      refine H3.step_run (.inl rfl) ?_
      clear hX hd hI
      go_simp
      exact hK _ _ HI.out (Below.refl _ _) (GV.of (by decide) (fun u h => by cases h; rfl))
    · intro listed ys X W hsz hsd hi2 hall hX hI hd K hK
      have e25 : X.tmps.getD 25 undef = .agg #[.int .i64 a.kd, .int .i64 a.src, .int .i64 a.til, .slice xa a.all.length xc, .slice ma a.mat.length mc] := (hX 25 (Nat.le_of_ble_eq_true rfl)).trans (GV.val (hd ⟨0, .data⟩ (by simp) rfl) (by decide) rfl)
      have HI := Lib.hid hI
      refine H3.step_run (.inl rfl) ?_
      clear hX hd hI
      go_simp
      refine ⟨trivial, (callsIn_wide.2 (HAA.out W)).mono ?_⟩
      rintro e u2 ⟨rfl, hb⟩
      exact hK _ _ (HI.out.trans (hb.mono HI.out.size)) hb (GV.of (by decide) (fun u h => by cases h; rfl))
    · intro listed ys X W hsz hsd hi2 hall hX hI hd K hK
      have e26 : X.tmps.getD 26 undef = dva := (hX 26 (Nat.le_of_ble_eq_true rfl)).trans (GV.val (hd ⟨1, .data⟩ (by simp) rfl) (by decide) rfl)
      have HI := Lib.hid hI
      refine H3.step_run (.inl rfl) ?_
      clear hX hd hI
      go_simp
      refine ⟨trivial, (callsIn_wide.2 (HPA.out W HI.out)).mono ?_⟩
      rintro e u2 ⟨u, rfl, hu, hb⟩
      exact hK _ _ (HI.out.trans (hb.mono HI.out.size)) hb (GV.ofsp (by decide) hu)
    · intro listed ys X W hsz hsd hi2 hall hX hI hd K hK
      have e27 : X.tmps.getD 27 undef = ys 2 := hX 27 (Nat.le_of_ble_eq_true rfl)
      have HY2 := Lib.hid (show Bs 0 W (ys 2) a.bytes from GV.spv (hd ⟨2, .data⟩ (by simp) rfl) (by decide))
      have HI := Lib.hid hI
      have hcv := bs_string_of HY2.out sa HSA.out
      refine H3.step_run (.inl rfl) ?_
      clear hX hd hI
      go_simp
      exact hK _ _ HI.out (Below.refl _ _) (GV.of (by decide) (fun u h => by cases h; rfl))
    · intro listed ys X W hsz hsd hi2 hall hX hI hd K hK
      have e3 : X.tmps.getD 3 undef = .pointer (some ⟨w.heap.size + 1, 0, none⟩) := hX 3 (Nat.le_of_ble_eq_true rfl)
      have c0 := Bl.cell (HB.out.below hI) 0
      have c1 := Bl.cell (HB.out.below hI) 1
      have c2 := Bl.cell (HB.out.below hI) 2
      have c3 := Bl.cell (HB.out.below hI) 3
      have c4 := Bl.cell (HB.out.below hI) 4
      simp only [List.getElem?_toArray, List.getElem?_cons_succ, List.getElem?_cons_zero] at c0 c1 c2 c3 c4
      have HI := Lib.hid hI
      refine H3.step_run (.inl rfl) ?_
      clear hX hd hI
      go_simp
      exact hK _ _ HI.out (Below.refl _ _) (GV.of (by decide) (fun u h => by cases h; rfl))
    · intro listed ys X W hsz hsd hi2 hall hX hI hd K hK
      have e29 : X.tmps.getD 29 undef = .agg #[.int .i64 b.kd, .int .i64 b.src, .int .i64 b.til, .slice ya b.all.length yc, .slice na b.mat.length nc] := (hX 29 (Nat.le_of_ble_eq_true rfl)).trans (GV.val (hd ⟨4, .data⟩ (by simp) rfl) (by decide) rfl)
      have HI := Lib.hid hI
      refine H3.step_run (.inl rfl) ?_
      clear hX hd hI
      go_simp
      refine ⟨trivial, (callsIn_wide.2 (HAB.out W)).mono ?_⟩
      rintro e u2 ⟨rfl, hb⟩
      exact hK _ _ (HI.out.trans (hb.mono HI.out.size)) hb (GV.of (by decide) (fun u h => by cases h; rfl))
    · intro listed ys X W hsz hsd hi2 hall hX hI hd K hK
      have e30 : X.tmps.getD 30 undef = dvb := (hX 30 (Nat.le_of_ble_eq_true rfl)).trans (GV.val (hd ⟨5, .data⟩ (by simp) rfl) (by decide) rfl)
      have HI := Lib.hid hI
      refine H3.step_run (.inl rfl) ?_
      clear hX hd hI
      go_simp
      refine ⟨trivial, (callsIn_wide.2 (HPB.out W HI.out)).mono ?_⟩
      rintro e u2 ⟨u, rfl, hu, hb⟩
      exact hK _ _ (HI.out.trans (hb.mono HI.out.size)) hb (GV.ofsp (by decide) hu)
    · intro listed ys X W hsz hsd hi2 hall hX hI hd K hK
      have e31 : X.tmps.getD 31 undef = ys 6 := hX 31 (Nat.le_of_ble_eq_true rfl)
      have HY6 := Lib.hid (show Bs 0 W (ys 6) b.bytes from GV.spv (hd ⟨6, .data⟩ (by simp) rfl) (by decide))
      have HI := Lib.hid hI
      have hcv := bs_string_of HY6.out sb HSB.out
      refine H3.step_run (.inl rfl) ?_
      clear hX hd hI
      go_simp
      exact hK _ _ HI.out (Below.refl _ _) (GV.of (by decide) (fun u h => by cases h; rfl))
    · intro listed ys X W hsz hsd hi2 hall hX hI hd K hK
      have e28 : X.tmps.getD 28 undef = .string sa := (hX 28 (Nat.le_of_ble_eq_true rfl)).trans (GV.val (hd ⟨3, .data⟩ (by simp) rfl) (by decide) rfl)
      have HI := Lib.hid hI
      refine H3.step_run (.inl rfl) ?_
      clear hX hd hI
      go_simp
      exact hK _ _ HI.out (Below.refl _ _) (GV.of (by decide) (fun u h => by cases h; rfl))
    · intro listed ys X W hsz hsd hi2 hall hX hI hd K hK
      have e32 : X.tmps.getD 32 undef = .string sb := (hX 32 (Nat.le_of_ble_eq_true rfl)).trans (GV.val (hd ⟨7, .data⟩ (by simp) rfl) (by decide) rfl)
      have HI := Lib.hid hI
      refine H3.step_run (.inl rfl) ?_
      clear hX hd hI
      go_simp
      exact hK _ _ HI.out (Below.refl _ _) (GV.of (by decide) (fun u h => by cases h; rfl))
  case fin =>
    intro listed ys W hall hI hV
    have g1 := GV.val (hV 8 (by decide) rfl) (by decide) rfl
    have g2 := GV.val (hV 9 (by decide) rfl) (by decide) rfl
    have hb := hI
    have HBB := Lib.hid (below_mid12 HBB.out hb)
    have HA := Lib.hid (HA.out.below hb)
    have HB := Lib.hid (HB.out.below hb)
    have H1 := Lib.hid (H1.out.below hb)
    have H2 := Lib.hid (MsAt.below12 H2.out hb)
    have H3A := Lib.hid (H3A.out.below hb)
    have H4M := Lib.hid (MsAt.below12 H4M.out hb)
    have HT := Lib.hid (Utf8Tabs_below HT.out hb)
    clear hI hV hall hb
    simp only [H3.putsFrom]
    simp only [g1, g2, Act.put, List.setIfInBounds_toArray, List.set_cons_succ, List.set_cons_zero]
    clear g1 g2 HPA HPB HDR HAA HAB
    have KA := fun d os => Calls.regrown_of (askBytes_any a _ (grow (redrawn W d) os) ⟨_, _, rfl, H1.out.below (below_regrown W d os), MsAt.below12 H2.out (below_regrown W d os)⟩ HOa.out)
    have KB := fun d os => Calls.regrown_of (askBytes_any b _ (grow (redrawn W d) os) ⟨_, _, rfl, H3A.out.below (below_regrown W d os), MsAt.below12 H4M.out (below_regrown W d os)⟩ HOb.out)
    have KC' := fun d os => Calls.regrown_of (anyOf_any a (.slice xa a.all.length xc) (.slice ma a.mat.length mc) (grow (redrawn W d) os) ⟨_, _, _, rfl⟩ ⟨_, _, _, rfl⟩)
    have KD := fun d os => Calls.regrown_of (anyOf_any b (.slice ya b.all.length yc) (.slice na b.mat.length nc) (grow (redrawn W d) os) ⟨_, _, _, rfl⟩ ⟨_, _, _, rfl⟩)
    have KE := fun d os => Calls.regrown_of (ofAny_any a xa ma a.all.length xc a.mat.length mc (grow (redrawn W d) os))
    have KF := fun d os => Calls.regrown_of (ofAny_any b ya na b.all.length yc b.mat.length nc (grow (redrawn W d) os))
    obtain ⟨pv, hpv⟩ : ∃ v, v = a.plain.cells (a.pav (.slice xa a.all.length xc)) (a.pmv (.slice ma a.mat.length mc)) := ⟨_, rfl⟩
    obtain ⟨qv, hqv⟩ : ∃ v, v = b.plain.cells (b.pav (.slice ya b.all.length yc)) (b.pmv (.slice na b.mat.length nc)) := ⟨_, rfl⟩
    have HPV := Lib.hid hpv
    have HPW := Lib.hid hqv
    rw [← HEA.out] at KA
    rw [← HEB.out] at KB
    rw [← HDA.out] at KC' KE
    rw [← HDB.out] at KD KF
    rw [← hpv] at KE
    rw [← hqv] at KF
    clear hpv hqv
    simp only [Ask.cells] at KA KB KC' KD
    have c0' := HA.out.cell 0
    have c1' := HA.out.cell 1
    have c2' := HA.out.cell 2
    have c3' := HA.out.cell 3
    have c4' := HA.out.cell 4
    simp only [List.getElem?_toArray, List.getElem?_cons_succ, List.getElem?_cons_zero] at c0' c1' c2' c3' c4'
    have c0 := fun d os => cell_regrown c0' d os
    have c1 := fun d os => cell_regrown c1' d os
    have c2 := fun d os => cell_regrown c2' d os
    have c3 := fun d os => cell_regrown c3' d os
    have c4 := fun d os => cell_regrown c4' d os
    clear c0' c1' c2' c3' c4'
    have d0' := HB.out.cell 0
    have d1' := HB.out.cell 1
    have d2' := HB.out.cell 2
    have d3' := HB.out.cell 3
    have d4' := HB.out.cell 4
    simp only [List.getElem?_toArray, List.getElem?_cons_succ, List.getElem?_cons_zero] at d0' d1' d2' d3' d4'
    have d0 := fun d os => cell_regrown d0' d os
    have d1 := fun d os => cell_regrown d1' d os
    have d2 := fun d os => cell_regrown d2' d os
    have d3 := fun d os => cell_regrown d3' d os
    have d4 := fun d os => cell_regrown d4' d os
    clear d0' d1' d2' d3' d4'
    by_cases hp : a.plain = b.plain
    · have hsab : sa = sb := by rw [HEA.out, HEB.out, (bytes_same HOa.out HOb.out).2 hp]
      have KS := fun d os => Calls.regrown_of (sameT a.plain b.plain _ _ _ _ (grow (redrawn W d) os) (plain_texts (H1.out.below (below_regrown W d os))) (plain_mats (MsAt.below12 H2.out (below_regrown W d os))) (plain_texts (H3A.out.below (below_regrown W d os))) (plain_mats (MsAt.below12 H4M.out (below_regrown W d os))) (by rw [Ask.plain_plain, Ask.plain_plain, hp]))
      rw [← HPV.out, ← HPW.out] at KS
      subst hsab
      clear hp
      go_upto_region 6 with fail
      refine wp_region_quiet_below hmx (by kernel_rfl) ?_
      repeat (quiet_step (with_reducible first | exact KA _ _ | exact KB _ _ | exact KC' _ _ | exact KD _ _ | exact KE _ _ | exact KF _ _ | exact KS _ _))
      refine wpQuiet_nil ?_
      intro _ hw'
      obtain ⟨⟨dq, osq⟩, hw'⟩ := hw'
      subst hw'
      have HBZ := Lib.hid (below_mid12 HBB.out (below_regrown W dq osq))
      clear c0 c1 c2 c3 c4 d0 d1 d2 d3 d4 KA KB KC' KD KE KF KS
      go_wp2_with fail
      go_ret
      exact ⟨rfl, HBZ.out⟩
    · have hne : (sa.toList == sb.toList) = false := by
        rw [beq_eq_false_iff_ne]
        intro h
        have h' := toList_inj _ _ h
        rw [HEA.out, HEB.out] at h'
        exact hp ((bytes_same HOa.out HOb.out).1 (bs_inj h'))
      have KS := fun d os => Calls.regrown_of (sameF a.plain b.plain _ _ _ _ (grow (redrawn W d) os) (plain_texts (H1.out.below (below_regrown W d os))) (plain_mats (MsAt.below12 H2.out (below_regrown W d os))) (plain_texts (H3A.out.below (below_regrown W d os))) (plain_mats (MsAt.below12 H4M.out (below_regrown W d os))) (by rw [Ask.plain_plain, Ask.plain_plain]; exact hp))
      rw [← HPV.out, ← HPW.out] at KS
      clear hp
      go_upto_region 6 with fail
      refine wp_region_quiet_below hmx (by kernel_rfl) ?_
      repeat (quiet_step (with_reducible first | exact KA _ _ | exact KB _ _ | exact KC' _ _ | exact KD _ _ | exact KE _ _ | exact KF _ _ | exact KS _ _))
      refine wpQuiet_nil ?_
      intro _ hw'
      obtain ⟨⟨dq, osq⟩, hw'⟩ := hw'
      subst hw'
      have HBZ := Lib.hid (below_mid12 HBB.out (below_regrown W dq osq))
      clear c0 c1 c2 c3 c4 d0 d1 d2 d3 d4 KA KB KC' KD KE KF KS
      go_wp2_with fail
      go_ret
      exact ⟨rfl, HBZ.out⟩

end Go.Proofs.YtaghogfkkmphoaaDoor.E4
