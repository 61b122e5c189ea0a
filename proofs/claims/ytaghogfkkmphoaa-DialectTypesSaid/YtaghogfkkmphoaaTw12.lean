/-
  DialectTypes.
-/
import Derived.Test.YtaghogfkkmphoaaMn12
import Derived.Test.YtaghogfkkmphoaaSf12
import Derived.Test.YtaghogfkkmphoaaBd12
import Derived.Test.YtaghogfkkmphoaaGv12
import Derived.Lib.QuietBelow
namespace Go.Proofs.Ytaghogfkkmphoaa.E4
open Go.RowKit Go
open Go.Sort (grow)
attribute [local irreducible] wpQuiet

/-- What Must leaves, and what is made of it. -/
def shp (src til : Int) (j : Nat) (x : Value) : Value := match j with
  | 18 => .agg #[.int .i64 src, .int .i64 til, x]
  | 19 => .iface 29 (.agg #[.int .i64 src, .int .i64 til, x])
  | _ => .agg #[.int .i64 1, .int .i64 src, .int .i64 til, x, .slice none 0 0]

set_option maxHeartbeats 8000000 in
set_option maxRecDepth 100000 in
theorem types_1 (src til : Int) (all : List (List ByteArray)) (mat : List Mt) (av mv : Value) (w : World) (h1 : TextsAt w av all) (h2 : MsAt w mv mat) :
    Calls Try.prog 3 #[.agg ((⟨1, src, til, all, mat⟩ : Ask).cells av mv)] w fun e w' => e = .returned (.bool true) ∧ Below w.heap.size w w' := by
  have hmx : Try.prog.follows .mixedOrders = true := by kernel_rfl
  obtain ⟨xa, xc, rfl, hz1, hz2⟩ := id h1
  obtain ⟨ma, mc, rfl, hz3, hz4⟩ := id h2
  clear hz1 hz2 hz3 hz4
  obtain ⟨w1, hw1⟩ : ∃ w1, w1 = w.alloc (.cells #[.int .i64 1, .int .i64 src, .int .i64 til, .slice xa all.length xc, .slice ma mat.length mc] 25) := ⟨_, rfl⟩
  have hb1 : Below w.heap.size w w1 := by rw [hw1]; exact (Below.refl _ w).alloc (Nat.le_refl _) _
  have hk1 : Bl w1 w.heap.size 25 #[.int .i64 1, .int .i64 src, .int .i64 til, .slice xa all.length xc, .slice ma mat.length mc] := by rw [hw1]; exact Bl.new w 25 _
  have HW1 := Lib.hid hw1.symm
  have HBB := Lib.hid hb1
  have HK := Lib.hid hk1
  have H1 := Lib.hid (h1.below hb1)
  have H2 := Lib.hid (MsAt.below12 h2 hb1)
  have HAL := Lib.hid (alive12 w1)
  clear hw1 hb1 hk1 h1 h2
  simp only [Ask.cells]
  go_enter Try.func3, Try.ntmps3
  go_upto_region 1 with fail
  rw [HW1.out]
  clear HW1
  go_wp2_with fail
  refine HAL.out.mono ?_
  rintro e w2 ⟨rfl, hb2⟩
  have HBB := Lib.hid (below_mid12 HBB.out hb2)
  have HK := Lib.hid (HK.out.below hb2)
  have H1 := Lib.hid (H1.out.below hb2)
  have H2 := Lib.hid (MsAt.below12 H2.out hb2)
  clear hb2 HAL
  have c0 := HK.out.cell 0
  have c1 := HK.out.cell 1
  have c2 := HK.out.cell 2
  have c3 := HK.out.cell 3
  have c4 := HK.out.cell 4
  simp only [List.getElem?_toArray, List.getElem?_cons_succ, List.getElem?_cons_zero] at c0 c1 c2 c3 c4
  have HGR := Lib.hid (askGreat_any (⟨1, src, til, all, mat⟩ : Ask) _ w2 ⟨_, _, rfl, H1.out, H2.out⟩)
  simp only [Ask.cells] at HGR
  cases hg : (⟨1, src, til, all, mat⟩ : Ask).great with
  | true =>
    rw [hg] at HGR
    clear hg
    go_wp2_with (go_at_call 6; refine HGR.out.mono ?_; rintro e w3 ⟨rfl, hb3⟩)
    go_ret
    exact ⟨rfl, below_mid12 HBB.out hb3⟩
  | false =>
  rw [hg] at HGR
  have HN := Lib.hid (Ask.small_of hg)
  clear hg
  go_wp2_with fail
  refine HGR.out.mono ?_
  rintro e w3 ⟨rfl, hb3⟩
  have HBB := Lib.hid (below_mid12 HBB.out hb3)
  have HK := Lib.hid (HK.out.below hb3)
  have H1 := Lib.hid (H1.out.below hb3)
  have H2 := Lib.hid (MsAt.below12 H2.out hb3)
  clear hb3 HGR c0 c1 c2 c3 c4
  have c0 := HK.out.cell 0
  have c1 := HK.out.cell 1
  have c2 := HK.out.cell 2
  have c3 := HK.out.cell 3
  have c4 := HK.out.cell 4
  simp only [List.getElem?_toArray, List.getElem?_cons_succ, List.getElem?_cons_zero] at c0 c1 c2 c3 c4
  have HAN := Lib.hid (anyOf_any (⟨1, src, til, all, mat⟩ : Ask) (.slice xa all.length xc) (.slice ma mat.length mc) w3 ⟨_, _, _, rfl⟩ ⟨_, _, _, rfl⟩)
  simp only [Ask.cells] at HAN
  obtain ⟨dv, hdv⟩ : ∃ v, v = (⟨1, src, til, all, mat⟩ : Ask).dyn (.slice xa all.length xc) (.slice ma mat.length mc) := ⟨_, rfl⟩
  rw [← hdv] at HAN
  have HDV := Lib.hid hdv
  clear hdv
  go_wp2_with fail
  refine HAN.out.mono ?_
  rintro e w4 ⟨rfl, hb4⟩
  have HBB := Lib.hid (below_mid12 HBB.out hb4)
  have HK := Lib.hid (HK.out.below hb4)
  have H1 := Lib.hid (H1.out.below hb4)
  have H2 := Lib.hid (MsAt.below12 H2.out hb4)
  clear hb4 HAN c0 c1 c2 c3 c4
  have HCA := Lib.hid (as1_yes (⟨1, src, til, all, mat⟩ : Ask) rfl (.slice xa all.length xc) (.slice ma mat.length mc) _ H1.out (Nat.le_trans HN.out.1 (by decide)) (Ask.small_rows HN.out))
  rw [← HDV.out] at HCA
  try simp only [] at HCA
  go_wp2_with fail
  refine HCA.out.mono ?_
  rintro e w2 ⟨vx, rfl, hx, hb2⟩
  obtain ⟨va, vc, rfl, hz1, hz2⟩ := id hx
  clear hz1 hz2
  clear HCA
  have HBB := Lib.hid (below_mid12 HBB.out hb2)
  have HK := Lib.hid (HK.out.below hb2)
  have H1 := Lib.hid (H1.out.below hb2)
  have H2 := Lib.hid (MsAt.below12 H2.out hb2)
  have HX := Lib.hid hx
  clear hx
  have hnx : Below w2.heap.size w2 (w2.alloc (.cells #[.int .i64 src, .int .i64 til, .slice va all.length vc] 29)) := (Below.refl _ w2).alloc (Nat.le_refl _) _
  have hny := Bl.new w2 29 #[.int .i64 src, .int .i64 til, .slice va all.length vc]
  obtain ⟨b1, hbj⟩ : ∃ b, b = w2.heap.size := ⟨_, rfl⟩
  rw [← hbj] at hny
  have HBJ := Lib.hid hbj.symm
  have HBB := Lib.hid (below_mid12 HBB.out hnx)
  have HK := Lib.hid (HK.out.below hnx)
  have H1 := Lib.hid (H1.out.below hnx)
  have H2 := Lib.hid (MsAt.below12 H2.out hnx)
  have HX := Lib.hid (HX.out.below hnx)
  have HQ1 := Lib.hid hny
  clear hb2 hnx hny hbj
  go_upto_region 7 with fail
  rw [HBJ.out]
  clear HBJ
  generalize w2.alloc (.cells #[.int .i64 src, .int .i64 til, .slice va all.length vc] 29) = w3 at HK H1 H2 HX HBB HQ1 ⊢
  have HCA := Lib.hid (as2_no (⟨1, src, til, all, mat⟩ : Ask) (by show ¬ (1 : Int) = 2; decide) (.slice xa all.length xc) (.slice ma mat.length mc) _ H1.out H2.out (Nat.le_trans HN.out.1 (by decide)) (Ask.small_rows HN.out) (Nat.le_trans HN.out.2.1 (by decide)))
  rw [← HDV.out] at HCA
  try simp only [] at HCA
  go_wp2_with fail
  refine HCA.out.mono ?_
  rintro e w2 ⟨rfl, hb2⟩
  clear HCA
  have HBB := Lib.hid (below_mid12 HBB.out hb2)
  have HK := Lib.hid (HK.out.below hb2)
  have H1 := Lib.hid (H1.out.below hb2)
  have H2 := Lib.hid (MsAt.below12 H2.out hb2)
  have HX := Lib.hid (HX.out.below hb2)
  have HQ1 := Lib.hid (HQ1.out.below hb2)
  have hnx : Below w2.heap.size w2 (w2.alloc (.cells #[.int .i64 0, .int .i64 0, .slice none 0 0] 33)) := (Below.refl _ w2).alloc (Nat.le_refl _) _
  have hny := Bl.new w2 33 #[.int .i64 0, .int .i64 0, .slice none 0 0]
  obtain ⟨b2, hbj⟩ : ∃ b, b = w2.heap.size := ⟨_, rfl⟩
  rw [← hbj] at hny
  have HBJ := Lib.hid hbj.symm
  have HBB := Lib.hid (below_mid12 HBB.out hnx)
  have HK := Lib.hid (HK.out.below hnx)
  have H1 := Lib.hid (H1.out.below hnx)
  have H2 := Lib.hid (MsAt.below12 H2.out hnx)
  have HX := Lib.hid (HX.out.below hnx)
  have HQ1 := Lib.hid (HQ1.out.below hnx)
  have HQ2 := Lib.hid hny
  clear hb2 hnx hny hbj
  go_upto_region 8 with fail
  rw [HBJ.out]
  clear HBJ
  generalize w2.alloc (.cells #[.int .i64 0, .int .i64 0, .slice none 0 0] 33) = w3 at HK H1 H2 HX HQ1 HBB HQ2 ⊢
  have HCA := Lib.hid (as3_no (⟨1, src, til, all, mat⟩ : Ask) (by show ¬ (1 : Int) = 3; decide) (.slice xa all.length xc) (.slice ma mat.length mc) _ H1.out H2.out (Nat.le_trans HN.out.1 (by decide)) (Ask.small_rows HN.out) (Nat.le_trans HN.out.2.1 (by decide)))
  rw [← HDV.out] at HCA
  try simp only [] at HCA
  go_wp2_with fail
  refine HCA.out.mono ?_
  rintro e w2 ⟨rfl, hb2⟩
  clear HCA
  have HBB := Lib.hid (below_mid12 HBB.out hb2)
  have HK := Lib.hid (HK.out.below hb2)
  have H1 := Lib.hid (H1.out.below hb2)
  have H2 := Lib.hid (MsAt.below12 H2.out hb2)
  have HX := Lib.hid (HX.out.below hb2)
  have HQ1 := Lib.hid (HQ1.out.below hb2)
  have HQ2 := Lib.hid (HQ2.out.below hb2)
  have hnx : Below w2.heap.size w2 (w2.alloc (.cells #[.int .i64 0, .int .i64 0] 37)) := (Below.refl _ w2).alloc (Nat.le_refl _) _
  have hny := Bl.new w2 37 #[.int .i64 0, .int .i64 0]
  obtain ⟨b3, hbj⟩ : ∃ b, b = w2.heap.size := ⟨_, rfl⟩
  rw [← hbj] at hny
  have HBJ := Lib.hid hbj.symm
  have HBB := Lib.hid (below_mid12 HBB.out hnx)
  have HK := Lib.hid (HK.out.below hnx)
  have H1 := Lib.hid (H1.out.below hnx)
  have H2 := Lib.hid (MsAt.below12 H2.out hnx)
  have HX := Lib.hid (HX.out.below hnx)
  have HQ1 := Lib.hid (HQ1.out.below hnx)
  have HQ2 := Lib.hid (HQ2.out.below hnx)
  have HQ3 := Lib.hid hny
  clear hb2 hnx hny hbj
  go_upto_region 9 with fail
  rw [HBJ.out]
  clear HBJ
  generalize w2.alloc (.cells #[.int .i64 0, .int .i64 0] 37) = w3 at HK H1 H2 HX HQ1 HQ2 HBB HQ3 ⊢
  have k0 := HK.out.cell 0
  simp only [List.getElem?_toArray, List.getElem?_cons_zero] at k0
  have c0 := fun d os => cell_regrown k0 d os
  have KF := fun d os => Calls.regrown_of (falls_any (⟨1, src, til, all, mat⟩ : Ask) (.slice xa all.length xc) (.slice ma mat.length mc) (grow (redrawn w3 d) os) (H1.out.below (below_regrown w3 d os)) (MsAt.below12 H2.out (below_regrown w3 d os)) (Nat.le_trans HN.out.1 (by decide)) (Ask.small_rows HN.out) (Nat.le_trans HN.out.2.1 (by decide)))
  rw [← HDV.out] at KF
  rw [show decide ((⟨1, src, til, all, mat⟩ : Ask).kd = 1) = true from decide_eq_true rfl] at KF
  clear k0
  refine wp_region_quiet_below hmx (by kernel_rfl) ?_
  repeat (quiet_step (with_reducible exact KF _ _))
  refine wpQuiet_nil ?_
  intro _ hw'
  obtain ⟨⟨dq, osq⟩, hw''⟩ := hw'
  subst hw''
  clear c0 KF
  have hb5 := below_regrown w3 dq osq
  have HBB := Lib.hid (below_mid12 HBB.out hb5)
  have HK := Lib.hid (HK.out.below hb5)
  have H1 := Lib.hid (H1.out.below hb5)
  have H2 := Lib.hid (MsAt.below12 H2.out hb5)
  have HX := Lib.hid (HX.out.below hb5)
  have HQ1 := Lib.hid (HQ1.out.below hb5)
  have HQ2 := Lib.hid (HQ2.out.below hb5)
  have HQ3 := Lib.hid (HQ3.out.below hb5)
  clear hb5
  generalize grow (redrawn w3 dq) osq = w5 at HK H1 H2 HX HQ1 HQ2 HQ3 HBB ⊢
  have k0 := HK.out.cell 0
  simp only [List.getElem?_toArray, List.getElem?_cons_zero] at k0
  go_wp2_with fail
  have HMU : Hid (∀ W, Below w5.heap.size w5 W → Calls Try.prog 14 #[dv] W fun e w' => ∃ u, e = .returned u ∧ (∃ x, u = shp src til 18 x ∧ TextsAt w' x all) ∧ Below W.heap.size W w') := Lib.hid fun W hW => by
    have h := must_yes (⟨1, src, til, all, mat⟩ : Ask) rfl (.slice xa all.length xc) (.slice ma mat.length mc) W (H1.out.below hW) (Nat.le_trans HN.out.1 (by decide)) (Ask.small_rows HN.out)
    rw [← HDV.out] at h
    exact h.mono fun e w' ⟨v, he, ht, hb⟩ => ⟨_, he, ⟨v, rfl, ht⟩, hb⟩
  have HDR : Hid (Below w5.heap.size w5 w5.drew) := Lib.hid ⟨rfl, rfl, rfl, Nat.le_refl _, fun _ _ => rfl⟩
  clear k0
  refine (wpIn_wide (n := 9)).1 ?_
  refine H3.wpIn_region_flow (fun _ => trivial) (by kernel_rfl) (fun _ _ w' => Below w5.heap.size w5 w') (fun _ _ u1 u2 => Below u1.heap.size u1 u2) (GV [some (.agg #[.int .i64 src, .int .i64 til, .slice va all.length vc]), some (.iface 29 (.agg #[.int .i64 src, .int .i64 til, .slice va all.length vc])), some (.agg #[.int .i64 1, .int .i64 src, .int .i64 til, .slice va all.length vc, .slice none 0 0]), some (.agg #[.int .i64 1, .int .i64 src, .int .i64 til, .slice xa all.length xc, .slice ma mat.length mc]), some (.bool true), some (.bool true), some (.pointer (some ⟨b2, 2, none⟩)), some (.slice none 0 0), some (.int .i64 0), some (.bool true), some (.bool true), some (.bool true), some (.agg #[.int .i64 0, .int .i64 0]), some (.agg #[.int .i64 0, .int .i64 0]), some (.bool true), some (.bool true), some (.bool true), some (dv), none, none, none, some (.agg #[.int .i64 1, .int .i64 src, .int .i64 til, .slice xa all.length xc, .slice ma mat.length mc]), some (.bool true), some (.bool true), some (.bool true)] [18, 19, 20] (fun j v W => ∃ x, v = shp src til j x ∧ TextsAt W x all)) (fun j => j == 24) (by kernel_rfl) (by kernel_rfl) (fun i j ys v w w' hij _ _ hV hR => GV.keep (fun _ _ _ _ ⟨x, h1, h2⟩ hb => ⟨x, h1, h2.below hb⟩) hij hV hR) HDR.out ?step ?fin
  case step =>
    refine ⟨?_, ?_, ?_, ?_, ?_, ?_, ?_, ?_, ?_, ?_, ?_, ?_, ?_, ?_, ?_, ?_, ?_, ?_, ?_, ?_, ?_, ?_, ?_, ?_, ?_, trivial⟩
    · intro listed ys X W hsz hsd hi2 hall hX hI hd K hK
      have e4 : X.tmps.getD 4 undef = .pointer (some ⟨b1, 0, none⟩) := hX 4 (Nat.le_of_ble_eq_true rfl)
      have c0 := Bl.cell (HQ1.out.below hI) 0
      have c1 := Bl.cell (HQ1.out.below hI) 1
      have c2 := Bl.cell (HQ1.out.below hI) 2
      simp only [List.getElem?_toArray, List.getElem?_cons_succ, List.getElem?_cons_zero] at c0 c1 c2
      have HI := Lib.hid hI
      refine H3.step_run (.inl rfl) ?_
      clear hX hd hI
      go_simp
      exact hK _ _ HI.out (Below.refl _ _) (GV.of (by decide) (fun u h => by cases h; rfl))
    · intro listed ys X W hsz hsd hi2 hall hX hI hd K hK
      have e62 : X.tmps.getD 62 undef = .agg #[.int .i64 src, .int .i64 til, .slice va all.length vc] := (hX 62 (Nat.le_of_ble_eq_true rfl)).trans (GV.val (hd ⟨0, .data⟩ (by simp) rfl) (by decide) rfl)
      have HI := Lib.hid hI
      refine H3.step_run (.inl rfl) ?_
      clear hX hd hI
      go_simp
      exact hK _ _ HI.out (Below.refl _ _) (GV.of (by decide) (fun u h => by cases h; rfl))
    · intro listed ys X W hsz hsd hi2 hall hX hI hd K hK
      have e63 : X.tmps.getD 63 undef = .iface 29 (.agg #[.int .i64 src, .int .i64 til, .slice va all.length vc]) := (hX 63 (Nat.le_of_ble_eq_true rfl)).trans (GV.val (hd ⟨1, .data⟩ (by simp) rfl) (by decide) rfl)
      have HI := Lib.hid hI
      refine H3.step_run (.inl rfl) ?_
      clear hX hd hI
      go_simp
      refine ⟨trivial, (callsIn_wide.2 (of1 src til all mat _ W (HX.out.below HI.out))).mono ?_⟩
      rintro e u2 ⟨rfl, hb⟩
      exact hK _ _ (HI.out.trans (hb.mono HI.out.size)) hb (GV.of (by decide) (fun u h => by cases h; rfl))
    · intro listed ys X W hsz hsd hi2 hall hX hI hd K hK
      have e1 : X.tmps.getD 1 undef = .pointer (some ⟨w.heap.size, 0, none⟩) := hX 1 (Nat.le_of_ble_eq_true rfl)
      have c0 := Bl.cell (HK.out.below hI) 0
      have c1 := Bl.cell (HK.out.below hI) 1
      have c2 := Bl.cell (HK.out.below hI) 2
      have c3 := Bl.cell (HK.out.below hI) 3
      have c4 := Bl.cell (HK.out.below hI) 4
      simp only [List.getElem?_toArray, List.getElem?_cons_succ, List.getElem?_cons_zero] at c0 c1 c2 c3 c4
      have HI := Lib.hid hI
      refine H3.step_run (.inl rfl) ?_
      clear hX hd hI
      go_simp
      exact hK _ _ HI.out (Below.refl _ _) (GV.of (by decide) (fun u h => by cases h; rfl))
    · intro listed ys X W hsz hsd hi2 hall hX hI hd K hK
      have e64 : X.tmps.getD 64 undef = .agg #[.int .i64 1, .int .i64 src, .int .i64 til, .slice va all.length vc, .slice none 0 0] := (hX 64 (Nat.le_of_ble_eq_true rfl)).trans (GV.val (hd ⟨2, .data⟩ (by simp) rfl) (by decide) rfl)
      have e65 : X.tmps.getD 65 undef = .agg #[.int .i64 1, .int .i64 src, .int .i64 til, .slice xa all.length xc, .slice ma mat.length mc] := (hX 65 (Nat.le_of_ble_eq_true rfl)).trans (GV.val (hd ⟨3, .data⟩ (by simp) rfl) (by decide) rfl)
      have HI := Lib.hid hI
      refine H3.step_run (.inl rfl) ?_
      clear hX hd hI
      go_simp
      refine ⟨trivial, (callsIn_wide.2 (self1 src til all mat _ _ _ W (HX.out.below HI.out) (H1.out.below HI.out) (MsAt.below12 H2.out HI.out))).mono ?_⟩
      rintro e u2 ⟨rfl, hb⟩
      exact hK _ _ (HI.out.trans (hb.mono HI.out.size)) hb (GV.of (by decide) (fun u h => by cases h; rfl))
    · intro listed ys X W hsz hsd hi2 hall hX hI hd K hK
      have e66 : X.tmps.getD 66 undef = .bool true := (hX 66 (Nat.le_of_ble_eq_true rfl)).trans (GV.val (hd ⟨4, .data⟩ (by simp) rfl) (by decide) rfl)
      have HI := Lib.hid hI
      refine H3.step_run (.inl rfl) ?_
      clear hX hd hI
      go_simp
      exact hK _ _ HI.out (Below.refl _ _) (GV.of (by decide) (fun u h => by cases h; rfl))
    · intro listed ys X W hsz hsd hi2 hall hX hI hd K hK
      have eg : X.tmps.getD 67 undef = .bool true := (hX 67 (Nat.le_of_ble_eq_true rfl)).trans (GV.val (hd ⟨5, .guard⟩ (by simp) rfl) (by decide) rfl)
      have e6 : X.tmps.getD 6 undef = .pointer (some ⟨b2, 0, none⟩) := hX 6 (Nat.le_of_ble_eq_true rfl)
      have HI := Lib.hid hI
      refine H3.step_run (.inr ⟨5, 67, true, rfl, rfl, eg⟩) ?_
      clear hX hd hI
      go_simp
      exact hK _ _ HI.out (Below.refl _ _) (GV.of (by decide) (fun u h => by cases h; rfl))
    · intro listed ys X W hsz hsd hi2 hall hX hI hd K hK
      have eg : X.tmps.getD 67 undef = .bool true := (hX 67 (Nat.le_of_ble_eq_true rfl)).trans (GV.val (hd ⟨5, .guard⟩ (by simp) rfl) (by decide) rfl)
      have e68 : X.tmps.getD 68 undef = .pointer (some ⟨b2, 2, none⟩) := (hX 68 (Nat.le_of_ble_eq_true rfl)).trans (GV.val (hd ⟨6, .data⟩ (by simp) rfl) (by decide) rfl)
      have c0 := Bl.cell (HQ2.out.below hI) 0
      have c1 := Bl.cell (HQ2.out.below hI) 1
      have c2 := Bl.cell (HQ2.out.below hI) 2
      simp only [List.getElem?_toArray, List.getElem?_cons_succ, List.getElem?_cons_zero] at c0 c1 c2
      have HI := Lib.hid hI
      refine H3.step_run (.inr ⟨5, 67, true, rfl, rfl, eg⟩) ?_
      clear hX hd hI
      go_simp
      exact hK _ _ HI.out (Below.refl _ _) (GV.of (by decide) (fun u h => by cases h; rfl))
    · intro listed ys X W hsz hsd hi2 hall hX hI hd K hK
      have eg : X.tmps.getD 67 undef = .bool true := (hX 67 (Nat.le_of_ble_eq_true rfl)).trans (GV.val (hd ⟨5, .guard⟩ (by simp) rfl) (by decide) rfl)
      have e69 : X.tmps.getD 69 undef = .slice none 0 0 := (hX 69 (Nat.le_of_ble_eq_true rfl)).trans (GV.val (hd ⟨7, .data⟩ (by simp) rfl) (by decide) rfl)
      have HI := Lib.hid hI
      refine H3.step_run (.inr ⟨5, 67, true, rfl, rfl, eg⟩) ?_
      clear hX hd hI
      go_simp
      exact hK _ _ HI.out (Below.refl _ _) (GV.of (by decide) (fun u h => by cases h; rfl))
    · intro listed ys X W hsz hsd hi2 hall hX hI hd K hK
      have eg : X.tmps.getD 67 undef = .bool true := (hX 67 (Nat.le_of_ble_eq_true rfl)).trans (GV.val (hd ⟨5, .guard⟩ (by simp) rfl) (by decide) rfl)
      have e70 : X.tmps.getD 70 undef = .int .i64 0 := (hX 70 (Nat.le_of_ble_eq_true rfl)).trans (GV.val (hd ⟨8, .data⟩ (by simp) rfl) (by decide) rfl)
      have HI := Lib.hid hI
      refine H3.step_run (.inr ⟨5, 67, true, rfl, rfl, eg⟩) ?_
      clear hX hd hI
      go_simp
      exact hK _ _ HI.out (Below.refl _ _) (GV.of (by decide) (fun u h => by cases h; rfl))
    · intro listed ys X W hsz hsd hi2 hall hX hI hd K hK
      have e67 : X.tmps.getD 67 undef = .bool true := (hX 67 (Nat.le_of_ble_eq_true rfl)).trans (GV.val (hd ⟨5, .data⟩ (by simp) rfl) (by decide) rfl)
      have e71 : X.tmps.getD 71 undef = .bool true := (hX 71 (Nat.le_of_ble_eq_true rfl)).trans (GV.val (hd ⟨9, .data⟩ (by simp) rfl) (by decide) rfl)
      have HI := Lib.hid hI
      refine H3.step_run (.inl rfl) ?_
      clear hX hd hI
      go_simp
      exact hK _ _ HI.out (Below.refl _ _) (GV.of (by decide) (fun u h => by cases h; rfl))
    · intro listed ys X W hsz hsd hi2 hall hX hI hd K hK
      have e72 : X.tmps.getD 72 undef = .bool true := (hX 72 (Nat.le_of_ble_eq_true rfl)).trans (GV.val (hd ⟨10, .data⟩ (by simp) rfl) (by decide) rfl)
      have HI := Lib.hid hI
      refine H3.step_run (.inl rfl) ?_
      clear hX hd hI
      go_simp
      exact hK _ _ HI.out (Below.refl _ _) (GV.of (by decide) (fun u h => by cases h; rfl))
    · intro listed ys X W hsz hsd hi2 hall hX hI hd K hK
      have eg : X.tmps.getD 73 undef = .bool true := (hX 73 (Nat.le_of_ble_eq_true rfl)).trans (GV.val (hd ⟨11, .guard⟩ (by simp) rfl) (by decide) rfl)
      have e8 : X.tmps.getD 8 undef = .pointer (some ⟨b3, 0, none⟩) := hX 8 (Nat.le_of_ble_eq_true rfl)
      have c0 := Bl.cell (HQ3.out.below hI) 0
      have c1 := Bl.cell (HQ3.out.below hI) 1
      simp only [List.getElem?_toArray, List.getElem?_cons_succ, List.getElem?_cons_zero] at c0 c1
      have HI := Lib.hid hI
      refine H3.step_run (.inr ⟨11, 73, true, rfl, rfl, eg⟩) ?_
      clear hX hd hI
      go_simp
      exact hK _ _ HI.out (Below.refl _ _) (GV.of (by decide) (fun u h => by cases h; rfl))
    · intro listed ys X W hsz hsd hi2 hall hX hI hd K hK
      have eg : X.tmps.getD 73 undef = .bool true := (hX 73 (Nat.le_of_ble_eq_true rfl)).trans (GV.val (hd ⟨11, .guard⟩ (by simp) rfl) (by decide) rfl)
      have HI := Lib.hid hI
      refine H3.step_run (.inr ⟨11, 73, true, rfl, rfl, eg⟩) ?_
      clear hX hd hI
      go_simp
      exact hK _ _ HI.out (Below.refl _ _) (GV.of (by decide) (fun u h => by cases h; rfl))
    · intro listed ys X W hsz hsd hi2 hall hX hI hd K hK
      have eg : X.tmps.getD 73 undef = .bool true := (hX 73 (Nat.le_of_ble_eq_true rfl)).trans (GV.val (hd ⟨11, .guard⟩ (by simp) rfl) (by decide) rfl)
      have e74 : X.tmps.getD 74 undef = .agg #[.int .i64 0, .int .i64 0] := (hX 74 (Nat.le_of_ble_eq_true rfl)).trans (GV.val (hd ⟨12, .data⟩ (by simp) rfl) (by decide) rfl)
      have e75 : X.tmps.getD 75 undef = .agg #[.int .i64 0, .int .i64 0] := (hX 75 (Nat.le_of_ble_eq_true rfl)).trans (GV.val (hd ⟨13, .data⟩ (by simp) rfl) (by decide) rfl)
      have HI := Lib.hid hI
      refine H3.step_run (.inr ⟨11, 73, true, rfl, rfl, eg⟩) ?_
      clear hX hd hI
      go_simp
      exact hK _ _ HI.out (Below.refl _ _) (GV.of (by decide) (fun u h => by cases h; rfl))
    · intro listed ys X W hsz hsd hi2 hall hX hI hd K hK
      have e73 : X.tmps.getD 73 undef = .bool true := (hX 73 (Nat.le_of_ble_eq_true rfl)).trans (GV.val (hd ⟨11, .data⟩ (by simp) rfl) (by decide) rfl)
      have e76 : X.tmps.getD 76 undef = .bool true := (hX 76 (Nat.le_of_ble_eq_true rfl)).trans (GV.val (hd ⟨14, .data⟩ (by simp) rfl) (by decide) rfl)
      have HI := Lib.hid hI
      refine H3.step_run (.inl rfl) ?_
      clear hX hd hI
      go_simp
      exact hK _ _ HI.out (Below.refl _ _) (GV.of (by decide) (fun u h => by cases h; rfl))
    · intro listed ys X W hsz hsd hi2 hall hX hI hd K hK
      have e77 : X.tmps.getD 77 undef = .bool true := (hX 77 (Nat.le_of_ble_eq_true rfl)).trans (GV.val (hd ⟨15, .data⟩ (by simp) rfl) (by decide) rfl)
      have HI := Lib.hid hI
      refine H3.step_run (.inl rfl) ?_
      clear hX hd hI
      go_simp
      exact hK _ _ HI.out (Below.refl _ _) (GV.of (by decide) (fun u h => by cases h; rfl))
    · intro listed ys X W hsz hsd hi2 hall hX hI hd K hK
      have eg : X.tmps.getD 78 undef = .bool true := (hX 78 (Nat.le_of_ble_eq_true rfl)).trans (GV.val (hd ⟨16, .guard⟩ (by simp) rfl) (by decide) rfl)
      have e3 : X.tmps.getD 3 undef = dv := hX 3 (Nat.le_of_ble_eq_true rfl)
      have HI := Lib.hid hI
      refine H3.step_run (.inr ⟨16, 78, true, rfl, rfl, eg⟩) ?_
      clear hX hd hI
      go_simp
      exact hK _ _ HI.out (Below.refl _ _) (GV.of (by decide) (fun u h => by cases h; rfl))
    · intro listed ys X W hsz hsd hi2 hall hX hI hd K hK
      have eg : X.tmps.getD 78 undef = .bool true := (hX 78 (Nat.le_of_ble_eq_true rfl)).trans (GV.val (hd ⟨16, .guard⟩ (by simp) rfl) (by decide) rfl)
      have e79 : X.tmps.getD 79 undef = dv := (hX 79 (Nat.le_of_ble_eq_true rfl)).trans (GV.val (hd ⟨17, .data⟩ (by simp) rfl) (by decide) rfl)
      have HI := Lib.hid hI
      refine H3.step_run (.inr ⟨16, 78, true, rfl, rfl, eg⟩) ?_
      clear hX hd hI
      go_simp
      refine ⟨trivial, (callsIn_wide.2 (HMU.out W HI.out)).mono ?_⟩
      rintro e u2 ⟨u, rfl, hu, hb⟩
      exact hK _ _ (HI.out.trans (hb.mono HI.out.size)) hb (GV.ofsp (by decide) hu)
    · intro listed ys X W hsz hsd hi2 hall hX hI hd K hK
      have eg : X.tmps.getD 78 undef = .bool true := (hX 78 (Nat.le_of_ble_eq_true rfl)).trans (GV.val (hd ⟨16, .guard⟩ (by simp) rfl) (by decide) rfl)
      have e80 : X.tmps.getD 80 undef = ys 18 := hX 80 (Nat.le_of_ble_eq_true rfl)
      have HY18 := Lib.hid (show ∃ x, (ys 18) = shp src til 18 x ∧ TextsAt W x all from GV.spv (hd ⟨18, .data⟩ (by simp) rfl) (by decide))
      have HI := Lib.hid hI
      obtain ⟨x, hx, ht⟩ := HY18.out
      refine H3.step_run (.inr ⟨16, 78, true, rfl, rfl, eg⟩) ?_
      clear hX hd hI
      go_simp
      exact hK _ _ HI.out (Below.refl _ _) (GV.ofsp (by decide) ⟨x, rfl, ht⟩)
    · intro listed ys X W hsz hsd hi2 hall hX hI hd K hK
      have eg : X.tmps.getD 78 undef = .bool true := (hX 78 (Nat.le_of_ble_eq_true rfl)).trans (GV.val (hd ⟨16, .guard⟩ (by simp) rfl) (by decide) rfl)
      have e81 : X.tmps.getD 81 undef = ys 19 := hX 81 (Nat.le_of_ble_eq_true rfl)
      have HY19 := Lib.hid (show ∃ x, (ys 19) = shp src til 19 x ∧ TextsAt W x all from GV.spv (hd ⟨19, .data⟩ (by simp) rfl) (by decide))
      have HI := Lib.hid hI
      obtain ⟨x, hx, ht⟩ := HY19.out
      rw [hx] at e81
      unfold shp at e81
      refine H3.step_run (.inr ⟨16, 78, true, rfl, rfl, eg⟩) ?_
      clear hX hd hI
      go_simp
      refine ⟨trivial, (callsIn_wide.2 (show Calls Try.prog 13 #[.iface 29 (.agg #[.int .i64 src, .int .i64 til, x])] W (fun e w' => ∃ u, e = .returned u ∧ (∃ x, u = shp src til 20 x ∧ TextsAt w' x all) ∧ Below W.heap.size W w') from (of1 src til all mat x W ht).mono fun e w' ⟨he, hb⟩ => ⟨_, he, ⟨x, rfl, ht.below hb⟩, hb⟩)).mono ?_⟩
      rintro e u2 ⟨u, rfl, hu, hb⟩
      exact hK _ _ (HI.out.trans (hb.mono HI.out.size)) hb (GV.ofsp (by decide) hu)
    · intro listed ys X W hsz hsd hi2 hall hX hI hd K hK
      have eg : X.tmps.getD 78 undef = .bool true := (hX 78 (Nat.le_of_ble_eq_true rfl)).trans (GV.val (hd ⟨16, .guard⟩ (by simp) rfl) (by decide) rfl)
      have e1 : X.tmps.getD 1 undef = .pointer (some ⟨w.heap.size, 0, none⟩) := hX 1 (Nat.le_of_ble_eq_true rfl)
      have c0 := Bl.cell (HK.out.below hI) 0
      have c1 := Bl.cell (HK.out.below hI) 1
      have c2 := Bl.cell (HK.out.below hI) 2
      have c3 := Bl.cell (HK.out.below hI) 3
      have c4 := Bl.cell (HK.out.below hI) 4
      simp only [List.getElem?_toArray, List.getElem?_cons_succ, List.getElem?_cons_zero] at c0 c1 c2 c3 c4
      have HI := Lib.hid hI
      refine H3.step_run (.inr ⟨16, 78, true, rfl, rfl, eg⟩) ?_
      clear hX hd hI
      go_simp
      exact hK _ _ HI.out (Below.refl _ _) (GV.of (by decide) (fun u h => by cases h; rfl))
    · intro listed ys X W hsz hsd hi2 hall hX hI hd K hK
      have eg : X.tmps.getD 78 undef = .bool true := (hX 78 (Nat.le_of_ble_eq_true rfl)).trans (GV.val (hd ⟨16, .guard⟩ (by simp) rfl) (by decide) rfl)
      have e82 : X.tmps.getD 82 undef = ys 20 := hX 82 (Nat.le_of_ble_eq_true rfl)
      have HY20 := Lib.hid (show ∃ x, (ys 20) = shp src til 20 x ∧ TextsAt W x all from GV.spv (hd ⟨20, .data⟩ (by simp) rfl) (by decide))
      have e83 : X.tmps.getD 83 undef = .agg #[.int .i64 1, .int .i64 src, .int .i64 til, .slice xa all.length xc, .slice ma mat.length mc] := (hX 83 (Nat.le_of_ble_eq_true rfl)).trans (GV.val (hd ⟨21, .data⟩ (by simp) rfl) (by decide) rfl)
      have HI := Lib.hid hI
      obtain ⟨x, hx, ht⟩ := HY20.out
      rw [hx] at e82
      unfold shp at e82
      refine H3.step_run (.inr ⟨16, 78, true, rfl, rfl, eg⟩) ?_
      clear hX hd hI
      go_simp
      refine ⟨trivial, (callsIn_wide.2 (self1 src til all mat x _ _ W ht (H1.out.below HI.out) (MsAt.below12 H2.out HI.out))).mono ?_⟩
      rintro e u2 ⟨rfl, hb⟩
      exact hK _ _ (HI.out.trans (hb.mono HI.out.size)) hb (GV.of (by decide) (fun u h => by cases h; rfl))
    · intro listed ys X W hsz hsd hi2 hall hX hI hd K hK
      have e78 : X.tmps.getD 78 undef = .bool true := (hX 78 (Nat.le_of_ble_eq_true rfl)).trans (GV.val (hd ⟨16, .data⟩ (by simp) rfl) (by decide) rfl)
      have e84 : X.tmps.getD 84 undef = .bool true := (hX 84 (Nat.le_of_ble_eq_true rfl)).trans (GV.val (hd ⟨22, .data⟩ (by simp) rfl) (by decide) rfl)
      have HI := Lib.hid hI
      refine H3.step_run (.inl rfl) ?_
      clear hX hd hI
      go_simp
      exact hK _ _ HI.out (Below.refl _ _) (GV.of (by decide) (fun u h => by cases h; rfl))
    · intro listed ys X W hsz hsd hi2 hall hX hI hd K hK
      have e85 : X.tmps.getD 85 undef = .bool true := (hX 85 (Nat.le_of_ble_eq_true rfl)).trans (GV.val (hd ⟨23, .data⟩ (by simp) rfl) (by decide) rfl)
      have HI := Lib.hid hI
      refine H3.step_run (.inl rfl) ?_
      clear hX hd hI
      go_simp
      exact hK _ _ HI.out (Below.refl _ _) (GV.of (by decide) (fun u h => by cases h; rfl))
  case fin =>
    intro listed ys w6 hall hI hV
    have hy := GV.val (hV 24 (by decide) rfl) (by decide) rfl
    have HB6 := Lib.hid (below_mid12 HBB.out hI)
    clear hall hI hV
    refine fin_of12 2 (v := .bool true) ?_ (by simp) hy
    intro P6 h6 hdf
    have x6 : P6.tmps[2]?.getD undef = .bool true := by rw [← Array.getD_eq_getD_getElem?]; exact h6
    go_wp2_with fail
    refine bodyPost_ret (v := .bool true) (by simp [results, Try.results3, go_sem, x6]) hdf ⟨rfl, HB6.out⟩

set_option maxHeartbeats 8000000 in
set_option maxRecDepth 100000 in
theorem types_2 (src til : Int) (all : List (List ByteArray)) (mat : List Mt) (av mv : Value) (w : World) (h1 : TextsAt w av all) (h2 : MsAt w mv mat) :
    Calls Try.prog 3 #[.agg ((⟨2, src, til, all, mat⟩ : Ask).cells av mv)] w fun e w' => e = .returned (.bool true) ∧ Below w.heap.size w w' := by
  have hmx : Try.prog.follows .mixedOrders = true := by kernel_rfl
  obtain ⟨xa, xc, rfl, hz1, hz2⟩ := id h1
  obtain ⟨ma, mc, rfl, hz3, hz4⟩ := id h2
  clear hz1 hz2 hz3 hz4
  obtain ⟨w1, hw1⟩ : ∃ w1, w1 = w.alloc (.cells #[.int .i64 2, .int .i64 src, .int .i64 til, .slice xa all.length xc, .slice ma mat.length mc] 25) := ⟨_, rfl⟩
  have hb1 : Below w.heap.size w w1 := by rw [hw1]; exact (Below.refl _ w).alloc (Nat.le_refl _) _
  have hk1 : Bl w1 w.heap.size 25 #[.int .i64 2, .int .i64 src, .int .i64 til, .slice xa all.length xc, .slice ma mat.length mc] := by rw [hw1]; exact Bl.new w 25 _
  have HW1 := Lib.hid hw1.symm
  have HBB := Lib.hid hb1
  have HK := Lib.hid hk1
  have H1 := Lib.hid (h1.below hb1)
  have H2 := Lib.hid (MsAt.below12 h2 hb1)
  have HAL := Lib.hid (alive12 w1)
  clear hw1 hb1 hk1 h1 h2
  simp only [Ask.cells]
  go_enter Try.func3, Try.ntmps3
  go_upto_region 1 with fail
  rw [HW1.out]
  clear HW1
  go_wp2_with fail
  refine HAL.out.mono ?_
  rintro e w2 ⟨rfl, hb2⟩
  have HBB := Lib.hid (below_mid12 HBB.out hb2)
  have HK := Lib.hid (HK.out.below hb2)
  have H1 := Lib.hid (H1.out.below hb2)
  have H2 := Lib.hid (MsAt.below12 H2.out hb2)
  clear hb2 HAL
  have c0 := HK.out.cell 0
  have c1 := HK.out.cell 1
  have c2 := HK.out.cell 2
  have c3 := HK.out.cell 3
  have c4 := HK.out.cell 4
  simp only [List.getElem?_toArray, List.getElem?_cons_succ, List.getElem?_cons_zero] at c0 c1 c2 c3 c4
  have HGR := Lib.hid (askGreat_any (⟨2, src, til, all, mat⟩ : Ask) _ w2 ⟨_, _, rfl, H1.out, H2.out⟩)
  simp only [Ask.cells] at HGR
  cases hg : (⟨2, src, til, all, mat⟩ : Ask).great with
  | true =>
    rw [hg] at HGR
    clear hg
    go_wp2_with (go_at_call 6; refine HGR.out.mono ?_; rintro e w3 ⟨rfl, hb3⟩)
    go_ret
    exact ⟨rfl, below_mid12 HBB.out hb3⟩
  | false =>
  rw [hg] at HGR
  have HN := Lib.hid (Ask.small_of hg)
  clear hg
  go_wp2_with fail
  refine HGR.out.mono ?_
  rintro e w3 ⟨rfl, hb3⟩
  have HBB := Lib.hid (below_mid12 HBB.out hb3)
  have HK := Lib.hid (HK.out.below hb3)
  have H1 := Lib.hid (H1.out.below hb3)
  have H2 := Lib.hid (MsAt.below12 H2.out hb3)
  clear hb3 HGR c0 c1 c2 c3 c4
  have c0 := HK.out.cell 0
  have c1 := HK.out.cell 1
  have c2 := HK.out.cell 2
  have c3 := HK.out.cell 3
  have c4 := HK.out.cell 4
  simp only [List.getElem?_toArray, List.getElem?_cons_succ, List.getElem?_cons_zero] at c0 c1 c2 c3 c4
  have HAN := Lib.hid (anyOf_any (⟨2, src, til, all, mat⟩ : Ask) (.slice xa all.length xc) (.slice ma mat.length mc) w3 ⟨_, _, _, rfl⟩ ⟨_, _, _, rfl⟩)
  simp only [Ask.cells] at HAN
  obtain ⟨dv, hdv⟩ : ∃ v, v = (⟨2, src, til, all, mat⟩ : Ask).dyn (.slice xa all.length xc) (.slice ma mat.length mc) := ⟨_, rfl⟩
  rw [← hdv] at HAN
  have HDV := Lib.hid hdv
  clear hdv
  go_wp2_with fail
  refine HAN.out.mono ?_
  rintro e w4 ⟨rfl, hb4⟩
  have HBB := Lib.hid (below_mid12 HBB.out hb4)
  have HK := Lib.hid (HK.out.below hb4)
  have H1 := Lib.hid (H1.out.below hb4)
  have H2 := Lib.hid (MsAt.below12 H2.out hb4)
  clear hb4 HAN c0 c1 c2 c3 c4
  have HCA := Lib.hid (as1_no (⟨2, src, til, all, mat⟩ : Ask) (by show ¬ (2 : Int) = 1; decide) (.slice xa all.length xc) (.slice ma mat.length mc) _ H1.out H2.out (Nat.le_trans HN.out.1 (by decide)) (Ask.small_rows HN.out) (Nat.le_trans HN.out.2.1 (by decide)))
  rw [← HDV.out] at HCA
  try simp only [] at HCA
  go_wp2_with fail
  refine HCA.out.mono ?_
  rintro e w2 ⟨rfl, hb2⟩
  clear HCA
  have HBB := Lib.hid (below_mid12 HBB.out hb2)
  have HK := Lib.hid (HK.out.below hb2)
  have H1 := Lib.hid (H1.out.below hb2)
  have H2 := Lib.hid (MsAt.below12 H2.out hb2)
  have hnx : Below w2.heap.size w2 (w2.alloc (.cells #[.int .i64 0, .int .i64 0, .slice none 0 0] 29)) := (Below.refl _ w2).alloc (Nat.le_refl _) _
  have hny := Bl.new w2 29 #[.int .i64 0, .int .i64 0, .slice none 0 0]
  obtain ⟨b1, hbj⟩ : ∃ b, b = w2.heap.size := ⟨_, rfl⟩
  rw [← hbj] at hny
  have HBJ := Lib.hid hbj.symm
  have HBB := Lib.hid (below_mid12 HBB.out hnx)
  have HK := Lib.hid (HK.out.below hnx)
  have H1 := Lib.hid (H1.out.below hnx)
  have H2 := Lib.hid (MsAt.below12 H2.out hnx)
  have HQ1 := Lib.hid hny
  clear hb2 hnx hny hbj
  go_upto_region 7 with fail
  rw [HBJ.out]
  clear HBJ
  generalize w2.alloc (.cells #[.int .i64 0, .int .i64 0, .slice none 0 0] 29) = w3 at HK H1 H2 HBB HQ1 ⊢
  have HCA := Lib.hid (as2_yes (⟨2, src, til, all, mat⟩ : Ask) rfl (.slice xa all.length xc) (.slice ma mat.length mc) _ H2.out (Nat.le_trans HN.out.2.1 (by decide)))
  rw [← HDV.out] at HCA
  try simp only [] at HCA
  go_wp2_with fail
  refine HCA.out.mono ?_
  rintro e w2 ⟨vx, rfl, hx, hb2⟩
  obtain ⟨va, vc, rfl, hz1, hz2⟩ := id hx
  clear hz1 hz2
  clear HCA
  have HBB := Lib.hid (below_mid12 HBB.out hb2)
  have HK := Lib.hid (HK.out.below hb2)
  have H1 := Lib.hid (H1.out.below hb2)
  have H2 := Lib.hid (MsAt.below12 H2.out hb2)
  have HQ1 := Lib.hid (HQ1.out.below hb2)
  have HX := Lib.hid hx
  clear hx
  have hnx : Below w2.heap.size w2 (w2.alloc (.cells #[.int .i64 src, .int .i64 til, .slice va mat.length vc] 33)) := (Below.refl _ w2).alloc (Nat.le_refl _) _
  have hny := Bl.new w2 33 #[.int .i64 src, .int .i64 til, .slice va mat.length vc]
  obtain ⟨b2, hbj⟩ : ∃ b, b = w2.heap.size := ⟨_, rfl⟩
  rw [← hbj] at hny
  have HBJ := Lib.hid hbj.symm
  have HBB := Lib.hid (below_mid12 HBB.out hnx)
  have HK := Lib.hid (HK.out.below hnx)
  have H1 := Lib.hid (H1.out.below hnx)
  have H2 := Lib.hid (MsAt.below12 H2.out hnx)
  have HQ1 := Lib.hid (HQ1.out.below hnx)
  have HX := Lib.hid (MsAt.below12 HX.out hnx)
  have HQ2 := Lib.hid hny
  clear hb2 hnx hny hbj
  go_upto_region 8 with fail
  rw [HBJ.out]
  clear HBJ
  generalize w2.alloc (.cells #[.int .i64 src, .int .i64 til, .slice va mat.length vc] 33) = w3 at HK H1 H2 HQ1 HX HBB HQ2 ⊢
  have HCA := Lib.hid (as3_no (⟨2, src, til, all, mat⟩ : Ask) (by show ¬ (2 : Int) = 3; decide) (.slice xa all.length xc) (.slice ma mat.length mc) _ H1.out H2.out (Nat.le_trans HN.out.1 (by decide)) (Ask.small_rows HN.out) (Nat.le_trans HN.out.2.1 (by decide)))
  rw [← HDV.out] at HCA
  try simp only [] at HCA
  go_wp2_with fail
  refine HCA.out.mono ?_
  rintro e w2 ⟨rfl, hb2⟩
  clear HCA
  have HBB := Lib.hid (below_mid12 HBB.out hb2)
  have HK := Lib.hid (HK.out.below hb2)
  have H1 := Lib.hid (H1.out.below hb2)
  have H2 := Lib.hid (MsAt.below12 H2.out hb2)
  have HQ1 := Lib.hid (HQ1.out.below hb2)
  have HX := Lib.hid (MsAt.below12 HX.out hb2)
  have HQ2 := Lib.hid (HQ2.out.below hb2)
  have hnx : Below w2.heap.size w2 (w2.alloc (.cells #[.int .i64 0, .int .i64 0] 37)) := (Below.refl _ w2).alloc (Nat.le_refl _) _
  have hny := Bl.new w2 37 #[.int .i64 0, .int .i64 0]
  obtain ⟨b3, hbj⟩ : ∃ b, b = w2.heap.size := ⟨_, rfl⟩
  rw [← hbj] at hny
  have HBJ := Lib.hid hbj.symm
  have HBB := Lib.hid (below_mid12 HBB.out hnx)
  have HK := Lib.hid (HK.out.below hnx)
  have H1 := Lib.hid (H1.out.below hnx)
  have H2 := Lib.hid (MsAt.below12 H2.out hnx)
  have HQ1 := Lib.hid (HQ1.out.below hnx)
  have HX := Lib.hid (MsAt.below12 HX.out hnx)
  have HQ2 := Lib.hid (HQ2.out.below hnx)
  have HQ3 := Lib.hid hny
  clear hb2 hnx hny hbj
  go_upto_region 9 with fail
  rw [HBJ.out]
  clear HBJ
  generalize w2.alloc (.cells #[.int .i64 0, .int .i64 0] 37) = w3 at HK H1 H2 HQ1 HX HQ2 HBB HQ3 ⊢
  have k0 := HK.out.cell 0
  simp only [List.getElem?_toArray, List.getElem?_cons_zero] at k0
  have c0 := fun d os => cell_regrown k0 d os
  have KF := fun d os => Calls.regrown_of (falls_any (⟨2, src, til, all, mat⟩ : Ask) (.slice xa all.length xc) (.slice ma mat.length mc) (grow (redrawn w3 d) os) (H1.out.below (below_regrown w3 d os)) (MsAt.below12 H2.out (below_regrown w3 d os)) (Nat.le_trans HN.out.1 (by decide)) (Ask.small_rows HN.out) (Nat.le_trans HN.out.2.1 (by decide)))
  rw [← HDV.out] at KF
  rw [show decide ((⟨2, src, til, all, mat⟩ : Ask).kd = 1) = false from decide_eq_false (by show ¬ (2 : Int) = 1; decide)] at KF
  clear k0
  refine wp_region_quiet_below hmx (by kernel_rfl) ?_
  repeat (quiet_step (with_reducible exact KF _ _))
  refine wpQuiet_nil ?_
  intro _ hw'
  obtain ⟨⟨dq, osq⟩, hw''⟩ := hw'
  subst hw''
  clear c0 KF
  have hb5 := below_regrown w3 dq osq
  have HBB := Lib.hid (below_mid12 HBB.out hb5)
  have HK := Lib.hid (HK.out.below hb5)
  have H1 := Lib.hid (H1.out.below hb5)
  have H2 := Lib.hid (MsAt.below12 H2.out hb5)
  have HQ1 := Lib.hid (HQ1.out.below hb5)
  have HX := Lib.hid (MsAt.below12 HX.out hb5)
  have HQ2 := Lib.hid (HQ2.out.below hb5)
  have HQ3 := Lib.hid (HQ3.out.below hb5)
  clear hb5
  generalize grow (redrawn w3 dq) osq = w5 at HK H1 H2 HQ1 HX HQ2 HQ3 HBB ⊢
  have k0 := HK.out.cell 0
  simp only [List.getElem?_toArray, List.getElem?_cons_zero] at k0
  go_wp2_with fail
  clear k0
  have c0' := HK.out.cell 0
  have c1' := HK.out.cell 1
  have c2' := HK.out.cell 2
  have c3' := HK.out.cell 3
  have c4' := HK.out.cell 4
  simp only [List.getElem?_toArray, List.getElem?_cons_succ, List.getElem?_cons_zero] at c0' c1' c2' c3' c4'
  have c0 := fun d os => cell_regrown c0' d os
  have c1 := fun d os => cell_regrown c1' d os
  have c2 := fun d os => cell_regrown c2' d os
  have c3 := fun d os => cell_regrown c3' d os
  have c4 := fun d os => cell_regrown c4' d os
  clear c0' c1' c2' c3' c4'
  have d0' := HQ1.out.cell 0
  have d1' := HQ1.out.cell 1
  have d2' := HQ1.out.cell 2
  simp only [List.getElem?_toArray, List.getElem?_cons_succ, List.getElem?_cons_zero] at d0' d1' d2'
  have d0 := fun d os => cell_regrown d0' d os
  have d1 := fun d os => cell_regrown d1' d os
  have d2 := fun d os => cell_regrown d2' d os
  clear d0' d1' d2'
  have g0' := HQ2.out.cell 0
  have g1' := HQ2.out.cell 1
  have g2' := HQ2.out.cell 2
  simp only [List.getElem?_toArray, List.getElem?_cons_succ, List.getElem?_cons_zero] at g0' g1' g2'
  have g0 := fun d os => cell_regrown g0' d os
  have g1 := fun d os => cell_regrown g1' d os
  have g2 := fun d os => cell_regrown g2' d os
  clear g0' g1' g2'
  have h0' := HQ3.out.cell 0
  have h1' := HQ3.out.cell 1
  simp only [List.getElem?_toArray, List.getElem?_cons_succ, List.getElem?_cons_zero] at h0' h1'
  have h0 := fun d os => cell_regrown h0' d os
  have h1 := fun d os => cell_regrown h1' d os
  clear h0' h1'
  have KO := fun d os => Calls.regrown_of (of2 src til all mat _ (grow (redrawn w5 d) os) (MsAt.below12 HX.out (below_regrown w5 d os)))
  have KS := fun d os => Calls.regrown_of (self2 src til all mat _ _ _ (grow (redrawn w5 d) os) (MsAt.below12 HX.out (below_regrown w5 d os)) (H1.out.below (below_regrown w5 d os)) (MsAt.below12 H2.out (below_regrown w5 d os)))
  refine wp_region_quiet_below hmx (by kernel_rfl) ?_
  repeat (quiet_step (with_reducible first | exact KO _ _ | exact KS _ _))
  refine wpQuiet_nil ?_
  intro _ hw'
  obtain ⟨⟨dq, osq⟩, hw''⟩ := hw'
  subst hw''
  clear c0 c1 c2 c3 c4 d0 d1 d2 g0 g1 g2 h0 h1 KO KS
  have HB6 := Lib.hid (below_mid12 HBB.out (below_regrown w5 dq osq))
  go_wp2_with fail
  go_ret
  exact ⟨rfl, HB6.out⟩

set_option maxHeartbeats 8000000 in
set_option maxRecDepth 100000 in
theorem types_3 (src til : Int) (all : List (List ByteArray)) (mat : List Mt) (av mv : Value) (w : World) (h1 : TextsAt w av all) (h2 : MsAt w mv mat) :
    Calls Try.prog 3 #[.agg ((⟨3, src, til, all, mat⟩ : Ask).cells av mv)] w fun e w' => e = .returned (.bool true) ∧ Below w.heap.size w w' := by
  have hmx : Try.prog.follows .mixedOrders = true := by kernel_rfl
  obtain ⟨xa, xc, rfl, hz1, hz2⟩ := id h1
  obtain ⟨ma, mc, rfl, hz3, hz4⟩ := id h2
  clear hz1 hz2 hz3 hz4
  obtain ⟨w1, hw1⟩ : ∃ w1, w1 = w.alloc (.cells #[.int .i64 3, .int .i64 src, .int .i64 til, .slice xa all.length xc, .slice ma mat.length mc] 25) := ⟨_, rfl⟩
  have hb1 : Below w.heap.size w w1 := by rw [hw1]; exact (Below.refl _ w).alloc (Nat.le_refl _) _
  have hk1 : Bl w1 w.heap.size 25 #[.int .i64 3, .int .i64 src, .int .i64 til, .slice xa all.length xc, .slice ma mat.length mc] := by rw [hw1]; exact Bl.new w 25 _
  have HW1 := Lib.hid hw1.symm
  have HBB := Lib.hid hb1
  have HK := Lib.hid hk1
  have H1 := Lib.hid (h1.below hb1)
  have H2 := Lib.hid (MsAt.below12 h2 hb1)
  have HAL := Lib.hid (alive12 w1)
  clear hw1 hb1 hk1 h1 h2
  simp only [Ask.cells]
  go_enter Try.func3, Try.ntmps3
  go_upto_region 1 with fail
  rw [HW1.out]
  clear HW1
  go_wp2_with fail
  refine HAL.out.mono ?_
  rintro e w2 ⟨rfl, hb2⟩
  have HBB := Lib.hid (below_mid12 HBB.out hb2)
  have HK := Lib.hid (HK.out.below hb2)
  have H1 := Lib.hid (H1.out.below hb2)
  have H2 := Lib.hid (MsAt.below12 H2.out hb2)
  clear hb2 HAL
  have c0 := HK.out.cell 0
  have c1 := HK.out.cell 1
  have c2 := HK.out.cell 2
  have c3 := HK.out.cell 3
  have c4 := HK.out.cell 4
  simp only [List.getElem?_toArray, List.getElem?_cons_succ, List.getElem?_cons_zero] at c0 c1 c2 c3 c4
  have HGR := Lib.hid (askGreat_any (⟨3, src, til, all, mat⟩ : Ask) _ w2 ⟨_, _, rfl, H1.out, H2.out⟩)
  simp only [Ask.cells] at HGR
  cases hg : (⟨3, src, til, all, mat⟩ : Ask).great with
  | true =>
    rw [hg] at HGR
    clear hg
    go_wp2_with (go_at_call 6; refine HGR.out.mono ?_; rintro e w3 ⟨rfl, hb3⟩)
    go_ret
    exact ⟨rfl, below_mid12 HBB.out hb3⟩
  | false =>
  rw [hg] at HGR
  have HN := Lib.hid (Ask.small_of hg)
  clear hg
  go_wp2_with fail
  refine HGR.out.mono ?_
  rintro e w3 ⟨rfl, hb3⟩
  have HBB := Lib.hid (below_mid12 HBB.out hb3)
  have HK := Lib.hid (HK.out.below hb3)
  have H1 := Lib.hid (H1.out.below hb3)
  have H2 := Lib.hid (MsAt.below12 H2.out hb3)
  clear hb3 HGR c0 c1 c2 c3 c4
  have c0 := HK.out.cell 0
  have c1 := HK.out.cell 1
  have c2 := HK.out.cell 2
  have c3 := HK.out.cell 3
  have c4 := HK.out.cell 4
  simp only [List.getElem?_toArray, List.getElem?_cons_succ, List.getElem?_cons_zero] at c0 c1 c2 c3 c4
  have HAN := Lib.hid (anyOf_any (⟨3, src, til, all, mat⟩ : Ask) (.slice xa all.length xc) (.slice ma mat.length mc) w3 ⟨_, _, _, rfl⟩ ⟨_, _, _, rfl⟩)
  simp only [Ask.cells] at HAN
  obtain ⟨dv, hdv⟩ : ∃ v, v = (⟨3, src, til, all, mat⟩ : Ask).dyn (.slice xa all.length xc) (.slice ma mat.length mc) := ⟨_, rfl⟩
  rw [← hdv] at HAN
  have HDV := Lib.hid hdv
  clear hdv
  go_wp2_with fail
  refine HAN.out.mono ?_
  rintro e w4 ⟨rfl, hb4⟩
  have HBB := Lib.hid (below_mid12 HBB.out hb4)
  have HK := Lib.hid (HK.out.below hb4)
  have H1 := Lib.hid (H1.out.below hb4)
  have H2 := Lib.hid (MsAt.below12 H2.out hb4)
  clear hb4 HAN c0 c1 c2 c3 c4
  have HCA := Lib.hid (as1_no (⟨3, src, til, all, mat⟩ : Ask) (by show ¬ (3 : Int) = 1; decide) (.slice xa all.length xc) (.slice ma mat.length mc) _ H1.out H2.out (Nat.le_trans HN.out.1 (by decide)) (Ask.small_rows HN.out) (Nat.le_trans HN.out.2.1 (by decide)))
  rw [← HDV.out] at HCA
  try simp only [] at HCA
  go_wp2_with fail
  refine HCA.out.mono ?_
  rintro e w2 ⟨rfl, hb2⟩
  clear HCA
  have HBB := Lib.hid (below_mid12 HBB.out hb2)
  have HK := Lib.hid (HK.out.below hb2)
  have H1 := Lib.hid (H1.out.below hb2)
  have H2 := Lib.hid (MsAt.below12 H2.out hb2)
  have hnx : Below w2.heap.size w2 (w2.alloc (.cells #[.int .i64 0, .int .i64 0, .slice none 0 0] 29)) := (Below.refl _ w2).alloc (Nat.le_refl _) _
  have hny := Bl.new w2 29 #[.int .i64 0, .int .i64 0, .slice none 0 0]
  obtain ⟨b1, hbj⟩ : ∃ b, b = w2.heap.size := ⟨_, rfl⟩
  rw [← hbj] at hny
  have HBJ := Lib.hid hbj.symm
  have HBB := Lib.hid (below_mid12 HBB.out hnx)
  have HK := Lib.hid (HK.out.below hnx)
  have H1 := Lib.hid (H1.out.below hnx)
  have H2 := Lib.hid (MsAt.below12 H2.out hnx)
  have HQ1 := Lib.hid hny
  clear hb2 hnx hny hbj
  go_upto_region 7 with fail
  rw [HBJ.out]
  clear HBJ
  generalize w2.alloc (.cells #[.int .i64 0, .int .i64 0, .slice none 0 0] 29) = w3 at HK H1 H2 HBB HQ1 ⊢
  have HCA := Lib.hid (as2_no (⟨3, src, til, all, mat⟩ : Ask) (by show ¬ (3 : Int) = 2; decide) (.slice xa all.length xc) (.slice ma mat.length mc) _ H1.out H2.out (Nat.le_trans HN.out.1 (by decide)) (Ask.small_rows HN.out) (Nat.le_trans HN.out.2.1 (by decide)))
  rw [← HDV.out] at HCA
  try simp only [] at HCA
  go_wp2_with fail
  refine HCA.out.mono ?_
  rintro e w2 ⟨rfl, hb2⟩
  clear HCA
  have HBB := Lib.hid (below_mid12 HBB.out hb2)
  have HK := Lib.hid (HK.out.below hb2)
  have H1 := Lib.hid (H1.out.below hb2)
  have H2 := Lib.hid (MsAt.below12 H2.out hb2)
  have HQ1 := Lib.hid (HQ1.out.below hb2)
  have hnx : Below w2.heap.size w2 (w2.alloc (.cells #[.int .i64 0, .int .i64 0, .slice none 0 0] 33)) := (Below.refl _ w2).alloc (Nat.le_refl _) _
  have hny := Bl.new w2 33 #[.int .i64 0, .int .i64 0, .slice none 0 0]
  obtain ⟨b2, hbj⟩ : ∃ b, b = w2.heap.size := ⟨_, rfl⟩
  rw [← hbj] at hny
  have HBJ := Lib.hid hbj.symm
  have HBB := Lib.hid (below_mid12 HBB.out hnx)
  have HK := Lib.hid (HK.out.below hnx)
  have H1 := Lib.hid (H1.out.below hnx)
  have H2 := Lib.hid (MsAt.below12 H2.out hnx)
  have HQ1 := Lib.hid (HQ1.out.below hnx)
  have HQ2 := Lib.hid hny
  clear hb2 hnx hny hbj
  go_upto_region 8 with fail
  rw [HBJ.out]
  clear HBJ
  generalize w2.alloc (.cells #[.int .i64 0, .int .i64 0, .slice none 0 0] 33) = w3 at HK H1 H2 HQ1 HBB HQ2 ⊢
  have HCA := Lib.hid (as3_yes (⟨3, src, til, all, mat⟩ : Ask) rfl (.slice xa all.length xc) (.slice ma mat.length mc) w3)
  rw [← HDV.out] at HCA
  try simp only [] at HCA
  go_wp2_with fail
  refine HCA.out.mono ?_
  rintro e w2 ⟨rfl, hb2⟩
  clear HCA
  have HBB := Lib.hid (below_mid12 HBB.out hb2)
  have HK := Lib.hid (HK.out.below hb2)
  have H1 := Lib.hid (H1.out.below hb2)
  have H2 := Lib.hid (MsAt.below12 H2.out hb2)
  have HQ1 := Lib.hid (HQ1.out.below hb2)
  have HQ2 := Lib.hid (HQ2.out.below hb2)
  have hnx : Below w2.heap.size w2 (w2.alloc (.cells #[.int .i64 src, .int .i64 til] 37)) := (Below.refl _ w2).alloc (Nat.le_refl _) _
  have hny := Bl.new w2 37 #[.int .i64 src, .int .i64 til]
  obtain ⟨b3, hbj⟩ : ∃ b, b = w2.heap.size := ⟨_, rfl⟩
  rw [← hbj] at hny
  have HBJ := Lib.hid hbj.symm
  have HBB := Lib.hid (below_mid12 HBB.out hnx)
  have HK := Lib.hid (HK.out.below hnx)
  have H1 := Lib.hid (H1.out.below hnx)
  have H2 := Lib.hid (MsAt.below12 H2.out hnx)
  have HQ1 := Lib.hid (HQ1.out.below hnx)
  have HQ2 := Lib.hid (HQ2.out.below hnx)
  have HQ3 := Lib.hid hny
  clear hb2 hnx hny hbj
  go_upto_region 9 with fail
  rw [HBJ.out]
  clear HBJ
  generalize w2.alloc (.cells #[.int .i64 src, .int .i64 til] 37) = w3 at HK H1 H2 HQ1 HQ2 HBB HQ3 ⊢
  have k0 := HK.out.cell 0
  simp only [List.getElem?_toArray, List.getElem?_cons_zero] at k0
  have c0 := fun d os => cell_regrown k0 d os
  have KF := fun d os => Calls.regrown_of (falls_any (⟨3, src, til, all, mat⟩ : Ask) (.slice xa all.length xc) (.slice ma mat.length mc) (grow (redrawn w3 d) os) (H1.out.below (below_regrown w3 d os)) (MsAt.below12 H2.out (below_regrown w3 d os)) (Nat.le_trans HN.out.1 (by decide)) (Ask.small_rows HN.out) (Nat.le_trans HN.out.2.1 (by decide)))
  rw [← HDV.out] at KF
  rw [show decide ((⟨3, src, til, all, mat⟩ : Ask).kd = 1) = false from decide_eq_false (by show ¬ (3 : Int) = 1; decide)] at KF
  clear k0
  refine wp_region_quiet_below hmx (by kernel_rfl) ?_
  repeat (quiet_step (with_reducible exact KF _ _))
  refine wpQuiet_nil ?_
  intro _ hw'
  obtain ⟨⟨dq, osq⟩, hw''⟩ := hw'
  subst hw''
  clear c0 KF
  have hb5 := below_regrown w3 dq osq
  have HBB := Lib.hid (below_mid12 HBB.out hb5)
  have HK := Lib.hid (HK.out.below hb5)
  have H1 := Lib.hid (H1.out.below hb5)
  have H2 := Lib.hid (MsAt.below12 H2.out hb5)
  have HQ1 := Lib.hid (HQ1.out.below hb5)
  have HQ2 := Lib.hid (HQ2.out.below hb5)
  have HQ3 := Lib.hid (HQ3.out.below hb5)
  clear hb5
  generalize grow (redrawn w3 dq) osq = w5 at HK H1 H2 HQ1 HQ2 HQ3 HBB ⊢
  have k0 := HK.out.cell 0
  simp only [List.getElem?_toArray, List.getElem?_cons_zero] at k0
  go_upto_region 17 with fail
  clear k0
  have c0 := HK.out.cell 0
  have c1 := HK.out.cell 1
  have c2 := HK.out.cell 2
  have c3 := HK.out.cell 3
  have c4 := HK.out.cell 4
  simp only [List.getElem?_toArray, List.getElem?_cons_succ, List.getElem?_cons_zero] at c0 c1 c2 c3 c4
  have d0 := HQ1.out.cell 0
  have d1 := HQ1.out.cell 1
  have d2 := HQ1.out.cell 2
  simp only [List.getElem?_toArray, List.getElem?_cons_succ, List.getElem?_cons_zero] at d0 d1 d2
  have g0 := HQ2.out.cell 0
  have g1 := HQ2.out.cell 1
  have g2 := HQ2.out.cell 2
  simp only [List.getElem?_toArray, List.getElem?_cons_succ, List.getElem?_cons_zero] at g0 g1 g2
  have h0 := HQ3.out.cell 0
  have h1 := HQ3.out.cell 1
  simp only [List.getElem?_toArray, List.getElem?_cons_succ, List.getElem?_cons_zero] at h0 h1
  go_wp2_with fail
  go_ret
  exact ⟨rfl, HBB.out⟩

set_option maxHeartbeats 8000000 in
set_option maxRecDepth 100000 in
theorem types_0 (kd : Int) (src til : Int) (all : List (List ByteArray)) (mat : List Mt) (av mv : Value) (w : World) (hkd : ¬ (1 ≤ kd ∧ kd ≤ 3)) (h1 : TextsAt w av all) (h2 : MsAt w mv mat) :
    Calls Try.prog 3 #[.agg ((⟨kd, src, til, all, mat⟩ : Ask).cells av mv)] w fun e w' => e = .returned (.bool true) ∧ Below w.heap.size w w' := by
  have hmx : Try.prog.follows .mixedOrders = true := by kernel_rfl
  have HKD := Lib.hid hkd
  have t1 : (kd == 1) = false := by simp; omega
  have t2 : (kd == 2) = false := by simp; omega
  have t3 : (kd == 3) = false := by simp; omega
  have t4 : (kd != 1) = true := by simp; omega
  clear hkd
  obtain ⟨xa, xc, rfl, hz1, hz2⟩ := id h1
  obtain ⟨ma, mc, rfl, hz3, hz4⟩ := id h2
  clear hz1 hz2 hz3 hz4
  obtain ⟨w1, hw1⟩ : ∃ w1, w1 = w.alloc (.cells #[.int .i64 kd, .int .i64 src, .int .i64 til, .slice xa all.length xc, .slice ma mat.length mc] 25) := ⟨_, rfl⟩
  have hb1 : Below w.heap.size w w1 := by rw [hw1]; exact (Below.refl _ w).alloc (Nat.le_refl _) _
  have hk1 : Bl w1 w.heap.size 25 #[.int .i64 kd, .int .i64 src, .int .i64 til, .slice xa all.length xc, .slice ma mat.length mc] := by rw [hw1]; exact Bl.new w 25 _
  have HW1 := Lib.hid hw1.symm
  have HBB := Lib.hid hb1
  have HK := Lib.hid hk1
  have H1 := Lib.hid (h1.below hb1)
  have H2 := Lib.hid (MsAt.below12 h2 hb1)
  have HAL := Lib.hid (alive12 w1)
  clear hw1 hb1 hk1 h1 h2
  simp only [Ask.cells]
  go_enter Try.func3, Try.ntmps3
  go_upto_region 1 with fail
  rw [HW1.out]
  clear HW1
  go_wp2_with fail
  refine HAL.out.mono ?_
  rintro e w2 ⟨rfl, hb2⟩
  have HBB := Lib.hid (below_mid12 HBB.out hb2)
  have HK := Lib.hid (HK.out.below hb2)
  have H1 := Lib.hid (H1.out.below hb2)
  have H2 := Lib.hid (MsAt.below12 H2.out hb2)
  clear hb2 HAL
  have c0 := HK.out.cell 0
  have c1 := HK.out.cell 1
  have c2 := HK.out.cell 2
  have c3 := HK.out.cell 3
  have c4 := HK.out.cell 4
  simp only [List.getElem?_toArray, List.getElem?_cons_succ, List.getElem?_cons_zero] at c0 c1 c2 c3 c4
  have HGR := Lib.hid (askGreat_any (⟨kd, src, til, all, mat⟩ : Ask) _ w2 ⟨_, _, rfl, H1.out, H2.out⟩)
  simp only [Ask.cells] at HGR
  cases hg : (⟨kd, src, til, all, mat⟩ : Ask).great with
  | true =>
    rw [hg] at HGR
    clear hg
    go_wp2_with (go_at_call 6; refine HGR.out.mono ?_; rintro e w3 ⟨rfl, hb3⟩)
    go_ret
    exact ⟨rfl, below_mid12 HBB.out hb3⟩
  | false =>
  rw [hg] at HGR
  have HN := Lib.hid (Ask.small_of hg)
  clear hg
  go_wp2_with fail
  refine HGR.out.mono ?_
  rintro e w3 ⟨rfl, hb3⟩
  have HBB := Lib.hid (below_mid12 HBB.out hb3)
  have HK := Lib.hid (HK.out.below hb3)
  have H1 := Lib.hid (H1.out.below hb3)
  have H2 := Lib.hid (MsAt.below12 H2.out hb3)
  clear hb3 HGR c0 c1 c2 c3 c4
  have c0 := HK.out.cell 0
  have c1 := HK.out.cell 1
  have c2 := HK.out.cell 2
  have c3 := HK.out.cell 3
  have c4 := HK.out.cell 4
  simp only [List.getElem?_toArray, List.getElem?_cons_succ, List.getElem?_cons_zero] at c0 c1 c2 c3 c4
  have HAN := Lib.hid (anyOf_any (⟨kd, src, til, all, mat⟩ : Ask) (.slice xa all.length xc) (.slice ma mat.length mc) w3 ⟨_, _, _, rfl⟩ ⟨_, _, _, rfl⟩)
  simp only [Ask.cells] at HAN
  obtain ⟨dv, hdv⟩ : ∃ v, v = (⟨kd, src, til, all, mat⟩ : Ask).dyn (.slice xa all.length xc) (.slice ma mat.length mc) := ⟨_, rfl⟩
  rw [← hdv] at HAN
  have HDV := Lib.hid hdv
  clear hdv
  go_wp2_with fail
  refine HAN.out.mono ?_
  rintro e w4 ⟨rfl, hb4⟩
  have HBB := Lib.hid (below_mid12 HBB.out hb4)
  have HK := Lib.hid (HK.out.below hb4)
  have H1 := Lib.hid (H1.out.below hb4)
  have H2 := Lib.hid (MsAt.below12 H2.out hb4)
  clear hb4 HAN c0 c1 c2 c3 c4
  have HCA := Lib.hid (as1_no (⟨kd, src, til, all, mat⟩ : Ask) (by have := HKD.out; show ¬ kd = 1; omega) (.slice xa all.length xc) (.slice ma mat.length mc) _ H1.out H2.out (Nat.le_trans HN.out.1 (by decide)) (Ask.small_rows HN.out) (Nat.le_trans HN.out.2.1 (by decide)))
  rw [← HDV.out] at HCA
  try simp only [] at HCA
  go_wp2_with fail
  refine HCA.out.mono ?_
  rintro e w2 ⟨rfl, hb2⟩
  clear HCA
  have HBB := Lib.hid (below_mid12 HBB.out hb2)
  have HK := Lib.hid (HK.out.below hb2)
  have H1 := Lib.hid (H1.out.below hb2)
  have H2 := Lib.hid (MsAt.below12 H2.out hb2)
  have hnx : Below w2.heap.size w2 (w2.alloc (.cells #[.int .i64 0, .int .i64 0, .slice none 0 0] 29)) := (Below.refl _ w2).alloc (Nat.le_refl _) _
  have hny := Bl.new w2 29 #[.int .i64 0, .int .i64 0, .slice none 0 0]
  obtain ⟨b1, hbj⟩ : ∃ b, b = w2.heap.size := ⟨_, rfl⟩
  rw [← hbj] at hny
  have HBJ := Lib.hid hbj.symm
  have HBB := Lib.hid (below_mid12 HBB.out hnx)
  have HK := Lib.hid (HK.out.below hnx)
  have H1 := Lib.hid (H1.out.below hnx)
  have H2 := Lib.hid (MsAt.below12 H2.out hnx)
  have HQ1 := Lib.hid hny
  clear hb2 hnx hny hbj
  go_upto_region 7 with fail
  rw [HBJ.out]
  clear HBJ
  generalize w2.alloc (.cells #[.int .i64 0, .int .i64 0, .slice none 0 0] 29) = w3 at HK H1 H2 HBB HQ1 ⊢
  have HCA := Lib.hid (as2_no (⟨kd, src, til, all, mat⟩ : Ask) (by have := HKD.out; show ¬ kd = 2; omega) (.slice xa all.length xc) (.slice ma mat.length mc) _ H1.out H2.out (Nat.le_trans HN.out.1 (by decide)) (Ask.small_rows HN.out) (Nat.le_trans HN.out.2.1 (by decide)))
  rw [← HDV.out] at HCA
  try simp only [] at HCA
  go_wp2_with fail
  refine HCA.out.mono ?_
  rintro e w2 ⟨rfl, hb2⟩
  clear HCA
  have HBB := Lib.hid (below_mid12 HBB.out hb2)
  have HK := Lib.hid (HK.out.below hb2)
  have H1 := Lib.hid (H1.out.below hb2)
  have H2 := Lib.hid (MsAt.below12 H2.out hb2)
  have HQ1 := Lib.hid (HQ1.out.below hb2)
  have hnx : Below w2.heap.size w2 (w2.alloc (.cells #[.int .i64 0, .int .i64 0, .slice none 0 0] 33)) := (Below.refl _ w2).alloc (Nat.le_refl _) _
  have hny := Bl.new w2 33 #[.int .i64 0, .int .i64 0, .slice none 0 0]
  obtain ⟨b2, hbj⟩ : ∃ b, b = w2.heap.size := ⟨_, rfl⟩
  rw [← hbj] at hny
  have HBJ := Lib.hid hbj.symm
  have HBB := Lib.hid (below_mid12 HBB.out hnx)
  have HK := Lib.hid (HK.out.below hnx)
  have H1 := Lib.hid (H1.out.below hnx)
  have H2 := Lib.hid (MsAt.below12 H2.out hnx)
  have HQ1 := Lib.hid (HQ1.out.below hnx)
  have HQ2 := Lib.hid hny
  clear hb2 hnx hny hbj
  go_upto_region 8 with fail
  rw [HBJ.out]
  clear HBJ
  generalize w2.alloc (.cells #[.int .i64 0, .int .i64 0, .slice none 0 0] 33) = w3 at HK H1 H2 HQ1 HBB HQ2 ⊢
  have HCA := Lib.hid (as3_no (⟨kd, src, til, all, mat⟩ : Ask) (by have := HKD.out; show ¬ kd = 3; omega) (.slice xa all.length xc) (.slice ma mat.length mc) _ H1.out H2.out (Nat.le_trans HN.out.1 (by decide)) (Ask.small_rows HN.out) (Nat.le_trans HN.out.2.1 (by decide)))
  rw [← HDV.out] at HCA
  try simp only [] at HCA
  go_wp2_with fail
  refine HCA.out.mono ?_
  rintro e w2 ⟨rfl, hb2⟩
  clear HCA
  have HBB := Lib.hid (below_mid12 HBB.out hb2)
  have HK := Lib.hid (HK.out.below hb2)
  have H1 := Lib.hid (H1.out.below hb2)
  have H2 := Lib.hid (MsAt.below12 H2.out hb2)
  have HQ1 := Lib.hid (HQ1.out.below hb2)
  have HQ2 := Lib.hid (HQ2.out.below hb2)
  have hnx : Below w2.heap.size w2 (w2.alloc (.cells #[.int .i64 0, .int .i64 0] 37)) := (Below.refl _ w2).alloc (Nat.le_refl _) _
  have hny := Bl.new w2 37 #[.int .i64 0, .int .i64 0]
  obtain ⟨b3, hbj⟩ : ∃ b, b = w2.heap.size := ⟨_, rfl⟩
  rw [← hbj] at hny
  have HBJ := Lib.hid hbj.symm
  have HBB := Lib.hid (below_mid12 HBB.out hnx)
  have HK := Lib.hid (HK.out.below hnx)
  have H1 := Lib.hid (H1.out.below hnx)
  have H2 := Lib.hid (MsAt.below12 H2.out hnx)
  have HQ1 := Lib.hid (HQ1.out.below hnx)
  have HQ2 := Lib.hid (HQ2.out.below hnx)
  have HQ3 := Lib.hid hny
  clear hb2 hnx hny hbj
  go_upto_region 9 with fail
  rw [HBJ.out]
  clear HBJ
  generalize w2.alloc (.cells #[.int .i64 0, .int .i64 0] 37) = w3 at HK H1 H2 HQ1 HQ2 HBB HQ3 ⊢
  have k0 := HK.out.cell 0
  simp only [List.getElem?_toArray, List.getElem?_cons_zero] at k0
  have c0 := fun d os => cell_regrown k0 d os
  have KF := fun d os => Calls.regrown_of (falls_any (⟨kd, src, til, all, mat⟩ : Ask) (.slice xa all.length xc) (.slice ma mat.length mc) (grow (redrawn w3 d) os) (H1.out.below (below_regrown w3 d os)) (MsAt.below12 H2.out (below_regrown w3 d os)) (Nat.le_trans HN.out.1 (by decide)) (Ask.small_rows HN.out) (Nat.le_trans HN.out.2.1 (by decide)))
  rw [← HDV.out] at KF
  rw [show decide ((⟨kd, src, til, all, mat⟩ : Ask).kd = 1) = false from decide_eq_false (by show ¬ (kd : Int) = 1; have := HKD.out; omega)] at KF
  clear k0
  refine wp_region_quiet_below hmx (by kernel_rfl) ?_
  repeat (quiet_step (with_reducible exact KF _ _))
  refine wpQuiet_nil ?_
  intro _ hw'
  obtain ⟨⟨dq, osq⟩, hw''⟩ := hw'
  subst hw''
  clear c0 KF
  have hb5 := below_regrown w3 dq osq
  have HBB := Lib.hid (below_mid12 HBB.out hb5)
  have HK := Lib.hid (HK.out.below hb5)
  have H1 := Lib.hid (H1.out.below hb5)
  have H2 := Lib.hid (MsAt.below12 H2.out hb5)
  have HQ1 := Lib.hid (HQ1.out.below hb5)
  have HQ2 := Lib.hid (HQ2.out.below hb5)
  have HQ3 := Lib.hid (HQ3.out.below hb5)
  clear hb5
  generalize grow (redrawn w3 dq) osq = w5 at HK H1 H2 HQ1 HQ2 HQ3 HBB ⊢
  have k0 := HK.out.cell 0
  simp only [List.getElem?_toArray, List.getElem?_cons_zero] at k0
  go_upto_region 18 with fail
  clear k0
  have c0 := HK.out.cell 0
  have c1 := HK.out.cell 1
  have c2 := HK.out.cell 2
  have c3 := HK.out.cell 3
  have c4 := HK.out.cell 4
  simp only [List.getElem?_toArray, List.getElem?_cons_succ, List.getElem?_cons_zero] at c0 c1 c2 c3 c4
  have d0 := HQ1.out.cell 0
  have d1 := HQ1.out.cell 1
  have d2 := HQ1.out.cell 2
  simp only [List.getElem?_toArray, List.getElem?_cons_succ, List.getElem?_cons_zero] at d0 d1 d2
  have g0 := HQ2.out.cell 0
  have g1 := HQ2.out.cell 1
  have g2 := HQ2.out.cell 2
  simp only [List.getElem?_toArray, List.getElem?_cons_succ, List.getElem?_cons_zero] at g0 g1 g2
  have h0 := HQ3.out.cell 0
  have h1 := HQ3.out.cell 1
  simp only [List.getElem?_toArray, List.getElem?_cons_succ, List.getElem?_cons_zero] at h0 h1
  go_wp2_with fail
  go_ret
  exact ⟨rfl, HBB.out⟩

theorem types_any (a : Ask) (v : Value) (w : World) (h : AskAt w v a) : Calls Try.prog 3 #[v] w fun e w' => e = .returned (.bool true) ∧ Below w.heap.size w w' := by
  obtain ⟨kd, src, til, all, mat⟩ := a
  obtain ⟨av, mv, rfl, h1, h2⟩ := h
  by_cases k1 : kd = 1
  · subst k1; exact types_1 src til all mat av mv w h1 h2
  by_cases k2 : kd = 2
  · subst k2; exact types_2 src til all mat av mv w h1 h2
  by_cases k3 : kd = 3
  · subst k3; exact types_3 src til all mat av mv w h1 h2
  · exact types_0 kd src til all mat av mv w (by omega) h1 h2

end Go.Proofs.Ytaghogfkkmphoaa.E4
