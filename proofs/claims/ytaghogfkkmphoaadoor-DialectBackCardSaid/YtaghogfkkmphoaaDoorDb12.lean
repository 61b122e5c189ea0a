/-
  DialectBack.
-/
import Derived.Test.YtaghogfkkmphoaaDoorGd12
import Derived.Test.YtaghogfkkmphoaaDoorMn12
import Derived.Test.YtaghogfkkmphoaaDoorBd12
import Derived.Test.YtaghogfkkmphoaaDoorNx12
import Derived.Lib.QuietBelow
namespace Go.Proofs.YtaghogfkkmphoaaDoor.E4
open Go.RowKit Go
open Go.Sort (grow)
attribute [local irreducible] wpQuiet

set_option maxHeartbeats 8000000 in
set_option maxRecDepth 100000 in
theorem back_walk12 (a : Ask) (av mv : Value) (w : World) (h1 : TextsAt w av a.all) (h2 : MsAt w mv a.mat) (hT : Lib.Utf8Tabs 0 1 w) :
    Calls Tryd.prog 5 #[.agg (a.cells av mv)] w fun x w' => x = .returned (.bool true) ∧ Below w.heap.size w w' := by
  have hmx : Tryd.prog.follows .mixedOrders = true := by kernel_rfl
  obtain ⟨xa, xc, rfl, hz1, hz2⟩ := id h1
  obtain ⟨ma, mc, rfl, hz3, hz4⟩ := id h2
  clear hz1 hz2 hz3 hz4
  obtain ⟨w1, hw1⟩ : ∃ w1, w1 = w.alloc (.cells #[.int .i64 a.kd, .int .i64 a.src, .int .i64 a.til, .slice xa a.all.length xc, .slice ma a.mat.length mc] 25) := ⟨_, rfl⟩
  have hb1 : Below w.heap.size w w1 := by rw [hw1]; exact (Below.refl _ w).alloc (Nat.le_refl _) _
  have ha1 : Bl w1 w.heap.size 25 #[.int .i64 a.kd, .int .i64 a.src, .int .i64 a.til, .slice xa a.all.length xc, .slice ma a.mat.length mc] := by rw [hw1]; exact Bl.new w 25 _
  have HA := Lib.hid ha1
  have H1 := Lib.hid (h1.below hb1)
  have H2 := Lib.hid (MsAt.below12 h2 hb1)
  have HT := Lib.hid (Utf8Tabs_below hT hb1)
  have HBB := Lib.hid hb1
  have HW1 := Lib.hid hw1.symm
  have HAL := Lib.hid (alive12 w1)
  clear hw1 hb1 ha1 h1 h2 hT
  simp only [Ask.cells]
  go_enter Tryd.func5, Tryd.ntmps5
  go_upto_region 1 with fail
  rw [HW1.out]
  clear HW1
  go_wp2_with fail
  refine HAL.out.mono ?_
  rintro x w4 ⟨rfl, hb⟩
  have HBB := Lib.hid (below_mid12 HBB.out hb)
  have HA := Lib.hid (HA.out.below hb)
  have H1 := Lib.hid (H1.out.below hb)
  have H2 := Lib.hid (MsAt.below12 H2.out hb)
  have HT := Lib.hid (Utf8Tabs_below HT.out hb)
  clear hb HAL
  have c0 := HA.out.cell 0
  have c1 := HA.out.cell 1
  have c2 := HA.out.cell 2
  have c3 := HA.out.cell 3
  have c4 := HA.out.cell 4
  simp only [List.getElem?_toArray, List.getElem?_cons_succ, List.getElem?_cons_zero] at c0 c1 c2 c3 c4
  have HGR := Lib.hid (askGreat_any a _ w4 ⟨_, _, rfl, H1.out, H2.out⟩)
  simp only [Ask.cells] at HGR
  cases hg : a.great with
  | true =>
    rw [hg] at HGR
    clear hg
    go_wp2_with (go_at_call 8; refine HGR.out.mono ?_; rintro x wz ⟨rfl, hbz⟩)
    go_ret
    exact ⟨rfl, below_mid12 HBB.out hbz⟩
  | false =>
  rw [hg] at HGR
  have HN := Lib.hid (Ask.small_of hg)
  clear hg
  go_wp2_with fail
  refine HGR.out.mono ?_
  rintro x w5 ⟨rfl, hb⟩
  have HBB := Lib.hid (below_mid12 HBB.out hb)
  have HA := Lib.hid (HA.out.below hb)
  have H1 := Lib.hid (H1.out.below hb)
  have H2 := Lib.hid (MsAt.below12 H2.out hb)
  have HT := Lib.hid (Utf8Tabs_below HT.out hb)
  clear hb HGR c0 c1 c2 c3 c4
  have c0 := HA.out.cell 0
  have c1 := HA.out.cell 1
  have c2 := HA.out.cell 2
  have c3 := HA.out.cell 3
  have c4 := HA.out.cell 4
  simp only [List.getElem?_toArray, List.getElem?_cons_succ, List.getElem?_cons_zero] at c0 c1 c2 c3 c4
  have HGR := Lib.hid (askGood_any (isT := isTx) (Tb := fun W => Lib.Utf8Tabs 0 1 W) (fun W W' hb hT => Utf8Tabs_below hT hb) (fun s W hs hT => isText_any s (by omega) W hT) a _ w5 ⟨_, _, rfl, H1.out, H2.out⟩ HT.out)
  simp only [Ask.cells] at HGR
  cases hg : a.good isTx with
  | false =>
    rw [hg] at HGR
    clear hg
    go_wp2_with (go_at_call 15; refine HGR.out.mono ?_; rintro x wz ⟨rfl, hbz⟩)
    go_ret
    exact ⟨rfl, below_mid12 HBB.out hbz⟩
  | true =>
  rw [hg] at HGR
  have HO := Lib.hid (Ask.ok_of hg)
  have HGD := Lib.hid hg
  clear hg
  go_wp2_with fail
  refine HGR.out.mono ?_
  rintro x w6 ⟨rfl, hb⟩
  have HBB := Lib.hid (below_mid12 HBB.out hb)
  have HA := Lib.hid (HA.out.below hb)
  have H1 := Lib.hid (H1.out.below hb)
  have H2 := Lib.hid (MsAt.below12 H2.out hb)
  have HT := Lib.hid (Utf8Tabs_below HT.out hb)
  clear hb HGR c0 c1 c2 c3 c4
  have c0 := HA.out.cell 0
  have c1 := HA.out.cell 1
  have c2 := HA.out.cell 2
  have c3 := HA.out.cell 3
  have c4 := HA.out.cell 4
  simp only [List.getElem?_toArray, List.getElem?_cons_succ, List.getElem?_cons_zero] at c0 c1 c2 c3 c4
  obtain ⟨dva, hdva⟩ : ∃ v, v = a.dyn (.slice xa a.all.length xc) (.slice ma a.mat.length mc) := ⟨_, rfl⟩
  have HAA := Lib.hid (anyOf_any a (.slice xa a.all.length xc) (.slice ma a.mat.length mc) w6 ⟨_, _, _, rfl⟩ ⟨_, _, _, rfl⟩)
  rw [← hdva] at HAA
  have hpa : ∀ W, Below w6.heap.size w6 W → Calls Tryd.prog 17 #[.slice none 0 0, a.dyn (.slice xa a.all.length xc) (.slice ma a.mat.length mc)] W fun e w' => ∃ u, e = .returned u ∧ Bs 0 w' u a.bytes ∧ Below W.heap.size W w' := fun W hW => put_nil a W (H1.out.below hW) (MsAt.below12 H2.out hW) HO.out
  rw [← hdva] at hpa
  have HPA := Lib.hid hpa
  clear hpa hdva
  simp only [Ask.cells] at HAA
  obtain ⟨sa, hsa⟩ : ∃ s, s = bs a.bytes := ⟨_, rfl⟩
  have HSA : Hid (sa.data.toList = a.bytes) := Lib.hid (by rw [hsa]; exact bs_data _)
  have HLN : Hid (sa.size ≤ 70368744177664) := Lib.hid (by rw [hsa, bs_size]; have := Ask.bytes_len HO.out; omega)
  clear hsa
  go_wp2_with fail
  refine HAA.out.mono ?_
  rintro x w7 ⟨rfl, hb⟩
  have HPA := Lib.hid (HPA.out w7 hb)
  have HBB := Lib.hid (below_mid12 HBB.out hb)
  have HA := Lib.hid (HA.out.below hb)
  have H1 := Lib.hid (H1.out.below hb)
  have H2 := Lib.hid (MsAt.below12 H2.out hb)
  have HT := Lib.hid (Utf8Tabs_below HT.out hb)
  clear hb HAA c0 c1 c2 c3 c4
  go_wp2_with fail
  refine HPA.out.mono ?_
  rintro x w8 ⟨u, rfl, hu, hb⟩
  have hcv := bs_string_of hu sa HSA.out
  have HFR := Lib.hid (from_any sa HLN.out w8)
  have HBB := Lib.hid (below_mid12 HBB.out hb)
  have HA := Lib.hid (HA.out.below hb)
  have H1 := Lib.hid (H1.out.below hb)
  have H2 := Lib.hid (MsAt.below12 H2.out hb)
  have HT := Lib.hid (Utf8Tabs_below HT.out hb)
  clear hb HPA hu
  go_wp2_with fail
  refine HFR.out.mono ?_
  rintro x w9 ⟨rfl, hsz, hrd, hge⟩
  have HGE := Lib.hid hge
  have HSZ := Lib.hid hsz
  have HGT := Lib.hid (ownGet_any w8.heap.size sa.data.toList false w9 hrd (fun w' hc => Utf8Tabs_below HT.out (hge.trans (hc.below (Nat.le_refl _) (by omega)))))
  clear hrd hge hsz HFR hcv
  go_wp2_with fail
  refine HGT.out.mono ?_
  rintro x w10 ⟨x', av', mv', l', b', rfl, hrk, hrd, hch, hx1, hx2⟩
  have hx1 := hx1.self
  have hx2 := hx2.self
  have hq := rak_reads (x := a.plain) (r := []) ⟨Ask.plain_ok HGD.out, Ask.plain_plain a⟩ (by rw [List.append_nil, HSA.out, Ask.plain_bytes HO.out.kd]) hrk
  obtain ⟨rfl, rfl, rfl⟩ := hq
  have hgot : gotD a.plain av' mv' false = .tuple #[a.plain.dyn av' mv', .bool true] := by
    unfold gotD
    rw [Ask.good_plain HGD.out]
    rfl
  rw [hgot]
  have hb : Below w8.heap.size w8 w10 := HGE.out.trans (hch.below (Nat.le_refl _) (by have := HSZ.out; omega))
  have HBB := Lib.hid (below_mid12 HBB.out hb)
  have HA := Lib.hid (HA.out.below hb)
  have H1 := Lib.hid (H1.out.below hb)
  have H2 := Lib.hid (MsAt.below12 H2.out hb)
  have HT := Lib.hid (Utf8Tabs_below HT.out hb)
  have HRD := Lib.hid hrd
  have HRL : Hid (w8.heap.size < w10.heap.size) := Lib.hid hrd.lt
  obtain ⟨xb, xd, rfl, hz1, hz2⟩ := id hx1
  obtain ⟨mb, md, rfl, hz3, hz4⟩ := id hx2
  clear hz1 hz2 hz3 hz4
  have HX1 := Lib.hid hx1
  have HX2 := Lib.hid hx2
  obtain ⟨dvx, hdvx⟩ : ∃ v, v = a.plain.dyn (.slice xb a.plain.all.length xd) (.slice mb a.plain.mat.length md) := ⟨_, rfl⟩
  have KO := fun d os => Calls.regrown_of (ofAny_any a.plain xb mb a.plain.all.length xd a.plain.mat.length md (grow (redrawn w10 d) os))
  rw [← hdvx] at KO
  rw [← hdvx]
  clear hch hb hrd hrk hgot HGT hdvx hx1 hx2
  obtain ⟨pv, hpv⟩ : ∃ v, v = a.plain.plain.cells (a.plain.pav (.slice xb a.plain.all.length xd)) (a.plain.pmv (.slice mb a.plain.mat.length md)) := ⟨_, rfl⟩
  have KS := fun d os => Calls.regrown_of (sameT a.plain.plain a _ _ _ _ (grow (redrawn w10 d) os) (plain_texts (HX1.out.below (below_regrown w10 d os))) (plain_mats (MsAt.below12 HX2.out (below_regrown w10 d os))) (H1.out.below (below_regrown w10 d os)) (MsAt.below12 H2.out (below_regrown w10 d os)) (by rw [Ask.plain_plain, Ask.plain_plain]))
  rw [← hpv] at KO KS
  clear hpv
  simp only [Ask.cells] at KS
  have KE : ∀ d os, Calls Tryd.prog 24 #[.pointer (some ⟨w8.heap.size, 0, none⟩)] (grow (redrawn w10 d) os) fun e w' => e = .returned (.bool true) ∧ ∃ p : Regrown, w' = grow (redrawn w10 p.d) p.os := fun d os => Calls.regrown_of ((end_any w8.heap.size [] false _ (HRD.out.below (below_regrown w10 d os) HRL.out)).mono fun e w' ⟨he, hw⟩ => ⟨he, hw ▸ Below.refl _ _⟩)
  have c0' := HA.out.cell 0
  have c1' := HA.out.cell 1
  have c2' := HA.out.cell 2
  have c3' := HA.out.cell 3
  have c4' := HA.out.cell 4
  simp only [List.getElem?_toArray, List.getElem?_cons_succ, List.getElem?_cons_zero] at c0' c1' c2' c3' c4'
  have c0 := fun d os => cell_regrown c0' d os
  have c1 := fun d os => cell_regrown c1' d os
  have c2 := fun d os => cell_regrown c2' d os
  have c3 := fun d os => cell_regrown c3' d os
  have c4 := fun d os => cell_regrown c4' d os
  clear c0' c1' c2' c3' c4'
  go_upto_region 7 with fail
  refine wp_region_quiet_below hmx (by kernel_rfl) ?_
  repeat (quiet_step (with_reducible first | exact KO _ _ | exact KS _ _ | exact KE _ _))
  refine wpQuiet_nil ?_
  intro _ hw'
  obtain ⟨⟨dq, osq⟩, hw'⟩ := hw'
  subst hw'
  have HBZ := Lib.hid (below_mid12 HBB.out (below_regrown w10 dq osq))
  clear c0 c1 c2 c3 c4 KO KS KE
  go_wp2_with fail
  go_ret
  exact ⟨rfl, HBZ.out⟩

end Go.Proofs.YtaghogfkkmphoaaDoor.E4
