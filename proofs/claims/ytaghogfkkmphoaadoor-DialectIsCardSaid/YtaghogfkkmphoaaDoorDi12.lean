/-
  DialectIs.
-/
import Derived.Test.YtaghogfkkmphoaaDoorKi12
import Derived.Test.YtaghogfkkmphoaaDoorMn12
import Derived.Test.YtaghogfkkmphoaaDoorBd12
import Derived.Test.YtaghogfkkmphoaaDoorGv12
import Derived.Test.YtaghogfkkmphoaaDoorNs
import Derived.Lib.QuietBelow
namespace Go.Proofs.YtaghogfkkmphoaaDoor.E4
open Go.RowKit Go
open Go.Sort (grow)
attribute [local irreducible] wpQuiet

set_option maxHeartbeats 8000000 in
set_option maxRecDepth 100000 in
theorem is_walk12 (a : Ask) (av mv : Value) (e : Ent) (lv : Value) (b : ByteArray) (w : World) (h1 : TextsAt w av a.all) (h2 : MsAt w mv a.mat) (h3 : LabsAt (fun _ => True) w lv e.labs) (hT : Lib.Utf8Tabs 0 1 w) :
    Calls Tryd.prog 3 #[.agg (a.cells av mv), e.val lv, .string b] w fun x w' => x = .returned (.bool true) ∧ Below w.heap.size w w' := by
  have hmx : Tryd.prog.follows .mixedOrders = true := by kernel_rfl
  obtain ⟨xa, xc, rfl, hz1, hz2⟩ := id h1
  obtain ⟨ma, mc, rfl, hz3, hz4⟩ := id h2
  obtain ⟨la, lc, rfl, hz5, hz6⟩ := id h3
  clear hz1 hz2 hz3 hz4 hz5 hz6
  obtain ⟨w1, hw1⟩ : ∃ w1, w1 = w.alloc (.cells #[.int .i64 a.kd, .int .i64 a.src, .int .i64 a.til, .slice xa a.all.length xc, .slice ma a.mat.length mc] 25) := ⟨_, rfl⟩
  have hs1 : w1.heap.size = w.heap.size + 1 := by rw [hw1]; simp
  have hb1 : Below w.heap.size w w1 := by rw [hw1]; exact (Below.refl _ w).alloc (Nat.le_refl _) _
  have ha1 : Bl w1 w.heap.size 25 #[.int .i64 a.kd, .int .i64 a.src, .int .i64 a.til, .slice xa a.all.length xc, .slice ma a.mat.length mc] := by rw [hw1]; exact Bl.new w 25 _
  obtain ⟨w2, hw2⟩ : ∃ w2, w2 = w1.alloc (.cells #[.int .i64 e.tm, .slice la e.labs.length lc, .string e.line] 28) := ⟨_, rfl⟩
  have hb2 : Below w1.heap.size w1 w2 := by rw [hw2]; exact (Below.refl _ w1).alloc (Nat.le_refl _) _
  have he2 : Bl w2 (w.heap.size + 1) 28 #[.int .i64 e.tm, .slice la e.labs.length lc, .string e.line] := by rw [hw2, ← hs1]; exact Bl.new w1 28 _
  have hbb := below_mid12 hb1 hb2
  have HA := Lib.hid (ha1.below hb2)
  have HE := Lib.hid he2
  have H1 := Lib.hid (h1.below hbb)
  have H2 := Lib.hid (MsAt.below12 h2 hbb)
  have H3L := Lib.hid (E4.labs_below h3 hbb)
  have HT := Lib.hid (Utf8Tabs_below hT hbb)
  have HBB := Lib.hid hbb
  rw [hw1] at hw2
  have HW2 := Lib.hid hw2.symm
  have HAL := Lib.hid (alive12 w2)
  clear hw1 hw2 hs1 hb1 hb2 ha1 he2 hbb h1 h2 h3 hT
  simp only [Ask.cells, Ent.val]
  go_enter Tryd.func3, Tryd.ntmps3
  go_upto_region 1 with fail
  rw [HW2.out]
  clear HW2
  go_wp2_with fail
  refine HAL.out.mono ?_
  rintro x w4 ⟨rfl, hb⟩
  have HBB := Lib.hid (below_mid12 HBB.out hb)
  have HA := Lib.hid (HA.out.below hb)
  have HE := Lib.hid (HE.out.below hb)
  have H1 := Lib.hid (H1.out.below hb)
  have H2 := Lib.hid (MsAt.below12 H2.out hb)
  have H3L := Lib.hid (E4.labs_below H3L.out hb)
  have HT := Lib.hid (Utf8Tabs_below HT.out hb)
  clear hb HAL
  have c0 := HA.out.cell 0
  have c1 := HA.out.cell 1
  have c2 := HA.out.cell 2
  have c3 := HA.out.cell 3
  have c4 := HA.out.cell 4
  simp only [List.getElem?_toArray, List.getElem?_cons_succ, List.getElem?_cons_zero] at c0 c1 c2 c3 c4
  have d0 := HE.out.cell 0
  have d1 := HE.out.cell 1
  have d2 := HE.out.cell 2
  simp only [List.getElem?_toArray, List.getElem?_cons_succ, List.getElem?_cons_zero] at d0 d1 d2
  have HGR := Lib.hid (askGreat_any a _ w4 ⟨_, _, rfl, H1.out, H2.out⟩)
  simp only [Ask.cells] at HGR
  cases hg : a.great with
  | true =>
    rw [hg] at HGR
    clear hg
    go_wp2_with (go_at_call 8; refine HGR.out.mono ?_; rintro x w5 ⟨rfl, hb5⟩)
    go_ret
    exact ⟨rfl, below_mid12 HBB.out hb5⟩
  | false =>
  rw [hg] at HGR
  have HN := Lib.hid (Ask.small_of hg)
  clear hg
  go_wp2_with fail
  refine HGR.out.mono ?_
  rintro x w5 ⟨rfl, hb⟩
  have HBB := Lib.hid (below_mid12 HBB.out hb)
  have HA := Lib.hid (HA.out.below hb)
  have HE := Lib.hid (HE.out.below hb)
  have H1 := Lib.hid (H1.out.below hb)
  have H2 := Lib.hid (MsAt.below12 H2.out hb)
  have H3L := Lib.hid (E4.labs_below H3L.out hb)
  have HT := Lib.hid (Utf8Tabs_below HT.out hb)
  clear hb HGR c0 c1 c2 c3 c4 d0 d1 d2
  have c0 := HA.out.cell 0
  have c1 := HA.out.cell 1
  have c2 := HA.out.cell 2
  have c3 := HA.out.cell 3
  have c4 := HA.out.cell 4
  simp only [List.getElem?_toArray, List.getElem?_cons_succ, List.getElem?_cons_zero] at c0 c1 c2 c3 c4
  have d0 := HE.out.cell 0
  have d1 := HE.out.cell 1
  have d2 := HE.out.cell 2
  simp only [List.getElem?_toArray, List.getElem?_cons_succ, List.getElem?_cons_zero] at d0 d1 d2
  have HGE := Lib.hid (great_any (e := e) H3L.out)
  simp only [Ent.val] at HGE
  cases hg : e.big with
  | true =>
    rw [hg] at HGE
    clear hg
    go_wp2_with (go_at_call 9; refine HGE.out.mono ?_; rintro x w6 ⟨rfl, hl6⟩)
    go_ret
    exact ⟨rfl, below_mid12 HBB.out (E4.lay_below hl6)⟩
  | false =>
  rw [hg] at HGE
  have HLN : Hid (e.line.size ≤ 1048576) := Lib.hid (by
    unfold Ent.big at hg
    simp only [Bool.or_eq_false_iff, decide_eq_false_iff_not] at hg
    omega)
  clear hg
  go_wp2_with fail
  refine HGE.out.mono ?_
  rintro x w6 ⟨rfl, hl6⟩
  have hb := E4.lay_below hl6
  have HBB := Lib.hid (below_mid12 HBB.out hb)
  have HA := Lib.hid (HA.out.below hb)
  have HE := Lib.hid (HE.out.below hb)
  have H1 := Lib.hid (H1.out.below hb)
  have H2 := Lib.hid (MsAt.below12 H2.out hb)
  have H3L := Lib.hid (E4.labs_below H3L.out hb)
  have HT := Lib.hid (Utf8Tabs_below HT.out hb)
  clear hb hl6 HGE c0 c1 c2 c3 c4 d0 d1 d2
  by_cases g1 : 100 < b.size
  · have d1 : (100 : Int) < (b.size : Int) := by omega
    go_wp2_with fail
    go_ret
    exact ⟨rfl, HBB.out⟩
  have d1 : ¬ (100 : Int) < (b.size : Int) := by omega
  have c0 := HA.out.cell 0
  have c1 := HA.out.cell 1
  have c2 := HA.out.cell 2
  have c3 := HA.out.cell 3
  have c4 := HA.out.cell 4
  simp only [List.getElem?_toArray, List.getElem?_cons_succ, List.getElem?_cons_zero] at c0 c1 c2 c3 c4
  have d0 := HE.out.cell 0
  have d1 := HE.out.cell 1
  have d2 := HE.out.cell 2
  simp only [List.getElem?_toArray, List.getElem?_cons_succ, List.getElem?_cons_zero] at d0 d1 d2
  have HAA := Lib.hid (anyOf_any a (.slice xa a.all.length xc) (.slice ma a.mat.length mc) w6 ⟨_, _, _, rfl⟩ ⟨_, _, _, rfl⟩)
  obtain ⟨dva, hdva⟩ : ∃ v, v = a.dyn (.slice xa a.all.length xc) (.slice ma a.mat.length mc) := ⟨_, rfl⟩
  rw [← hdva] at HAA
  have HDA := Lib.hid hdva
  clear hdva
  simp only [Ask.cells] at HAA
  go_wp2_with fail
  clear d1
  refine HAA.out.mono ?_
  rintro x w7 ⟨rfl, hb⟩
  have HBB := Lib.hid (below_mid12 HBB.out hb)
  have HA := Lib.hid (HA.out.below hb)
  have HE := Lib.hid (HE.out.below hb)
  have H1 := Lib.hid (H1.out.below hb)
  have H2 := Lib.hid (MsAt.below12 H2.out hb)
  have H3L := Lib.hid (E4.labs_below H3L.out hb)
  have HT := Lib.hid (Utf8Tabs_below HT.out hb)
  clear hb HAA c0 c1 c2 c3 c4 d0 d1 d2
  have HTM := Lib.hid (times_any a xa ma a.all.length xc a.mat.length mc w7)
  rw [← HDA.out] at HTM
  by_cases hk : 1 ≤ a.kd ∧ a.kd ≤ 3
  · have htm : a.times = .tuple #[.int .i64 a.src, .int .i64 a.til, .bool true] := by unfold Ask.times Ask.timed; rw [decide_eq_true hk]; rfl
    rw [htm] at HTM
    have hq : ∀ W, (binOp .eql 20 dva .nilIface).run Tryd.prog W = .ok (.bool false) W := fun W => by rw [HDA.out]; exact eqnil_no hk _ _ W
    have HKD : Hid (a.kind = a.kd) := Lib.hid (by unfold Ask.kind; rw [if_pos hk])
    have hqg : ∀ x y, eqGuard .eql 20 x y dva .nilIface = pure () := fun x y => by rw [HDA.out]; exact guard_no hk _ _ x y
    have HQ := Lib.hid hq
    have HQG := Lib.hid hqg
    clear htm hk hq hqg
    go_wp2_with fail
    refine HTM.out.mono ?_
    rintro x w8 ⟨rfl, hb⟩
    have HBB := Lib.hid (below_mid12 HBB.out hb)
    have HA := Lib.hid (HA.out.below hb)
    have HE := Lib.hid (HE.out.below hb)
    have H1 := Lib.hid (H1.out.below hb)
    have H2 := Lib.hid (MsAt.below12 H2.out hb)
    have H3L := Lib.hid (E4.labs_below H3L.out hb)
    have HT := Lib.hid (Utf8Tabs_below HT.out hb)
    clear hb HTM
    have hq := HQ.out
    have hqg := HQG.out
    go_upto_region 9 with fail
    clear hq HQ hqg HQG
    have KA := fun d os => Calls.regrown_of ((kind_any a (.slice xa a.all.length xc) (.slice ma a.mat.length mc) (grow (redrawn w8 d) os)).mono fun x w' ⟨hx, hw⟩ => ⟨hx, hw ▸ Below.refl _ _⟩)
    have KB := fun d os => Calls.regrown_of (ownGood_any a (.slice xa a.all.length xc) (.slice ma a.mat.length mc) (grow (redrawn w8 d) os) (H1.out.below (below_regrown w8 d os)) (MsAt.below12 H2.out (below_regrown w8 d os)) (Utf8Tabs_below HT.out (below_regrown w8 d os)))
    have KC' := fun d os => Calls.regrown_of (askGood_any (isT := isTx) (Tb := fun W => Lib.Utf8Tabs 0 1 W) (fun W W' hb hT => Utf8Tabs_below hT hb) (fun s W hs hT => isText_any s (by omega) W hT) a _ (grow (redrawn w8 d) os) ⟨_, _, rfl, H1.out.below (below_regrown w8 d os), MsAt.below12 H2.out (below_regrown w8 d os)⟩ (Utf8Tabs_below HT.out (below_regrown w8 d os)))
    have HLN2 := HLN.out
    have KD := fun d os => Calls.regrown_of (ownKeeps_any a (.slice xa a.all.length xc) (.slice ma a.mat.length mc) e (.slice la e.labs.length lc) (grow (redrawn w8 d) os) (H1.out.below (below_regrown w8 d os)) (MsAt.below12 H2.out (below_regrown w8 d os)) (E4.labs_below H3L.out (below_regrown w8 d os)) HLN2)
    have KE := fun d os => Calls.regrown_of (askKeeps_any (has := H3.hasB) (labs := fun l e => l.all (keepsM e)) (Tb := fun W => Lib.Utf8Tabs 0 1 W) (fun W W' hb hT => Utf8Tabs_below hT hb) (fun s t W hs hT => H3.refHas_any s t hs W hT) (fun l mv e lv W hm hl => refLabels_any l mv e lv W hm hl) a _ e (.slice la e.labs.length lc) (grow (redrawn w8 d) os) ⟨_, _, rfl, H1.out.below (below_regrown w8 d os), MsAt.below12 H2.out (below_regrown w8 d os)⟩ (E4.labs_below H3L.out (below_regrown w8 d os)) HLN2 (Utf8Tabs_below HT.out (below_regrown w8 d os)))
    rw [← HDA.out] at KA KB KD
    rw [HKD.out] at KA
    rw [keeps_asks] at KE
    simp only [Ask.cells, Ent.val] at KC' KD KE
    obtain ⟨gd, hgd⟩ : ∃ g, g = a.good isTx := ⟨_, rfl⟩
    obtain ⟨ke, hke⟩ : ∃ k, k = a.asks e := ⟨_, rfl⟩
    rw [← hgd] at KB KC'
    rw [← hke] at KD KE
    have HGD := Lib.hid hgd.symm
    clear hgd hke
    have c0' := HA.out.cell 0
    have c1' := HA.out.cell 1
    have c2' := HA.out.cell 2
    have c3' := HA.out.cell 3
    have c4' := HA.out.cell 4
    simp only [List.getElem?_toArray, List.getElem?_cons_succ, List.getElem?_cons_zero] at c0' c1' c2' c3' c4'
    have c0 := fun d os => cell_regrown c0' d os
    have c1 := fun d os => cell_regrown c1' d os
    have c2 := fun d os => cell_regrown c2' d os
    have c3 := fun d os => cell_regrown c3' d os
    have c4 := fun d os => cell_regrown c4' d os
    clear c0' c1' c2' c3' c4'
    have d0' := HE.out.cell 0
    have d1' := HE.out.cell 1
    have d2' := HE.out.cell 2
    simp only [List.getElem?_toArray, List.getElem?_cons_succ, List.getElem?_cons_zero] at d0' d1' d2'
    have d0 := fun d os => cell_regrown d0' d os
    have d1 := fun d os => cell_regrown d1' d os
    have d2 := fun d os => cell_regrown d2' d os
    clear d0' d1' d2'
    refine wp_region_quiet_below hmx (by kernel_rfl) ?_
    repeat (quiet_step (with_reducible first | exact KA _ _ | exact KB _ _ | exact KC' _ _ | exact KD _ _ | exact KE _ _))
    refine wpQuiet_nil ?_
    intro _ hw'
    obtain ⟨⟨dq, osq⟩, hw'⟩ := hw'
    subst hw'
    have hb := below_regrown w8 dq osq
    have HBB := Lib.hid (below_mid12 HBB.out hb)
    have HA := Lib.hid (HA.out.below hb)
    have HE := Lib.hid (HE.out.below hb)
    have H1 := Lib.hid (H1.out.below hb)
    have H2 := Lib.hid (MsAt.below12 H2.out hb)
    have H3L := Lib.hid (E4.labs_below H3L.out hb)
    have HT := Lib.hid (Utf8Tabs_below HT.out hb)
    clear hb c0 c1 c2 c3 c4 d0 d1 d2 KA KB KC' KD KE HLN2
    generalize grow (redrawn w8 dq) osq = w9 at HBB HA HE H1 H2 H3L HT ⊢
    cases gd with
    | false =>
      go_upto_region 11 with fail
      have KC' := fun d os => Calls.regrown_of (askGood_any (isT := isTx) (Tb := fun W => Lib.Utf8Tabs 0 1 W) (fun W W' hb hT => Utf8Tabs_below hT hb) (fun s W hs hT => isText_any s (by omega) W hT) a _ (grow (redrawn w9 d) os) ⟨_, _, rfl, H1.out.below (below_regrown w9 d os), MsAt.below12 H2.out (below_regrown w9 d os)⟩ (Utf8Tabs_below HT.out (below_regrown w9 d os)))
      rw [HGD.out] at KC'
      simp only [Ask.cells] at KC'
      have c0' := HA.out.cell 0
      have c1' := HA.out.cell 1
      have c2' := HA.out.cell 2
      have c3' := HA.out.cell 3
      have c4' := HA.out.cell 4
      simp only [List.getElem?_toArray, List.getElem?_cons_succ, List.getElem?_cons_zero] at c0' c1' c2' c3' c4'
      have c0 := fun d os => cell_regrown c0' d os
      have c1 := fun d os => cell_regrown c1' d os
      have c2 := fun d os => cell_regrown c2' d os
      have c3 := fun d os => cell_regrown c3' d os
      have c4 := fun d os => cell_regrown c4' d os
      clear c0' c1' c2' c3' c4'
      refine wp_region_quiet_below hmx (by kernel_rfl) ?_
      repeat (quiet_step (with_reducible exact KC' _ _))
      refine wpQuiet_nil ?_
      intro _ hw'
      obtain ⟨⟨dq, osq⟩, hw'⟩ := hw'
      subst hw'
      have HBZ := Lib.hid (below_mid12 HBB.out (below_regrown w9 dq osq))
      clear c0 c1 c2 c3 c4 KC'
      go_wp2_with fail
      go_ret
      exact ⟨rfl, HBZ.out⟩
    | true =>
    go_upto_region 11 with fail
    have HOK := Lib.hid (Ask.ok_of HGD.out)
    obtain ⟨sa, hsa⟩ : ∃ s, s = bs a.bytes := ⟨_, rfl⟩
    obtain ⟨sp, hsp⟩ : ∃ s, s = bs (b.data.toList ++ a.bytes) := ⟨_, rfl⟩
    have HSP : Hid (sp.data.toList = b.data.toList ++ a.bytes) := Lib.hid (by rw [hsp]; exact bs_data _)
    have hlb : b.data.toList.length = b.size := (Lib.size_eq b).symm
    have HADD : Hid (∀ W, (Op.stringOp .add b sa).run Tryd.prog W = .ok (.string sp) W) := Lib.hid fun W => by
      have h := bs_add b.data.toList a.bytes (by have := Ask.bytes_len HOK.out; omega) W
      rw [bs_of, ← hsa, ← hsp] at h
      exact h
    have hrg : ∀ W, Below w9.heap.size w9 W → Calls Tryd.prog 15 #[.agg (a.cells (.slice xa a.all.length xc) (.slice ma a.mat.length mc))] W fun x w' => x = .returned (.bool true) ∧ Below W.heap.size W w' := fun W hW => by
      have h := askGood_any (isT := isTx) (Tb := fun W => Lib.Utf8Tabs 0 1 W) (fun W W' hb hT => Utf8Tabs_below hT hb) (fun s W hs hT => isText_any s (by omega) W hT) a _ W ⟨_, _, rfl, H1.out.below hW, MsAt.below12 H2.out hW⟩ (Utf8Tabs_below HT.out hW)
      rw [HGD.out] at h
      exact h
    have hby : ∀ W, Below w9.heap.size w9 W → Calls Tryd.prog 18 #[.agg (a.cells (.slice xa a.all.length xc) (.slice ma a.mat.length mc))] W fun x w' => x = .returned (.string sa) ∧ Below W.heap.size W w' := fun W hW => by
      have h := askBytes_any a _ W ⟨_, _, rfl, H1.out.below hW, MsAt.below12 H2.out hW⟩ HOK.out
      rw [← hsa] at h
      exact h
    have hpu : ∀ W sv, Below w9.heap.size w9 W → isB w9.heap.size b.data.toList a.bytes 5 sv W → Calls Tryd.prog 17 #[sv, dva] W fun x w' => ∃ u, x = .returned u ∧ isB w9.heap.size b.data.toList a.bytes 7 u w' ∧ Below w9.heap.size W w' := fun W sv hW hs => by
      rw [HDA.out]
      exact put_by a hW H1.out H2.out hs (by omega) HOK.out
    simp only [Ask.cells] at hrg hby
    have HRG := Lib.hid hrg
    have HBY := Lib.hid hby
    have HPU := Lib.hid hpu
    clear hrg hby hpu hsa hsp hlb
    have HDR : Hid (Below w9.heap.size w9 w9.drew) := Lib.hid ⟨rfl, rfl, rfl, Nat.le_refl _, fun _ _ => rfl⟩
    refine (wpIn_wide (n := 9)).1 ?_
    refine H3.wpIn_region_flow (fun _ => trivial) (by kernel_rfl) (fun _ _ w' => Below w9.heap.size w9 w') (fun i _ u1 u2 => isR w9.heap.size i u1 u2) (GV [some (.agg #[.int .i64 a.kd, .int .i64 a.src, .int .i64 a.til, .slice xa a.all.length xc, .slice ma a.mat.length mc]), some (.bool true), some (.bool false), some (.bool false), some (.string b), none, some (dva), none, some (.string sp), some (.string b), some (.agg #[.int .i64 a.kd, .int .i64 a.src, .int .i64 a.til, .slice xa a.all.length xc, .slice ma a.mat.length mc]), some (.string sa), some (.string sp), some (.bool true), some (.bool true), some (.bool true)] [5, 7] (isB w9.heap.size b.data.toList a.bytes)) (fun j => j == 15) (by kernel_rfl) (by kernel_rfl) ?hst HDR.out ?step ?fin
    case hst =>
      intro i j ys v w w' hij hanc hned hV hR
      by_cases h7 : i = 7
      · subst h7
        by_cases h5 : j = 5
        · subst h5
          cases hned.symm.trans (by kernel_rfl : _ = false)
        · exact GV.const hij (by simp only [List.mem_cons, List.not_mem_nil, or_false]; omega) hV
      · have hb : Below w.heap.size w w' := by
          unfold isR at hR
          split at hR
          · exact absurd rfl h7
          · exact hR
        exact GV.keep (fun _ _ _ _ h hb => h.below hb) hij hV hb
    case step =>
      refine ⟨?_, ?_, ?_, ?_, ?_, ?_, ?_, ?_, ?_, ?_, ?_, ?_, ?_, ?_, ?_, ?_, trivial⟩
      · intro listed ys X W hsz hsd hi2 hall hX hI hd K hK
        have e3 : X.tmps.getD 3 undef = .pointer (some ⟨w.heap.size, 0, none⟩) := hX 3 (Nat.le_of_ble_eq_true rfl)
        have c0 := Bl.cell (HA.out.below hI) 0
        have c1 := Bl.cell (HA.out.below hI) 1
        have c2 := Bl.cell (HA.out.below hI) 2
        have c3 := Bl.cell (HA.out.below hI) 3
        have c4 := Bl.cell (HA.out.below hI) 4
        simp only [List.getElem?_toArray, List.getElem?_cons_succ, List.getElem?_cons_zero] at c0 c1 c2 c3 c4
        have HI := Lib.hid hI
        refine H3.step_run (.inl rfl) ?_
        clear hX hd hI
        go_simp
        exact hK _ _ HI.out (Below.refl _ _) (GV.of (by decide) (fun u h => by cases h; rfl))
      · intro listed ys X W hsz hsd hi2 hall hX hI hd K hK
        have e102 : X.tmps.getD 102 undef = .agg #[.int .i64 a.kd, .int .i64 a.src, .int .i64 a.til, .slice xa a.all.length xc, .slice ma a.mat.length mc] := (hX 102 (Nat.le_of_ble_eq_true rfl)).trans (GV.val (hd ⟨0, .data⟩ (by simp) rfl) (by decide) rfl)
        have HI := Lib.hid hI
        refine H3.step_run (.inl rfl) ?_
        clear hX hd hI
        go_simp
        refine ⟨trivial, (callsIn_wide.2 (HRG.out W HI.out)).mono ?_⟩
        rintro e u2 ⟨rfl, hb⟩
        exact hK _ _ (HI.out.trans (hb.mono HI.out.size)) hb (GV.of (by decide) (fun u h => by cases h; rfl))
      · intro listed ys X W hsz hsd hi2 hall hX hI hd K hK
        have e103 : X.tmps.getD 103 undef = .bool true := (hX 103 (Nat.le_of_ble_eq_true rfl)).trans (GV.val (hd ⟨1, .data⟩ (by simp) rfl) (by decide) rfl)
        have HI := Lib.hid hI
        refine H3.step_run (.inl rfl) ?_
        clear hX hd hI
        go_simp
        exact hK _ _ HI.out (Below.refl _ _) (GV.of (by decide) (fun u h => by cases h; rfl))
      · intro listed ys X W hsz hsd hi2 hall hX hI hd K hK
        have e104 : X.tmps.getD 104 undef = .bool false := (hX 104 (Nat.le_of_ble_eq_true rfl)).trans (GV.val (hd ⟨2, .data⟩ (by simp) rfl) (by decide) rfl)
        have HI := Lib.hid hI
        refine H3.step_run (.inl rfl) ?_
        clear hX hd hI
        go_simp
        exact hK _ _ HI.out (Below.refl _ _) (GV.of (by decide) (fun u h => by cases h; rfl))
      · intro listed ys X W hsz hsd hi2 hall hX hI hd K hK
        have eg : X.tmps.getD 105 undef = .bool false := (hX 105 (Nat.le_of_ble_eq_true rfl)).trans (GV.val (hd ⟨3, .guard⟩ (by simp) rfl) (by decide) rfl)
        have e2 : X.tmps.getD 2 undef = .string b := hX 2 (Nat.le_of_ble_eq_true rfl)
        have HI := Lib.hid hI
        refine H3.step_run (.inr ⟨3, 105, false, rfl, rfl, eg⟩) ?_
        clear hX hd hI
        go_simp
        exact hK _ _ HI.out (Below.refl _ _) (GV.of (by decide) (fun u h => by cases h; rfl))
      · intro listed ys X W hsz hsd hi2 hall hX hI hd K hK
        have eg : X.tmps.getD 105 undef = .bool false := (hX 105 (Nat.le_of_ble_eq_true rfl)).trans (GV.val (hd ⟨3, .guard⟩ (by simp) rfl) (by decide) rfl)
        have e106 : X.tmps.getD 106 undef = .string b := (hX 106 (Nat.le_of_ble_eq_true rfl)).trans (GV.val (hd ⟨4, .data⟩ (by simp) rfl) (by decide) rfl)
        have HI := Lib.hid hI
        obtain ⟨cv, cw, hcv, hcb, hcw⟩ := bytes_bs W b (by omega)
        refine H3.step_run (.inr ⟨3, 105, false, rfl, rfl, eg⟩) ?_
        clear hX hd hI
        go_simp
        exact hK _ _ (HI.out.trans (hcw.mono HI.out.size)) hcw (GV.ofsp (by decide) (show By (fun q => w9.heap.size ≤ q) cw cv b.data.toList from Rk.mono hcb.by fun k hk _ => Nat.le_trans HI.out.size hk))
      · intro listed ys X W hsz hsd hi2 hall hX hI hd K hK
        have eg : X.tmps.getD 105 undef = .bool false := (hX 105 (Nat.le_of_ble_eq_true rfl)).trans (GV.val (hd ⟨3, .guard⟩ (by simp) rfl) (by decide) rfl)
        have e7 : X.tmps.getD 7 undef = dva := hX 7 (Nat.le_of_ble_eq_true rfl)
        have HI := Lib.hid hI
        refine H3.step_run (.inr ⟨3, 105, false, rfl, rfl, eg⟩) ?_
        clear hX hd hI
        go_simp
        exact hK _ _ HI.out (Below.refl _ _) (GV.of (by decide) (fun u h => by cases h; rfl))
      · intro listed ys X W hsz hsd hi2 hall hX hI hd K hK
        have eg : X.tmps.getD 105 undef = .bool false := (hX 105 (Nat.le_of_ble_eq_true rfl)).trans (GV.val (hd ⟨3, .guard⟩ (by simp) rfl) (by decide) rfl)
        have e107 : X.tmps.getD 107 undef = ys 5 := hX 107 (Nat.le_of_ble_eq_true rfl)
        have HY5 := Lib.hid (show isB w9.heap.size b.data.toList a.bytes 5 (ys 5) W from GV.spv (hd ⟨5, .data⟩ (by simp) rfl) (by decide))
        have e108 : X.tmps.getD 108 undef = dva := (hX 108 (Nat.le_of_ble_eq_true rfl)).trans (GV.val (hd ⟨6, .data⟩ (by simp) rfl) (by decide) rfl)
        have HI := Lib.hid hI
        refine H3.step_run (.inr ⟨3, 105, false, rfl, rfl, eg⟩) ?_
        clear hX hd hI
        go_simp
        refine ⟨trivial, (callsIn_wide.2 (HPU.out W (ys 5) HI.out HY5.out)).mono ?_⟩
        rintro e u2 ⟨u, rfl, hu, hb⟩
        exact hK _ _ (HI.out.trans hb) hb (GV.ofsp (by decide) hu)
      · intro listed ys X W hsz hsd hi2 hall hX hI hd K hK
        have eg : X.tmps.getD 105 undef = .bool false := (hX 105 (Nat.le_of_ble_eq_true rfl)).trans (GV.val (hd ⟨3, .guard⟩ (by simp) rfl) (by decide) rfl)
        have e109 : X.tmps.getD 109 undef = ys 7 := hX 109 (Nat.le_of_ble_eq_true rfl)
        have HY7 := Lib.hid (show isB w9.heap.size b.data.toList a.bytes 7 (ys 7) W from GV.spv (hd ⟨7, .data⟩ (by simp) rfl) (by decide))
        have HI := Lib.hid hI
        have hcv := bs_string_of (show Bs 0 W (ys 7) (b.data.toList ++ a.bytes) from HY7.out) sp HSP.out
        refine H3.step_run (.inr ⟨3, 105, false, rfl, rfl, eg⟩) ?_
        clear hX hd hI
        go_simp
        exact hK _ _ HI.out (Below.refl _ _) (GV.of (by decide) (fun u h => by cases h; rfl))
      · intro listed ys X W hsz hsd hi2 hall hX hI hd K hK
        have eg : X.tmps.getD 105 undef = .bool false := (hX 105 (Nat.le_of_ble_eq_true rfl)).trans (GV.val (hd ⟨3, .guard⟩ (by simp) rfl) (by decide) rfl)
        have e2 : X.tmps.getD 2 undef = .string b := hX 2 (Nat.le_of_ble_eq_true rfl)
        have HI := Lib.hid hI
        refine H3.step_run (.inr ⟨3, 105, false, rfl, rfl, eg⟩) ?_
        clear hX hd hI
        go_simp
        exact hK _ _ HI.out (Below.refl _ _) (GV.of (by decide) (fun u h => by cases h; rfl))
      · intro listed ys X W hsz hsd hi2 hall hX hI hd K hK
        have eg : X.tmps.getD 105 undef = .bool false := (hX 105 (Nat.le_of_ble_eq_true rfl)).trans (GV.val (hd ⟨3, .guard⟩ (by simp) rfl) (by decide) rfl)
        have e3 : X.tmps.getD 3 undef = .pointer (some ⟨w.heap.size, 0, none⟩) := hX 3 (Nat.le_of_ble_eq_true rfl)
        have c0 := Bl.cell (HA.out.below hI) 0
        have c1 := Bl.cell (HA.out.below hI) 1
        have c2 := Bl.cell (HA.out.below hI) 2
        have c3 := Bl.cell (HA.out.below hI) 3
        have c4 := Bl.cell (HA.out.below hI) 4
        simp only [List.getElem?_toArray, List.getElem?_cons_succ, List.getElem?_cons_zero] at c0 c1 c2 c3 c4
        have HI := Lib.hid hI
        refine H3.step_run (.inr ⟨3, 105, false, rfl, rfl, eg⟩) ?_
        clear hX hd hI
        go_simp
        exact hK _ _ HI.out (Below.refl _ _) (GV.of (by decide) (fun u h => by cases h; rfl))
      · intro listed ys X W hsz hsd hi2 hall hX hI hd K hK
        have eg : X.tmps.getD 105 undef = .bool false := (hX 105 (Nat.le_of_ble_eq_true rfl)).trans (GV.val (hd ⟨3, .guard⟩ (by simp) rfl) (by decide) rfl)
        have e112 : X.tmps.getD 112 undef = .agg #[.int .i64 a.kd, .int .i64 a.src, .int .i64 a.til, .slice xa a.all.length xc, .slice ma a.mat.length mc] := (hX 112 (Nat.le_of_ble_eq_true rfl)).trans (GV.val (hd ⟨10, .data⟩ (by simp) rfl) (by decide) rfl)
        have HI := Lib.hid hI
        refine H3.step_run (.inr ⟨3, 105, false, rfl, rfl, eg⟩) ?_
        clear hX hd hI
        go_simp
        refine ⟨trivial, (callsIn_wide.2 (HBY.out W HI.out)).mono ?_⟩
        rintro e u2 ⟨rfl, hb⟩
        exact hK _ _ (HI.out.trans (hb.mono HI.out.size)) hb (GV.of (by decide) (fun u h => by cases h; rfl))
      · intro listed ys X W hsz hsd hi2 hall hX hI hd K hK
        have eg : X.tmps.getD 105 undef = .bool false := (hX 105 (Nat.le_of_ble_eq_true rfl)).trans (GV.val (hd ⟨3, .guard⟩ (by simp) rfl) (by decide) rfl)
        have e111 : X.tmps.getD 111 undef = .string b := (hX 111 (Nat.le_of_ble_eq_true rfl)).trans (GV.val (hd ⟨9, .data⟩ (by simp) rfl) (by decide) rfl)
        have e113 : X.tmps.getD 113 undef = .string sa := (hX 113 (Nat.le_of_ble_eq_true rfl)).trans (GV.val (hd ⟨11, .data⟩ (by simp) rfl) (by decide) rfl)
        have HI := Lib.hid hI
        have hadd := HADD.out W
        refine H3.step_run (.inr ⟨3, 105, false, rfl, rfl, eg⟩) ?_
        clear hX hd hI
        go_simp
        exact hK _ _ HI.out (Below.refl _ _) (GV.of (by decide) (fun u h => by cases h; rfl))
      · intro listed ys X W hsz hsd hi2 hall hX hI hd K hK
        have eg : X.tmps.getD 105 undef = .bool false := (hX 105 (Nat.le_of_ble_eq_true rfl)).trans (GV.val (hd ⟨3, .guard⟩ (by simp) rfl) (by decide) rfl)
        have e110 : X.tmps.getD 110 undef = .string sp := (hX 110 (Nat.le_of_ble_eq_true rfl)).trans (GV.val (hd ⟨8, .data⟩ (by simp) rfl) (by decide) rfl)
        have e114 : X.tmps.getD 114 undef = .string sp := (hX 114 (Nat.le_of_ble_eq_true rfl)).trans (GV.val (hd ⟨12, .data⟩ (by simp) rfl) (by decide) rfl)
        have HI := Lib.hid hI
        refine H3.step_run (.inr ⟨3, 105, false, rfl, rfl, eg⟩) ?_
        clear hX hd hI
        go_simp
        exact hK _ _ HI.out (Below.refl _ _) (GV.of (by decide) (fun u h => by cases h; rfl))
      · intro listed ys X W hsz hsd hi2 hall hX hI hd K hK
        have e105 : X.tmps.getD 105 undef = .bool false := (hX 105 (Nat.le_of_ble_eq_true rfl)).trans (GV.val (hd ⟨3, .data⟩ (by simp) rfl) (by decide) rfl)
        have e115 : X.tmps.getD 115 undef = .bool true := (hX 115 (Nat.le_of_ble_eq_true rfl)).trans (GV.val (hd ⟨13, .data⟩ (by simp) rfl) (by decide) rfl)
        have HI := Lib.hid hI
        refine H3.step_run (.inl rfl) ?_
        clear hX hd hI
        go_simp
        exact hK _ _ HI.out (Below.refl _ _) (GV.of (by decide) (fun u h => by cases h; rfl))
      · intro listed ys X W hsz hsd hi2 hall hX hI hd K hK
        have e116 : X.tmps.getD 116 undef = .bool true := (hX 116 (Nat.le_of_ble_eq_true rfl)).trans (GV.val (hd ⟨14, .data⟩ (by simp) rfl) (by decide) rfl)
        have HI := Lib.hid hI
        refine H3.step_run (.inl rfl) ?_
        clear hX hd hI
        go_simp
        exact hK _ _ HI.out (Below.refl _ _) (GV.of (by decide) (fun u h => by cases h; rfl))
    case fin =>
      intro listed ys W hall hI hV
      have hy := GV.val (hV 15 (by decide) rfl) (by decide) rfl
      have HBZ := Lib.hid (below_mid12 HBB.out hI)
      clear hall hI hV
      refine fin_of12 6 (v := .bool true) ?_ (by simp) hy
      intro P6 h6 hdf
      have x6 : P6.tmps[6]?.getD undef = .bool true := by rw [← Array.getD_eq_getD_getElem?]; exact h6
      go_wp2_with fail
      refine bodyPost_ret (v := .bool true) (by simp [results, Tryd.results3, go_sem, x6]) hdf ⟨rfl, HBZ.out⟩
  · have htm : a.times = .tuple #[.int .i64 0, .int .i64 0, .bool false] := by unfold Ask.times Ask.timed; rw [decide_eq_false hk]; rfl
    rw [htm] at HTM
    have hdn : dva = .nilIface := by rw [HDA.out]; exact dyn0 hk _ _
    have HQ : Hid (∀ W, (binOp .eql 20 .nilIface .nilIface).run Tryd.prog W = .ok (.bool true) W) := Lib.hid eqnil_yes
    have HKI := Lib.hid (fun W => kind_any a (.slice xa a.all.length xc) (.slice ma a.mat.length mc) W)
    have HGO := Lib.hid (fun (W : World) (hW : Below w7.heap.size w7 W) => ownGood_any a (.slice xa a.all.length xc) (.slice ma a.mat.length mc) W (H1.out.below hW) (MsAt.below12 H2.out hW) (Utf8Tabs_below HT.out hW))
    have HKP := Lib.hid (fun (W : World) (hW : Below w7.heap.size w7 W) => ownKeeps_any a (.slice xa a.all.length xc) (.slice ma a.mat.length mc) e (.slice la e.labs.length lc) W (H1.out.below hW) (MsAt.below12 H2.out hW) (E4.labs_below H3L.out hW) HLN.out)
    rw [good_no (isT := isTx) (by omega)] at HGO
    rw [asks_no (by omega)] at HKP
    rw [show a.kind = 0 from by unfold Ask.kind; rw [if_neg hk]] at HKI
    rw [← HDA.out, hdn] at HKI HGO HKP
    simp only [Ent.val] at HKP
    subst hdn
    have HKN := Lib.hid (fun W => kind_int (.int .i64 5) W)
    clear htm hk
    have hq := HQ.out
    have hqg := guard_yes
    go_wp2_with fail
    refine HTM.out.mono ?_
    rintro x w8 ⟨rfl, hb⟩
    have HBB := Lib.hid (below_mid12 HBB.out hb)
    have HB8 := Lib.hid hb
    have HA := Lib.hid (HA.out.below hb)
    have HE := Lib.hid (HE.out.below hb)
    have H1 := Lib.hid (H1.out.below hb)
    have H2 := Lib.hid (MsAt.below12 H2.out hb)
    have H3L := Lib.hid (E4.labs_below H3L.out hb)
    have HT := Lib.hid (Utf8Tabs_below HT.out hb)
    clear hb HTM
    have d0 := HE.out.cell 0
    have d1 := HE.out.cell 1
    have d2 := HE.out.cell 2
    simp only [List.getElem?_toArray, List.getElem?_cons_succ, List.getElem?_cons_zero] at d0 d1 d2
    go_wp2_with fail
    refine (HKI.out w8).mono ?_
    rintro x w9 ⟨rfl, hw9⟩
    subst hw9
    go_wp2_with fail
    refine (HGO.out _ HB8.out).mono ?_
    rintro x w9 ⟨rfl, hb⟩
    have HBB := Lib.hid (below_mid12 HBB.out hb)
    have HB8 := Lib.hid (below_mid12 HB8.out hb)
    have HA := Lib.hid (HA.out.below hb)
    have HE := Lib.hid (HE.out.below hb)
    have H1 := Lib.hid (H1.out.below hb)
    have H2 := Lib.hid (MsAt.below12 H2.out hb)
    have H3L := Lib.hid (E4.labs_below H3L.out hb)
    have HT := Lib.hid (Utf8Tabs_below HT.out hb)
    clear hb d0 d1 d2
    have d0 := HE.out.cell 0
    have d1 := HE.out.cell 1
    have d2 := HE.out.cell 2
    simp only [List.getElem?_toArray, List.getElem?_cons_succ, List.getElem?_cons_zero] at d0 d1 d2
    go_wp2_with fail
    refine (HKP.out _ HB8.out).mono ?_
    rintro x w10 ⟨rfl, hb⟩
    have HBB := Lib.hid (below_mid12 HBB.out hb)
    clear hb d0 d1 d2
    go_wp2_with fail
    refine (HKN.out w10).mono ?_
    rintro x w11 ⟨rfl, hw11⟩
    subst hw11
    go_wp2_with fail
    go_ret
    exact ⟨rfl, HBB.out⟩

end Go.Proofs.YtaghogfkkmphoaaDoor.E4
