/-
  DialectReads.
-/
import Derived.Test.YtaghogfkkmphoaaDoorGt12
import Derived.Test.YtaghogfkkmphoaaDoorGd12
import Derived.Test.YtaghogfkkmphoaaDoorKi12
import Derived.Test.YtaghogfkkmphoaaDoorMn12
import Derived.Test.YtaghogfkkmphoaaDoorNx12
import Derived.Lib.QuietBelow
namespace Go.Proofs.YtaghogfkkmphoaaDoor.E4
open Go.RowKit Go
open Go.Sort (grow)
attribute [local irreducible] wpQuiet

theorem rf_new (w : World) (S : ByteArray) : Rf (w.alloc (.cells #[.string S, .int .i64 0, .bool false] 45)) w.heap.size S 0 false := by
  have h := Bl.new w 45 #[.string S, .int .i64 0, .bool false]
  exact ⟨h.cell 0, h.cell 1, h.cell 2, h.frozen 0, h.frozen 1, h.frozen 2⟩

set_option maxHeartbeats 8000000 in
set_option maxRecDepth 100000 in
theorem reads_walk12 (S : ByteArray) (w : World) (hT : Lib.Utf8Tabs 0 1 w) :
    Calls Tryd.prog 4 #[.string S] w fun x w' => x = .returned (.bool true) ∧ Below w.heap.size w w' := by
  have hmx : Tryd.prog.follows .mixedOrders = true := by kernel_rfl
  have HAL := Lib.hid (alive12 w)
  have HT0 := Lib.hid hT
  clear hT
  go_enter Tryd.func4, Tryd.ntmps4
  go_wp2_with fail
  refine HAL.out.mono ?_
  rintro x w4 ⟨rfl, hb⟩
  have HBB := Lib.hid hb
  have HT := Lib.hid (Utf8Tabs_below HT0.out hb)
  clear hb HAL HT0
  by_cases g1 : 2000 < S.size
  · have d1 : (2000 : Int) < (S.size : Int) := by omega
    go_wp2_with fail
    go_ret
    exact ⟨rfl, HBB.out⟩
  have d1 : ¬ (2000 : Int) < (S.size : Int) := by omega
  have hS : S.size ≤ 2000 := by omega
  have HFR := Lib.hid (from_any S (by omega) w4)
  go_wp2_with fail
  clear d1 g1
  refine HFR.out.mono ?_
  rintro x w5 ⟨rfl, hsz, hrd, hb⟩
  obtain ⟨w6, hw6⟩ : ∃ w6, w6 = w5.alloc (.cells #[.string S, .int .i64 0, .bool false] 45) := ⟨_, rfl⟩
  have hb6 : Below w5.heap.size w5 w6 := by rw [hw6]; exact (Below.refl _ w5).alloc (Nat.le_refl _) _
  have hrf6 : Rf w6 w5.heap.size S 0 false := by rw [hw6]; exact rf_new w5 S
  have hs6 : w6.heap.size = w5.heap.size + 1 := by rw [hw6]; simp
  have hbb := below_mid12 hb hb6
  have HB46 := Lib.hid hbb
  have HRD := Lib.hid (hrd.below hb6 hrd.lt)
  have HRF := Lib.hid hrf6
  have HW6 := Lib.hid hw6.symm
  have HG : Hid (w4.heap.size < w5.heap.size ∧ w5.heap.size < w6.heap.size) := Lib.hid ⟨by omega, by omega⟩
  clear hsz hrd hb hw6 hb6 hrf6 hs6 hbb HFR
  go_upto_region 6 with fail
  rw [HW6.out]
  clear HW6
  generalize w5.heap.size = g2 at HRF HG ⊢
  obtain ⟨g1, hg1⟩ : ∃ g, g = w4.heap.size := ⟨_, rfl⟩
  rw [← hg1] at HRD HG HB46 ⊢
  have HG1 := Lib.hid hg1
  clear hg1
  have HTB : Hid (∀ W, Below g1 w4 W → Lib.Utf8Tabs 0 1 W) := Lib.hid fun W hW => Utf8Tabs_below HT.out (by rw [← HG1.out]; exact hW)
  have HGT := Lib.hid (ownGet_any g1 S.data.toList false w6 HRD.out (fun w' hc => HTB.out w' (HB46.out.trans (hc.below (Nat.le_refl _) (by have := HG.out; omega)))))
  go_wp2_with fail
  refine HGT.out.mono ?_
  rintro x w7 ⟨a, av, mv, l', b', rfl, hrk, hrd, hch, hx1, hx2⟩
  obtain ⟨xa, xc, rfl, hz1, hz2⟩ := id hx1.self
  obtain ⟨ma, mc, rfl, hz3, hz4⟩ := id hx2.self
  clear hz1 hz2 hz3 hz4
  have HRK := Lib.hid hrk
  have HRD := Lib.hid hrd
  have HX1 := Lib.hid hx1
  have HX2 := Lib.hid hx2
  have HRF := Lib.hid (HRF.out.chg hch (by have := HG.out; omega))
  have HB47 := Lib.hid (show Below g1 w4 w7 from HB46.out.trans (hch.below (Nat.le_refl _) (by have := HG.out; omega)))
  have HGE := Lib.hid (refGet_any (isT := isTx) (Tb := fun W => Below g1 w4 W) g2 S hS 0 S.data.toList false w7 (fun W W' hc hW => hW.trans (hc.below (Nat.le_of_lt HG.out.1) (by have := hW.size; have := HG1.out; have := HG.out; omega)))
    (fun a v W h hW => askGood_any (isT := isTx) (Tb := fun W => Lib.Utf8Tabs 0 1 W) (fun W W' hb hT => Utf8Tabs_below hT hb) (fun s W hs hT => isText_any s (by omega) W hT) a v W h (HTB.out W hW)) HRF.out (fun _ => ⟨by rw [List.drop_zero], Nat.zero_le _⟩) HB47.out)
  clear hrk hrd hch hx1 hx2 HGT
  cases hok : (!b' && a.good isTx) with
  | false =>
    have hgot : gotD a (.slice xa a.all.length xc) (.slice ma a.mat.length mc) b' = .tuple #[.nilIface, .bool false] := by unfold gotD; rw [hok]; rfl
    have HOK : Hid (¬ (!b' && a.good isTx) = true) := Lib.hid (by rw [hok]; exact Bool.false_ne_true)
    rw [hgot]
    clear hgot hok
    have hq := eqnil_yes
    have hqg := guard_yes
    go_wp2_with fail
    refine HGE.out.mono ?_
    rintro x w8 ⟨a2, av2, mv2, l2, b2, pos2, hrk2, hrf2, hlf2, hch2, ht2, hm2, rfl⟩
    obtain ⟨q1, q2, q3⟩ := rak_sure HRK.out hrk2
    subst q1 q2 q3
    rw [if_neg HOK.out]
    obtain ⟨w9, hw9⟩ : ∃ w9, w9 = w8.alloc (.cells #[.int .i64 0, .int .i64 0, .int .i64 0, .slice none 0 0, .slice none 0 0] 25) := ⟨_, rfl⟩
    have hb9 : Below w8.heap.size w8 w9 := by rw [hw9]; exact (Below.refl _ w8).alloc (Nat.le_refl _) _
    have hk9 : Bl w9 w8.heap.size 25 #[.int .i64 0, .int .i64 0, .int .i64 0, .slice none 0 0, .slice none 0 0] := by rw [hw9]; exact Bl.new w8 25 _
    have hb49 : Below g1 w4 w9 := (HB47.out.trans (hch2.below (Nat.le_of_lt HG.out.1) (by have := HB47.out.size; have := HG1.out; omega))).trans (hb9.mono (by have := HB47.out.size; have := HG1.out; have := hch2.size; omega))
    have HBZ : Hid (Below w.heap.size w w9) := Lib.hid (by rw [HG1.out] at hb49; exact below_mid12 HBB.out hb49)
    have HW9 := Lib.hid hw9.symm
    clear hw9
    clear hb9 hk9 hb49 hrk2 hrf2 hlf2 hch2 ht2 hm2 HGE
    go_upto_region 8 with fail
    rw [HW9.out]
    go_wp2_with fail
    go_ret
    exact ⟨rfl, HBZ.out⟩
  | true =>
    have hgot : gotD a (.slice xa a.all.length xc) (.slice ma a.mat.length mc) b' = .tuple #[a.dyn (.slice xa a.all.length xc) (.slice ma a.mat.length mc), .bool true] := by unfold gotD; rw [hok]; rfl
    have HOK := Lib.hid hok
    rw [hgot]
    clear hgot hok
    obtain ⟨dv, hdv⟩ : ∃ v, v = a.dyn (.slice xa a.all.length xc) (.slice ma a.mat.length mc) := ⟨_, rfl⟩
    rw [← hdv]
    have HDV := Lib.hid hdv
    clear hdv
    go_wp2_with fail
    refine HGE.out.mono ?_
    rintro x w8 ⟨a2, av2, mv2, l2, b2, pos2, hrk2, hrf2, hlf2, hch2, ht2, hm2, rfl⟩
    obtain ⟨q1, q2, q3⟩ := rak_sure HRK.out hrk2
    subst q1 q2 q3
    rw [if_pos HOK.out]
    unfold Ask.cells
    obtain ⟨w9, hw9⟩ : ∃ w9, w9 = w8.alloc (.cells #[.int .i64 a.kd, .int .i64 a.src, .int .i64 a.til, av2, mv2] 25) := ⟨_, rfl⟩
    have hb9 : Below w8.heap.size w8 w9 := by rw [hw9]; exact (Below.refl _ w8).alloc (Nat.le_refl _) _
    have hk9 : Bl w9 w8.heap.size 25 #[.int .i64 a.kd, .int .i64 a.src, .int .i64 a.til, av2, mv2] := by rw [hw9]; exact Bl.new w8 25 _
    have hb49 : Below g1 w4 w9 := (HB47.out.trans (hch2.below (Nat.le_of_lt HG.out.1) (by have := HB47.out.size; have := HG1.out; omega))).trans (hb9.mono (by have := HB47.out.size; have := HG1.out; have := hch2.size; omega))
    have HBZ : Hid (Below w.heap.size w w9) := Lib.hid (by rw [HG1.out] at hb49; exact below_mid12 HBB.out hb49)
    have HW9 := Lib.hid hw9.symm
    clear hw9
    obtain ⟨ya, yc, rfl, hz1, hz2⟩ := id ht2
    obtain ⟨na, nc, rfl, hz3, hz4⟩ := id hm2
    clear hz1 hz2 hz3 hz4
    have HT2 := Lib.hid (ht2.below hb9)
    have HM2 := Lib.hid (MsAt.below12 hm2 hb9)
    have HK9 := Lib.hid hk9
    have HRD9 := Lib.hid ((HRD.out.chg hch2 (by have := HG.out; omega)).below hb9 (by have := HRD.out.lt; have := hch2.size; omega))
    have HRF9 := Lib.hid (hrf2.below hb9 hrf2.lt)
    have HLF := Lib.hid hlf2
    have HX1 := Lib.hid ((HX1.out.chg hch2 HG.out.2).below hb9)
    have HX2 := Lib.hid ((HX2.out.chg hch2 HG.out.2).below hb9)
    have HL1 := Lib.hid HRD9.out.lt
    clear hb9 hk9 hb49 hrk2 hrf2 hlf2 hch2 ht2 hm2 HGE
    go_upto_region 8 with fail
    rw [HW9.out]
    clear HW9
    generalize w8.heap.size = B at HK9 ⊢
    go_upto_region 10 with fail
    have KO := fun d os => Calls.regrown_of (ofAny_any a xa ma a.all.length xc a.mat.length mc (grow (redrawn w9 d) os))
    rw [← HDV.out] at KO
    obtain ⟨pv, hpv⟩ : ∃ v, v = a.plain.cells (a.pav (.slice xa a.all.length xc)) (a.pmv (.slice ma a.mat.length mc)) := ⟨_, rfl⟩
    have KS := fun d os => Calls.regrown_of (sameT a.plain a _ _ _ _ (grow (redrawn w9 d) os) (plain_texts (HX1.out.below (below_regrown w9 d os)).self) (plain_mats (HX2.out.below (below_regrown w9 d os)).self) (HT2.out.below (below_regrown w9 d os)) (MsAt.below12 HM2.out (below_regrown w9 d os)) (Ask.plain_plain a))
    rw [← hpv] at KO KS
    clear hpv
    simp only [Ask.cells] at KS
    have KE : ∀ d os, Calls Tryd.prog 24 #[.pointer (some ⟨g1, 0, none⟩)] (grow (redrawn w9 d) os) fun e w' => e = .returned (.bool (!b' && l'.isEmpty)) ∧ ∃ p : Regrown, w' = grow (redrawn w9 p.d) p.os := fun d os => Calls.regrown_of ((end_any g1 l' b' _ (HRD9.out.below (below_regrown w9 d os) HL1.out)).mono fun e w' ⟨he, hw⟩ => ⟨he, hw ▸ Below.refl _ _⟩)
    have KR := fun d os => Calls.regrown_of (ref_end_rd g2 S pos2 l' b' (grow (redrawn w9 d) os) (HRF9.out.below (below_regrown w9 d os) HRF9.out.lt) HLF.out)
    obtain ⟨en, hen⟩ : ∃ x, x = (!b' && l'.isEmpty) := ⟨_, rfl⟩
    rw [← hen] at KE KR
    clear hen
    have p0' := HK9.out.cell 0
    have p1' := HK9.out.cell 1
    have p2' := HK9.out.cell 2
    have p3' := HK9.out.cell 3
    have p4' := HK9.out.cell 4
    simp only [List.getElem?_toArray, List.getElem?_cons_succ, List.getElem?_cons_zero] at p0' p1' p2' p3' p4'
    have p0 := fun d os => cell_regrown p0' d os
    have p1 := fun d os => cell_regrown p1' d os
    have p2 := fun d os => cell_regrown p2' d os
    have p3 := fun d os => cell_regrown p3' d os
    have p4 := fun d os => cell_regrown p4' d os
    clear p0' p1' p2' p3' p4'
    refine wp_region_quiet_below hmx (by kernel_rfl) ?_
    repeat (quiet_step (with_reducible first | exact KO _ _ | exact KS _ _ | exact KE _ _ | exact KR _ _))
    refine wpQuiet_nil ?_
    intro _ hw'
    obtain ⟨⟨dq, osq⟩, hw'⟩ := hw'
    subst hw'
    have HBY := Lib.hid (below_mid12 HBZ.out (below_regrown w9 dq osq))
    clear p0 p1 p2 p3 p4 KO KS KE KR
    go_wp2_with fail
    go_ret
    exact ⟨rfl, HBY.out⟩

end Go.Proofs.YtaghogfkkmphoaaDoor.E4
