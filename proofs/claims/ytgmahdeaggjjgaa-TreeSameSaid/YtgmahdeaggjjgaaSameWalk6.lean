/-
  magpielaw06.TreeSame: the walk; what tree's calls do, and the reference's Query, stand ahead of it.
-/
import Derived.Test.YtgmahdeaggjjgaaQuery0
namespace Go.Proofs.Ytgmahdeaggjjgaa
open Go.RowKit Go

set_option maxHeartbeats 8000000 in
set_option maxRecDepth 100000 in
theorem same_walk (H : TreeCalls) (HQ : QueryCall) (HS : SameCall) (la lb : List Int) (w : World) (va vb : Value) (ha : IntsAt w va la) (hb : IntsAt w vb lb) : Calls Try.prog 4 #[va, vb] w fun e w' => e = .returned (.bool true) ∧ Lay w w' := by
  have hmx : Try.prog.follows .mixedOrders = true := by kernel_rfl
  obtain ⟨a, capa, rfl, hla63, _⟩ := id ha
  obtain ⟨b, capb, rfl, hlb63, _⟩ := id hb
  have HIA := Lib.hid ha
  have HIB := Lib.hid hb
  have HH := Lib.hid H
  have HHQ := Lib.hid HQ
  have HHS := Lib.hid HS
  have HA := Lib.hid (alive_any H w)
  clear ha hb H HQ HS
  go_enter Try.func4, Try.ntmps4
  go_wp2_with fail
  refine HA.out.mono ?_
  rintro e w1 ⟨rfl, hl1⟩
  have HL1 := Lib.hid hl1
  by_cases h300 : 300 < la.length
  · have hd : decide (300 < (la.length : Int)) = true := by simp; omega
    clear hl1
    go_wp2_with fail
    go_ret
    exact ⟨rfl, HL1.out⟩
  have hd : decide (300 < (la.length : Int)) = false := by simp; omega
  by_cases h301 : 300 < lb.length
  · have hd2 : decide (300 < (lb.length : Int)) = true := by simp; omega
    clear hl1
    go_wp2_with fail
    go_ret
    exact ⟨rfl, HL1.out⟩
  have hd2 : decide (300 < (lb.length : Int)) = false := by simp; omega
  have hfa := law_filter la w1 _ (HIA.out.lay hl1)
  have hfb := fun w2 (h2 : Lay w1 w2) => law_filter lb w2 _ (HIB.out.lay (hl1.trans h2))
  unfold FilterP at hfa hfb
  have hca := Ft.make_count la 4 0
  have hcb := Ft.make_count lb 4 0
  obtain ⟨X, hX⟩ : ∃ X, X = (Ft.make la 4 0).1 := ⟨_, rfl⟩
  obtain ⟨Y, hY⟩ : ∃ Y, Y = (Ft.make lb 4 0).1 := ⟨_, rfl⟩
  rw [← hX] at hfa hca
  rw [← hY] at hcb
  simp only [← hY] at hfb
  have HFA := Lib.hid hfa
  have HFB := Lib.hid hfb
  have hxc : X.count ≤ 256 := hca
  have hyc : Y.count ≤ 256 := hcb
  clear hl1 hfa hfb hX hY hca hcb HA
  go_wp2_with fail
  refine HFA.out.mono ?_
  rintro e w2 ⟨kx, rfl, hkx, hl2⟩
  have HFB2 := Lib.hid (HFB.out w2 hl2)
  obtain ⟨ax, cx, rfl⟩ := (KsB.at _ _ hkx).shape
  have hx : FAt w2 (X.val (.slice ax X.kids.length cx)) X := ⟨_, rfl, KsB.at _ _ hkx⟩
  have HX := Lib.hid hx
  have HL2 := Lib.hid (HL1.out.trans hl2)
  clear hkx hx hl2 HFB HFA
  unfold Ft.val
  go_wp2_with fail
  refine HFB2.out.mono ?_
  rintro e w3 ⟨ky, rfl, hky, hl3⟩
  obtain ⟨ay, cy, rfl⟩ := (KsB.at _ _ hky).shape
  have hy : FAt w3 (Y.val (.slice ay Y.kids.length cy)) Y := ⟨_, rfl, KsB.at _ _ hky⟩
  have HY := Lib.hid hy
  have HX3 := Lib.hid (HX.out.lay hl3)
  have HL3 := Lib.hid (HL2.out.trans hl3)
  clear hky hy hl3 HFB2 HX HL2
  unfold Ft.val
  obtain ⟨W, hW⟩ : ∃ W, W = (w3.alloc (.cells #[.int .i64 X.op, .string X.name, .string X.text, .slice ax X.kids.length cx] 26)).alloc (.cells #[.int .i64 Y.op, .string Y.name, .string Y.text, .slice ay Y.kids.length cy] 26) := ⟨_, rfl⟩
  have hlW : Lay w3 W := by rw [hW]; exact ((Keep.refl _ _).alloc _).alloc _
  have s0 : w3.heap.size < W.heap.size := by rw [hW]; simp; omega
  have s1 : w3.heap.size + 1 < W.heap.size := by rw [hW]; simp
  have x0 : W.cell? ⟨w3.heap.size, 0, none⟩ = some (.int .i64 X.op) := by rw [hW]; go_simp
  have x1 : W.cell? ⟨w3.heap.size, 1, none⟩ = some (.string X.name) := by rw [hW]; go_simp
  have x2 : W.cell? ⟨w3.heap.size, 2, none⟩ = some (.string X.text) := by rw [hW]; go_simp
  have x3 : W.cell? ⟨w3.heap.size, 3, none⟩ = some (.slice ax X.kids.length cx) := by rw [hW]; go_simp
  have y0 : W.cell? ⟨w3.heap.size + 1, 0, none⟩ = some (.int .i64 Y.op) := by rw [hW]; go_simp
  have y1 : W.cell? ⟨w3.heap.size + 1, 1, none⟩ = some (.string Y.name) := by rw [hW]; go_simp
  have y2 : W.cell? ⟨w3.heap.size + 1, 2, none⟩ = some (.string Y.text) := by rw [hW]; go_simp
  have y3 : W.cell? ⟨w3.heap.size + 1, 3, none⟩ = some (.slice ay Y.kids.length cy) := by rw [hW]; go_simp
  have HW := Lib.hid hW.symm
  have HLW := Lib.hid (HL3.out.trans hlW)
  have HXW := Lib.hid (HX3.out.lay hlW)
  have HYW := Lib.hid (HY.out.lay hlW)
  clear hW hlW HX3 HY HL3
  have HQA := Lib.hid (HHQ.out la W _ (HIA.out.lay HLW.out))
  have HQB := Lib.hid fun w2 (h2 : Lay W w2) => HHQ.out lb w2 _ (HIB.out.lay (HLW.out.trans h2))
  have hpc := Qy.query_count la
  have hqc := Qy.query_count lb
  generalize Qy.query la = P at HQA hpc
  generalize Qy.query lb = Q at HQB hqc
  go_wp2_with fail
  rw [HW.out]
  clear HW
  generalize w3.heap.size + 1 = k1 at s1 y0 y1 y2 y3 ⊢
  generalize w3.heap.size = k0 at s0 x0 x1 x2 x3 ⊢
  refine HQA.out.mono ?_
  rintro e w4 ⟨vp, rfl, hp, hl4⟩
  have HQB4 := Lib.hid (HQB.out w4 hl4)
  have HP := Lib.hid hp
  have HL4 := Lib.hid hl4
  clear hp hl4 HQA HQB
  go_wp2_with fail
  refine HQB4.out.mono ?_
  rintro e w5 ⟨vq, rfl, hq, hl5⟩
  obtain ⟨mp, kp, rfl, hmp, hkp⟩ := HP.out.lay hl5
  obtain ⟨mq, kq, rfl, hmq, hkq⟩ := hq
  obtain ⟨b1, d1, rfl, _⟩ := id hmp
  obtain ⟨b2, d2, rfl, _⟩ := id hmq
  obtain ⟨b3, d3, rfl⟩ := hkp.shape
  obtain ⟨b4, d4, rfl⟩ := hkq.shape
  have HP5 : Hid (QAt w5 _ P) := Lib.hid ⟨_, _, rfl, hmp, hkp⟩
  have HQ5 : Hid (QAt w5 _ Q) := Lib.hid ⟨_, _, rfl, hmq, hkq⟩
  have HL5 := Lib.hid (HL4.out.trans hl5)
  clear hl5 hmp hkp hmq hkq HQB4 HP HL4
  unfold Qy.val at HP5 HQ5 ⊢
  have hpc' : P.fil.count ≤ 100000 := by omega
  have hqc' : Q.fil.count ≤ 100000 := by omega
  have hxc' : X.count ≤ 100000 := by omega
  have hyc' : Y.count ≤ 100000 := by omega
  obtain ⟨V, hV⟩ : ∃ V, V = (w5.alloc (.cells #[.int .i64 P.src, .int .i64 P.til, .slice b1 P.mat.length d1, .int .i64 P.fil.op, .string P.fil.name, .string P.fil.text, .slice b3 P.fil.kids.length d3, .bool P.desc, .int .i64 P.lim, .string P.page] 36)).alloc (.cells #[.int .i64 Q.src, .int .i64 Q.til, .slice b2 Q.mat.length d2, .int .i64 Q.fil.op, .string Q.fil.name, .string Q.fil.text, .slice b4 Q.fil.kids.length d4, .bool Q.desc, .int .i64 Q.lim, .string Q.page] 36) := ⟨_, rfl⟩
  have hlV : Lay w5 V := by rw [hV]; exact ((Keep.refl _ _).alloc _).alloc _
  have r0 : w5.heap.size < V.heap.size := by rw [hV]; simp; omega
  have r1 : w5.heap.size + 1 < V.heap.size := by rw [hV]; simp
  have cp : ∀ o, V.cell? ⟨w5.heap.size, o, none⟩ = #[Value.int .i64 P.src, .int .i64 P.til, .slice b1 P.mat.length d1, .int .i64 P.fil.op, .string P.fil.name, .string P.fil.text, .slice b3 P.fil.kids.length d3, .bool P.desc, .int .i64 P.lim, .string P.page][o]? := fun o => by
    rw [hV]
    exact (World.cell?_of_block (a := ⟨w5.heap.size, o, none⟩) (Below.heap_alloc _ _ _ (by simp))).trans (World.cell?_alloc_new w5 _ 36 o)
  have cq : ∀ o, V.cell? ⟨w5.heap.size + 1, o, none⟩ = #[Value.int .i64 Q.src, .int .i64 Q.til, .slice b2 Q.mat.length d2, .int .i64 Q.fil.op, .string Q.fil.name, .string Q.fil.text, .slice b4 Q.fil.kids.length d4, .bool Q.desc, .int .i64 Q.lim, .string Q.page][o]? := fun o => by
    have e : (w5.alloc (.cells #[.int .i64 P.src, .int .i64 P.til, .slice b1 P.mat.length d1, .int .i64 P.fil.op, .string P.fil.name, .string P.fil.text, .slice b3 P.fil.kids.length d3, .bool P.desc, .int .i64 P.lim, .string P.page] 36)).heap.size = w5.heap.size + 1 := by simp
    rw [hV, ← e]
    exact World.cell?_alloc_new _ _ 36 o
  have hlw : Lay W V := HL5.out.trans hlV
  have hgr : ∀ n os, Lay V (Sort.grow (V.drewN n) os) := fun n os => Lay.of_grown n os
  obtain ⟨c, hc⟩ : ∃ c : Bool, (c = true ↔ X = Y) := by
    by_cases h : X = Y
    · exact ⟨true, fun _ => h, fun _ => rfl⟩
    · exact ⟨false, fun h => Bool.noConfusion h, fun h' => absurd h' h⟩
  obtain ⟨s, hs⟩ : ∃ s : Bool, (s = true ↔ P = Q) := by
    by_cases h : P = Q
    · exact ⟨true, fun _ => h, fun _ => rfl⟩
    · exact ⟨false, fun h => Bool.noConfusion h, fun h' => absurd h' h⟩
  have he : ∀ {A B : Prop} {b c : Bool}, (b = true ↔ A) → (c = true ↔ A) → b = c := fun {A B b c} h1 h2 => by
    rw [Bool.eq_iff_iff]; exact h1.trans h2.symm
  have hgX : ∀ n os, FAt (Sort.grow (V.drewN n) os) _ X := fun n os => HXW.out.lay (hlw.trans (hgr n os))
  have hgY : ∀ n os, FAt (Sort.grow (V.drewN n) os) _ Y := fun n os => HYW.out.lay (hlw.trans (hgr n os))
  have hgP : ∀ n os, QAt (Sort.grow (V.drewN n) os) _ P := fun n os => HP5.out.lay (hlV.trans (hgr n os))
  have hgQ : ∀ n os, QAt (Sort.grow (V.drewN n) os) _ Q := fun n os => HQ5.out.lay (hlV.trans (hgr n os))
  have h15 : ∀ n os, Calls Try.prog 15 #[.agg #[.int .i64 X.op, .string X.name, .string X.text, .slice ax X.kids.length cx], .agg #[.int .i64 Y.op, .string Y.name, .string Y.text, .slice ay Y.kids.length cy]] (Sort.grow (V.drewN n) os) fun e w'' => e = .returned (.bool c) ∧ ∃ p : GrownBy, w'' = Sort.grow (V.drewN p.n) p.os := fun n os =>
    grown_of_lay ((HH.out.filter X Y hxc' hyc' _ _ _ (hgX n os) (hgY n os)).mono fun e w' ⟨b, h1, h2, h3⟩ => ⟨by rw [h1, he (B := True) h2 hc], h3⟩)
  have h15b : ∀ n os, Calls Try.prog 15 #[.agg #[.int .i64 Y.op, .string Y.name, .string Y.text, .slice ay Y.kids.length cy], .agg #[.int .i64 Y.op, .string Y.name, .string Y.text, .slice ay Y.kids.length cy]] (Sort.grow (V.drewN n) os) fun e w'' => e = .returned (.bool true) ∧ ∃ p : GrownBy, w'' = Sort.grow (V.drewN p.n) p.os := fun n os =>
    grown_of_lay ((HH.out.filter Y Y hyc' hyc' _ _ _ (hgY n os) (hgY n os)).mono fun e w' ⟨b, h1, h2, h3⟩ => ⟨by rw [h1, h2.2 rfl], h3⟩)
  have h16 : ∀ n os, Calls Try.prog 16 #[.agg #[.int .i64 X.op, .string X.name, .string X.text, .slice ax X.kids.length cx], .agg #[.int .i64 Y.op, .string Y.name, .string Y.text, .slice ay Y.kids.length cy]] (Sort.grow (V.drewN n) os) fun e w'' => e = .returned (.bool c) ∧ ∃ p : GrownBy, w'' = Sort.grow (V.drewN p.n) p.os := fun n os =>
    grown_of_lay ((filter_any X Y _ _ _ (hgX n os) (hgY n os) hxc' hyc').mono fun e w' ⟨b, h1, h2, h3⟩ => ⟨by rw [h1, he (B := True) h2 hc], h3⟩)
  have h17 : ∀ n os, Calls Try.prog 17 #[.agg #[.int .i64 P.src, .int .i64 P.til, .slice b1 P.mat.length d1, .int .i64 P.fil.op, .string P.fil.name, .string P.fil.text, .slice b3 P.fil.kids.length d3, .bool P.desc, .int .i64 P.lim, .string P.page], .agg #[.int .i64 Q.src, .int .i64 Q.til, .slice b2 Q.mat.length d2, .int .i64 Q.fil.op, .string Q.fil.name, .string Q.fil.text, .slice b4 Q.fil.kids.length d4, .bool Q.desc, .int .i64 Q.lim, .string Q.page]] (Sort.grow (V.drewN n) os) fun e w'' => e = .returned (.bool s) ∧ ∃ p : GrownBy, w'' = Sort.grow (V.drewN p.n) p.os := fun n os =>
    grown_of_lay ((HHS.out P Q hpc' hqc' _ _ _ (hgP n os) (hgQ n os)).mono fun e w' ⟨b, h1, h2, h3⟩ => ⟨by rw [h1, he (B := True) h2 hs], h3⟩)
  have h17b : ∀ n os, Calls Try.prog 17 #[.agg #[.int .i64 P.src, .int .i64 P.til, .slice b1 P.mat.length d1, .int .i64 P.fil.op, .string P.fil.name, .string P.fil.text, .slice b3 P.fil.kids.length d3, .bool P.desc, .int .i64 P.lim, .string P.page], .agg #[.int .i64 P.src, .int .i64 P.til, .slice b1 P.mat.length d1, .int .i64 P.fil.op, .string P.fil.name, .string P.fil.text, .slice b3 P.fil.kids.length d3, .bool P.desc, .int .i64 P.lim, .string P.page]] (Sort.grow (V.drewN n) os) fun e w'' => e = .returned (.bool true) ∧ ∃ p : GrownBy, w'' = Sort.grow (V.drewN p.n) p.os := fun n os =>
    grown_of_lay ((HHS.out P P hpc' hpc' _ _ _ (hgP n os) (hgP n os)).mono fun e w' ⟨b, h1, h2, h3⟩ => ⟨by rw [h1, h2.2 rfl], h3⟩)
  have h18 : ∀ n os, Calls Try.prog 18 #[.agg #[.int .i64 P.src, .int .i64 P.til, .slice b1 P.mat.length d1, .int .i64 P.fil.op, .string P.fil.name, .string P.fil.text, .slice b3 P.fil.kids.length d3, .bool P.desc, .int .i64 P.lim, .string P.page], .agg #[.int .i64 Q.src, .int .i64 Q.til, .slice b2 Q.mat.length d2, .int .i64 Q.fil.op, .string Q.fil.name, .string Q.fil.text, .slice b4 Q.fil.kids.length d4, .bool Q.desc, .int .i64 Q.lim, .string Q.page]] (Sort.grow (V.drewN n) os) fun e w'' => e = .returned (.bool s) ∧ ∃ p : GrownBy, w'' = Sort.grow (V.drewN p.n) p.os := fun n os =>
    grown_of_lay ((same_any P Q _ _ _ (hgP n os) (hgQ n os) hpc' hqc').mono fun e w' ⟨b, h1, h2, h3⟩ => ⟨by rw [h1, he (B := True) h2 hs], h3⟩)
  have x0' := (hlw.cell s0).trans x0
  have x1' := (hlw.cell s0).trans x1
  have x2' := (hlw.cell s0).trans x2
  have x3' := (hlw.cell s0).trans x3
  have y0' := (hlw.cell s1).trans y0
  have y1' := (hlw.cell s1).trans y1
  have y2' := (hlw.cell s1).trans y2
  have y3' := (hlw.cell s1).trans y3
  have t0 := Nat.lt_of_lt_of_le s0 hlw.size
  have t1 := Nat.lt_of_lt_of_le s1 hlw.size
  have gx0 := cell_grown (w := V) (a := ⟨k0, 0, none⟩) t0 x0'
  have gx1 := cell_grown (w := V) (a := ⟨k0, 1, none⟩) t0 x1'
  have gx2 := cell_grown (w := V) (a := ⟨k0, 2, none⟩) t0 x2'
  have gx3 := cell_grown (w := V) (a := ⟨k0, 3, none⟩) t0 x3'
  have gy0 := cell_grown (w := V) (a := ⟨k1, 0, none⟩) t1 y0'
  have gy1 := cell_grown (w := V) (a := ⟨k1, 1, none⟩) t1 y1'
  have gy2 := cell_grown (w := V) (a := ⟨k1, 2, none⟩) t1 y2'
  have gy3 := cell_grown (w := V) (a := ⟨k1, 3, none⟩) t1 y3'
  have gp0 := cell_grown (w := V) (a := ⟨w5.heap.size, 0, none⟩) r0 (cp 0)
  have gp1 := cell_grown (w := V) (a := ⟨w5.heap.size, 1, none⟩) r0 (cp 1)
  have gp2 := cell_grown (w := V) (a := ⟨w5.heap.size, 2, none⟩) r0 (cp 2)
  have gp3 := cell_grown (w := V) (a := ⟨w5.heap.size, 3, none⟩) r0 (cp 3)
  have gp4 := cell_grown (w := V) (a := ⟨w5.heap.size, 4, none⟩) r0 (cp 4)
  have gp5 := cell_grown (w := V) (a := ⟨w5.heap.size, 5, none⟩) r0 (cp 5)
  have gp6 := cell_grown (w := V) (a := ⟨w5.heap.size, 6, none⟩) r0 (cp 6)
  have gp7 := cell_grown (w := V) (a := ⟨w5.heap.size, 7, none⟩) r0 (cp 7)
  have gp8 := cell_grown (w := V) (a := ⟨w5.heap.size, 8, none⟩) r0 (cp 8)
  have gp9 := cell_grown (w := V) (a := ⟨w5.heap.size, 9, none⟩) r0 (cp 9)
  have gq0 := cell_grown (w := V) (a := ⟨w5.heap.size + 1, 0, none⟩) r1 (cq 0)
  have gq1 := cell_grown (w := V) (a := ⟨w5.heap.size + 1, 1, none⟩) r1 (cq 1)
  have gq2 := cell_grown (w := V) (a := ⟨w5.heap.size + 1, 2, none⟩) r1 (cq 2)
  have gq3 := cell_grown (w := V) (a := ⟨w5.heap.size + 1, 3, none⟩) r1 (cq 3)
  have gq4 := cell_grown (w := V) (a := ⟨w5.heap.size + 1, 4, none⟩) r1 (cq 4)
  have gq5 := cell_grown (w := V) (a := ⟨w5.heap.size + 1, 5, none⟩) r1 (cq 5)
  have gq6 := cell_grown (w := V) (a := ⟨w5.heap.size + 1, 6, none⟩) r1 (cq 6)
  have gq7 := cell_grown (w := V) (a := ⟨w5.heap.size + 1, 7, none⟩) r1 (cq 7)
  have gq8 := cell_grown (w := V) (a := ⟨w5.heap.size + 1, 8, none⟩) r1 (cq 8)
  have gq9 := cell_grown (w := V) (a := ⟨w5.heap.size + 1, 9, none⟩) r1 (cq 9)
  have HV := Lib.hid hV
  have HLV := Lib.hid (HLW.out.trans hlw)
  clear hV hlV cp cq hlw hgr hgX hgY hgP hgQ he hc hs x0 x1 x2 x3 y0 y1 y2 y3 x0' x1' x2' x3' y0' y1' y2' y3' HP5 HQ5 HL5 HXW HYW HIA HIB HHQ HH HHS hpc hqc hpc' hqc' hxc' hyc'
  go_wp2_with fail
  simp only [← HV.out]
  clear HV
  generalize w5.heap.size + 1 = j1 at r1 gq0 gq1 gq2 gq3 gq4 gq5 gq6 gq7 gq8 gq9 ⊢
  generalize w5.heap.size = j0 at r0 gp0 gp1 gp2 gp3 gp4 gp5 gp6 gp7 gp8 gp9 ⊢
  go_quiet_grown (first | (go_at_call 15; with_reducible (first | exact h15 _ _ | exact h15b _ _)) | (go_at_call 16; with_reducible exact h16 _ _) | (go_at_call 17; with_reducible (first | exact h17 _ _ | exact h17b _ _)) | (go_at_call 18; with_reducible exact h18 _ _))
  go_wp2_with fail
  go_ret
  exact ⟨rfl, HLV.out.trans (Lay.of_grown _ _)⟩

end Go.Proofs.Ytgmahdeaggjjgaa
