/-
  magpielaw06.TreeTurned: the walk, of kind 2 (a matcher more).
-/
import Derived.Test.YtgmahdeaggjjgaaTurnedN6
import Derived.Test.YtgmahdeaggjjgaaMats6
namespace Go.Proofs.Ytgmahdeaggjjgaa
open Go.RowKit Go

theorem Qy.query_mats (l : List Int) : (Qy.query l).mat.length ≤ 2 := by
  unfold Qy.query
  simp only
  rw [Qy.mats_length]
  exact Nat.le_of_lt_succ (Ft.next_lt (by decide))

set_option maxHeartbeats 16000000 in
set_option maxRecDepth 100000 in
theorem turned_match (H : TreeCalls) (HQ : QueryCall) (HS : SameCall) (la : List Int) (kind k : Int) (hc : wrap64 ((IntKind.u64.wrap kind).tmod 8) = k) (hk : k = 2) (w : World) (va : Value) (ha : IntsAt w va la) :
    Calls Try.prog 5 #[va, .int .i64 kind] w fun e w' => e = .returned (.bool true) ∧ Lay w w' := by
  obtain ⟨a, capa, rfl, hla63, _⟩ := id ha
  have HIA := Lib.hid ha
  have HHS := Lib.hid HS
  have HA := Lib.hid (alive_any H w)
  have HHQ := Lib.hid HQ
  have HC := Lib.hid hc
  have HK := Lib.hid hk
  clear ha H HQ HS hc hk
  go_enter Try.func5, Try.ntmps5
  go_wp2_with fail
  refine HA.out.mono ?_
  rintro e w1 ⟨rfl, hl1⟩
  have HL1 := Lib.hid hl1
  by_cases h300 : 300 < la.length
  · have hd : decide (300 < (la.length : Int)) = true := by simp; omega
    clear hl1
    go_wp2_with fail
    go_ret
    exact ⟨rfl, HL1.out⟩
  have hd : decide (300 < (la.length : Int)) = false := by simp; omega
  have HQA := Lib.hid (HHQ.out la w1 _ (HIA.out.lay hl1))
  have hpc := Qy.query_count la
  have hbd := Qy.query_bounds la
  have hml := Qy.query_mats la
  have hsz := Qy.query_sizes la
  generalize Qy.query la = P at HQA hpc hbd hsz hml
  clear hl1 HA HHQ HIA
  go_wp2_with fail
  refine HQA.out.mono ?_
  rintro e w2 ⟨vp, rfl, hp, hl2⟩
  obtain ⟨s, t, m, ⟨fo, fn, ft, fk⟩, d, n, g⟩ := P
  obtain ⟨mp, kp, rfl, hmp, hkp⟩ := hp
  obtain ⟨b1, d1, rfl, _⟩ := id hmp
  obtain ⟨b3, d3, rfl⟩ := hkp.shape
  simp only [Qy.val, Ft.op, Ft.name, Ft.text, Ft.kids] at hmp hkp hpc hbd hsz hml ⊢
  obtain ⟨B1, B2, B3, B4, B5, B6⟩ := hbd
  obtain ⟨Z1, Z2⟩ := hsz
  have Y1 : ¬ 9223372036854775807 < g.size + 1 := by omega
  have Y2 : ¬ 9223372036854775807 < ft.size + 1 := by omega
  have HMP := Lib.hid hmp
  have HKP := Lib.hid hkp
  have HL2 := Lib.hid (HL1.out.trans hl2)
  have HPC := Lib.hid hpc
  clear hl2 hmp hkp hpc HQA HL1
  obtain rfl := HK.out
  have hc := HC.out
  have e0 : (wrap64 ((IntKind.u64.wrap kind).tmod 8) == 0) = false := by rw [hc]; rfl
  have e1 : (wrap64 ((IntKind.u64.wrap kind).tmod 8) == 1) = false := by rw [hc]; rfl
  have e2 : (wrap64 ((IntKind.u64.wrap kind).tmod 8) == 2) = true := by rw [hc]; rfl
  clear hc
  obtain ⟨i43, z43, E43⟩ := elem43
  obtain ⟨hl, r0, r1, cp, cq⟩ := two_cells w2 #[.int .i64 s, .int .i64 t, .slice b1 m.length d1, .int .i64 fo, .string fn, .string ft, .slice b3 fk.length d3, .bool d, .int .i64 n, .string g] #[.int .i64 s, .int .i64 t, .slice b1 m.length d1, .int .i64 fo, .string fn, .string ft, .slice b3 fk.length d3, .bool d, .int .i64 n, .string g] 36
  obtain ⟨A, hA⟩ : ∃ A, A = (w2.alloc (.cells #[.int .i64 s, .int .i64 t, .slice b1 m.length d1, .int .i64 fo, .string fn, .string ft, .slice b3 fk.length d3, .bool d, .int .i64 n, .string g] 36)).alloc (.cells #[.int .i64 s, .int .i64 t, .slice b1 m.length d1, .int .i64 fo, .string fn, .string ft, .slice b3 fk.length d3, .bool d, .int .i64 n, .string g] 36) := ⟨_, rfl⟩
  have hAz : A.heap.size = w2.heap.size + 1 + 1 := by rw [hA]; simp
  have hfz : A.frozen? ⟨w2.heap.size + 1, 2, none⟩ = false := by
    have e : (w2.alloc (.cells #[.int .i64 s, .int .i64 t, .slice b1 m.length d1, .int .i64 fo, .string fn, .string ft, .slice b3 fk.length d3, .bool d, .int .i64 n, .string g] 36)).heap.size = w2.heap.size + 1 := by simp
    rw [hA, ← e]; exact World.frozen?_alloc_new _ _ _ _
  rw [← hA] at hl r0 r1 cp cq
  have hr0 : Rk 3 (fun b => w2.heap.size + 1 < b) (A.alloc (.cells #[] 43)) (.slice (some ⟨w2.heap.size + 1 + 1, 0, none⟩) 0 0) 0 [] := by
    have := rk_new 3 A 0 [] 43 rfl (by omega)
    rw [hAz] at this
    exact this.mono fun b hb _ => by rw [hb]; omega
  have hl0 : Lay A (A.alloc (.cells #[] 43)) := (Keep.refl _ _).alloc _
  have HR0 := Lib.hid hr0
  have HS0 := Lib.hid (HMP.out.lay (hl.trans hl0)).src
  have HW := Lib.hid hA.symm
  have HAZ := Lib.hid hAz
  have HL0 := Lib.hid hl0
  have HLA := Lib.hid hl
  have HFZ := Lib.hid hfz
  have HR := Lib.hid (And.intro r0 r1)
  have HCP := Lib.hid cp
  have HCQ := Lib.hid cq
  clear hA hl r0 r1 cp cq hr0 hl0 hAz hfz
  go_wp2_with (at_builtin; first | (rw [HW.out]; refine wpList_append_rk E43 _ rfl _ _ 34 rfl (G := fun b => w2.heap.size + 1 < b) rfl HR0.out ?c1 (.slice b1 m.length d1) m.length (flatM m) rfl HS0.out ?c2 ?c3 ?_) | skip)
  case c1 =>
    intro b hb
    have h := HL0.out.size
    have := HAZ.out
    omega
  case c2 => omega
  case c3 => omega
  intro v1 w3 hrk hk
  have hlw3 : Lay A w3 := lay_keepB HL0.out hk fun b hb => by
    have h1 := (HR0.out.at hb).1
    have := HAZ.out
    omega
  have hr1 : Rk 3 (fun b => w2.heap.size + 1 < b) w3 v1 m.length (flatM m) := hrk.mono fun b h _ => h.1
  have hl1 : Lay w3 (w3.alloc (.cells (matC ⟨⟨#[122]⟩, false, ⟨#[]⟩⟩).toArray 43)) := (Keep.refl _ _).alloc _
  have hx : Rk 3 (fun b => b = w3.heap.size) (w3.alloc (.cells (matC ⟨⟨#[122]⟩, false, ⟨#[]⟩⟩).toArray 43)) (.slice (some ⟨w3.heap.size, 0, none⟩) 1 1) 1 (matC ⟨⟨#[122]⟩, false, ⟨#[]⟩⟩) := rk_new 3 w3 1 _ 43 rfl (by omega)
  have hs3 : A.heap.size ≤ w3.heap.size := hlw3.size
  have HX := Lib.hid (Rk.src Try.underlying34 hx (fun u hu => flatM_one [⟨⟨#[122]⟩, false, ⟨#[]⟩⟩] u (by simpa [flatM] using hu)))
  have HR1 := Lib.hid (hr1.lay hl1)
  have HL1 := Lib.hid (hlw3.trans hl1)
  clear hk hrk hlw3 hr1 hl1 hx HS0 HW HR0 HL0
  go_wp2_with (at_builtin; first | (refine wpList_append_rk E43 _ rfl _ _ 34 rfl (G := fun b => w2.heap.size + 1 < b) rfl HR1.out ?f1 (.slice (some ⟨w3.heap.size, 0, none⟩) 1 1) 1 (matC ⟨⟨#[122]⟩, false, ⟨#[]⟩⟩) rfl HX.out ?f2 ?f3 ?_) | skip)
  case f1 =>
    intro b hb
    have := HAZ.out
    simp at hb
    omega
  case f2 => omega
  case f3 => omega
  intro v2 w4 hrk hk
  have hlw4 : Lay A w4 := lay_keepB HL1.out hk fun b hb => by
    have h1 := (HR1.out.at hb).1
    have := HAZ.out
    omega
  have hr2 : Rk 3 (fun b => w2.heap.size + 1 < b) w4 v2 (m ++ [(⟨⟨#[122]⟩, false, ⟨#[]⟩⟩ : Mt)]).length (flatM (m ++ [⟨⟨#[122]⟩, false, ⟨#[]⟩⟩])) := by
    rw [flatM_append, List.length_append]
    simpa only [flatM, List.append_nil, List.length_cons, List.length_nil] using hrk.mono fun b h _ => h.1
  obtain ⟨c2, d2, rfl⟩ : ∃ c2 d2, v2 = .slice c2 (m.length + 1) d2 := by
    obtain ⟨_, ⟨rfl, h0⟩ | ⟨g0, cap, rfl, _⟩⟩ := hr2
    · exact absurd h0 (by simp)
    · exact ⟨_, _, by rw [List.length_append]; rfl⟩
  -- the store
  obtain ⟨W, hW⟩ : ∃ W, W = w4.setCell ⟨w2.heap.size + 1, 2, none⟩ (.slice c2 (m.length + 1) d2) := ⟨_, rfl⟩
  have hk0 : ∀ b, b ≠ w2.heap.size + 1 → W.heap[b]? = w4.heap[b]? := fun b hb => by rw [hW]; exact Below.heap_setCell w4 ⟨w2.heap.size + 1, 2, none⟩ _ b hb
  have hlW : Lay w2 W := by rw [hW]; exact Lay.set (HLA.out.trans hlw4) (p := ⟨w2.heap.size + 1, 2, none⟩) (Nat.le_succ _) _
  have hzW : W.heap.size = w4.heap.size := by rw [hW]; simp [World.setCell]
  have hrW := hr2.carry (Nat.le_of_eq hzW.symm) (fun b hb _ _ => hk0 b (Nat.ne_of_gt hb))
  have s1 : w2.heap.size + 1 < w4.heap.size := Nat.lt_of_lt_of_le HR.out.2 hlw4.size
  have p2 := (hlw4.cell HR.out.2).trans (HCQ.out 2)
  have fz : w4.frozen? ⟨w2.heap.size + 1, 2, none⟩ = false := (World.frozen?_of_block (a := ⟨w2.heap.size + 1, 2, none⟩) (hlw4.block HR.out.2)).trans HFZ.out
  simp only [List.getElem?_toArray, List.getElem?_cons_zero, List.getElem?_cons_succ] at p2
  have cp : ∀ o, W.cell? ⟨w2.heap.size, o, none⟩ = _ := fun o => ((World.cell?_of_block (a := ⟨w2.heap.size, o, none⟩) (hk0 _ (by simp))).trans (hlw4.cell HR.out.1)).trans (HCP.out o)
  have hcl : ∀ o, w4.cell? ⟨w2.heap.size + 1, o, none⟩ = _ := fun o => (hlw4.cell HR.out.2).trans (HCQ.out o)
  have cq : ∀ o, o ≠ 2 → W.cell? ⟨w2.heap.size + 1, o, none⟩ = w4.cell? ⟨w2.heap.size + 1, o, none⟩ := fun o ho => by rw [hW]; exact World.cell?_setCell_other (h := fun e => ho ((Addr.mk.inj e).2.1).symm) ..
  have cq2 : W.cell? ⟨w2.heap.size + 1, 2, none⟩ = some (.slice c2 (m.length + 1) d2) := by rw [hW]; go_simp
  have hmW : MsAt W (.slice c2 (m.length + 1) d2) (m ++ [(⟨⟨#[122]⟩, false, ⟨#[]⟩⟩ : Mt)]) := MsAt.of_rk hrW (by rw [List.length_append]; simp; omega)
  have hne : (⟨s, t, m, .mk fo fn ft fk, d, n, g⟩ : Qy) ≠ (⟨s, t, m ++ [(⟨⟨#[122]⟩, false, ⟨#[]⟩⟩ : Mt)], .mk fo fn ft fk, d, n, g⟩ : Qy) := fun h => by have := congrArg (fun q => q.mat.length) h; simp at this
  have hP : ∀ W', Lay W W' → QAt W' (.agg #[.int .i64 s, .int .i64 t, .slice b1 m.length d1, .int .i64 fo, .string fn, .string ft, .slice b3 fk.length d3, .bool d, .int .i64 n, .string g]) (⟨s, t, m, .mk fo fn ft fk, d, n, g⟩ : Qy) := fun W' h => ⟨_, _, rfl, HMP.out.lay (hlW.trans h), KsAt.below (Lay.below (hlW.trans h)) _ _ HKP.out⟩
  have hQ : ∀ W', Lay W W' → QAt W' (.agg #[.int .i64 s, .int .i64 t, .slice c2 (m.length + 1) d2, .int .i64 fo, .string fn, .string ft, .slice b3 fk.length d3, .bool d, .int .i64 n, .string g]) (⟨s, t, m ++ [(⟨⟨#[122]⟩, false, ⟨#[]⟩⟩ : Mt)], .mk fo fn ft fk, d, n, g⟩ : Qy) := fun W' h => ⟨_, _, rfl, hmW.lay h, KsAt.below (Lay.below (hlW.trans h)) _ _ HKP.out⟩
  have HC1 := Lib.hid (differ (HS := HHS.out) hne HPC.out HPC.out W _ _ (hP W (Keep.refl _ _)) (hQ W (Keep.refl _ _)))
  have HC2 := Lib.hid fun W3 (h3 : Lay W W3) => differ (HS := HHS.out) (Ne.symm hne) HPC.out HPC.out W3 _ _ (hQ W3 h3) (hP W3 h3)
  have x0 := cp 0
  have y0 := (cq 0 (by decide)).trans (hcl 0)
  have x1 := cp 1
  have y1 := (cq 1 (by decide)).trans (hcl 1)
  have x2 := cp 2
  have x3 := cp 3
  have y3 := (cq 3 (by decide)).trans (hcl 3)
  have x4 := cp 4
  have y4 := (cq 4 (by decide)).trans (hcl 4)
  have x5 := cp 5
  have y5 := (cq 5 (by decide)).trans (hcl 5)
  have x6 := cp 6
  have y6 := (cq 6 (by decide)).trans (hcl 6)
  have x7 := cp 7
  have y7 := (cq 7 (by decide)).trans (hcl 7)
  have x8 := cp 8
  have y8 := (cq 8 (by decide)).trans (hcl 8)
  have x9 := cp 9
  have y9 := (cq 9 (by decide)).trans (hcl 9)
  simp only [List.getElem?_toArray, List.getElem?_cons_zero, List.getElem?_cons_succ] at x0 x1 x2 x3 x4 x5 x6 x7 x8 x9 y0 y1 y3 y4 y5 y6 y7 y8 y9
  have q0 := (hlw4.cell HR.out.1).trans (HCP.out 0)
  have z0 := hcl 0
  have q1 := (hlw4.cell HR.out.1).trans (HCP.out 1)
  have z1 := hcl 1
  have q2 := (hlw4.cell HR.out.1).trans (HCP.out 2)
  have q3 := (hlw4.cell HR.out.1).trans (HCP.out 3)
  have z3 := hcl 3
  have q4 := (hlw4.cell HR.out.1).trans (HCP.out 4)
  have z4 := hcl 4
  have q5 := (hlw4.cell HR.out.1).trans (HCP.out 5)
  have z5 := hcl 5
  have q6 := (hlw4.cell HR.out.1).trans (HCP.out 6)
  have z6 := hcl 6
  have q7 := (hlw4.cell HR.out.1).trans (HCP.out 7)
  have z7 := hcl 7
  have q8 := (hlw4.cell HR.out.1).trans (HCP.out 8)
  have z8 := hcl 8
  have q9 := (hlw4.cell HR.out.1).trans (HCP.out 9)
  have z9 := hcl 9
  simp only [List.getElem?_toArray, List.getElem?_cons_zero, List.getElem?_cons_succ] at q0 q1 q2 q3 q4 q5 q6 q7 q8 q9 z0 z1 z3 z4 z5 z6 z7 z8 z9
  have k40 : w2.heap.size < w4.heap.size := Nat.lt_of_succ_lt s1
  have k0 : w2.heap.size < W.heap.size := by omega
  have k1 : w2.heap.size + 1 < W.heap.size := by omega
  have HW := Lib.hid hW.symm
  have HLW := Lib.hid (HL2.out.trans hlW)
  clear hW hne hP hQ hmW hrW hr2 hrk hk hlW hlw4 hk0 hzW cp cq hcl HR1 HX HCP HCQ HR HFZ HLA HL1
  go_wp2_with fail
  rw [HW.out]
  refine HC1.out.mono ?_
  rintro e w5 ⟨rfl, hl5⟩
  have u0 := (hl5.cell k0).trans x0
  have v0 := (hl5.cell k1).trans y0
  have u1 := (hl5.cell k0).trans x1
  have v1 := (hl5.cell k1).trans y1
  have u2 := (hl5.cell k0).trans x2
  have v2 := (hl5.cell k1).trans cq2
  have u3 := (hl5.cell k0).trans x3
  have v3 := (hl5.cell k1).trans y3
  have u4 := (hl5.cell k0).trans x4
  have v4 := (hl5.cell k1).trans y4
  have u5 := (hl5.cell k0).trans x5
  have v5 := (hl5.cell k1).trans y5
  have u6 := (hl5.cell k0).trans x6
  have v6 := (hl5.cell k1).trans y6
  have u7 := (hl5.cell k0).trans x7
  have v7 := (hl5.cell k1).trans y7
  have u8 := (hl5.cell k0).trans x8
  have v8 := (hl5.cell k1).trans y8
  have u9 := (hl5.cell k0).trans x9
  have v9 := (hl5.cell k1).trans y9
  clear q0 q1 q2 q3 q4 q5 q6 q7 q8 q9 z0 z1 z3 z4 z5 z6 z7 z8 z9
  have HC3 := Lib.hid (HC2.out w5 hl5)
  have HL5 := Lib.hid (HLW.out.trans hl5)
  clear hl5 HC1 HC2 HW x0 x1 x2 x3 x4 x5 x6 x7 x8 x9 y0 y1 y3 y4 y5 y6 y7 y8 y9 cq2 k0 k1 p2 fz s1
  go_wp2_with fail
  refine HC3.out.mono ?_
  rintro e w6 ⟨rfl, hl6⟩
  have HL6 := Lib.hid (HL5.out.trans hl6)
  clear hl6 HC3
  go_wp2_with fail
  go_ret
  exact ⟨rfl, HL6.out⟩

end Go.Proofs.Ytgmahdeaggjjgaa
