/-
  magpielaw06.TreeTurned: the walk, of kind 6 (a not around the filter).
-/
import Derived.Test.YtgmahdeaggjjgaaTurned6
namespace Go.Proofs.Ytgmahdeaggjjgaa
open Go.RowKit Go

/-- Two queries that differ, asked of package tree. -/
theorem differ100 {HS : SameCall} {P Q : Qy} (hne : P ≠ Q) (hp : P.fil.count ≤ 100) (hq : Q.fil.count ≤ 100) (w : World) (u v : Value) (hu : QAt w u P) (hv : QAt w v Q) :
    Calls Try.prog 17 #[u, v] w fun e w' => e = .returned (.bool false) ∧ Lay w w' :=
  (HS P Q (by omega) (by omega) w u v hu hv).mono fun e w' ⟨b, h1, h2, h3⟩ => ⟨by rw [h1, Bool.eq_false_iff.2 fun h => hne (h2.1 h)], h3⟩

theorem three_cells (w : World) (xs ys zs : Array Value) (t s : TypeId) : Lay w (((w.alloc (.cells xs t)).alloc (.cells ys t)).alloc (.cells zs s)) ∧ w.heap.size + 2 < (((w.alloc (.cells xs t)).alloc (.cells ys t)).alloc (.cells zs s)).heap.size ∧
    (∀ o, (((w.alloc (.cells xs t)).alloc (.cells ys t)).alloc (.cells zs s)).cell? ⟨w.heap.size, o, none⟩ = xs[o]?) ∧ (∀ o, (((w.alloc (.cells xs t)).alloc (.cells ys t)).alloc (.cells zs s)).cell? ⟨w.heap.size + 1, o, none⟩ = ys[o]?) ∧
    ∀ o, (((w.alloc (.cells xs t)).alloc (.cells ys t)).alloc (.cells zs s)).cell? ⟨w.heap.size + 1 + 1, o, none⟩ = zs[o]? := by
  obtain ⟨h1, h2, h3, h4, h5⟩ := two_cells w xs ys t
  have e : ((w.alloc (.cells xs t)).alloc (.cells ys t)).heap.size = w.heap.size + 1 + 1 := by simp
  generalize (w.alloc (.cells xs t)).alloc (.cells ys t) = W at h1 h2 h3 h4 h5 e ⊢
  refine ⟨h1.alloc _, by simp; omega, fun o => ?_, fun o => ?_, fun o => ?_⟩
  · exact (World.cell?_of_block (a := ⟨w.heap.size, o, none⟩) (Below.heap_alloc _ _ _ h2)).trans (h4 o)
  · exact (World.cell?_of_block (a := ⟨w.heap.size + 1, o, none⟩) (Below.heap_alloc _ _ _ h3)).trans (h5 o)
  · rw [← e]
    exact World.cell?_alloc_new _ _ s o

set_option maxHeartbeats 16000000 in
set_option maxRecDepth 100000 in
theorem turned_not (H : TreeCalls) (HQ : QueryCall) (HS : SameCall) (la : List Int) (kind k : Int) (hc : wrap64 ((IntKind.u64.wrap kind).tmod 8) = k) (hk : k = 6) (w : World) (va : Value) (ha : IntsAt w va la) :
    Calls Try.prog 5 #[va, .int .i64 kind] w fun e w' => e = .returned (.bool true) ∧ Lay w w' := by
  obtain ⟨a, capa, rfl, hla63, _⟩ := id ha
  have HIA := Lib.hid ha
  have HHS := Lib.hid HS
  have HA := Lib.hid (alive_any H w)
  have HHQ := Lib.hid HQ
  have HC := Lib.hid hc
  have HK := Lib.hid hk
  clear ha H HQ HS hc hk
  go_enter Try.func5, Try.ntmps5
  go_wp2_with fail
  refine HA.out.mono ?_
  rintro e w1 ⟨rfl, hl1⟩
  have HL1 := Lib.hid hl1
  by_cases h300 : 300 < la.length
  · have hd : decide (300 < (la.length : Int)) = true := by simp; omega
    clear hl1
    go_wp2_with fail
    go_ret
    exact ⟨rfl, HL1.out⟩
  have hd : decide (300 < (la.length : Int)) = false := by simp; omega
  have HQA := Lib.hid (HHQ.out la w1 _ (HIA.out.lay hl1))
  have hpc := Qy.query_count la
  have hbd := Qy.query_bounds la
  have hsz := Qy.query_sizes la
  generalize Qy.query la = P at HQA hpc hbd hsz
  clear hl1 HA HHQ HIA
  go_wp2_with fail
  refine HQA.out.mono ?_
  rintro e w2 ⟨vp, rfl, hp, hl2⟩
  obtain ⟨s, t, m, ⟨fo, fn, ft, fk⟩, d, n, g⟩ := P
  obtain ⟨mp, kp, rfl, hmp, hkp⟩ := hp
  obtain ⟨b1, d1, rfl, _⟩ := id hmp
  obtain ⟨b3, d3, rfl⟩ := hkp.shape
  simp only [Qy.val, Ft.op, Ft.name, Ft.text, Ft.kids] at hmp hkp hpc hbd hsz ⊢
  obtain ⟨B1, B2, B3, B4, B5, B6⟩ := hbd
  obtain ⟨Z1, Z2⟩ := hsz
  have Y1 : ¬ 9223372036854775807 < g.size + 1 := by omega
  have Y2 : ¬ 9223372036854775807 < ft.size + 1 := by omega
  have HMP := Lib.hid hmp
  have HKP := Lib.hid hkp
  have HL2 := Lib.hid (HL1.out.trans hl2)
  have HPC := Lib.hid hpc
  clear hl2 hmp hkp hpc HQA HL1
  obtain rfl := HK.out
  have hc := HC.out
  have e0 : (wrap64 ((IntKind.u64.wrap kind).tmod 8) == 0) = false := by rw [hc]; rfl
  have e1 : (wrap64 ((IntKind.u64.wrap kind).tmod 8) == 1) = false := by rw [hc]; rfl
  have e2 : (wrap64 ((IntKind.u64.wrap kind).tmod 8) == 2) = false := by rw [hc]; rfl
  have e3 : (wrap64 ((IntKind.u64.wrap kind).tmod 8) == 3) = false := by rw [hc]; rfl
  have e4 : (wrap64 ((IntKind.u64.wrap kind).tmod 8) == 4) = false := by rw [hc]; rfl
  have e5 : (wrap64 ((IntKind.u64.wrap kind).tmod 8) == 5) = false := by rw [hc]; rfl
  have e6 : (wrap64 ((IntKind.u64.wrap kind).tmod 8) == 6) = true := by rw [hc]; rfl
  have e7 : (wrap64 ((IntKind.u64.wrap kind).tmod 8) == 7) = false := by rw [hc]; rfl
  clear hc
  obtain ⟨hl, r2, cp, cq, cz⟩ := three_cells w2 #[.int .i64 s, .int .i64 t, .slice b1 m.length d1, .int .i64 fo, .string fn, .string ft, .slice b3 fk.length d3, .bool d, .int .i64 n, .string g] #[.int .i64 s, .int .i64 t, .slice b1 m.length d1, .int .i64 6, .string ⟨#[]⟩, .string ⟨#[]⟩, .slice (some ⟨w2.heap.size + 1 + 1, 0, none⟩) 1 1, .bool d, .int .i64 n, .string g] #[.int .i64 fo, .string fn, .string ft, .slice b3 fk.length d3] 36 26
  obtain ⟨W, hW⟩ : ∃ W, W = ((w2.alloc (.cells #[.int .i64 s, .int .i64 t, .slice b1 m.length d1, .int .i64 fo, .string fn, .string ft, .slice b3 fk.length d3, .bool d, .int .i64 n, .string g] 36)).alloc (.cells #[.int .i64 s, .int .i64 t, .slice b1 m.length d1, .int .i64 6, .string ⟨#[]⟩, .string ⟨#[]⟩, .slice (some ⟨w2.heap.size + 1 + 1, 0, none⟩) 1 1, .bool d, .int .i64 n, .string g] 36)).alloc (.cells #[.int .i64 fo, .string fn, .string ft, .slice b3 fk.length d3] 26) := ⟨_, rfl⟩
  rw [← hW] at hl r2 cp cq cz
  have hcn : (Ft.mk 6 ⟨#[]⟩ ⟨#[]⟩ [Ft.mk fo fn ft fk]).count = (Ft.mk fo fn ft fk).count + 1 := by rw [Ft.count, Ft.counts, Ft.counts]; omega
  have hne : (⟨s, t, m, .mk fo fn ft fk, d, n, g⟩ : Qy) ≠ (⟨s, t, m, .mk 6 ⟨#[]⟩ ⟨#[]⟩ [.mk fo fn ft fk], d, n, g⟩ : Qy) := fun h => by have := congrArg (fun q => q.fil.count) h; simp only at this; omega
  have hpp : (⟨s, t, m, .mk fo fn ft fk, d, n, g⟩ : Qy).fil.count ≤ 100 := by have := HPC.out; simp only; omega
  have hpq : (⟨s, t, m, .mk 6 ⟨#[]⟩ ⟨#[]⟩ [.mk fo fn ft fk], d, n, g⟩ : Qy).fil.count ≤ 100 := by have := HPC.out; simp only; omega
  have hP : ∀ W', Lay W W' → QAt W' (.agg #[.int .i64 s, .int .i64 t, .slice b1 m.length d1, .int .i64 fo, .string fn, .string ft, .slice b3 fk.length d3, .bool d, .int .i64 n, .string g]) (⟨s, t, m, .mk fo fn ft fk, d, n, g⟩ : Qy) := fun W' h => ⟨_, _, rfl, HMP.out.lay (hl.trans h), KsAt.below (Lay.below (hl.trans h)) _ _ HKP.out⟩
  have hkid : KsAt W (.slice (some ⟨w2.heap.size + 1 + 1, 0, none⟩) 1 1) (.mk 6 ⟨#[]⟩ ⟨#[]⟩ [.mk fo fn ft fk]) := by
    rw [KsAt]
    refine ⟨_, _, rfl, by simp, .inr ⟨w2.heap.size + 1 + 1, 0, rfl, r2, ?_⟩⟩
    rw [KAt, KAt]
    exact ⟨⟨_, cz 0, cz 1, cz 2, cz 3, KsAt.below hl.below _ _ HKP.out⟩, trivial⟩
  have hQ : ∀ W', Lay W W' → QAt W' (.agg #[.int .i64 s, .int .i64 t, .slice b1 m.length d1, .int .i64 6, .string ⟨#[]⟩, .string ⟨#[]⟩, .slice (some ⟨w2.heap.size + 1 + 1, 0, none⟩) 1 1, .bool d, .int .i64 n, .string g]) (⟨s, t, m, .mk 6 ⟨#[]⟩ ⟨#[]⟩ [.mk fo fn ft fk], d, n, g⟩ : Qy) := fun W' h => ⟨_, _, rfl, HMP.out.lay (hl.trans h), KsAt.below h.below _ _ hkid⟩
  have HC1 := Lib.hid (differ100 (HS := HHS.out) hne hpp hpq W _ _ (hP W (Keep.refl _ _)) (hQ W (Keep.refl _ _)))
  have HC2 := Lib.hid fun W3 (h3 : Lay W W3) => differ100 (HS := HHS.out) (Ne.symm hne) hpq hpp W3 _ _ (hQ W3 h3) (hP W3 h3)
  have HW := Lib.hid hW.symm
  have HLW := Lib.hid (HL2.out.trans hl)
  have HR := Lib.hid r2
  have HCP := Lib.hid cp
  have HCQ := Lib.hid cq
  clear hW hl hne hpp hpq hP hQ r2 cp cq cz hkid hcn
  go_wp2_with fail
  rw [HW.out]
  refine HC1.out.mono ?_
  rintro e w3 ⟨rfl, hl3⟩
  have u0 := (hl3.cell (Nat.lt_trans (Nat.lt_add_of_pos_right (by decide)) HR.out)).trans (HCP.out 0)
  have v0 := (hl3.cell (Nat.lt_of_succ_lt HR.out)).trans (HCQ.out 0)
  have u1 := (hl3.cell (Nat.lt_trans (Nat.lt_add_of_pos_right (by decide)) HR.out)).trans (HCP.out 1)
  have v1 := (hl3.cell (Nat.lt_of_succ_lt HR.out)).trans (HCQ.out 1)
  have u2 := (hl3.cell (Nat.lt_trans (Nat.lt_add_of_pos_right (by decide)) HR.out)).trans (HCP.out 2)
  have v2 := (hl3.cell (Nat.lt_of_succ_lt HR.out)).trans (HCQ.out 2)
  have u3 := (hl3.cell (Nat.lt_trans (Nat.lt_add_of_pos_right (by decide)) HR.out)).trans (HCP.out 3)
  have v3 := (hl3.cell (Nat.lt_of_succ_lt HR.out)).trans (HCQ.out 3)
  have u4 := (hl3.cell (Nat.lt_trans (Nat.lt_add_of_pos_right (by decide)) HR.out)).trans (HCP.out 4)
  have v4 := (hl3.cell (Nat.lt_of_succ_lt HR.out)).trans (HCQ.out 4)
  have u5 := (hl3.cell (Nat.lt_trans (Nat.lt_add_of_pos_right (by decide)) HR.out)).trans (HCP.out 5)
  have v5 := (hl3.cell (Nat.lt_of_succ_lt HR.out)).trans (HCQ.out 5)
  have u6 := (hl3.cell (Nat.lt_trans (Nat.lt_add_of_pos_right (by decide)) HR.out)).trans (HCP.out 6)
  have v6 := (hl3.cell (Nat.lt_of_succ_lt HR.out)).trans (HCQ.out 6)
  have u7 := (hl3.cell (Nat.lt_trans (Nat.lt_add_of_pos_right (by decide)) HR.out)).trans (HCP.out 7)
  have v7 := (hl3.cell (Nat.lt_of_succ_lt HR.out)).trans (HCQ.out 7)
  have u8 := (hl3.cell (Nat.lt_trans (Nat.lt_add_of_pos_right (by decide)) HR.out)).trans (HCP.out 8)
  have v8 := (hl3.cell (Nat.lt_of_succ_lt HR.out)).trans (HCQ.out 8)
  have u9 := (hl3.cell (Nat.lt_trans (Nat.lt_add_of_pos_right (by decide)) HR.out)).trans (HCP.out 9)
  have v9 := (hl3.cell (Nat.lt_of_succ_lt HR.out)).trans (HCQ.out 9)
  simp only [List.getElem?_toArray, List.getElem?_cons_zero, List.getElem?_cons_succ] at u0 u1 u2 u3 u4 u5 u6 u7 u8 u9 v0 v1 v2 v3 v4 v5 v6 v7 v8 v9
  have HC3 := Lib.hid (HC2.out w3 hl3)
  have HL3 := Lib.hid (HLW.out.trans hl3)
  clear hl3 HC1 HC2 HCP HCQ HW HR
  generalize w2.heap.size + 1 + 1 = j2 at *
  generalize w2.heap.size + 1 = j1 at *
  generalize w2.heap.size = j0 at *
  go_wp2_with fail
  refine HC3.out.mono ?_
  rintro e w4 ⟨rfl, hl4⟩
  have HL4 := Lib.hid (HL3.out.trans hl4)
  clear hl4 HC3
  go_wp2_with fail
  go_ret
  exact ⟨rfl, HL4.out⟩

end Go.Proofs.Ytgmahdeaggjjgaa
