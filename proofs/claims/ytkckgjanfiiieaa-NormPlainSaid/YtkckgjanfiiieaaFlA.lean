/-
  ROWS THAT LIE SO.
  THE DOCUMENT'S OWN Filter: are two filters the same?
  THE DOCUMENT'S OWN Same.
-/
import Derived.Test.YtkckgjanfiiieaaTrA
import Derived.Test.YtkckgjanfiiieaaWdA
import Derived.Deep.QuietTactic
import Derived.BigQuiet
import Derived.Deep.RegionWith
import Derived.Laws.StructEq
namespace Go.Proofs.Ytkckgjanfiiieaa
open Go.RowKit Go

theorem flatW_get : ∀ (R : List Ft.Row) (i : Nat) (h : i < R.length) (c : Nat), c < 5 → (flatW R)[i * 5 + c]? = (rowC R[i])[c]?
  | [], i, h, _, _ => by simp at h
  | x :: r, 0, _, c, hc => by
    simp only [flatW, Nat.zero_mul, Nat.zero_add, List.getElem_cons_zero]
    rw [List.getElem?_append_left (by simp [rowC]; omega)]
  | x :: r, i + 1, h, c, hc => by
    simp only [flatW, List.getElem_cons_succ]
    rw [List.getElem?_append_right (by simp [rowC]; omega), ← flatW_get r i (by simpa using h) c hc]
    congr 1
    simp [rowC]
    omega

/-- Rows that lie so. -/
theorem Rk.rowAt {G : Nat → Prop} {w : World} {v : Value} {R : List Ft.Row} (h : Rk 5 G w v R.length (flatW R)) : ∃ a cap, v = .slice a R.length cap ∧ (R = [] ∨ ∃ b, a = some ⟨b, 0, none⟩ ∧ G b ∧ b < w.heap.size ∧
    ∀ i (h : i < R.length), w.cell? ⟨b, i * 5, none⟩ = some (.int .i64 R[i].op) ∧ w.cell? ⟨b, i * 5 + 1, none⟩ = some (.string R[i].name) ∧ w.cell? ⟨b, i * 5 + 2, none⟩ = some (.string R[i].text) ∧
      w.cell? ⟨b, i * 5 + 3, none⟩ = some (.int .i64 (R[i].kids : Nat)) ∧ w.cell? ⟨b, i * 5 + 4, none⟩ = some (.int .i64 (R[i].deep : Nat))) := by
  obtain ⟨_, ⟨rfl, h0⟩ | ⟨g, cap, rfl, hg, hlt, _, _, hc, _⟩⟩ := h
  · have := List.eq_nil_of_length_eq_zero h0
    subst this
    exact ⟨none, 0, rfl, .inl rfl⟩
  · refine ⟨_, _, rfl, .inr ⟨g, rfl, hg, hlt, fun i hi => ?_⟩⟩
    have get : ∀ c, c < 5 → w.cell? ⟨g, i * 5 + c, none⟩ = (rowC R[i])[c]? := fun c hc' => by
      rw [← flatW_get R i hi c hc']
      exact hc _ (by rw [flatW_length]; omega)
    exact ⟨get 0 (by omega), get 1 (by omega), get 2 (by omega), get 3 (by omega), get 4 (by omega)⟩

end Go.Proofs.Ytkckgjanfiiieaa

namespace Go.Proofs.Ytkckgjanfiiieaa
open Go.RowKit Go

set_option maxHeartbeats 16000000 in
set_option maxRecDepth 100000 in
theorem filter_any (f g : Ft) (w : World) (va vb : Value) (hf : FAt w va f) (hg : FAt w vb g) (hcf : f.count ≤ 100000) (hcg : g.count ≤ 100000) :
    Calls Try.prog 9 #[va, vb] w fun e w' => ∃ b, e = .returned (.bool b) ∧ (b = true ↔ f = g) ∧ Lay w w' := by
  have hmx : Try.prog.follows .mixedOrders = true := by kernel_rfl
  obtain ⟨kf, rfl, hkf⟩ := hf
  obtain ⟨kg, rfl, hkg⟩ := hg
  obtain ⟨af, cf, rfl⟩ := hkf.shape
  obtain ⟨ag, cg, rfl⟩ := hkg.shape
  have HKF := Lib.hid hkf
  have HKG := Lib.hid hkg
  have CF : ∀ W, Lay w W → Calls Try.prog 7 #[.agg #[.int .i64 f.op, .string f.name, .string f.text, .slice af f.kids.length cf], .int .i64 0] W fun e w' => ∃ v', e = .returned v' ∧ Rk 5 (fun b => W.heap.size ≤ b) w' v' (Ft.rows 0 f).length (flatW (Ft.rows 0 f)) ∧ Lay W w' := fun W hl =>
    rows_any f.count f 0 W (f.val (.slice af f.kids.length cf)) (Nat.le_refl _) hcf (by omega) ⟨_, rfl, KsAt.below hl.below _ f HKF.out⟩
  have CG : ∀ W, Lay w W → Calls Try.prog 7 #[.agg #[.int .i64 g.op, .string g.name, .string g.text, .slice ag g.kids.length cg], .int .i64 0] W fun e w' => ∃ v', e = .returned v' ∧ Rk 5 (fun b => W.heap.size ≤ b) w' v' (Ft.rows 0 g).length (flatW (Ft.rows 0 g)) ∧ Lay W w' := fun W hl =>
    rows_any g.count g 0 W (g.val (.slice ag g.kids.length cg)) (Nat.le_refl _) hcg (by omega) ⟨_, rfl, KsAt.below hl.below _ g HKG.out⟩
  have HCF := Lib.hid CF
  have HCG := Lib.hid CG
  clear hkf hkg CF CG
  simp only [Ft.val]
  obtain ⟨W2, hW2⟩ : ∃ W2, W2 = (w.alloc (.cells #[.int .i64 f.op, .string f.name, .string f.text, .slice af f.kids.length cf] 26)).alloc (.cells #[.int .i64 g.op, .string g.name, .string g.text, .slice ag g.kids.length cg] 26) := ⟨_, rfl⟩
  have HL2 : Hid (Lay w W2) := Lib.hid (by rw [hW2]; exact ((Keep.refl _ _).alloc _).alloc _)
  have s0 : w.heap.size < W2.heap.size := by rw [hW2]; simp; omega
  have s1 : w.heap.size + 1 < W2.heap.size := by rw [hW2]; simp
  have a0 : W2.cell? ⟨w.heap.size, 0, none⟩ = some (.int .i64 f.op) := by rw [hW2]; go_simp
  have a1 : W2.cell? ⟨w.heap.size, 1, none⟩ = some (.string f.name) := by rw [hW2]; go_simp
  have a2 : W2.cell? ⟨w.heap.size, 2, none⟩ = some (.string f.text) := by rw [hW2]; go_simp
  have a3 : W2.cell? ⟨w.heap.size, 3, none⟩ = some (.slice af f.kids.length cf) := by rw [hW2]; go_simp
  have e0 : W2.cell? ⟨w.heap.size + 1, 0, none⟩ = some (.int .i64 g.op) := by rw [hW2]; go_simp
  have e1 : W2.cell? ⟨w.heap.size + 1, 1, none⟩ = some (.string g.name) := by rw [hW2]; go_simp
  have e2 : W2.cell? ⟨w.heap.size + 1, 2, none⟩ = some (.string g.text) := by rw [hW2]; go_simp
  have e3 : W2.cell? ⟨w.heap.size + 1, 3, none⟩ = some (.slice ag g.kids.length cg) := by rw [hW2]; go_simp
  go_enter Try.func9, Try.ntmps9
  go_wp2_with fail
  rw [← hW2]
  clear hW2
  generalize w.heap.size + 1 = g1 at s1 e0 e1 e2 e3 ⊢
  generalize w.heap.size = g0 at s0 a0 a1 a2 a3 ⊢
  clear HKF HKG
  go_region_with (go_at_call 7; first | (refine (HCG.out _ (Keep.trans HL2.out.drew hl3)).mono ?_; rintro e w4 ⟨v4, rfl, hr4, hl4⟩) | (refine (HCF.out _ (HL2.out.drew)).mono ?_; rintro e w3 ⟨v3, rfl, hr3, hl3⟩; have r0 := (Lay.cell hl3 (b := g1) (o := 0) s1).trans e0; have r1 := (Lay.cell hl3 (b := g1) (o := 1) s1).trans e1; have r2 := (Lay.cell hl3 (b := g1) (o := 2) s1).trans e2; have r3 := (Lay.cell hl3 (b := g1) (o := 3) s1).trans e3))
  all_goals
    have hl24 : Lay w w4 := Keep.trans (Keep.trans HL2.out.drew hl3) hl4
    have HL4 := Lib.hid hl24
    obtain ⟨R, hR⟩ : ∃ R, R = Ft.rows 0 f := ⟨_, rfl⟩
    obtain ⟨S, hS⟩ : ∃ S, S = Ft.rows 0 g := ⟨_, rfl⟩
    have HRS : Hid (R = S ↔ f = g) := Lib.hid (by rw [hR, hS]; exact Ft.rows_eq 0 f g)
    rw [← hR] at hr3
    rw [← hS] at hr4
    have hRl : R.length ≤ 100000 := by rw [hR, Ft.rows_length]; exact hcf
    have hSl : S.length ≤ 100000 := by rw [hS, Ft.rows_length]; exact hcg
    obtain ⟨a3, c3, rfl, hx⟩ := (hr3.lay hl4).rowAt
    obtain ⟨a4, c4, rfl, hy⟩ := hr4.rowAt
    have HX := Lib.hid hx
    have HY := Lib.hid hy
    clear hl24 hl3 hl4 hr3 hr4 hR hS r0 r1 r2 r3 hx hy a0 a1 a2 e0 e1 e2 s0 s1 HCF HCG HL2
    by_cases hlen : R.length = S.length
    · have hl1 : ((R.length : Int) != (S.length : Int)) = false := by simp [hlen]
      have HLEN := Lib.hid hlen
      clear hlen
      go_wp2_with fail
      go_loopw [19] (fun vi wr => ∃ i : Nat, vi = .int .i64 i ∧ i ≤ R.length ∧ R.take i = S.take i ∧ Lay w4 wr) (fun vi _ => R.length - (intOf vi).toNat)
      case atStart => exact ⟨0, rfl, Nat.zero_le _, rfl, Keep.refl _ _⟩
      case round =>
        obtain ⟨i, rfl, hi, heq, hl⟩ := hrel
        have HL := Lib.hid hl
        have HEQ := Lib.hid heq
        clear heq
        by_cases hlt : i < R.length
        · have hiS : i < S.length := by rw [← HLEN.out]; exact hlt
          have hiS' : (i : Int) < (S.length : Int) := by omega
          rcases HX.out with h0 | ⟨bx, rfl, _, hbx, hcx⟩
          · exact absurd hlt (by rw [h0]; simp)
          rcases HY.out with h0 | ⟨by', rfl, _, hby, hcy⟩
          · exact absurd hlt (by rw [HLEN.out, h0]; simp)
          obtain ⟨x0, x1, x2, x3, x4⟩ := hcx i hlt
          obtain ⟨y0, y1, y2, y3, y4⟩ := hcy i hiS
          have u0 := (hl.cell hbx).trans x0
          have u1 := (hl.cell hbx).trans x1
          have u2 := (hl.cell hbx).trans x2
          have u3 := (hl.cell hbx).trans x3
          have u4 := (hl.cell hbx).trans x4
          have v0 := (hl.cell hby).trans y0
          have v1 := (hl.cell hby).trans y1
          have v2 := (hl.cell hby).trans y2
          have v3 := (hl.cell hby).trans y3
          have v4 := (hl.cell hby).trans y4
          have HSN : Hid (R[i] = S[i]'hiS → R.take (i + 1) = S.take (i + 1)) := Lib.hid fun e => by
            rw [List.take_succ_eq_append_getElem hlt, List.take_succ_eq_append_getElem hiS, HEQ.out, e]
          have HNE : Hid (R[i] ≠ S[i]'hiS → R ≠ S) := Lib.hid fun h e => by subst e; exact h rfl
          generalize R[i] = x at u0 u1 u2 u3 u4 HSN HNE
          generalize S[i]'hiS = y at v0 v1 v2 v3 v4 HSN HNE
          obtain ⟨xo, xn, xt, xk, xd⟩ := x
          obtain ⟨yo, yn, yt, yk, yd⟩ := y
          simp only at u0 u1 u2 u3 u4 v0 v1 v2 v3 v4
          clear hcx hcy x0 x1 x2 x3 x4 y0 y1 y2 y3 y4 hl
          by_cases ho : xo = yo
          · subst ho
            by_cases hn : xn = yn
            · subst hn
              by_cases ht : xt = yt
              · subst ht
                by_cases hk : xk = yk
                · subst hk
                  by_cases hd : xd = yd
                  · subst hd
                    go_wp2_with fail
                    go_quiet (fail)
                    go_wp2_with fail
                    go_roundw
                    case rel => exact ⟨i + 1, by go_num, by omega, HSN.out (by trivial), Keep.trans HL.out ((Keep.refl _ _).drewN _)⟩
                    case measure => simp [intOf]; omega
                  · have hd' : ((xd : Int) == (yd : Int)) = false := by simp; omega
                    go_wp2_with fail
                    go_quiet (fail)
                    go_wp2_with fail
                    go_ret
                    exact ⟨false, rfl, ⟨fun h => Bool.noConfusion h, fun h => absurd (HRS.out.2 h) (HNE.out (fun e => hd (by injection e)))⟩, Keep.trans HL4.out (Keep.trans HL.out ((Keep.refl _ _).drewN _))⟩
                · have hk' : ((xk : Int) == (yk : Int)) = false := by simp; omega
                  go_wp2_with fail
                  go_quiet (fail)
                  go_wp2_with fail
                  go_ret
                  exact ⟨false, rfl, ⟨fun h => Bool.noConfusion h, fun h => absurd (HRS.out.2 h) (HNE.out (fun e => hk (by injection e)))⟩, Keep.trans HL4.out (Keep.trans HL.out ((Keep.refl _ _).drewN _))⟩
              · have ht' : (xt.toList == yt.toList) = false := by rw [beq_eq_false_iff_ne]; exact fun e => ht (toList_inj _ _ e)
                go_wp2_with fail
                go_quiet (fail)
                go_wp2_with fail
                go_ret
                exact ⟨false, rfl, ⟨fun h => Bool.noConfusion h, fun h => absurd (HRS.out.2 h) (HNE.out (fun e => ht (by injection e)))⟩, Keep.trans HL4.out (Keep.trans HL.out ((Keep.refl _ _).drewN _))⟩
            · have hn' : (xn.toList == yn.toList) = false := by rw [beq_eq_false_iff_ne]; exact fun e => hn (toList_inj _ _ e)
              go_wp2_with fail
              go_quiet (fail)
              go_wp2_with fail
              go_ret
              exact ⟨false, rfl, ⟨fun h => Bool.noConfusion h, fun h => absurd (HRS.out.2 h) (HNE.out (fun e => hn (by injection e)))⟩, Keep.trans HL4.out (Keep.trans HL.out ((Keep.refl _ _).drewN _))⟩
          · have ho' : (xo == yo) = false := by simp; omega
            go_wp2_with fail
            go_quiet (fail)
            go_wp2_with fail
            go_ret
            exact ⟨false, rfl, ⟨fun h => Bool.noConfusion h, fun h => absurd (HRS.out.2 h) (HNE.out (fun e => ho (by injection e)))⟩, Keep.trans HL4.out (Keep.trans HL.out ((Keep.refl _ _).drewN _))⟩
        · obtain rfl : i = R.length := by omega
          have e := HEQ.out
          rw [List.take_length, HLEN.out, List.take_length] at e
          have HE := Lib.hid e
          clear hl e
          go_wp2_with fail
          go_ret
          exact ⟨true, rfl, ⟨fun _ => HRS.out.1 HE.out, fun _ => rfl⟩, Keep.trans HL4.out HL.out⟩
    · have hl1 : ((R.length : Int) != (S.length : Int)) = true := by simp; omega
      go_wp2_with fail
      go_ret
      exact ⟨false, rfl, ⟨fun h => Bool.noConfusion h, fun h => absurd (congrArg List.length (HRS.out.2 h)) hlen⟩, HL4.out⟩

end Go.Proofs.Ytkckgjanfiiieaa

namespace Go.Proofs.Ytkckgjanfiiieaa
open Go.RowKit Go

end Go.Proofs.Ytkckgjanfiiieaa
