/-
  ROWS THAT LIE SO.
  THE DOCUMENT'S OWN Filter: are two filters the same?
  THE DOCUMENT'S OWN Same.
-/
import Derived.Test.YtkckgjanfiiieaaGreatDoorTrA
import Derived.Test.YtkckgjanfiiieaaGreatDoorWdA
import Derived.Deep.QuietTactic
import Derived.BigQuiet
import Derived.Deep.RegionWith
import Derived.Laws.StructEq
namespace Go.Proofs.YtkckgjanfiiieaaGreatDoor
open Go.RowKit Go

theorem flatW_get : ∀ (R : List Ft.Row) (i : Nat) (h : i < R.length) (c : Nat), c < 5 → (flatW R)[i * 5 + c]? = (rowC R[i])[c]?
  | [], i, h, _, _ => by simp at h
  | x :: r, 0, _, c, hc => by
    simp only [flatW, Nat.zero_mul, Nat.zero_add, List.getElem_cons_zero]
    rw [List.getElem?_append_left (by simp [rowC]; omega)]
  | x :: r, i + 1, h, c, hc => by
    simp only [flatW, List.getElem_cons_succ]
    rw [List.getElem?_append_right (by simp [rowC]; omega), ← flatW_get r i (by simpa using h) c hc]
    congr 1
    simp [rowC]
    omega

/-- Rows that lie so. -/
theorem Rk.rowAt {G : Nat → Prop} {w : World} {v : Value} {R : List Ft.Row} (h : Rk 5 G w v R.length (flatW R)) : ∃ a cap, v = .slice a R.length cap ∧ (R = [] ∨ ∃ b, a = some ⟨b, 0, none⟩ ∧ G b ∧ b < w.heap.size ∧
    ∀ i (h : i < R.length), w.cell? ⟨b, i * 5, none⟩ = some (.int .i64 R[i].op) ∧ w.cell? ⟨b, i * 5 + 1, none⟩ = some (.string R[i].name) ∧ w.cell? ⟨b, i * 5 + 2, none⟩ = some (.string R[i].text) ∧
      w.cell? ⟨b, i * 5 + 3, none⟩ = some (.int .i64 (R[i].kids : Nat)) ∧ w.cell? ⟨b, i * 5 + 4, none⟩ = some (.int .i64 (R[i].deep : Nat))) := by
  obtain ⟨_, ⟨rfl, h0⟩ | ⟨g, cap, rfl, hg, hlt, _, _, hc, _⟩⟩ := h
  · have := List.eq_nil_of_length_eq_zero h0
    subst this
    exact ⟨none, 0, rfl, .inl rfl⟩
  · refine ⟨_, _, rfl, .inr ⟨g, rfl, hg, hlt, fun i hi => ?_⟩⟩
    have get : ∀ c, c < 5 → w.cell? ⟨g, i * 5 + c, none⟩ = (rowC R[i])[c]? := fun c hc' => by
      rw [← flatW_get R i hi c hc']
      exact hc _ (by rw [flatW_length]; omega)
    exact ⟨get 0 (by omega), get 1 (by omega), get 2 (by omega), get 3 (by omega), get 4 (by omega)⟩

end Go.Proofs.YtkckgjanfiiieaaGreatDoor

namespace Go.Proofs.YtkckgjanfiiieaaGreatDoor
open Go.RowKit Go

set_option maxHeartbeats 16000000 in
set_option maxRecDepth 100000 in
theorem filter_any (f g : Ft) (w : World) (va vb : Value) (hf : FAt w va f) (hg : FAt w vb g) (hcf : f.count ≤ 100000) (hcg : g.count ≤ 100000) :
    Calls Tryz.prog 7 #[va, vb] w fun e w' => ∃ b, e = .returned (.bool b) ∧ (b = true ↔ f = g) ∧ Lay w w' := by
  have hmx : Tryz.prog.follows .mixedOrders = true := by kernel_rfl
  obtain ⟨kf, rfl, hkf⟩ := hf
  obtain ⟨kg, rfl, hkg⟩ := hg
  obtain ⟨af, cf, rfl⟩ := hkf.shape
  obtain ⟨ag, cg, rfl⟩ := hkg.shape
  have HKF := Lib.hid hkf
  have HKG := Lib.hid hkg
  have CF : ∀ W, Lay w W → Calls Tryz.prog 17 #[.agg #[.int .i64 f.op, .string f.name, .string f.text, .slice af f.kids.length cf], .int .i64 0] W fun e w' => ∃ v', e = .returned v' ∧ Rk 5 (fun b => W.heap.size ≤ b) w' v' (Ft.rows 0 f).length (flatW (Ft.rows 0 f)) ∧ Lay W w' := fun W hl =>
    rows_any f.count f 0 W (f.val (.slice af f.kids.length cf)) (Nat.le_refl _) hcf (by omega) ⟨_, rfl, KsAt.below hl.below _ f HKF.out⟩
  have CG : ∀ W, Lay w W → Calls Tryz.prog 17 #[.agg #[.int .i64 g.op, .string g.name, .string g.text, .slice ag g.kids.length cg], .int .i64 0] W fun e w' => ∃ v', e = .returned v' ∧ Rk 5 (fun b => W.heap.size ≤ b) w' v' (Ft.rows 0 g).length (flatW (Ft.rows 0 g)) ∧ Lay W w' := fun W hl =>
    rows_any g.count g 0 W (g.val (.slice ag g.kids.length cg)) (Nat.le_refl _) hcg (by omega) ⟨_, rfl, KsAt.below hl.below _ g HKG.out⟩
  have HCF := Lib.hid CF
  have HCG := Lib.hid CG
  clear hkf hkg CF CG
  simp only [Ft.val]
  obtain ⟨W2, hW2⟩ : ∃ W2, W2 = (w.alloc (.cells #[.int .i64 f.op, .string f.name, .string f.text, .slice af f.kids.length cf] 26)).alloc (.cells #[.int .i64 g.op, .string g.name, .string g.text, .slice ag g.kids.length cg] 26) := ⟨_, rfl⟩
  have HL2 : Hid (Lay w W2) := Lib.hid (by rw [hW2]; exact ((Keep.refl _ _).alloc _).alloc _)
  have s0 : w.heap.size < W2.heap.size := by rw [hW2]; simp; omega
  have s1 : w.heap.size + 1 < W2.heap.size := by rw [hW2]; simp
  have a0 : W2.cell? ⟨w.heap.size, 0, none⟩ = some (.int .i64 f.op) := by rw [hW2]; go_simp
  have a1 : W2.cell? ⟨w.heap.size, 1, none⟩ = some (.string f.name) := by rw [hW2]; go_simp
  have a2 : W2.cell? ⟨w.heap.size, 2, none⟩ = some (.string f.text) := by rw [hW2]; go_simp
  have a3 : W2.cell? ⟨w.heap.size, 3, none⟩ = some (.slice af f.kids.length cf) := by rw [hW2]; go_simp
  have e0 : W2.cell? ⟨w.heap.size + 1, 0, none⟩ = some (.int .i64 g.op) := by rw [hW2]; go_simp
  have e1 : W2.cell? ⟨w.heap.size + 1, 1, none⟩ = some (.string g.name) := by rw [hW2]; go_simp
  have e2 : W2.cell? ⟨w.heap.size + 1, 2, none⟩ = some (.string g.text) := by rw [hW2]; go_simp
  have e3 : W2.cell? ⟨w.heap.size + 1, 3, none⟩ = some (.slice ag g.kids.length cg) := by rw [hW2]; go_simp
  go_enter Tryz.func7, Tryz.ntmps7
  go_wp2_with fail
  rw [← hW2]
  clear hW2
  generalize w.heap.size + 1 = g1 at s1 e0 e1 e2 e3 ⊢
  generalize w.heap.size = g0 at s0 a0 a1 a2 a3 ⊢
  clear HKF HKG
  go_region_with (go_at_call 17; first | (refine (HCG.out _ (Keep.trans HL2.out.drew hl3)).mono ?_; rintro e w4 ⟨v4, rfl, hr4, hl4⟩) | (refine (HCF.out _ (HL2.out.drew)).mono ?_; rintro e w3 ⟨v3, rfl, hr3, hl3⟩; have r0 := (Lay.cell hl3 (b := g1) (o := 0) s1).trans e0; have r1 := (Lay.cell hl3 (b := g1) (o := 1) s1).trans e1; have r2 := (Lay.cell hl3 (b := g1) (o := 2) s1).trans e2; have r3 := (Lay.cell hl3 (b := g1) (o := 3) s1).trans e3))
  all_goals
    have hl24 : Lay w w4 := Keep.trans (Keep.trans HL2.out.drew hl3) hl4
    have HL4 := Lib.hid hl24
    obtain ⟨R, hR⟩ : ∃ R, R = Ft.rows 0 f := ⟨_, rfl⟩
    obtain ⟨S, hS⟩ : ∃ S, S = Ft.rows 0 g := ⟨_, rfl⟩
    have HRS : Hid (R = S ↔ f = g) := Lib.hid (by rw [hR, hS]; exact Ft.rows_eq 0 f g)
    rw [← hR] at hr3
    rw [← hS] at hr4
    have hRl : R.length ≤ 100000 := by rw [hR, Ft.rows_length]; exact hcf
    have hSl : S.length ≤ 100000 := by rw [hS, Ft.rows_length]; exact hcg
    obtain ⟨a3, c3, rfl, hx⟩ := (hr3.lay hl4).rowAt
    obtain ⟨a4, c4, rfl, hy⟩ := hr4.rowAt
    have HX := Lib.hid hx
    have HY := Lib.hid hy
    clear hl24 hl3 hl4 hr3 hr4 hR hS r0 r1 r2 r3 hx hy a0 a1 a2 e0 e1 e2 s0 s1 HCF HCG HL2
    by_cases hlen : R.length = S.length
    · have hl1 : ((R.length : Int) != (S.length : Int)) = false := by simp [hlen]
      have HLEN := Lib.hid hlen
      clear hlen
      go_wp2_with fail
      go_loopw [19] (fun vi wr => ∃ i : Nat, vi = .int .i64 i ∧ i ≤ R.length ∧ R.take i = S.take i ∧ Lay w4 wr) (fun vi _ => R.length - (intOf vi).toNat)
      case atStart => exact ⟨0, rfl, Nat.zero_le _, rfl, Keep.refl _ _⟩
      case round =>
        obtain ⟨i, rfl, hi, heq, hl⟩ := hrel
        have HL := Lib.hid hl
        have HEQ := Lib.hid heq
        clear heq
        by_cases hlt : i < R.length
        · have hiS : i < S.length := by rw [← HLEN.out]; exact hlt
          have hiS' : (i : Int) < (S.length : Int) := by omega
          rcases HX.out with h0 | ⟨bx, rfl, _, hbx, hcx⟩
          · exact absurd hlt (by rw [h0]; simp)
          rcases HY.out with h0 | ⟨by', rfl, _, hby, hcy⟩
          · exact absurd hlt (by rw [HLEN.out, h0]; simp)
          obtain ⟨x0, x1, x2, x3, x4⟩ := hcx i hlt
          obtain ⟨y0, y1, y2, y3, y4⟩ := hcy i hiS
          have u0 := (hl.cell hbx).trans x0
          have u1 := (hl.cell hbx).trans x1
          have u2 := (hl.cell hbx).trans x2
          have u3 := (hl.cell hbx).trans x3
          have u4 := (hl.cell hbx).trans x4
          have v0 := (hl.cell hby).trans y0
          have v1 := (hl.cell hby).trans y1
          have v2 := (hl.cell hby).trans y2
          have v3 := (hl.cell hby).trans y3
          have v4 := (hl.cell hby).trans y4
          have HSN : Hid (R[i] = S[i]'hiS → R.take (i + 1) = S.take (i + 1)) := Lib.hid fun e => by
            rw [List.take_succ_eq_append_getElem hlt, List.take_succ_eq_append_getElem hiS, HEQ.out, e]
          have HNE : Hid (R[i] ≠ S[i]'hiS → R ≠ S) := Lib.hid fun h e => by subst e; exact h rfl
          generalize R[i] = x at u0 u1 u2 u3 u4 HSN HNE
          generalize S[i]'hiS = y at v0 v1 v2 v3 v4 HSN HNE
          obtain ⟨xo, xn, xt, xk, xd⟩ := x
          obtain ⟨yo, yn, yt, yk, yd⟩ := y
          simp only at u0 u1 u2 u3 u4 v0 v1 v2 v3 v4
          clear hcx hcy x0 x1 x2 x3 x4 y0 y1 y2 y3 y4 hl
          by_cases ho : xo = yo
          · subst ho
            by_cases hn : xn = yn
            · subst hn
              by_cases ht : xt = yt
              · subst ht
                by_cases hk : xk = yk
                · subst hk
                  by_cases hd : xd = yd
                  · subst hd
                    go_wp2_with fail
                    go_quiet (fail)
                    go_wp2_with fail
                    go_roundw
                    case rel => exact ⟨i + 1, by go_num, by omega, HSN.out (by trivial), Keep.trans HL.out ((Keep.refl _ _).drewN _)⟩
                    case measure => simp [intOf]; omega
                  · have hd' : ((xd : Int) == (yd : Int)) = false := by simp; omega
                    go_wp2_with fail
                    go_quiet (fail)
                    go_wp2_with fail
                    go_ret
                    exact ⟨false, rfl, ⟨fun h => Bool.noConfusion h, fun h => absurd (HRS.out.2 h) (HNE.out (fun e => hd (by injection e)))⟩, Keep.trans HL4.out (Keep.trans HL.out ((Keep.refl _ _).drewN _))⟩
                · have hk' : ((xk : Int) == (yk : Int)) = false := by simp; omega
                  go_wp2_with fail
                  go_quiet (fail)
                  go_wp2_with fail
                  go_ret
                  exact ⟨false, rfl, ⟨fun h => Bool.noConfusion h, fun h => absurd (HRS.out.2 h) (HNE.out (fun e => hk (by injection e)))⟩, Keep.trans HL4.out (Keep.trans HL.out ((Keep.refl _ _).drewN _))⟩
              · have ht' : (xt.toList == yt.toList) = false := by rw [beq_eq_false_iff_ne]; exact fun e => ht (toList_inj _ _ e)
                go_wp2_with fail
                go_quiet (fail)
                go_wp2_with fail
                go_ret
                exact ⟨false, rfl, ⟨fun h => Bool.noConfusion h, fun h => absurd (HRS.out.2 h) (HNE.out (fun e => ht (by injection e)))⟩, Keep.trans HL4.out (Keep.trans HL.out ((Keep.refl _ _).drewN _))⟩
            · have hn' : (xn.toList == yn.toList) = false := by rw [beq_eq_false_iff_ne]; exact fun e => hn (toList_inj _ _ e)
              go_wp2_with fail
              go_quiet (fail)
              go_wp2_with fail
              go_ret
              exact ⟨false, rfl, ⟨fun h => Bool.noConfusion h, fun h => absurd (HRS.out.2 h) (HNE.out (fun e => hn (by injection e)))⟩, Keep.trans HL4.out (Keep.trans HL.out ((Keep.refl _ _).drewN _))⟩
          · have ho' : (xo == yo) = false := by simp; omega
            go_wp2_with fail
            go_quiet (fail)
            go_wp2_with fail
            go_ret
            exact ⟨false, rfl, ⟨fun h => Bool.noConfusion h, fun h => absurd (HRS.out.2 h) (HNE.out (fun e => ho (by injection e)))⟩, Keep.trans HL4.out (Keep.trans HL.out ((Keep.refl _ _).drewN _))⟩
        · obtain rfl : i = R.length := by omega
          have e := HEQ.out
          rw [List.take_length, HLEN.out, List.take_length] at e
          have HE := Lib.hid e
          clear hl e
          go_wp2_with fail
          go_ret
          exact ⟨true, rfl, ⟨fun _ => HRS.out.1 HE.out, fun _ => rfl⟩, Keep.trans HL4.out HL.out⟩
    · have hl1 : ((R.length : Int) != (S.length : Int)) = true := by simp; omega
      go_wp2_with fail
      go_ret
      exact ⟨false, rfl, ⟨fun h => Bool.noConfusion h, fun h => absurd (congrArg List.length (HRS.out.2 h)) hlen⟩, HL4.out⟩

end Go.Proofs.YtkckgjanfiiieaaGreatDoor

namespace Go.Proofs.YtkckgjanfiiieaaGreatDoor
open Go.RowKit Go

/-- A matcher. -/
structure Mt where
  name : ByteArray
  not : Bool
  value : ByteArray
deriving DecidableEq

/-- A query. -/
structure Qy where
  src : Int
  til : Int
  mat : List Mt
  fil : Ft
  desc : Bool
  lim : Int
  page : ByteArray

def Mt.val (m : Mt) : Value := .agg #[.string m.name, .bool m.not, .string m.value]

/-- v is a slice of matchers. -/
def MsAt (w : World) (v : Value) (l : List Mt) : Prop :=
  ∃ a cap, v = .slice a l.length cap ∧ l.length ≤ 9223372036854775807 ∧ (l = [] ∨ ∃ b off, a = some ⟨b, off, none⟩ ∧ b < w.heap.size ∧
    ∀ i (h : i < l.length), w.cell? ⟨b, off + i * 3, none⟩ = some (.string l[i].name) ∧ w.cell? ⟨b, off + i * 3 + 1, none⟩ = some (.bool l[i].not) ∧ w.cell? ⟨b, off + i * 3 + 2, none⟩ = some (.string l[i].value))

theorem MsAt.lay {w w' : World} {v : Value} {l : List Mt} (h : MsAt w v l) (hl : Lay w w') : MsAt w' v l := by
  obtain ⟨a, cap, hv, h1, h | ⟨b, off, ha, hlt, hc⟩⟩ := h
  · exact ⟨a, cap, hv, h1, .inl h⟩
  · exact ⟨a, cap, hv, h1, .inr ⟨b, off, ha, Nat.lt_of_lt_of_le hlt hl.size, fun i hi => ⟨(hl.cell hlt).trans (hc i hi).1, (hl.cell hlt).trans (hc i hi).2.1, (hl.cell hlt).trans (hc i hi).2.2⟩⟩⟩

/-- A query's value. -/
def Qy.val (q : Qy) (mv kv : Value) : Value := .agg #[.int .i64 q.src, .int .i64 q.til, mv, .int .i64 q.fil.op, .string q.fil.name, .string q.fil.text, kv, .bool q.desc, .int .i64 q.lim, .string q.page]

/-- A value that is a query. -/
def QAt (w : World) (v : Value) (q : Qy) : Prop := ∃ mv kv, v = q.val mv kv ∧ MsAt w mv q.mat ∧ KsAt w kv q.fil

theorem QAt.lay {w w' : World} {v : Value} {q : Qy} (h : QAt w v q) (hl : Lay w w') : QAt w' v q := by
  obtain ⟨mv, fv, hv, hm, hf⟩ := h
  exact ⟨mv, fv, hv, hm.lay hl, KsAt.below hl.below _ _ hf⟩

set_option maxHeartbeats 8000000 in
set_option maxRecDepth 100000 in
theorem same_any (p q : Qy) (w : World) (va vb : Value) (hp : QAt w va p) (hq : QAt w vb q) (hcp : p.fil.count ≤ 100000) (hcq : q.fil.count ≤ 100000) :
    Calls Tryz.prog 10 #[va, vb] w fun e w' => ∃ b, e = .returned (.bool b) ∧ (b = true ↔ p = q) ∧ Lay w w' := by
  have hmx : Tryz.prog.follows .mixedOrders = true := by kernel_rfl
  obtain ⟨mv, kv, rfl, hm, hk⟩ := hp
  obtain ⟨mv', kv', rfl, hm', hk'⟩ := hq
  obtain ⟨s, t, m, f, d, n, g⟩ := p
  obtain ⟨s', t', m', f', d', n', g'⟩ := q
  obtain ⟨a1, c1, rfl, hl1, hms⟩ := hm
  obtain ⟨a2, c2, rfl, hl2, hms'⟩ := hm'
  unfold Qy.val
  simp only at hl1 hl2 hms hms' hk hk' hcp hcq ⊢
  have HMS := Lib.hid hms
  have HMS' := Lib.hid hms'
  have HF := Lib.hid fun W (h : Lay w W) => filter_any f f' W (f.val kv) (f'.val kv') ⟨_, rfl, KsAt.below h.below _ _ hk⟩ ⟨_, rfl, KsAt.below h.below _ _ hk'⟩ hcp hcq
  clear hms hms' hk hk'
  unfold Ft.val at HF
  obtain ⟨W, hW⟩ : ∃ W, W = (w.alloc (.cells #[.int .i64 s, .int .i64 t, .slice a1 m.length c1, .int .i64 f.op, .string f.name, .string f.text, kv, .bool d, .int .i64 n, .string g] 30)).alloc (.cells #[.int .i64 s', .int .i64 t', .slice a2 m'.length c2, .int .i64 f'.op, .string f'.name, .string f'.text, kv', .bool d', .int .i64 n', .string g'] 30) := ⟨_, rfl⟩
  have HLW : Hid (Lay w W) := Lib.hid (by rw [hW]; exact ((Keep.refl _ _).alloc _).alloc _)
  have s0 : w.heap.size < W.heap.size := by rw [hW]; simp; omega
  have s1 : w.heap.size + 1 < W.heap.size := by rw [hW]; simp
  have x0 : W.cell? ⟨w.heap.size, 0, none⟩ = some (.int .i64 s) := by rw [hW]; go_simp
  have x1 : W.cell? ⟨w.heap.size, 1, none⟩ = some (.int .i64 t) := by rw [hW]; go_simp
  have x2 : W.cell? ⟨w.heap.size, 2, none⟩ = some (.slice a1 m.length c1) := by rw [hW]; go_simp
  have x3 : W.cell? ⟨w.heap.size, 3, none⟩ = some (.int .i64 f.op) := by rw [hW]; go_simp
  have x4 : W.cell? ⟨w.heap.size, 4, none⟩ = some (.string f.name) := by rw [hW]; go_simp
  have x5 : W.cell? ⟨w.heap.size, 5, none⟩ = some (.string f.text) := by rw [hW]; go_simp
  have x6 : W.cell? ⟨w.heap.size, 6, none⟩ = some kv := by rw [hW]; go_simp
  have x7 : W.cell? ⟨w.heap.size, 7, none⟩ = some (.bool d) := by rw [hW]; go_simp
  have x8 : W.cell? ⟨w.heap.size, 8, none⟩ = some (.int .i64 n) := by rw [hW]; go_simp
  have x9 : W.cell? ⟨w.heap.size, 9, none⟩ = some (.string g) := by rw [hW]; go_simp
  have y0 : W.cell? ⟨w.heap.size + 1, 0, none⟩ = some (.int .i64 s') := by rw [hW]; go_simp
  have y1 : W.cell? ⟨w.heap.size + 1, 1, none⟩ = some (.int .i64 t') := by rw [hW]; go_simp
  have y2 : W.cell? ⟨w.heap.size + 1, 2, none⟩ = some (.slice a2 m'.length c2) := by rw [hW]; go_simp
  have y3 : W.cell? ⟨w.heap.size + 1, 3, none⟩ = some (.int .i64 f'.op) := by rw [hW]; go_simp
  have y4 : W.cell? ⟨w.heap.size + 1, 4, none⟩ = some (.string f'.name) := by rw [hW]; go_simp
  have y5 : W.cell? ⟨w.heap.size + 1, 5, none⟩ = some (.string f'.text) := by rw [hW]; go_simp
  have y6 : W.cell? ⟨w.heap.size + 1, 6, none⟩ = some kv' := by rw [hW]; go_simp
  have y7 : W.cell? ⟨w.heap.size + 1, 7, none⟩ = some (.bool d') := by rw [hW]; go_simp
  have y8 : W.cell? ⟨w.heap.size + 1, 8, none⟩ = some (.int .i64 n') := by rw [hW]; go_simp
  have y9 : W.cell? ⟨w.heap.size + 1, 9, none⟩ = some (.string g') := by rw [hW]; go_simp
  have HW := Lib.hid hW.symm
  clear hW
  by_cases hs : s = s'
  rotate_left
  · have hb : (s != s') = true := by simp [hs]
    clear x0 x1 x2 x3 x4 x5 x6 x7 x8 x9 y0 y1 y2 y3 y4 y5 y6 y7 y8 y9 s0 s1
    go_enter Tryz.func10, Tryz.ntmps10
    go_wp2_with fail
    go_ret
    rw [HW.out]
    exact ⟨false, rfl, ⟨fun h => Bool.noConfusion h, fun h => absurd (congrArg Qy.src h) hs⟩, HLW.out⟩
  subst hs
  by_cases ht : t = t'
  rotate_left
  · have hb : (t != t') = true := by simp [ht]
    clear x0 x1 x2 x3 x4 x5 x6 x7 x8 x9 y0 y1 y2 y3 y4 y5 y6 y7 y8 y9 s0 s1
    go_enter Tryz.func10, Tryz.ntmps10
    go_wp2_with fail
    go_ret
    rw [HW.out]
    exact ⟨false, rfl, ⟨fun h => Bool.noConfusion h, fun h => absurd (congrArg Qy.til h) ht⟩, HLW.out⟩
  subst ht
  by_cases hd : d = d'
  rotate_left
  · have hb : (d != d') = true := by simp [hd]
    clear x0 x1 x2 x3 x4 x5 x6 x7 x8 x9 y0 y1 y2 y3 y4 y5 y6 y7 y8 y9 s0 s1
    go_enter Tryz.func10, Tryz.ntmps10
    go_wp2_with fail
    go_ret
    rw [HW.out]
    exact ⟨false, rfl, ⟨fun h => Bool.noConfusion h, fun h => absurd (congrArg Qy.desc h) hd⟩, HLW.out⟩
  subst hd
  by_cases hn : n = n'
  rotate_left
  · have hb : (n != n') = true := by simp [hn]
    clear x0 x1 x2 x3 x4 x5 x6 x7 x8 x9 y0 y1 y2 y3 y4 y5 y6 y7 y8 y9 s0 s1
    go_enter Tryz.func10, Tryz.ntmps10
    go_wp2_with fail
    go_ret
    rw [HW.out]
    exact ⟨false, rfl, ⟨fun h => Bool.noConfusion h, fun h => absurd (congrArg Qy.lim h) hn⟩, HLW.out⟩
  subst hn
  by_cases hg : g = g'
  rotate_left
  · have hb : (g.toList == g'.toList) = false := by rw [beq_eq_false_iff_ne]; exact fun e => hg (toList_inj _ _ e)
    clear x0 x1 x2 x3 x4 x5 x6 x7 x8 x9 y0 y1 y2 y3 y4 y5 y6 y7 y8 y9 s0 s1
    go_enter Tryz.func10, Tryz.ntmps10
    go_wp2_with fail
    go_ret
    rw [HW.out]
    exact ⟨false, rfl, ⟨fun h => Bool.noConfusion h, fun h => absurd (congrArg Qy.page h) hg⟩, HLW.out⟩
  subst hg
  by_cases hm : m.length = m'.length
  rotate_left
  · have hb : ((m.length : Int) != (m'.length : Int)) = true := by simp; omega
    clear x0 x1 x2 x3 x4 x5 x6 x7 x8 x9 y0 y1 y2 y3 y4 y5 y6 y7 y8 y9 s0 s1
    go_enter Tryz.func10, Tryz.ntmps10
    go_wp2_with fail
    go_ret
    rw [HW.out]
    exact ⟨false, rfl, ⟨fun h => Bool.noConfusion h, fun h => absurd (congrArg (fun q => q.mat.length) h) hm⟩, HLW.out⟩
  have hb : ((m.length : Int) != (m'.length : Int)) = false := by simp; omega
  have HM := Lib.hid hm
  clear hm
  go_enter Tryz.func10, Tryz.ntmps10
  go_wp2_with fail
  rw [HW.out]
  clear HW
  generalize w.heap.size + 1 = k1 at s1 y0 y1 y2 y3 y4 y5 y6 y7 y8 y9 ⊢
  generalize w.heap.size = k0 at s0 x0 x1 x2 x3 x4 x5 x6 x7 x8 x9 ⊢
  clear hb
  go_loopw [51] (fun vi wr => ∃ i : Nat, vi = .int .i64 i ∧ i ≤ m.length ∧ m.take i = m'.take i ∧ Lay W wr) (fun vi _ => m.length - (intOf vi).toNat)
  case atStart => exact ⟨0, rfl, Nat.zero_le _, rfl, Keep.refl _ _⟩
  case round =>
    obtain ⟨i, rfl, hi, heq, hl⟩ := hrel
    have HL := Lib.hid hl
    have HEQ := Lib.hid heq
    clear heq
    by_cases hlt : i < m.length
    · have hi' : i < m'.length := by rw [← HM.out]; exact hlt
      have hi2 : (i : Int) < (m'.length : Int) := by omega
      rcases HMS.out with h0 | ⟨bx, ox, rfl, hbx, hcx⟩
      · exact absurd hlt (by rw [h0]; simp)
      rcases HMS'.out with h0 | ⟨bz, oz, rfl, hbz, hcz⟩
      · exact absurd hi' (by rw [h0]; simp)
      obtain ⟨e0, e1, e2⟩ := hcx i hlt
      obtain ⟨z0, z1, z2⟩ := hcz i hi'
      have hbx' := Nat.lt_of_lt_of_le hbx (Nat.le_trans HLW.out.size hl.size)
      have hbz' := Nat.lt_of_lt_of_le hbz (Nat.le_trans HLW.out.size hl.size)
      have hww : Lay w wr := HLW.out.trans hl
      have u0 := (hww.cell hbx).trans e0
      have u1 := (hww.cell hbx).trans e1
      have u2 := (hww.cell hbx).trans e2
      have v0 := (hww.cell hbz).trans z0
      have v1 := (hww.cell hbz).trans z1
      have v2 := (hww.cell hbz).trans z2
      have p2 := (hl.cell s0).trans x2
      have q2 := (hl.cell s1).trans y2
      have HSN : Hid (m[i] = m'[i]'hi' → m.take (i + 1) = m'.take (i + 1)) := Lib.hid fun e => by
        rw [List.take_succ_eq_append_getElem hlt, List.take_succ_eq_append_getElem hi', HEQ.out, e]
      have HNE : Hid (m[i] ≠ m'[i]'hi' → m ≠ m') := Lib.hid fun h e => by subst e; exact h rfl
      generalize m[i] = x at u0 u1 u2 HSN HNE
      generalize m'[i]'hi' = y at v0 v1 v2 HSN HNE
      obtain ⟨xn, xb, xv⟩ := x
      obtain ⟨yn, yb, yv⟩ := y
      simp only at u0 u1 u2 v0 v1 v2
      clear hcx hcz e0 e1 e2 z0 z1 z2 hww hl x0 x1 x2 x3 x4 x5 x6 x7 x8 x9 y0 y1 y2 y3 y4 y5 y6 y7 y8 y9
      by_cases ho : xn = yn
      · subst ho
        by_cases ht : xb = yb
        · subst ht
          by_cases hv : xv = yv
          · subst hv
            go_wp2_with fail
            go_quiet (fail)
            go_wp2_with fail
            go_roundw
            case rel => exact ⟨i + 1, by go_num, by omega, HSN.out (by trivial), Keep.trans HL.out ((Keep.refl _ _).drewN _)⟩
            case measure => simp [intOf]; omega
          · have ht' : (xv.toList == yv.toList) = false := by rw [beq_eq_false_iff_ne]; exact fun e => hv (toList_inj _ _ e)
            go_wp2_with fail
            go_quiet (fail)
            go_wp2_with fail
            go_ret
            exact ⟨false, rfl, ⟨fun h => Bool.noConfusion h, fun h => absurd (congrArg Qy.mat h) (HNE.out (fun e => hv (by injection e)))⟩, Keep.trans HLW.out (Keep.trans HL.out ((Keep.refl _ _).drewN _))⟩
        · have ht' : (xb == yb) = false := by simp [ht]
          go_wp2_with fail
          go_quiet (fail)
          go_wp2_with fail
          go_ret
          exact ⟨false, rfl, ⟨fun h => Bool.noConfusion h, fun h => absurd (congrArg Qy.mat h) (HNE.out (fun e => ht (by injection e)))⟩, Keep.trans HLW.out (Keep.trans HL.out ((Keep.refl _ _).drewN _))⟩
      · have ht' : (xn.toList == yn.toList) = false := by rw [beq_eq_false_iff_ne]; exact fun e => ho (toList_inj _ _ e)
        go_wp2_with fail
        go_quiet (fail)
        go_wp2_with fail
        go_ret
        exact ⟨false, rfl, ⟨fun h => Bool.noConfusion h, fun h => absurd (congrArg Qy.mat h) (HNE.out (fun e => ho (by injection e)))⟩, Keep.trans HLW.out (Keep.trans HL.out ((Keep.refl _ _).drewN _))⟩
    · obtain rfl : i = m.length := by omega
      have hmm : m = m' := by
        have := HEQ.out
        rw [List.take_length, HM.out, List.take_length] at this
        exact this
      have p3 := (hl.cell s0).trans x3
      have p4 := (hl.cell s0).trans x4
      have p5 := (hl.cell s0).trans x5
      have p6 := (hl.cell s0).trans x6
      have q3 := (hl.cell s1).trans y3
      have q4 := (hl.cell s1).trans y4
      have q5 := (hl.cell s1).trans y5
      have q6 := (hl.cell s1).trans y6
      have HC := Lib.hid (HF.out wr (HLW.out.trans hl))
      have HMM := Lib.hid hmm
      have t0 := Nat.lt_of_lt_of_le s0 hl.size
      have t1 := Nat.lt_of_lt_of_le s1 hl.size
      clear hmm hl x0 x1 x2 x3 x4 x5 x6 x7 x8 x9 y0 y1 y2 y3 y4 y5 y6 y7 y8 y9
      go_wp2_with fail
      refine HC.out.mono ?_
      rintro e w5 ⟨b, rfl, hb, hl5⟩
      have HB := Lib.hid hb
      have HL5 := Lib.hid hl5
      clear hb hl5
      go_wp2_with fail
      go_ret
      refine ⟨b, rfl, ?_, HLW.out.trans (HL.out.trans HL5.out)⟩
      rw [HB.out, HMM.out]
      exact ⟨fun h => by rw [h], fun h => congrArg Qy.fil h⟩

end Go.Proofs.YtkckgjanfiiieaaGreatDoor
