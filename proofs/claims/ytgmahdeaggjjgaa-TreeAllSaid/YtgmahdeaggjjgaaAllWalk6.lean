/-
  magpielaw06.TreeAll: the walk.
-/
import Derived.Test.YtgmahdeaggjjgaaAlive6
import Derived.Test.YtgmahdeaggjjgaaGone6
import Derived.Test.YtgmahdeaggjjgaaCalls6
namespace Go.Proofs.Ytgmahdeaggjjgaa
open Go.RowKit Go

set_option maxHeartbeats 8000000 in
set_option maxRecDepth 100000 in
theorem all_walk (l : List Int) (m : Int) (hm : -9223372036854775808 ≤ m ∧ m ≤ 9223372036854775807) (w : World) (v : Value) (h : IntsAt w v l) : Calls Try.prog 3 #[v, .int .i64 m] w fun e w' => e = .returned (.bool true) ∧ Lay w w' := by
  have hmx : Try.prog.follows .mixedOrders = true := by kernel_rfl
  obtain ⟨a, cap, rfl, hl63, _⟩ := id h
  have HI := Lib.hid h
  have HA := Lib.hid (alive_any treeCalls w)
  clear h
  go_enter Try.func3, Try.ntmps3
  go_wp2_with fail
  refine HA.out.mono ?_
  rintro e w1 ⟨rfl, hl1⟩
  have HL1 := Lib.hid hl1
  by_cases h300 : 300 < l.length
  · have hd : decide (300 < (l.length : Int)) = true := by simp; omega
    go_wp2_with fail
    go_ret
    exact ⟨rfl, HL1.out⟩
  have hd : decide (300 < (l.length : Int)) = false := by simp; omega
  have hf := law_filter l w1 _ (HI.out.lay hl1)
  unfold FilterP at hf
  have hmc := Ft.make_count l 4 0
  obtain ⟨X, hX⟩ : ∃ X, X = (Ft.make l 4 0).1 := ⟨_, rfl⟩
  rw [← hX] at hf hmc
  have HF := Lib.hid hf
  have hxc : X.count ≤ 256 := hmc
  clear hl1 hf hX hmc HA
  go_wp2_with fail
  refine HF.out.mono ?_
  rintro e w2 ⟨kv, rfl, hkb, hl2⟩
  have hks := KsB.at _ _ hkb
  obtain ⟨ak, ck, rfl⟩ := hks.shape
  have hfx : FAt w2 (.agg #[.int .i64 X.op, .string X.name, .string X.text, .slice ak X.kids.length ck]) X := ⟨_, rfl, hks⟩
  have HFX := Lib.hid hfx
  have HL2 := Lib.hid (HL1.out.trans hl2)
  simp only [Ft.val]
  obtain ⟨W, hW⟩ : ∃ W, W = w2.alloc (.cells #[.int .i64 X.op, .string X.name, .string X.text, .slice ak X.kids.length ck] 26) := ⟨_, rfl⟩
  have hlW : Lay w2 W := by rw [hW]; exact (Keep.refl _ _).alloc _
  have hfb : FBox W w2.heap.size (.slice ak X.kids.length ck) X := by rw [hW]; exact FBox.new _ _ _
  have HR := Lib.hid fun (W' : World) (h : Lay W W') => rows_any X.count X 0 W' (.agg #[.int .i64 X.op, .string X.name, .string X.text, .slice ak X.kids.length ck]) (Nat.le_refl _) (by omega) (by omega) (hfx.lay (hlW.trans h))
  have HG := Lib.hid fun (m : Int) (W' : World) (h : Lay W W') => gone_any X (by omega) m W' (.agg #[.int .i64 X.op, .string X.name, .string X.text, .slice ak X.kids.length ck]) (hfx.lay (hlW.trans h))
  have HC := Lib.hid fun (W' : World) (h : Lay W W') => treeCalls.count X (by omega) W' (.agg #[.int .i64 X.op, .string X.name, .string X.text, .slice ak X.kids.length ck]) (hfx.lay (hlW.trans h))
  obtain ⟨R, hR⟩ : ∃ R, R = Ft.rows 0 X := ⟨_, rfl⟩
  have hRl : X.count = R.length := by rw [hR, Ft.rows_length]
  have HB := Lib.hid fun (W' : World) (h : Lay W W') => (hfb.keep h (fun h => h)).bx
  have hBlt := hfb.lt
  have HW := Lib.hid hW.symm
  have HLW := Lib.hid (HL2.out.trans hlW)
  unfold GoneP at HG
  rw [hRl] at HC hxc
  rw [← hR] at HR HG
  have htk : R.take (5000 : Int).toNat = R := List.take_of_length_le (by simp; omega)
  have HG5 := HG.out 5000
  rw [htk] at HG5
  have HGA := Lib.hid HG5
  have HGB := Lib.hid (HG.out m)
  have HTL : Hid (((R.take m.toNat).length : Int) = min (max m 0) (R.length : Int)) := Lib.hid (by rw [List.length_take]; omega)
  obtain ⟨T, hT⟩ : ∃ T, T = R.take m.toNat := ⟨_, rfl⟩
  rw [← hT] at HGB HTL
  clear hks hkb hl2 hW hlW hfb hfx HF HI hR hRl htk HG5 HG hT HFX HL2
  obtain ⟨x0, x1, x2, x3, _, _, _, _⟩ := HB.out W (Keep.refl _ _)
  go_wp2_with fail
  rw [HW.out]
  refine (HR.out W (Keep.refl _ _)).mono ?_
  rintro e w3 ⟨v3, rfl, hr3, hl3⟩
  obtain ⟨y0, y1, y2, y3, _, _, _, _⟩ := HB.out w3 hl3
  have hb3 := Nat.lt_of_lt_of_le hBlt hl3.size
  obtain ⟨a3, c3, rfl, hrow3⟩ := hr3.rowAt
  have HROW3 := Lib.hid hrow3
  have HL3 := Lib.hid hl3
  clear x0 x1 x2 x3 hr3 hl3 hrow3
  go_wp2_with fail
  refine (HGA.out w3 HL3.out).mono ?_
  rintro e w4 ⟨v4, rfl, hr4, hl4⟩
  have hl34 := HL3.out.trans hl4
  obtain ⟨x0, x1, x2, x3, _, _, _, _⟩ := HB.out w4 hl34
  have hb4 := Nat.lt_of_lt_of_le hBlt hl34.size
  obtain ⟨a4, c4, rfl, hrow4⟩ := hr4.rowAt
  have HROW4 := Lib.hid hrow4
  have HL4 : Hid (Lay W w4) := Lib.hid hl34
  have HL34 := Lib.hid hl4
  clear y0 y1 y2 y3 hr4 hl4 hrow4 hl34
  go_wp2_with fail
  refine (HC.out w4 HL4.out).mono ?_
  rintro e w5 ⟨rfl, hl5⟩
  have hl45 := HL4.out.trans hl5
  obtain ⟨y0, y1, y2, y3, _, _, _, _⟩ := HB.out w5 hl45
  have hb5 := Nat.lt_of_lt_of_le hBlt hl45.size
  have HL5 : Hid (Lay W w5) := Lib.hid hl45
  have HL45 := Lib.hid hl5
  clear x0 x1 x2 x3 hl5 hl45
  go_wp2_with fail
  refine (HGB.out w5 HL5.out).mono ?_
  rintro e w6 ⟨v6, rfl, hr6, hl6⟩
  obtain ⟨a6, c6, rfl, _⟩ := hr6.rowAt
  have HL6 : Hid (Lay W w6) := Lib.hid (HL5.out.trans hl6)
  have HL36 : Hid (Lay w3 w6) := Lib.hid ((HL34.out.trans HL45.out).trans hl6)
  have HL46 : Hid (Lay w4 w6) := Lib.hid (HL45.out.trans hl6)
  have htl := HTL.out
  have hT := hm
  clear y0 y1 y2 y3 hr6 hl6
  go_wp2_with fail
  clear htl hT
  go_loopw [46] (fun vi wr => ∃ i : Nat, vi = .int .i64 i ∧ i ≤ R.length ∧ Lay w6 wr) (fun vi _ => R.length - (intOf vi).toNat)
  case atStart => exact ⟨0, rfl, Nat.zero_le _, Keep.refl _ _⟩
  case round =>
    obtain ⟨i, rfl, hi, hl⟩ := hrel
    have HL := Lib.hid hl
    by_cases hlt : i < R.length
    · rcases HROW3.out with h0 | ⟨bx, rfl, _, hbx, hcx⟩
      · exact absurd hlt (by rw [h0]; simp)
      rcases HROW4.out with h0 | ⟨by', rfl, _, hby, hcy⟩
      · exact absurd hlt (by rw [h0]; simp)
      obtain ⟨x0, x1, x2, x3, x4⟩ := hcx i hlt
      obtain ⟨y0, y1, y2, y3, y4⟩ := hcy i hlt
      have h3 : Lay w3 wr := HL36.out.trans hl
      have h4 : Lay w4 wr := HL46.out.trans hl
      have u0 := (h3.cell hbx).trans x0
      have u1 := (h3.cell hbx).trans x1
      have u2 := (h3.cell hbx).trans x2
      have u3 := (h3.cell hbx).trans x3
      have u4 := (h3.cell hbx).trans x4
      have v0 := (h4.cell hby).trans y0
      have v1 := (h4.cell hby).trans y1
      have v2 := (h4.cell hby).trans y2
      have v3 := (h4.cell hby).trans y3
      have v4 := (h4.cell hby).trans y4
      have hbx' := Nat.lt_of_lt_of_le hbx h3.size
      have hby' := Nat.lt_of_lt_of_le hby h4.size
      generalize R[i] = x at u0 u1 u2 u3 u4 v0 v1 v2 v3 v4
      obtain ⟨xo, xn, xt, xk, xd⟩ := x
      simp only at u0 u1 u2 u3 u4 v0 v1 v2 v3 v4
      clear hcx hcy x0 x1 x2 x3 x4 y0 y1 y2 y3 y4 hl h3 h4
      go_wp2_with fail
      go_quiet (fail)
      go_wp2_with fail
      go_roundw
      case rel => exact ⟨i + 1, by go_num, by omega, Keep.trans HL.out ((Keep.refl _ _).drewN _)⟩
      case measure => simp [intOf]; omega
    · obtain rfl : i = R.length := by omega
      clear hl
      go_wp2_with fail
      go_ret
      exact ⟨rfl, HLW.out.trans (HL6.out.trans HL.out)⟩

end Go.Proofs.Ytgmahdeaggjjgaa
