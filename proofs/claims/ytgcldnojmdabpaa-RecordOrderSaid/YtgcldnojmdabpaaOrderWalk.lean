/-
  magpielaw04.RecordOrder: the walk.
-/
import Derived.Test.YtgcldnojmdabpaaAlive
namespace Go.Proofs.Ytgcldnojmdabpaa
open Go.RowKit Go

theorem grown_lay {f : Nat} {args : Array Value} {w w0 : World} {v : Value} (hc : ∀ W, Lay w0 W → Calls Try.prog f args W fun e w' => e = .returned v ∧ Lay W w') (hl : Lay w0 w) (n : Nat) (os : Array Obj) :
    Calls Try.prog f args (Sort.grow (w.drewN n) os) fun e w'' => e = .returned v ∧ ∃ p : GrownBy, w'' = Sort.grow (w.drewN p.n) p.os :=
  grown_of_lay (hc _ (hl.trans (Lay.of_grown n os)))

set_option maxHeartbeats 16000000 in
set_option maxRecDepth 100000 in
theorem order_walk (x y z : Ent) (xl yl zl : Value) (w : World) (hx : LabsAt (fun _ => True) w xl x.labs) (hy : LabsAt (fun _ => True) w yl y.labs) (hz : LabsAt (fun _ => True) w zl z.labs) :
    Calls Try.prog 4 #[x.val xl, y.val yl, z.val zl] w fun e w' => e = .returned (.bool true) ∧ Below w.heap.size w w' := by
  obtain ⟨a, ca, rfl, _⟩ := id hx
  obtain ⟨b, cb, rfl, _⟩ := id hy
  obtain ⟨c, cc, rfl, _⟩ := id hz
  have hl0 : Lay w (((w.alloc (.cells #[.int .i64 x.tm, .slice a x.labs.length ca, .string x.line] 24)).alloc (.cells #[.int .i64 y.tm, .slice b y.labs.length cb, .string y.line] 24)).alloc (.cells #[.int .i64 z.tm, .slice c z.labs.length cc, .string z.line] 24)) := (((Keep.refl _ _).alloc _).alloc _).alloc _
  obtain ⟨W0, hW0⟩ : ∃ W0, W0 = (((w.alloc (.cells #[.int .i64 x.tm, .slice a x.labs.length ca, .string x.line] 24)).alloc (.cells #[.int .i64 y.tm, .slice b y.labs.length cb, .string y.line] 24)).alloc (.cells #[.int .i64 z.tm, .slice c z.labs.length cc, .string z.line] 24)) := ⟨_, rfl⟩
  have hbox : ∀ W, Lay W0 W →
      (W.cell? ⟨w.heap.size, 0, none⟩ = some (.int .i64 x.tm) ∧ W.cell? ⟨w.heap.size, 1, none⟩ = some (.slice a x.labs.length ca) ∧ W.cell? ⟨w.heap.size, 2, none⟩ = some (.string x.line)) ∧
      (W.cell? ⟨w.heap.size + 1, 0, none⟩ = some (.int .i64 y.tm) ∧ W.cell? ⟨w.heap.size + 1, 1, none⟩ = some (.slice b y.labs.length cb) ∧ W.cell? ⟨w.heap.size + 1, 2, none⟩ = some (.string y.line)) ∧
      (W.cell? ⟨w.heap.size + 1 + 1, 0, none⟩ = some (.int .i64 z.tm) ∧ W.cell? ⟨w.heap.size + 1 + 1, 1, none⟩ = some (.slice c z.labs.length cc) ∧ W.cell? ⟨w.heap.size + 1 + 1, 2, none⟩ = some (.string z.line)) := by
    intro W hl
    rw [hW0] at hl
    refine ⟨⟨(hl.cell (by simp; try omega)).trans ?_, (hl.cell (by simp; try omega)).trans ?_, (hl.cell (by simp; try omega)).trans ?_⟩, ⟨(hl.cell (by simp; try omega)).trans ?_, (hl.cell (by simp; try omega)).trans ?_, (hl.cell (by simp; try omega)).trans ?_⟩, ⟨(hl.cell (by simp; try omega)).trans ?_, (hl.cell (by simp; try omega)).trans ?_, (hl.cell (by simp; try omega)).trans ?_⟩⟩
    all_goals go_simp
  have hsz : w.heap.size + 3 ≤ W0.heap.size := by rw [hW0]; simp
  rw [← hW0] at hl0
  have HBOX := Lib.hid hbox
  have HL0 := Lib.hid hl0
  have CX : Hid (∀ W, Lay W0 W → Calls Try.prog 11 #[.agg #[.int .i64 x.tm, .slice a x.labs.length ca, .string x.line]] W fun e w' => e = .returned (.bool x.big) ∧ Lay W w') := Lib.hid fun W hl => great_any (hx.lay (hl0.trans hl))
  have CY : Hid (∀ W, Lay W0 W → Calls Try.prog 11 #[.agg #[.int .i64 y.tm, .slice b y.labs.length cb, .string y.line]] W fun e w' => e = .returned (.bool y.big) ∧ Lay W w') := Lib.hid fun W hl => great_any (hy.lay (hl0.trans hl))
  have CZ : Hid (∀ W, Lay W0 W → Calls Try.prog 11 #[.agg #[.int .i64 z.tm, .slice c z.labs.length cc, .string z.line]] W fun e w' => e = .returned (.bool z.big) ∧ Lay W w') := Lib.hid fun W hl => great_any (hz.lay (hl0.trans hl))
  have BXY : Hid (∀ W, Lay W0 W → Calls Try.prog 23 #[.agg #[.int .i64 x.tm, .slice a x.labs.length ca, .string x.line], .agg #[.int .i64 y.tm, .slice b y.labs.length cb, .string y.line]] W fun e w' => e = .returned (.bool (decide (entC x y = -1))) ∧ Lay W w') := Lib.hid fun W hl => before_any (hx.lay (hl0.trans hl)) (hy.lay (hl0.trans hl))
  have BYX : Hid (∀ W, Lay W0 W → Calls Try.prog 23 #[.agg #[.int .i64 y.tm, .slice b y.labs.length cb, .string y.line], .agg #[.int .i64 x.tm, .slice a x.labs.length ca, .string x.line]] W fun e w' => e = .returned (.bool (decide (entC y x = -1))) ∧ Lay W w') := Lib.hid fun W hl => before_any (hy.lay (hl0.trans hl)) (hx.lay (hl0.trans hl))
  have KXY : Hid (∀ W, Lay W0 W → Calls Try.prog 24 #[.agg #[.int .i64 x.tm, .slice a x.labs.length ca, .string x.line], .agg #[.int .i64 y.tm, .slice b y.labs.length cb, .string y.line]] W fun e w' => e = .returned (.int .i64 (entC x y)) ∧ Lay W w') := Lib.hid fun W hl => compare_any (hx.lay (hl0.trans hl)) (hy.lay (hl0.trans hl))
  have KYX : Hid (∀ W, Lay W0 W → Calls Try.prog 24 #[.agg #[.int .i64 y.tm, .slice b y.labs.length cb, .string y.line], .agg #[.int .i64 x.tm, .slice a x.labs.length ca, .string x.line]] W fun e w' => e = .returned (.int .i64 (entC y x)) ∧ Lay W w') := Lib.hid fun W hl => compare_any (hy.lay (hl0.trans hl)) (hx.lay (hl0.trans hl))
  have KYZ : Hid (∀ W, Lay W0 W → Calls Try.prog 24 #[.agg #[.int .i64 y.tm, .slice b y.labs.length cb, .string y.line], .agg #[.int .i64 z.tm, .slice c z.labs.length cc, .string z.line]] W fun e w' => e = .returned (.int .i64 (entC y z)) ∧ Lay W w') := Lib.hid fun W hl => compare_any (hy.lay (hl0.trans hl)) (hz.lay (hl0.trans hl))
  have KXZ : Hid (∀ W, Lay W0 W → Calls Try.prog 24 #[.agg #[.int .i64 x.tm, .slice a x.labs.length ca, .string x.line], .agg #[.int .i64 z.tm, .slice c z.labs.length cc, .string z.line]] W fun e w' => e = .returned (.int .i64 (entC x z)) ∧ Lay W w') := Lib.hid fun W hl => compare_any (hx.lay (hl0.trans hl)) (hz.lay (hl0.trans hl))
  have DXY : Hid (∀ W, Lay W0 W → Calls Try.prog 52 #[.agg #[.int .i64 x.tm, .slice a x.labs.length ca, .string x.line], .agg #[.int .i64 y.tm, .slice b y.labs.length cb, .string y.line]] W fun e w' => e = .returned (.int .i64 (entC y x)) ∧ Lay W w') := Lib.hid fun W hl => desc_any (hx.lay (hl0.trans hl)) (hy.lay (hl0.trans hl))
  have OF : Hid (∀ W : World, Calls Try.prog 25 #[.bool false] W fun e w' => e = .returned (.func (.func 24) #[] #[]) ∧ Lay W w') := Lib.hid fun W => (order_any false W).mono fun _ _ ⟨h1, h2⟩ => ⟨h1, h2 ▸ Keep.refl _ _⟩
  have OT : Hid (∀ W : World, Calls Try.prog 25 #[.bool true] W fun e w' => e = .returned (.func (.func 52) #[] #[]) ∧ Lay W w') := Lib.hid fun W => (order_any true W).mono fun _ _ ⟨h1, h2⟩ => ⟨h1, h2 ▸ Keep.refl _ _⟩
  have ht := entC_lc.tri x y
  have hn := entC_lc.neg x y
  have hmath : Hid (¬ (entC x y ≤ 0 ∧ entC y z ≤ 0) ∨ (entC x z ≤ 0 ∧ (entC x z < 0 ∨ (entC x y = 0 ∧ entC y z = 0)))) := Lib.hid (by
    have t1 := entC_lc.tri x y
    have t2 := entC_lc.tri y z
    have t3 := entC_lc.tri x z
    have tr := entC_lc.tr x y z
    have e1 := entC_lc.eq x y
    have e2 := entC_lc.eq y z
    by_cases h1 : entC x y = 0
    · have h := e1 h1
      subst h
      omega
    · by_cases h2 : entC y z = 0
      · have h := e2 h2
        subst h
        omega
      · omega)
  have hmx : Try.prog.follows .mixedOrders = true := by kernel_rfl
  unfold Ent.val
  clear hx hy hz hbox hl0
  go_enter Try.func4, Try.ntmps4
  go_wp2_with fail
  rw [← hW0]
  clear hW0
  refine (alive_any W0).mono ?_
  rintro e w1 ⟨rfl, hl1⟩
  have HL1 := Lib.hid hl1
  obtain ⟨⟨x0, x1, x2⟩, ⟨y0, y1, y2⟩, ⟨z0, z1, z2⟩⟩ := HBOX.out w1 hl1
  clear hl1
  cases hbx : x.big with
  | true =>
    rw [hbx] at CX
    go_wp2_with fail
    refine (CX.out _ HL1.out).mono ?_
    rintro e w2 ⟨rfl, hl2⟩
    have HL2 := Lib.hid (Keep.trans HL1.out hl2)
    clear hl2
    go_wp2_with fail
    go_ret
    exact ⟨rfl, Lay.below (Keep.trans HL0.out HL2.out)⟩
  | false =>
    rw [hbx] at CX
    go_wp2_with fail
    refine (CX.out _ HL1.out).mono ?_
    rintro e w2 ⟨rfl, hl2⟩
    have HL2 := Lib.hid (Keep.trans HL1.out hl2)
    obtain ⟨⟨x0, x1, x2⟩, ⟨y0, y1, y2⟩, ⟨z0, z1, z2⟩⟩ := HBOX.out w2 HL2.out
    clear hl2
    cases hby : y.big with
    | true =>
      rw [hby] at CY
      go_wp2_with fail
      refine (CY.out _ HL2.out).mono ?_
      rintro e w3 ⟨rfl, hl3⟩
      have HL3 := Lib.hid (Keep.trans HL2.out hl3)
      clear hl3
      go_wp2_with fail
      go_ret
      exact ⟨rfl, Lay.below (Keep.trans HL0.out HL3.out)⟩
    | false =>
      rw [hby] at CY
      go_wp2_with fail
      refine (CY.out _ HL2.out).mono ?_
      rintro e w3 ⟨rfl, hl3⟩
      have HL3 := Lib.hid (Keep.trans HL2.out hl3)
      obtain ⟨⟨x0, x1, x2⟩, ⟨y0, y1, y2⟩, ⟨z0, z1, z2⟩⟩ := HBOX.out w3 HL3.out
      clear hl3
      cases hbz : z.big with
      | true =>
        rw [hbz] at CZ
        go_wp2_with fail
        refine (CZ.out _ HL3.out).mono ?_
        rintro e w4 ⟨rfl, hl4⟩
        have HL4 := Lib.hid (Keep.trans HL3.out hl4)
        clear hl4
        go_wp2_with fail
        go_ret
        exact ⟨rfl, Lay.below (Keep.trans HL0.out HL4.out)⟩
      | false =>
        rw [hbz] at CZ
        go_wp2_with fail
        refine (CZ.out _ HL3.out).mono ?_
        rintro e w4 ⟨rfl, hl4⟩
        have HL4 := Lib.hid (Keep.trans HL3.out hl4)
        obtain ⟨⟨x0, x1, x2⟩, ⟨y0, y1, y2⟩, ⟨z0, z1, z2⟩⟩ := HBOX.out w4 HL4.out
        clear hl4 CX CY CZ
        rw [hn] at BYX KYX DXY
        generalize entC x y = r at BXY BYX KXY KYX DXY ht hmath
        clear hn
        have t2 := entC_lc.tri y z
        have t3 := entC_lc.tri x z
        generalize entC y z = r2 at KYZ hmath t2
        generalize entC x z = r3 at KXZ hmath t3
        rcases ht with rfl | rfl | rfl
        all_goals
          go_wp2_with fail
          refine (BXY.out _ HL4.out).mono ?_
          rintro e w5 ⟨rfl, hl5⟩
          have HL5 := Lib.hid (Keep.trans HL4.out hl5)
          obtain ⟨⟨x0, x1, x2⟩, ⟨y0, y1, y2⟩, ⟨z0, z1, z2⟩⟩ := HBOX.out w5 HL5.out
          clear hl5
          go_wp2_with fail
          refine (BYX.out _ HL5.out).mono ?_
          rintro e w6 ⟨rfl, hl6⟩
          have HL6 := Lib.hid (Keep.trans HL5.out hl6)
          obtain ⟨⟨x0, x1, x2⟩, ⟨y0, y1, y2⟩, ⟨z0, z1, z2⟩⟩ := HBOX.out w6 HL6.out
          have hs6 : w.heap.size + 3 ≤ w6.heap.size := Nat.le_trans hsz HL6.out.size
          clear hl6
          have fx0 := cell_grown (w := w6) (a := ⟨w.heap.size, 0, none⟩) (by show w.heap.size < _; omega) x0
          have fx1 := cell_grown (w := w6) (a := ⟨w.heap.size, 1, none⟩) (by show w.heap.size < _; omega) x1
          have fx2 := cell_grown (w := w6) (a := ⟨w.heap.size, 2, none⟩) (by show w.heap.size < _; omega) x2
          have fy0 := cell_grown (w := w6) (a := ⟨w.heap.size + 1, 0, none⟩) (by show w.heap.size + 1 < _; omega) y0
          have fy1 := cell_grown (w := w6) (a := ⟨w.heap.size + 1, 1, none⟩) (by show w.heap.size + 1 < _; omega) y1
          have fy2 := cell_grown (w := w6) (a := ⟨w.heap.size + 1, 2, none⟩) (by show w.heap.size + 1 < _; omega) y2
          have KXY6 := grown_lay KXY.out HL6.out
          have KYX6 := grown_lay KYX.out HL6.out
          have DXY6 := grown_lay DXY.out HL6.out
          have OF6 := grown_lay (fun W _ => OF.out W) HL6.out
          have OT6 := grown_lay (fun W _ => OT.out W) HL6.out
          clear x0 x1 x2 y0 y1 y2 z0 z1 z2
          go_wp2_with fail
          go_quiet_grown ((first | (go_at_call 24; with_reducible (first | exact KXY6 _ _ | exact KYX6 _ _)) | (go_at_call 25; with_reducible (first | exact OF6 _ _ | exact OT6 _ _)) | (go_at_call 52; with_reducible exact DXY6 _ _)))
          have HL7 := Lib.hid (Keep.trans HL6.out (Lay.of_grown nq osq))
          clear fx0 fx1 fx2 fy0 fy1 fy2 KXY6 KYX6 DXY6 OF6 OT6
          generalize Sort.grow (w6.drewN nq) osq = w7 at *
          obtain ⟨⟨x0, x1, x2⟩, ⟨y0, y1, y2⟩, ⟨z0, z1, z2⟩⟩ := HBOX.out w7 HL7.out
          have hs7 : w.heap.size + 3 ≤ w7.heap.size := Nat.le_trans hsz HL7.out.size
          have fx0 := cell_grown (w := w7) (a := ⟨w.heap.size, 0, none⟩) (by show w.heap.size < _; omega) x0
          have fx1 := cell_grown (w := w7) (a := ⟨w.heap.size, 1, none⟩) (by show w.heap.size < _; omega) x1
          have fx2 := cell_grown (w := w7) (a := ⟨w.heap.size, 2, none⟩) (by show w.heap.size < _; omega) x2
          have fy0 := cell_grown (w := w7) (a := ⟨w.heap.size + 1, 0, none⟩) (by show w.heap.size + 1 < _; omega) y0
          have fy1 := cell_grown (w := w7) (a := ⟨w.heap.size + 1, 1, none⟩) (by show w.heap.size + 1 < _; omega) y1
          have fy2 := cell_grown (w := w7) (a := ⟨w.heap.size + 1, 2, none⟩) (by show w.heap.size + 1 < _; omega) y2
          have fz0 := cell_grown (w := w7) (a := ⟨w.heap.size + 1 + 1, 0, none⟩) (by show w.heap.size + 1 + 1 < _; omega) z0
          have fz1 := cell_grown (w := w7) (a := ⟨w.heap.size + 1 + 1, 1, none⟩) (by show w.heap.size + 1 + 1 < _; omega) z1
          have fz2 := cell_grown (w := w7) (a := ⟨w.heap.size + 1 + 1, 2, none⟩) (by show w.heap.size + 1 + 1 < _; omega) z2
          have KXY7 := grown_lay KXY.out HL7.out
          have KYZ7 := grown_lay KYZ.out HL7.out
          have KXZ7 := grown_lay KXZ.out HL7.out
          clear x0 x1 x2 y0 y1 y2 z0 z1 z2
          go_wp2_with fail
          go_quiet_grown ((go_at_call 24; with_reducible (first | exact KXY7 _ _ | exact KYZ7 _ _ | exact KXZ7 _ _)))
          have HL8 := Lib.hid (Keep.trans HL7.out (Lay.of_grown nq osq))
          clear fx0 fx1 fx2 fy0 fy1 fy2 fz0 fz1 fz2 KXY7 KYZ7 KXZ7
          generalize Sort.grow (w7.drewN nq) osq = w8 at *
          rcases t2 with rfl | rfl | rfl <;> rcases t3 with rfl | rfl | rfl
          all_goals
            first
              | (exfalso; have := hmath.out; omega)
              | (clear hmath
                 go_wp2_with fail
                 go_ret
                 exact ⟨rfl, Lay.below (Keep.trans HL0.out HL8.out)⟩)

end Go.Proofs.Ytgcldnojmdabpaa
