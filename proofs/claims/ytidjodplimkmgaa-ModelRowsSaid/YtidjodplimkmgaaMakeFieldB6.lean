/-
  THE DOCUMENT'S OWN Source: Make, of a Field.
-/
import Derived.Test.YtidjodplimkmgaaMkA
import Derived.Deep.RegionWith
namespace Go.Proofs.Ytidjodplimkmgaa
open Go.RowKit Go

set_option maxHeartbeats 8000000 in
set_option maxRecDepth 100000 in
theorem make_fieldB_step (g : Nat) (v : Value) (l : List Int) (d : Nat) (hd : d ≤ 4)
    (p : Nat) (w : World) (h : Srcs w g v l p)
    (h0 : 1 ≤ d) (h3 : (Ft.next l (Ft.nd d) p).1 = 3) : Calls Try.prog 13 #[.pointer (some ⟨g, 0, none⟩), .int .i64 (d : Nat)] w (MakeP g v l d p w) := by
  have HS0 := Lib.hid h
  have hlt := h.lt
  obtain ⟨W, hW⟩ : ∃ W, W = newF w := ⟨_, rfl⟩
  have hbx := newF_bx w
  have hlay := newF_lay w
  have hsz := newF_size w
  rw [← hW] at hbx hlay hsz
  have HBX := Lib.hid hbx
  have HLAY := Lib.hid hlay
  have HSZ := Lib.hid hsz
  have HW := Lib.hid (show w.alloc (.cells #[.int .i64 0, .string ⟨#[]⟩, .string ⟨#[]⟩, .slice none 0 0] 29) = W from hW.symm)
  have HS1 := Lib.hid (h.lay hlay)
  have hne : ¬ w.heap.size = g := by omega
  clear h hW hbx hlay hsz
  -- the first number
  obtain ⟨N, hN⟩ : ∃ N, N = Ft.nd d := ⟨_, rfl⟩
  have hN5 : (d = 0 ∧ N = 5) ∨ (1 ≤ d ∧ N = 8) := by
    unfold Ft.nd at hN
    by_cases h0 : d = 0
    · rw [if_pos h0] at hN; exact .inl ⟨h0, hN⟩
    · rw [if_neg h0] at hN; exact .inr ⟨by omega, hN⟩
  have HNX := Lib.hid (next_any g v l p N (by omega) (by omega) W HS1.out)
  have hcl := Ft.next_lt (l := l) (n := N) (p := p) (by omega)
  obtain ⟨c, p1, hc⟩ : ∃ c p1, Ft.next l N p = (c, p1) := ⟨_, _, rfl⟩
  have hcN : Ft.next l (Ft.nd d) p = (c, p1) := by rw [← hN]; exact hc
  rw [hc] at HNX hcl
  simp only at hcl
  have HC := Lib.hid hcN
  clear hc hcN hN
  have FIELD : Hid (c = 3 → Ft.make l d p = (.mk 5 (Ft.nameOf (Ft.next l 3 p1).1) (Ft.textOf (Ft.next l 12 (Ft.next l 3 p1).2).1) [], (Ft.next l 12 (Ft.next l 3 p1).2).2)) := Lib.hid fun hc => by
    have := Ft.make_field (l := l) (d := d) (p := p) (by rw [HC.out]; exact hc)
    rw [HC.out] at this
    exact this
  have hc3 : c = 3 := by
    have h5 := HC.out
    rw [h5] at h3
    exact h3
  obtain rfl := hc3
  clear h3
  obtain ⟨x, p2, hx⟩ : ∃ x p2, Ft.next l 3 p1 = (x, p2) := ⟨_, _, rfl⟩
  have hxl := Ft.next_lt (l := l) (n := 3) (p := p1) (by decide)
  rw [hx] at hxl
  simp only at hxl
  have HF : Hid (Ft.make l d p = (.mk 5 (Ft.nameOf x) (Ft.textOf (Ft.next l 12 p2).1) [], (Ft.next l 12 p2).2)) := Lib.hid (by
    have := FIELD.out rfl
    rw [hx] at this
    exact this)
  have hn2 := fun W h => next_any g v l p1 3 (by decide) (by decide) W h
  rw [hx] at hn2
  have HN : Hid (∀ W, Srcs W g v l p1 → Calls Try.prog 12 #[.pointer (some ⟨g, 0, none⟩), .int .i64 3] W fun e w' => e = .returned (.int .i64 (x : Nat)) ∧ Srcs w' g v l p2 ∧ Keep (fun k => k = g) W w') := Lib.hid hn2
  have HTX : Hid (∀ W, Srcs W g v l p2 → Calls Try.prog 19 #[.pointer (some ⟨g, 0, none⟩)] W fun e w' => e = .returned (.string (Ft.textOf (Ft.next l 12 p2).1)) ∧ Srcs w' g v l (Ft.next l 12 p2).2 ∧ Keep (fun k => k = g) W w') := Lib.hid fun W h => text_any g v l p2 W h
  clear FIELD HC hn2 hx
  obtain rfl : N = 8 := by omega
  have hdd : decide ((d : Int) ≤ 0) = false := by simp; omega
  have HNX' : Hid (Calls Try.prog 12 #[.pointer (some ⟨g, 0, none⟩), .int .i64 8] W fun e w' => e = .returned (.int .i64 (3 : Nat)) ∧ Srcs w' g v l p1 ∧ Keep (fun k => k = g) W w') := HNX
  clear HNX
  obtain rfl | rfl | rfl : x = 0 ∨ x = 1 ∨ x = 2 := by omega
  · go_enter Try.func13, Try.ntmps13
    go_wp2_with fail
    rw [HW.out]
    refine HNX'.out.mono ?_
    rintro e w1 ⟨rfl, hs1, hk1⟩
    have HS2 := Lib.hid hs1
    have HSa := Lib.hid (hs1.lay (Keep.drew (Keep.refl _ _)))
    have HSb := Lib.hid ((hs1.lay ((Keep.refl _ _).alloc (.cells #[.string ⟨#[107]⟩, .string ⟨#[97]⟩, .string ⟨#[105, 100]⟩] 9))).lay (Keep.drew (Keep.refl _ _)))
    have HK2 := Lib.hid (Keep.trans (Lay.keep HLAY.out) hk1)
    have HX2 := Lib.hid (HBX.out.carry (hk1.block _ (by rw [HSZ.out]; omega) hne))
    have hz2 : w.heap.size + 1 ≤ w1.heap.size := by have := hk1.size; rw [HSZ.out] at this; exact this
    clear hs1 hk1
    go_wp2_with fail
    go_region_with (first
      | (go_at_call 12; refine (HN.out _ (by with_reducible first | exact HSa.out | exact HSb.out)).mono ?_; rintro e w2 ⟨rfl, hs2, hk2⟩; have hkA : Keep (fun k => k = g) w w2 := (by first | exact Keep.trans (Keep.drew HK2.out) hk2 | exact Keep.trans (Keep.drew (HK2.out.alloc (.cells #[.string ⟨#[107]⟩, .string ⟨#[97]⟩, .string ⟨#[105, 100]⟩] 9))) hk2); have hz3 : w.heap.size + 1 ≤ w2.heap.size := (Nat.le_trans hz2 (Nat.le_trans (by simp) hk2.size)); have hx3 := HX2.out.carry (W' := w2) ((hk2.block w.heap.size (by simp <;> omega) hne).trans (by first | rfl | exact Below.heap_alloc w1 _ _ (by omega))); have hb3 := hs2.lay ((Keep.refl _ _).alloc (.cells #[.string ⟨#[107]⟩, .string ⟨#[97]⟩, .string ⟨#[105, 100]⟩] 9)); have hng : ¬ w1.heap.size = g := (by omega); first | (have a0 : w2.cell? ⟨w1.heap.size, 0, none⟩ = some (.string ⟨#[107]⟩) := (World.cell?_of_block (a := ⟨w1.heap.size, 0, none⟩) (hk2.block w1.heap.size (by simp) hng)).trans (World.cell?_alloc_new w1 _ _ 0); have a1 : w2.cell? ⟨w1.heap.size, 1, none⟩ = some (.string ⟨#[97]⟩) := (World.cell?_of_block (a := ⟨w1.heap.size, 1, none⟩) (hk2.block w1.heap.size (by simp) hng)).trans (World.cell?_alloc_new w1 _ _ 1); have a2 : w2.cell? ⟨w1.heap.size, 2, none⟩ = some (.string ⟨#[105, 100]⟩) := (World.cell?_of_block (a := ⟨w1.heap.size, 2, none⟩) (hk2.block w1.heap.size (by simp) hng)).trans (World.cell?_alloc_new w1 _ _ 2); have hlt12 : w1.heap.size < w2.heap.size := Nat.lt_of_lt_of_le (by simp) hk2.size) | skip)
      | (go_at_call 19; refine (HTX.out _ (by with_reducible first | exact hs2 | exact hb3)).mono ?_; rintro e w3 ⟨rfl, hs3, hk3⟩; have hkB : Keep (fun k => k = g) w w3 := (by first | exact Keep.trans hkA hk3 | exact Keep.trans (hkA.alloc (.cells #[.string ⟨#[107]⟩, .string ⟨#[97]⟩, .string ⟨#[105, 100]⟩] 9)) hk3); have hz4 : w.heap.size + 1 ≤ w3.heap.size := (Nat.le_trans hz3 (Nat.le_trans (by simp) hk3.size)); have hx4 := hx3.carry (W' := w3) ((hk3.block w.heap.size (by first | omega | (simp <;> omega)) hne).trans (by first | rfl | exact Below.heap_alloc w2 _ _ (by omega))); have hng2 : ¬ w2.heap.size = g := (by omega); (first | (have d0 : w3.cell? ⟨w1.heap.size, 0, none⟩ = some (.string ⟨#[107]⟩) := (World.cell?_of_block (a := ⟨w1.heap.size, 0, none⟩) (hk3.block w1.heap.size hlt12 hng)).trans a0; have d1 : w3.cell? ⟨w1.heap.size, 1, none⟩ = some (.string ⟨#[97]⟩) := (World.cell?_of_block (a := ⟨w1.heap.size, 1, none⟩) (hk3.block w1.heap.size hlt12 hng)).trans a1; have d2 : w3.cell? ⟨w1.heap.size, 2, none⟩ = some (.string ⟨#[105, 100]⟩) := (World.cell?_of_block (a := ⟨w1.heap.size, 2, none⟩) (hk3.block w1.heap.size hlt12 hng)).trans a2) | (have b0 : w3.cell? ⟨w2.heap.size, 0, none⟩ = some (.string ⟨#[107]⟩) := (World.cell?_of_block (a := ⟨w2.heap.size, 0, none⟩) (hk3.block w2.heap.size (by simp) hng2)).trans (World.cell?_alloc_new w2 _ _ 0); have b1 : w3.cell? ⟨w2.heap.size, 1, none⟩ = some (.string ⟨#[97]⟩) := (World.cell?_of_block (a := ⟨w2.heap.size, 1, none⟩) (hk3.block w2.heap.size (by simp) hng2)).trans (World.cell?_alloc_new w2 _ _ 1); have b2 : w3.cell? ⟨w2.heap.size, 2, none⟩ = some (.string ⟨#[105, 100]⟩) := (World.cell?_of_block (a := ⟨w2.heap.size, 2, none⟩) (hk3.block w2.heap.size (by simp) hng2)).trans (World.cell?_alloc_new w2 _ _ 2)) | skip); have hx5 := hx4.carry (Below.heap_alloc w3 (.cells #[.string ⟨#[107]⟩, .string ⟨#[97]⟩, .string ⟨#[105, 100]⟩] 9) w.heap.size (by omega)); obtain ⟨y0, y1, y2, y3, p0, p1', p2', p3'⟩ := id hx4; obtain ⟨q0, q1, q2, q3, r0, r1, r2, r3⟩ := id hx5))
    all_goals
      clear HN HTX HNX' HSa HSb HK2 HX2
      go_wp2_with fail
      first
        | (have hq := hx4.all (.int .i64 5) (.string ⟨#[107]⟩) (.string (Ft.textOf (Ft.next l 12 p2).1)) (.slice none 0 0); unfold stored at hq; obtain ⟨t0, t1, t2, t3, _, _, _, _⟩ := hq; refine bodyPost_ret (v := .agg #[.int .i64 5, .string ⟨#[107]⟩, .string (Ft.textOf (Ft.next l 12 p2).1), .slice none 0 0]) (by simp [results, Try.results13, go_sem, t0, t1, t2, t3]) rfl ?_; exact made_leaf HS0.out hs3 hkB HF.out)
        | (have hq := hx5.all (.int .i64 5) (.string ⟨#[107]⟩) (.string (Ft.textOf (Ft.next l 12 p2).1)) (.slice none 0 0); unfold stored at hq; obtain ⟨t0, t1, t2, t3, _, _, _, _⟩ := hq; refine bodyPost_ret (v := .agg #[.int .i64 5, .string ⟨#[107]⟩, .string (Ft.textOf (Ft.next l 12 p2).1), .slice none 0 0]) (by simp [results, Try.results13, go_sem, t0, t1, t2, t3]) rfl ?_; exact made_leaf HS0.out (hs3.lay ((Keep.refl _ _).alloc _)) (hkB.alloc _) HF.out)
  · go_enter Try.func13, Try.ntmps13
    go_wp2_with fail
    rw [HW.out]
    refine HNX'.out.mono ?_
    rintro e w1 ⟨rfl, hs1, hk1⟩
    have HS2 := Lib.hid hs1
    have HSa := Lib.hid (hs1.lay (Keep.drew (Keep.refl _ _)))
    have HSb := Lib.hid ((hs1.lay ((Keep.refl _ _).alloc (.cells #[.string ⟨#[107]⟩, .string ⟨#[97]⟩, .string ⟨#[105, 100]⟩] 9))).lay (Keep.drew (Keep.refl _ _)))
    have HK2 := Lib.hid (Keep.trans (Lay.keep HLAY.out) hk1)
    have HX2 := Lib.hid (HBX.out.carry (hk1.block _ (by rw [HSZ.out]; omega) hne))
    have hz2 : w.heap.size + 1 ≤ w1.heap.size := by have := hk1.size; rw [HSZ.out] at this; exact this
    clear hs1 hk1
    go_wp2_with fail
    go_region_with (first
      | (go_at_call 12; refine (HN.out _ (by with_reducible first | exact HSa.out | exact HSb.out)).mono ?_; rintro e w2 ⟨rfl, hs2, hk2⟩; have hkA : Keep (fun k => k = g) w w2 := (by first | exact Keep.trans (Keep.drew HK2.out) hk2 | exact Keep.trans (Keep.drew (HK2.out.alloc (.cells #[.string ⟨#[107]⟩, .string ⟨#[97]⟩, .string ⟨#[105, 100]⟩] 9))) hk2); have hz3 : w.heap.size + 1 ≤ w2.heap.size := (Nat.le_trans hz2 (Nat.le_trans (by simp) hk2.size)); have hx3 := HX2.out.carry (W' := w2) ((hk2.block w.heap.size (by simp <;> omega) hne).trans (by first | rfl | exact Below.heap_alloc w1 _ _ (by omega))); have hb3 := hs2.lay ((Keep.refl _ _).alloc (.cells #[.string ⟨#[107]⟩, .string ⟨#[97]⟩, .string ⟨#[105, 100]⟩] 9)); have hng : ¬ w1.heap.size = g := (by omega); first | (have a0 : w2.cell? ⟨w1.heap.size, 0, none⟩ = some (.string ⟨#[107]⟩) := (World.cell?_of_block (a := ⟨w1.heap.size, 0, none⟩) (hk2.block w1.heap.size (by simp) hng)).trans (World.cell?_alloc_new w1 _ _ 0); have a1 : w2.cell? ⟨w1.heap.size, 1, none⟩ = some (.string ⟨#[97]⟩) := (World.cell?_of_block (a := ⟨w1.heap.size, 1, none⟩) (hk2.block w1.heap.size (by simp) hng)).trans (World.cell?_alloc_new w1 _ _ 1); have a2 : w2.cell? ⟨w1.heap.size, 2, none⟩ = some (.string ⟨#[105, 100]⟩) := (World.cell?_of_block (a := ⟨w1.heap.size, 2, none⟩) (hk2.block w1.heap.size (by simp) hng)).trans (World.cell?_alloc_new w1 _ _ 2); have hlt12 : w1.heap.size < w2.heap.size := Nat.lt_of_lt_of_le (by simp) hk2.size) | skip)
      | (go_at_call 19; refine (HTX.out _ (by with_reducible first | exact hs2 | exact hb3)).mono ?_; rintro e w3 ⟨rfl, hs3, hk3⟩; have hkB : Keep (fun k => k = g) w w3 := (by first | exact Keep.trans hkA hk3 | exact Keep.trans (hkA.alloc (.cells #[.string ⟨#[107]⟩, .string ⟨#[97]⟩, .string ⟨#[105, 100]⟩] 9)) hk3); have hz4 : w.heap.size + 1 ≤ w3.heap.size := (Nat.le_trans hz3 (Nat.le_trans (by simp) hk3.size)); have hx4 := hx3.carry (W' := w3) ((hk3.block w.heap.size (by first | omega | (simp <;> omega)) hne).trans (by first | rfl | exact Below.heap_alloc w2 _ _ (by omega))); have hng2 : ¬ w2.heap.size = g := (by omega); (first | (have d0 : w3.cell? ⟨w1.heap.size, 0, none⟩ = some (.string ⟨#[107]⟩) := (World.cell?_of_block (a := ⟨w1.heap.size, 0, none⟩) (hk3.block w1.heap.size hlt12 hng)).trans a0; have d1 : w3.cell? ⟨w1.heap.size, 1, none⟩ = some (.string ⟨#[97]⟩) := (World.cell?_of_block (a := ⟨w1.heap.size, 1, none⟩) (hk3.block w1.heap.size hlt12 hng)).trans a1; have d2 : w3.cell? ⟨w1.heap.size, 2, none⟩ = some (.string ⟨#[105, 100]⟩) := (World.cell?_of_block (a := ⟨w1.heap.size, 2, none⟩) (hk3.block w1.heap.size hlt12 hng)).trans a2) | (have b0 : w3.cell? ⟨w2.heap.size, 0, none⟩ = some (.string ⟨#[107]⟩) := (World.cell?_of_block (a := ⟨w2.heap.size, 0, none⟩) (hk3.block w2.heap.size (by simp) hng2)).trans (World.cell?_alloc_new w2 _ _ 0); have b1 : w3.cell? ⟨w2.heap.size, 1, none⟩ = some (.string ⟨#[97]⟩) := (World.cell?_of_block (a := ⟨w2.heap.size, 1, none⟩) (hk3.block w2.heap.size (by simp) hng2)).trans (World.cell?_alloc_new w2 _ _ 1); have b2 : w3.cell? ⟨w2.heap.size, 2, none⟩ = some (.string ⟨#[105, 100]⟩) := (World.cell?_of_block (a := ⟨w2.heap.size, 2, none⟩) (hk3.block w2.heap.size (by simp) hng2)).trans (World.cell?_alloc_new w2 _ _ 2)) | skip); have hx5 := hx4.carry (Below.heap_alloc w3 (.cells #[.string ⟨#[107]⟩, .string ⟨#[97]⟩, .string ⟨#[105, 100]⟩] 9) w.heap.size (by omega)); obtain ⟨y0, y1, y2, y3, p0, p1', p2', p3'⟩ := id hx4; obtain ⟨q0, q1, q2, q3, r0, r1, r2, r3⟩ := id hx5))
    all_goals
      clear HN HTX HNX' HSa HSb HK2 HX2
      go_wp2_with fail
      first
        | (have hq := hx4.all (.int .i64 5) (.string ⟨#[97]⟩) (.string (Ft.textOf (Ft.next l 12 p2).1)) (.slice none 0 0); unfold stored at hq; obtain ⟨t0, t1, t2, t3, _, _, _, _⟩ := hq; refine bodyPost_ret (v := .agg #[.int .i64 5, .string ⟨#[97]⟩, .string (Ft.textOf (Ft.next l 12 p2).1), .slice none 0 0]) (by simp [results, Try.results13, go_sem, t0, t1, t2, t3]) rfl ?_; exact made_leaf HS0.out hs3 hkB HF.out)
        | (have hq := hx5.all (.int .i64 5) (.string ⟨#[97]⟩) (.string (Ft.textOf (Ft.next l 12 p2).1)) (.slice none 0 0); unfold stored at hq; obtain ⟨t0, t1, t2, t3, _, _, _, _⟩ := hq; refine bodyPost_ret (v := .agg #[.int .i64 5, .string ⟨#[97]⟩, .string (Ft.textOf (Ft.next l 12 p2).1), .slice none 0 0]) (by simp [results, Try.results13, go_sem, t0, t1, t2, t3]) rfl ?_; exact made_leaf HS0.out (hs3.lay ((Keep.refl _ _).alloc _)) (hkB.alloc _) HF.out)
  · go_enter Try.func13, Try.ntmps13
    go_wp2_with fail
    rw [HW.out]
    refine HNX'.out.mono ?_
    rintro e w1 ⟨rfl, hs1, hk1⟩
    have HS2 := Lib.hid hs1
    have HSa := Lib.hid (hs1.lay (Keep.drew (Keep.refl _ _)))
    have HSb := Lib.hid ((hs1.lay ((Keep.refl _ _).alloc (.cells #[.string ⟨#[107]⟩, .string ⟨#[97]⟩, .string ⟨#[105, 100]⟩] 9))).lay (Keep.drew (Keep.refl _ _)))
    have HK2 := Lib.hid (Keep.trans (Lay.keep HLAY.out) hk1)
    have HX2 := Lib.hid (HBX.out.carry (hk1.block _ (by rw [HSZ.out]; omega) hne))
    have hz2 : w.heap.size + 1 ≤ w1.heap.size := by have := hk1.size; rw [HSZ.out] at this; exact this
    clear hs1 hk1
    go_wp2_with fail
    go_region_with (first
      | (go_at_call 12; refine (HN.out _ (by with_reducible first | exact HSa.out | exact HSb.out)).mono ?_; rintro e w2 ⟨rfl, hs2, hk2⟩; have hkA : Keep (fun k => k = g) w w2 := (by first | exact Keep.trans (Keep.drew HK2.out) hk2 | exact Keep.trans (Keep.drew (HK2.out.alloc (.cells #[.string ⟨#[107]⟩, .string ⟨#[97]⟩, .string ⟨#[105, 100]⟩] 9))) hk2); have hz3 : w.heap.size + 1 ≤ w2.heap.size := (Nat.le_trans hz2 (Nat.le_trans (by simp) hk2.size)); have hx3 := HX2.out.carry (W' := w2) ((hk2.block w.heap.size (by simp <;> omega) hne).trans (by first | rfl | exact Below.heap_alloc w1 _ _ (by omega))); have hb3 := hs2.lay ((Keep.refl _ _).alloc (.cells #[.string ⟨#[107]⟩, .string ⟨#[97]⟩, .string ⟨#[105, 100]⟩] 9)); have hng : ¬ w1.heap.size = g := (by omega); first | (have a0 : w2.cell? ⟨w1.heap.size, 0, none⟩ = some (.string ⟨#[107]⟩) := (World.cell?_of_block (a := ⟨w1.heap.size, 0, none⟩) (hk2.block w1.heap.size (by simp) hng)).trans (World.cell?_alloc_new w1 _ _ 0); have a1 : w2.cell? ⟨w1.heap.size, 1, none⟩ = some (.string ⟨#[97]⟩) := (World.cell?_of_block (a := ⟨w1.heap.size, 1, none⟩) (hk2.block w1.heap.size (by simp) hng)).trans (World.cell?_alloc_new w1 _ _ 1); have a2 : w2.cell? ⟨w1.heap.size, 2, none⟩ = some (.string ⟨#[105, 100]⟩) := (World.cell?_of_block (a := ⟨w1.heap.size, 2, none⟩) (hk2.block w1.heap.size (by simp) hng)).trans (World.cell?_alloc_new w1 _ _ 2); have hlt12 : w1.heap.size < w2.heap.size := Nat.lt_of_lt_of_le (by simp) hk2.size) | skip)
      | (go_at_call 19; refine (HTX.out _ (by with_reducible first | exact hs2 | exact hb3)).mono ?_; rintro e w3 ⟨rfl, hs3, hk3⟩; have hkB : Keep (fun k => k = g) w w3 := (by first | exact Keep.trans hkA hk3 | exact Keep.trans (hkA.alloc (.cells #[.string ⟨#[107]⟩, .string ⟨#[97]⟩, .string ⟨#[105, 100]⟩] 9)) hk3); have hz4 : w.heap.size + 1 ≤ w3.heap.size := (Nat.le_trans hz3 (Nat.le_trans (by simp) hk3.size)); have hx4 := hx3.carry (W' := w3) ((hk3.block w.heap.size (by first | omega | (simp <;> omega)) hne).trans (by first | rfl | exact Below.heap_alloc w2 _ _ (by omega))); have hng2 : ¬ w2.heap.size = g := (by omega); (first | (have d0 : w3.cell? ⟨w1.heap.size, 0, none⟩ = some (.string ⟨#[107]⟩) := (World.cell?_of_block (a := ⟨w1.heap.size, 0, none⟩) (hk3.block w1.heap.size hlt12 hng)).trans a0; have d1 : w3.cell? ⟨w1.heap.size, 1, none⟩ = some (.string ⟨#[97]⟩) := (World.cell?_of_block (a := ⟨w1.heap.size, 1, none⟩) (hk3.block w1.heap.size hlt12 hng)).trans a1; have d2 : w3.cell? ⟨w1.heap.size, 2, none⟩ = some (.string ⟨#[105, 100]⟩) := (World.cell?_of_block (a := ⟨w1.heap.size, 2, none⟩) (hk3.block w1.heap.size hlt12 hng)).trans a2) | (have b0 : w3.cell? ⟨w2.heap.size, 0, none⟩ = some (.string ⟨#[107]⟩) := (World.cell?_of_block (a := ⟨w2.heap.size, 0, none⟩) (hk3.block w2.heap.size (by simp) hng2)).trans (World.cell?_alloc_new w2 _ _ 0); have b1 : w3.cell? ⟨w2.heap.size, 1, none⟩ = some (.string ⟨#[97]⟩) := (World.cell?_of_block (a := ⟨w2.heap.size, 1, none⟩) (hk3.block w2.heap.size (by simp) hng2)).trans (World.cell?_alloc_new w2 _ _ 1); have b2 : w3.cell? ⟨w2.heap.size, 2, none⟩ = some (.string ⟨#[105, 100]⟩) := (World.cell?_of_block (a := ⟨w2.heap.size, 2, none⟩) (hk3.block w2.heap.size (by simp) hng2)).trans (World.cell?_alloc_new w2 _ _ 2)) | skip); have hx5 := hx4.carry (Below.heap_alloc w3 (.cells #[.string ⟨#[107]⟩, .string ⟨#[97]⟩, .string ⟨#[105, 100]⟩] 9) w.heap.size (by omega)); obtain ⟨y0, y1, y2, y3, p0, p1', p2', p3'⟩ := id hx4; obtain ⟨q0, q1, q2, q3, r0, r1, r2, r3⟩ := id hx5))
    all_goals
      clear HN HTX HNX' HSa HSb HK2 HX2
      go_wp2_with fail
      first
        | (have hq := hx4.all (.int .i64 5) (.string ⟨#[105, 100]⟩) (.string (Ft.textOf (Ft.next l 12 p2).1)) (.slice none 0 0); unfold stored at hq; obtain ⟨t0, t1, t2, t3, _, _, _, _⟩ := hq; refine bodyPost_ret (v := .agg #[.int .i64 5, .string ⟨#[105, 100]⟩, .string (Ft.textOf (Ft.next l 12 p2).1), .slice none 0 0]) (by simp [results, Try.results13, go_sem, t0, t1, t2, t3]) rfl ?_; exact made_leaf HS0.out hs3 hkB HF.out)
        | (have hq := hx5.all (.int .i64 5) (.string ⟨#[105, 100]⟩) (.string (Ft.textOf (Ft.next l 12 p2).1)) (.slice none 0 0); unfold stored at hq; obtain ⟨t0, t1, t2, t3, _, _, _, _⟩ := hq; refine bodyPost_ret (v := .agg #[.int .i64 5, .string ⟨#[105, 100]⟩, .string (Ft.textOf (Ft.next l 12 p2).1), .slice none 0 0]) (by simp [results, Try.results13, go_sem, t0, t1, t2, t3]) rfl ?_; exact made_leaf HS0.out (hs3.lay ((Keep.refl _ _).alloc _)) (hkB.alloc _) HF.out)

end Go.Proofs.Ytidjodplimkmgaa
