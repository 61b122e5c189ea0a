/-
  COMPARING: cmp.Compare of texts, cmp.Or, and two labels.
-/
import Derived.Test.YtgcldnojmdabpaaEnts
import Derived.Test.YtgcldnojmdabpaaFlow
import Derived.Test.YtgcldnojmdabpaaShelf
import Derived.Laws.Cover1
namespace Go.Proofs.Ytgcldnojmdabpaa
open Go.RowKit Go

set_option maxHeartbeats 400000 in
theorem isNaN_str (x : ByteArray) (w : World) : Calls Try.prog 69 #[.string x] w fun e w' => e = .returned (.bool false) ∧ w' = w := by
  go_enter Try.func69, Try.ntmps69
  go_wp2
  go_ret
  exact ⟨by simp, rfl⟩

set_option maxHeartbeats 1000000 in
theorem cmp_str (x y : ByteArray) (w : World) : Calls Try.prog 51 #[.string x, .string y] w fun e w' => e = .returned (.int .i64 (strC x y)) ∧ w' = w := by
  have hl := less_strC x y
  have he := eq_strC x y
  have ht := strC_lc.tri x y
  generalize strC x y = c at hl he ht ⊢
  rcases ht with rfl | rfl | rfl
  all_goals
    simp only [Int.reduceNeg, Int.reduceEq, decide_true, decide_false] at hl he
    go_enter Try.func51, Try.ntmps51
    go_wp2_with (go_at_call 69; refine (isNaN_str _ _).mono ?_; rintro e w' ⟨rfl, rfl⟩)
    go_ret
    exact ⟨rfl, rfl⟩

theorem cmp_int (x y : Int) (w : World) : Calls Try.prog 48 #[.int .i64 x, .int .i64 y] w fun e w' => e = .returned (.int .i64 (intC x y)) ∧ w' = w := Try.cmp_Compare_int x y w

theorem firstNZ_drop (xs : List Int) (k : Nat) (hk : k < xs.length) : firstNZ (xs.drop k) = orI (xs.getD k 0) (firstNZ (xs.drop (k + 1))) := by
  rw [List.drop_eq_getElem_cons hk]
  simp [firstNZ, List.getD, hk]

set_option maxHeartbeats 2000000 in
theorem or_any (g o c : Nat) (xs : List Int) (hx : xs.length ≤ 1000) (w : World) (h : ∀ i, i < xs.length → w.cell? ⟨g, o + i, none⟩ = some (.int .i64 (xs.getD i 0))) :
    Calls Try.prog 47 #[.slice (some ⟨g, o, none⟩) xs.length c] w fun e w' => e = .returned (.int .i64 (firstNZ xs)) ∧ w' = w := by
  have HH := Lib.hid h
  clear h
  go_enter Try.func47, Try.ntmps47
  go_wp2_with fail
  go_loopw [8] (fun vi wr => ∃ k : Nat, vi = .int .i64 k ∧ k ≤ xs.length ∧ wr = w ∧ firstNZ xs = firstNZ (xs.drop k)) (fun vi _ => xs.length - (intOf vi).toNat)
  case atStart => exact ⟨0, rfl, Nat.zero_le _, rfl, by simp⟩
  case round =>
    obtain ⟨k, rfl, hk, rfl, hz⟩ := hrel
    have HZ := Lib.hid hz
    clear hz
    by_cases hlt : k < xs.length
    · have hc := HH.out k hlt
      have hd := Lib.hid (firstNZ_drop xs k hlt)
      generalize xs.getD k 0 = x at hc hd
      by_cases h0 : x = 0
      · subst h0
        go_wp2_with fail
        go_roundw
        case rel => exact ⟨k + 1, by go_num, by omega, by trivial, by rw [HZ.out, hd.out]; simp [orI]⟩
        case measure => simp [intOf]; omega
      · have H0 := Lib.hid h0
        have e0 : (x == 0) = false := by simpa using h0
        clear h0
        go_wp2_with fail
        go_ret
        exact ⟨by rw [HZ.out, hd.out]; simp [orI, H0.out], rfl⟩
    · obtain rfl : k = xs.length := by omega
      go_wp2_with fail
      go_ret
      exact ⟨by rw [HZ.out]; simp [firstNZ], rfl⟩


/-- What the operations of comparing two labels leave. -/
def LV (x y : Lab) (s : Nat) : Nat → Value → World → Prop
  | 0, v, _ => v = .pointer (some ⟨s, 0, none⟩)
  | 1, v, _ => v = .string x.n
  | 2, v, _ => v = .pointer (some ⟨s + 1, 0, none⟩)
  | 3, v, _ => v = .string y.n
  | 4, v, _ => v = .int .i64 (strC x.n y.n)
  | 5, v, _ => v = .pointer (some ⟨s, 1, none⟩)
  | 6, v, _ => v = .string x.v
  | 7, v, _ => v = .pointer (some ⟨s + 1, 1, none⟩)
  | 8, v, _ => v = .string y.v
  | 9, v, _ => v = .int .i64 (strC x.v y.v)
  | 10, v, W => ∃ g, v = .slice (some ⟨g, 0, none⟩) 2 2 ∧ g < W.heap.size ∧ W.cell? ⟨g, 0, none⟩ = some (.int .i64 (strC x.n y.n)) ∧ W.cell? ⟨g, 1, none⟩ = some (.int .i64 (strC x.v y.v))
  | _, v, _ => v = .int .i64 (labC x y)

theorem LV.lay {x y : Lab} {s j : Nat} {v : Value} {W W' : World} (h : LV x y s j v W) (hl : Lay W W') : LV x y s j v W' := by
  by_cases j10 : j = 10
  · subst j10
    obtain ⟨g, hg, hlt, k0, k1⟩ := h
    exact ⟨g, hg, Nat.lt_of_lt_of_le hlt hl.size, (hl.cell hlt).trans k0, (hl.cell hlt).trans k1⟩
  · unfold LV at h ⊢
    split at h <;> first | exact h | exact absurd rfl j10

set_option maxHeartbeats 4000000 in
set_option maxRecDepth 100000 in
theorem cmp_lab (x y : Lab) (w : World) : Calls Try.prog 50 #[x.val, y.val] w fun e w' => e = .returned (.int .i64 (labC x y)) ∧ Lay w w' := by
  have hL : Lay w ((w.alloc (.cells #[.string x.n, .string x.v] 55)).alloc (.cells #[.string y.n, .string y.v] 55)) := ((Keep.refl _ _).alloc _).alloc _
  have c0 : ((w.alloc (.cells #[.string x.n, .string x.v] 55)).alloc (.cells #[.string y.n, .string y.v] 55)).cell? ⟨w.heap.size, 0, none⟩ = some (.string x.n) := by go_simp
  have c1 : ((w.alloc (.cells #[.string x.n, .string x.v] 55)).alloc (.cells #[.string y.n, .string y.v] 55)).cell? ⟨w.heap.size, 1, none⟩ = some (.string x.v) := by go_simp
  have d0 : ((w.alloc (.cells #[.string x.n, .string x.v] 55)).alloc (.cells #[.string y.n, .string y.v] 55)).cell? ⟨w.heap.size + 1, 0, none⟩ = some (.string y.n) := by go_simp
  have d1 : ((w.alloc (.cells #[.string x.n, .string x.v] 55)).alloc (.cells #[.string y.n, .string y.v] 55)).cell? ⟨w.heap.size + 1, 1, none⟩ = some (.string y.v) := by go_simp
  have hlt1 : w.heap.size + 1 < ((w.alloc (.cells #[.string x.n, .string x.v] 55)).alloc (.cells #[.string y.n, .string y.v] 55)).heap.size := by simp
  have hlt0 : w.heap.size < ((w.alloc (.cells #[.string x.n, .string x.v] 55)).alloc (.cells #[.string y.n, .string y.v] 55)).heap.size := by omega
  have HL := Lib.hid hL
  unfold Lab.val
  go_enter Try.func50, Try.ntmps50
  go_wp2_with fail
  clear hL
  generalize (w.alloc (.cells #[.string x.n, .string x.v] 55)).alloc (.cells #[.string y.n, .string y.v] 55) = W0 at *
  refine wp_region_flow (by kernel_rfl) (fun W => Lay W0 W) (fun _ W W' => Lay W W') (LV x y w.heap.size) (fun j => j == 12) (by kernel_rfl) (by kernel_rfl) (fun _ _ _ _ _ _ _ _ h _ hl => h.lay hl) (Keep.refl _ _).drew ?step ?fin
  case step =>
    refine ⟨?_, ?_, ?_, ?_, ?_, ?_, ?_, ?_, ?_, ?_, ?_, ?_, ?_, trivial⟩
    · intro ys A W hA hI hd K hK
      have e2 : A.tmps.getD 2 undef = .pointer (some ⟨w.heap.size, 0, none⟩) := hA 2 (Nat.le_of_ble_eq_true rfl)
      refine step_run (.inl rfl) ?_
      clear hA hd
      go_simp
      exact hK _ _ hI (Keep.refl _ _) rfl
    · intro ys A W hA hI hd K hK
      have e5 : A.tmps.getD 5 undef = .pointer (some ⟨w.heap.size, 0, none⟩) := (hA 5 (Nat.le_of_ble_eq_true rfl)).trans (hd ⟨0, .data⟩ (by simp) rfl)
      refine step_run (.inl rfl) ?_
      clear hA hd
      have k0 := (Lay.cell hI hlt0).trans c0
      go_simp
      exact hK _ _ hI (Keep.refl _ _) rfl
    · intro ys A W hA hI hd K hK
      have e3 : A.tmps.getD 3 undef = .pointer (some ⟨w.heap.size + 1, 0, none⟩) := hA 3 (Nat.le_of_ble_eq_true rfl)
      refine step_run (.inl rfl) ?_
      clear hA hd
      go_simp
      exact hK _ _ hI (Keep.refl _ _) rfl
    · intro ys A W hA hI hd K hK
      have e7 : A.tmps.getD 7 undef = .pointer (some ⟨w.heap.size + 1, 0, none⟩) := (hA 7 (Nat.le_of_ble_eq_true rfl)).trans (hd ⟨2, .data⟩ (by simp) rfl)
      refine step_run (.inl rfl) ?_
      clear hA hd
      have k0 := (Lay.cell hI hlt1).trans d0
      go_simp
      exact hK _ _ hI (Keep.refl _ _) rfl
    · intro ys A W hA hI hd K hK
      have e6 : A.tmps.getD 6 undef = .string x.n := (hA 6 (Nat.le_of_ble_eq_true rfl)).trans (hd ⟨1, .data⟩ (by simp) rfl)
      have e8 : A.tmps.getD 8 undef = .string y.n := (hA 8 (Nat.le_of_ble_eq_true rfl)).trans (hd ⟨3, .data⟩ (by simp) rfl)
      refine step_run (.inl rfl) ?_
      clear hA hd
      go_simp
      refine (cmp_str _ _ _).mono ?_
      rintro e w' ⟨rfl, rfl⟩
      exact hK _ _ hI (Keep.refl _ _) rfl
    · intro ys A W hA hI hd K hK
      have e2 : A.tmps.getD 2 undef = .pointer (some ⟨w.heap.size, 0, none⟩) := hA 2 (Nat.le_of_ble_eq_true rfl)
      refine step_run (.inl rfl) ?_
      clear hA hd
      go_simp
      exact hK _ _ hI (Keep.refl _ _) rfl
    · intro ys A W hA hI hd K hK
      have e10 : A.tmps.getD 10 undef = .pointer (some ⟨w.heap.size, 1, none⟩) := (hA 10 (Nat.le_of_ble_eq_true rfl)).trans (hd ⟨5, .data⟩ (by simp) rfl)
      refine step_run (.inl rfl) ?_
      clear hA hd
      have k0 := (Lay.cell hI hlt0).trans c1
      go_simp
      exact hK _ _ hI (Keep.refl _ _) rfl
    · intro ys A W hA hI hd K hK
      have e3 : A.tmps.getD 3 undef = .pointer (some ⟨w.heap.size + 1, 0, none⟩) := hA 3 (Nat.le_of_ble_eq_true rfl)
      refine step_run (.inl rfl) ?_
      clear hA hd
      go_simp
      exact hK _ _ hI (Keep.refl _ _) rfl
    · intro ys A W hA hI hd K hK
      have e12 : A.tmps.getD 12 undef = .pointer (some ⟨w.heap.size + 1, 1, none⟩) := (hA 12 (Nat.le_of_ble_eq_true rfl)).trans (hd ⟨7, .data⟩ (by simp) rfl)
      refine step_run (.inl rfl) ?_
      clear hA hd
      have k0 := (Lay.cell hI hlt1).trans d1
      go_simp
      exact hK _ _ hI (Keep.refl _ _) rfl
    · intro ys A W hA hI hd K hK
      have e11 : A.tmps.getD 11 undef = .string x.v := (hA 11 (Nat.le_of_ble_eq_true rfl)).trans (hd ⟨6, .data⟩ (by simp) rfl)
      have e13 : A.tmps.getD 13 undef = .string y.v := (hA 13 (Nat.le_of_ble_eq_true rfl)).trans (hd ⟨8, .data⟩ (by simp) rfl)
      refine step_run (.inl rfl) ?_
      clear hA hd
      go_simp
      refine (cmp_str _ _ _).mono ?_
      rintro e w' ⟨rfl, rfl⟩
      exact hK _ _ hI (Keep.refl _ _) rfl
    · intro ys A W hA hI hd K hK
      have e9 : A.tmps.getD 9 undef = .int .i64 (strC x.n y.n) := (hA 9 (Nat.le_of_ble_eq_true rfl)).trans (hd ⟨4, .data⟩ (by simp) rfl)
      have e14 : A.tmps.getD 14 undef = .int .i64 (strC x.v y.v) := (hA 14 (Nat.le_of_ble_eq_true rfl)).trans (hd ⟨9, .data⟩ (by simp) rfl)
      refine step_run (.inl rfl) ?_
      clear hA hd
      have f9 : A.tmps[9]?.getD undef = _ := Array.getD_eq_getD_getElem?.symm.trans e9
      have f14 : A.tmps[14]?.getD undef = _ := Array.getD_eq_getD_getElem?.symm.trans e14
      go_simp
      exact hK _ _ (Keep.alloc hI (.cells #[.int .i64 (strC x.n y.n), .int .i64 (strC x.v y.v)] 3)) ((Keep.refl _ _).alloc _) ⟨W.heap.size, rfl, by simp, by go_simp, by go_simp⟩
    · intro ys A W hA hI hd K hK
      have e15 : A.tmps.getD 15 undef = ys 10 := hA 15 (Nat.le_of_ble_eq_true rfl)
      obtain ⟨g, hg, hlt, k0, k1⟩ : ∃ g, ys 10 = .slice (some ⟨g, 0, none⟩) 2 2 ∧ g < W.heap.size ∧ W.cell? ⟨g, 0, none⟩ = some (.int .i64 (strC x.n y.n)) ∧ W.cell? ⟨g, 1, none⟩ = some (.int .i64 (strC x.v y.v)) := hd ⟨10, .data⟩ (by simp) rfl
      rw [hg] at e15
      refine step_run (.inl rfl) ?_
      clear hA hd
      go_simp
      refine (or_any g 0 2 [strC x.n y.n, strC x.v y.v] (by simp) W ?_).mono ?_
      · intro i hi
        match i, hi with
        | 0, _ => exact k0
        | 1, _ => exact k1
      rintro e w' ⟨rfl, rfl⟩
      exact hK _ _ hI (Keep.refl _ _) (by rw [firstNZ2]; rfl)
    · intro ys A W hA hI hd K hK
      have e16 : A.tmps.getD 16 undef = .int .i64 (labC x y) := (hA 16 (Nat.le_of_ble_eq_true rfl)).trans (hd ⟨11, .data⟩ (by simp) rfl)
      refine step_run (.inl rfl) ?_
      clear hA hd
      go_simp
      exact hK _ _ hI (Keep.refl _ _) rfl
  case fin =>
    intro ys W hI hF
    have hv : ys 12 = .int .i64 (labC x y) := hF 12 (Nat.le_of_ble_eq_true rfl) rfl
    have HI := Lib.hid hI
    clear hI hF
    simp only [putsFrom]
    simp only [hv, Act.put, List.setIfInBounds_toArray, List.set_cons_succ, List.set_cons_zero]
    go_wp2_with fail
    go_ret
    exact ⟨rfl, Keep.trans HL.out HI.out⟩

set_option maxHeartbeats 4000000 in
/-- slices.CompareFunc of two slices of labels. -/
theorem cmp_labs {G H : Nat → Prop} {w : World} {xl yl : Value} {xs ys : List Lab} (hx : LabsAt G w xl xs) (hy : LabsAt H w yl ys) :
    Calls Try.prog 49 #[xl, yl, .func (.func 50) #[] #[]] w fun e w' => e = .returned (.int .i64 (listC labC xs ys)) ∧ Lay w w' := by
  obtain ⟨a, ca, rfl, hlx, ha⟩ := hx
  obtain ⟨b, cb, rfl, hly, hb⟩ := hy
  have HA := Lib.hid ha
  have HB := Lib.hid hb
  clear ha hb
  go_enter Try.func49, Try.ntmps49
  go_wp2_with fail
  go_loopw [13] (fun vi wr => ∃ k : Nat, vi = .int .i64 k ∧ k ≤ xs.length ∧ k ≤ ys.length ∧ Lay w wr ∧ listC labC xs ys = listC labC (xs.drop k) (ys.drop k)) (fun vi _ => xs.length - (intOf vi).toNat)
  case atStart => exact ⟨0, rfl, Nat.zero_le _, Nat.zero_le _, Keep.refl _ _, by simp⟩
  case round =>
    obtain ⟨k, rfl, hk, hky, hl, hz⟩ := hrel
    have HZ := Lib.hid hz
    have HL := Lib.hid hl
    clear hz
    by_cases hlt : k < xs.length
    · rcases HA.out with h0 | ⟨bx, ox, rfl, hgx, hbx, hcx⟩
      · exact absurd hlt (by rw [h0]; simp)
      obtain ⟨x0, x1⟩ := hcx k hlt
      have g0 := (hl.cell hbx).trans x0
      have g1 := (hl.cell hbx).trans x1
      have hdx := Lib.hid (List.drop_eq_getElem_cons hlt)
      generalize hx : xs[k] = x at g0 g1 hdx
      clear x0 x1 hcx hx
      by_cases hlty : k < ys.length
      · rcases HB.out with h0 | ⟨by', oy, rfl, hgy, hby, hcy⟩
        · exact absurd hlty (by rw [h0]; simp)
        obtain ⟨y0, y1⟩ := hcy k hlty
        have k0 := (hl.cell hby).trans y0
        have k1 := (hl.cell hby).trans y1
        have hdy := Lib.hid (List.drop_eq_getElem_cons hlty)
        generalize hy : ys[k] = y at k0 k1 hdy
        have hbw : by' < wr.heap.size := Nat.lt_of_lt_of_le hby hl.size
        clear y0 y1 hcy hy hl
        go_wp2_with fail
        refine (cmp_lab x y _).mono ?_
        rintro e w' ⟨rfl, hl2⟩
        have HL2 := Lib.hid (Keep.trans ((HL.out.alloc _).alloc _) hl2)
        clear hl2
        by_cases h0 : labC x y = 0
        · have H0 := Lib.hid h0
          rw [h0]
          clear h0
          go_wp2_with fail
          go_roundw
          case rel => exact ⟨k + 1, by go_num, by omega, by omega, HL2.out, by rw [HZ.out, hdx.out, hdy.out]; simp [listC, orI, H0.out]⟩
          case measure => simp [intOf]; omega
        · have H0 := Lib.hid h0
          have e0 : (labC x y == 0) = false := by simpa using h0
          clear h0
          go_wp2_with fail
          go_ret
          refine ⟨?_, HL2.out⟩
          rw [HZ.out, hdx.out, hdy.out]
          simp [listC, orI, H0.out]
      · obtain rfl : k = ys.length := by omega
        go_wp2_with fail
        go_ret
        refine ⟨?_, Keep.alloc HL.out _⟩
        rw [HZ.out, hdx.out]
        simp [listC]
    · obtain rfl : k = xs.length := by omega
      by_cases hlty : xs.length < ys.length
      · go_wp2_with fail
        go_ret
        refine ⟨?_, HL.out⟩
        rw [HZ.out, List.drop_length, List.drop_eq_getElem_cons hlty]
        simp [listC]
      · have he : xs.length = ys.length := by omega
        go_wp2_with fail
        go_ret
        refine ⟨?_, HL.out⟩
        rw [HZ.out, List.drop_length, he, List.drop_length]
        simp [listC]

/-- What the operations of comparing two entries leave. -/
def EV (x y : Ent) (xl yl : Value) (s : Nat) : Nat → Value → World → Prop
  | 0, v, _ => v = .pointer (some ⟨s, 0, none⟩)
  | 1, v, _ => v = .int .i64 x.tm
  | 2, v, _ => v = .pointer (some ⟨s + 1, 0, none⟩)
  | 3, v, _ => v = .int .i64 y.tm
  | 4, v, _ => v = .int .i64 (intC x.tm y.tm)
  | 5, v, _ => v = .pointer (some ⟨s, 1, none⟩)
  | 6, v, _ => v = xl
  | 7, v, _ => v = .pointer (some ⟨s + 1, 1, none⟩)
  | 8, v, _ => v = yl
  | 9, v, _ => v = .int .i64 (listC labC x.labs y.labs)
  | 10, v, _ => v = .pointer (some ⟨s, 2, none⟩)
  | 11, v, _ => v = .string x.line
  | 12, v, _ => v = .pointer (some ⟨s + 1, 2, none⟩)
  | 13, v, _ => v = .string y.line
  | 14, v, _ => v = .int .i64 (strC x.line y.line)
  | 15, v, W => ∃ g, v = .slice (some ⟨g, 0, none⟩) 3 3 ∧ g < W.heap.size ∧ W.cell? ⟨g, 0, none⟩ = some (.int .i64 (intC x.tm y.tm)) ∧ W.cell? ⟨g, 1, none⟩ = some (.int .i64 (listC labC x.labs y.labs)) ∧ W.cell? ⟨g, 2, none⟩ = some (.int .i64 (strC x.line y.line))
  | _, v, _ => v = .int .i64 (entC x y)

theorem EV.lay {x y : Ent} {xl yl : Value} {s j : Nat} {v : Value} {W W' : World} (h : EV x y xl yl s j v W) (hl : Lay W W') : EV x y xl yl s j v W' := by
  by_cases j15 : j = 15
  · subst j15
    obtain ⟨g, hg, hlt, k0, k1, k2⟩ := h
    exact ⟨g, hg, Nat.lt_of_lt_of_le hlt hl.size, (hl.cell hlt).trans k0, (hl.cell hlt).trans k1, (hl.cell hlt).trans k2⟩
  · unfold EV at h ⊢
    split at h <;> first | exact h | exact absurd rfl j15

set_option maxHeartbeats 4000000 in
set_option maxRecDepth 100000 in
/-- record.Compare. -/
theorem compare_any {G H : Nat → Prop} {w : World} {x y : Ent} {xl yl : Value} (hx : LabsAt G w xl x.labs) (hy : LabsAt H w yl y.labs) :
    Calls Try.prog 24 #[x.val xl, y.val yl] w fun e w' => e = .returned (.int .i64 (entC x y)) ∧ Lay w w' := by
  obtain ⟨ax, cx, rfl, _, _⟩ := id hx
  obtain ⟨ay, cy, rfl, _, _⟩ := id hy
  have hL : Lay w ((w.alloc (.cells #[.int .i64 x.tm, .slice ax x.labs.length cx, .string x.line] 24)).alloc (.cells #[.int .i64 y.tm, .slice ay y.labs.length cy, .string y.line] 24)) := ((Keep.refl _ _).alloc _).alloc _
  have c0 : ((w.alloc (.cells #[.int .i64 x.tm, .slice ax x.labs.length cx, .string x.line] 24)).alloc (.cells #[.int .i64 y.tm, .slice ay y.labs.length cy, .string y.line] 24)).cell? ⟨w.heap.size, 0, none⟩ = some (.int .i64 x.tm) := by go_simp
  have c1 : ((w.alloc (.cells #[.int .i64 x.tm, .slice ax x.labs.length cx, .string x.line] 24)).alloc (.cells #[.int .i64 y.tm, .slice ay y.labs.length cy, .string y.line] 24)).cell? ⟨w.heap.size, 1, none⟩ = some (.slice ax x.labs.length cx) := by go_simp
  have c2 : ((w.alloc (.cells #[.int .i64 x.tm, .slice ax x.labs.length cx, .string x.line] 24)).alloc (.cells #[.int .i64 y.tm, .slice ay y.labs.length cy, .string y.line] 24)).cell? ⟨w.heap.size, 2, none⟩ = some (.string x.line) := by go_simp
  have d0 : ((w.alloc (.cells #[.int .i64 x.tm, .slice ax x.labs.length cx, .string x.line] 24)).alloc (.cells #[.int .i64 y.tm, .slice ay y.labs.length cy, .string y.line] 24)).cell? ⟨w.heap.size + 1, 0, none⟩ = some (.int .i64 y.tm) := by go_simp
  have d1 : ((w.alloc (.cells #[.int .i64 x.tm, .slice ax x.labs.length cx, .string x.line] 24)).alloc (.cells #[.int .i64 y.tm, .slice ay y.labs.length cy, .string y.line] 24)).cell? ⟨w.heap.size + 1, 1, none⟩ = some (.slice ay y.labs.length cy) := by go_simp
  have d2 : ((w.alloc (.cells #[.int .i64 x.tm, .slice ax x.labs.length cx, .string x.line] 24)).alloc (.cells #[.int .i64 y.tm, .slice ay y.labs.length cy, .string y.line] 24)).cell? ⟨w.heap.size + 1, 2, none⟩ = some (.string y.line) := by go_simp
  have hlt1 : w.heap.size + 1 < ((w.alloc (.cells #[.int .i64 x.tm, .slice ax x.labs.length cx, .string x.line] 24)).alloc (.cells #[.int .i64 y.tm, .slice ay y.labs.length cy, .string y.line] 24)).heap.size := by simp
  have hlt0 : w.heap.size < ((w.alloc (.cells #[.int .i64 x.tm, .slice ax x.labs.length cx, .string x.line] 24)).alloc (.cells #[.int .i64 y.tm, .slice ay y.labs.length cy, .string y.line] 24)).heap.size := by omega
  have HL := Lib.hid hL
  have HX := Lib.hid (hx.lay hL)
  have HY := Lib.hid (hy.lay hL)
  unfold Ent.val
  clear hx hy
  go_enter Try.func24, Try.ntmps24
  go_wp2_with fail
  clear hL
  generalize (w.alloc (.cells #[.int .i64 x.tm, .slice ax x.labs.length cx, .string x.line] 24)).alloc (.cells #[.int .i64 y.tm, .slice ay y.labs.length cy, .string y.line] 24) = W0 at *
  refine wp_region_flow (by kernel_rfl) (fun W => Lay W0 W) (fun _ W W' => Lay W W') (EV x y (.slice ax x.labs.length cx) (.slice ay y.labs.length cy) w.heap.size) (fun j => j == 17) (by kernel_rfl) (by kernel_rfl) (fun _ _ _ _ _ _ _ _ h _ hl => h.lay hl) (Keep.refl _ _).drew ?step ?fin
  case step =>
    refine ⟨?_, ?_, ?_, ?_, ?_, ?_, ?_, ?_, ?_, ?_, ?_, ?_, ?_, ?_, ?_, ?_, ?_, ?_, trivial⟩
    · intro ys A W hA hI hd K hK
      have e2 : A.tmps.getD 2 undef = .pointer (some ⟨w.heap.size, 0, none⟩) := hA 2 (Nat.le_of_ble_eq_true rfl)
      refine step_run (.inl rfl) ?_
      clear hA hd
      go_simp
      exact hK _ _ hI (Keep.refl _ _) rfl
    · intro ys A W hA hI hd K hK
      have e5 : A.tmps.getD 5 undef = .pointer (some ⟨w.heap.size, 0, none⟩) := (hA 5 (Nat.le_of_ble_eq_true rfl)).trans (hd ⟨0, .data⟩ (by simp) rfl)
      refine step_run (.inl rfl) ?_
      clear hA hd
      have k0 := (Lay.cell hI hlt0).trans c0
      go_simp
      exact hK _ _ hI (Keep.refl _ _) rfl
    · intro ys A W hA hI hd K hK
      have e3 : A.tmps.getD 3 undef = .pointer (some ⟨w.heap.size + 1, 0, none⟩) := hA 3 (Nat.le_of_ble_eq_true rfl)
      refine step_run (.inl rfl) ?_
      clear hA hd
      go_simp
      exact hK _ _ hI (Keep.refl _ _) rfl
    · intro ys A W hA hI hd K hK
      have e7 : A.tmps.getD 7 undef = .pointer (some ⟨w.heap.size + 1, 0, none⟩) := (hA 7 (Nat.le_of_ble_eq_true rfl)).trans (hd ⟨2, .data⟩ (by simp) rfl)
      refine step_run (.inl rfl) ?_
      clear hA hd
      have k0 := (Lay.cell hI hlt1).trans d0
      go_simp
      exact hK _ _ hI (Keep.refl _ _) rfl
    · intro ys A W hA hI hd K hK
      have e6 : A.tmps.getD 6 undef = .int .i64 x.tm := (hA 6 (Nat.le_of_ble_eq_true rfl)).trans (hd ⟨1, .data⟩ (by simp) rfl)
      have e8 : A.tmps.getD 8 undef = .int .i64 y.tm := (hA 8 (Nat.le_of_ble_eq_true rfl)).trans (hd ⟨3, .data⟩ (by simp) rfl)
      refine step_run (.inl rfl) ?_
      clear hA hd
      go_simp
      refine (cmp_int _ _ _).mono ?_
      rintro e w' ⟨rfl, rfl⟩
      exact hK _ _ hI (Keep.refl _ _) rfl
    · intro ys A W hA hI hd K hK
      have e2 : A.tmps.getD 2 undef = .pointer (some ⟨w.heap.size, 0, none⟩) := hA 2 (Nat.le_of_ble_eq_true rfl)
      refine step_run (.inl rfl) ?_
      clear hA hd
      go_simp
      exact hK _ _ hI (Keep.refl _ _) rfl
    · intro ys A W hA hI hd K hK
      have e10 : A.tmps.getD 10 undef = .pointer (some ⟨w.heap.size, 1, none⟩) := (hA 10 (Nat.le_of_ble_eq_true rfl)).trans (hd ⟨5, .data⟩ (by simp) rfl)
      refine step_run (.inl rfl) ?_
      clear hA hd
      have k0 := (Lay.cell hI hlt0).trans c1
      go_simp
      exact hK _ _ hI (Keep.refl _ _) rfl
    · intro ys A W hA hI hd K hK
      have e3 : A.tmps.getD 3 undef = .pointer (some ⟨w.heap.size + 1, 0, none⟩) := hA 3 (Nat.le_of_ble_eq_true rfl)
      refine step_run (.inl rfl) ?_
      clear hA hd
      go_simp
      exact hK _ _ hI (Keep.refl _ _) rfl
    · intro ys A W hA hI hd K hK
      have e12 : A.tmps.getD 12 undef = .pointer (some ⟨w.heap.size + 1, 1, none⟩) := (hA 12 (Nat.le_of_ble_eq_true rfl)).trans (hd ⟨7, .data⟩ (by simp) rfl)
      refine step_run (.inl rfl) ?_
      clear hA hd
      have k0 := (Lay.cell hI hlt1).trans d1
      go_simp
      exact hK _ _ hI (Keep.refl _ _) rfl
    · intro ys A W hA hI hd K hK
      have e11 : A.tmps.getD 11 undef = .slice ax x.labs.length cx := (hA 11 (Nat.le_of_ble_eq_true rfl)).trans (hd ⟨6, .data⟩ (by simp) rfl)
      have e13 : A.tmps.getD 13 undef = .slice ay y.labs.length cy := (hA 13 (Nat.le_of_ble_eq_true rfl)).trans (hd ⟨8, .data⟩ (by simp) rfl)
      refine step_run (.inl rfl) ?_
      clear hA hd
      go_simp
      refine (cmp_labs ((HX.out).lay hI) ((HY.out).lay hI)).mono ?_
      rintro e w' ⟨rfl, hl⟩
      exact hK _ _ (Keep.trans hI hl) hl rfl
    · intro ys A W hA hI hd K hK
      have e2 : A.tmps.getD 2 undef = .pointer (some ⟨w.heap.size, 0, none⟩) := hA 2 (Nat.le_of_ble_eq_true rfl)
      refine step_run (.inl rfl) ?_
      clear hA hd
      go_simp
      exact hK _ _ hI (Keep.refl _ _) rfl
    · intro ys A W hA hI hd K hK
      have e15 : A.tmps.getD 15 undef = .pointer (some ⟨w.heap.size, 2, none⟩) := (hA 15 (Nat.le_of_ble_eq_true rfl)).trans (hd ⟨10, .data⟩ (by simp) rfl)
      refine step_run (.inl rfl) ?_
      clear hA hd
      have k0 := (Lay.cell hI hlt0).trans c2
      go_simp
      exact hK _ _ hI (Keep.refl _ _) rfl
    · intro ys A W hA hI hd K hK
      have e3 : A.tmps.getD 3 undef = .pointer (some ⟨w.heap.size + 1, 0, none⟩) := hA 3 (Nat.le_of_ble_eq_true rfl)
      refine step_run (.inl rfl) ?_
      clear hA hd
      go_simp
      exact hK _ _ hI (Keep.refl _ _) rfl
    · intro ys A W hA hI hd K hK
      have e17 : A.tmps.getD 17 undef = .pointer (some ⟨w.heap.size + 1, 2, none⟩) := (hA 17 (Nat.le_of_ble_eq_true rfl)).trans (hd ⟨12, .data⟩ (by simp) rfl)
      refine step_run (.inl rfl) ?_
      clear hA hd
      have k0 := (Lay.cell hI hlt1).trans d2
      go_simp
      exact hK _ _ hI (Keep.refl _ _) rfl
    · intro ys A W hA hI hd K hK
      have e16 : A.tmps.getD 16 undef = .string x.line := (hA 16 (Nat.le_of_ble_eq_true rfl)).trans (hd ⟨11, .data⟩ (by simp) rfl)
      have e18 : A.tmps.getD 18 undef = .string y.line := (hA 18 (Nat.le_of_ble_eq_true rfl)).trans (hd ⟨13, .data⟩ (by simp) rfl)
      refine step_run (.inl rfl) ?_
      clear hA hd
      go_simp
      refine (cmp_str _ _ _).mono ?_
      rintro e w' ⟨rfl, rfl⟩
      exact hK _ _ hI (Keep.refl _ _) rfl
    · intro ys A W hA hI hd K hK
      have e9 : A.tmps.getD 9 undef = .int .i64 (intC x.tm y.tm) := (hA 9 (Nat.le_of_ble_eq_true rfl)).trans (hd ⟨4, .data⟩ (by simp) rfl)
      have e14 : A.tmps.getD 14 undef = .int .i64 (listC labC x.labs y.labs) := (hA 14 (Nat.le_of_ble_eq_true rfl)).trans (hd ⟨9, .data⟩ (by simp) rfl)
      have e19 : A.tmps.getD 19 undef = .int .i64 (strC x.line y.line) := (hA 19 (Nat.le_of_ble_eq_true rfl)).trans (hd ⟨14, .data⟩ (by simp) rfl)
      refine step_run (.inl rfl) ?_
      clear hA hd
      have f9 : A.tmps[9]?.getD undef = _ := Array.getD_eq_getD_getElem?.symm.trans e9
      have f14 : A.tmps[14]?.getD undef = _ := Array.getD_eq_getD_getElem?.symm.trans e14
      have f19 : A.tmps[19]?.getD undef = _ := Array.getD_eq_getD_getElem?.symm.trans e19
      go_simp
      exact hK _ _ (Keep.alloc hI (.cells #[.int .i64 (intC x.tm y.tm), .int .i64 (listC labC x.labs y.labs), .int .i64 (strC x.line y.line)] 3)) ((Keep.refl _ _).alloc _) ⟨W.heap.size, rfl, by simp, by go_simp, by go_simp, by go_simp⟩
    · intro ys A W hA hI hd K hK
      have e20 : A.tmps.getD 20 undef = ys 15 := hA 20 (Nat.le_of_ble_eq_true rfl)
      obtain ⟨g, hg, hlt, k0, k1, k2⟩ : ∃ g, ys 15 = .slice (some ⟨g, 0, none⟩) 3 3 ∧ g < W.heap.size ∧ W.cell? ⟨g, 0, none⟩ = some (.int .i64 (intC x.tm y.tm)) ∧ W.cell? ⟨g, 1, none⟩ = some (.int .i64 (listC labC x.labs y.labs)) ∧ W.cell? ⟨g, 2, none⟩ = some (.int .i64 (strC x.line y.line)) := hd ⟨15, .data⟩ (by simp) rfl
      rw [hg] at e20
      refine step_run (.inl rfl) ?_
      clear hA hd
      go_simp
      refine (or_any g 0 3 [intC x.tm y.tm, listC labC x.labs y.labs, strC x.line y.line] (by simp) W ?_).mono ?_
      · intro i hi
        match i, hi with
        | 0, _ => exact k0
        | 1, _ => exact k1
        | 2, _ => exact k2
      rintro e w' ⟨rfl, rfl⟩
      exact hK _ _ hI (Keep.refl _ _) (by rw [firstNZ3]; rfl)
    · intro ys A W hA hI hd K hK
      have e21 : A.tmps.getD 21 undef = .int .i64 (entC x y) := (hA 21 (Nat.le_of_ble_eq_true rfl)).trans (hd ⟨16, .data⟩ (by simp) rfl)
      refine step_run (.inl rfl) ?_
      clear hA hd
      go_simp
      exact hK _ _ hI (Keep.refl _ _) rfl
  case fin =>
    intro ys W hI hF
    have hv : ys 17 = .int .i64 (entC x y) := hF 17 (Nat.le_of_ble_eq_true rfl) rfl
    have HI := Lib.hid hI
    clear hI hF
    simp only [putsFrom]
    simp only [hv, Act.put, List.setIfInBounds_toArray, List.set_cons_succ, List.set_cons_zero]
    go_wp2_with fail
    go_ret
    exact ⟨rfl, Keep.trans HL.out HI.out⟩

end Go.Proofs.Ytgcldnojmdabpaa
