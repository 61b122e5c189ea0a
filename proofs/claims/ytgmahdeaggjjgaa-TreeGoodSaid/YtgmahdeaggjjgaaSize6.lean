/-
  THE DOCUMENT'S OWN size, Great.
-/
import Derived.Test.YtgmahdeaggjjgaaRows6
namespace Go.Proofs.Ytgmahdeaggjjgaa
open Go.RowKit Go

namespace Ft
mutual
/-- How many parts; more than there may be, where it is too deep. -/
def size : Int → Ft → Nat
  | d, mk _ n t k => if d < 0 ∨ 300 < t.size ∨ 300 < n.size ∨ 300 < k.length then 1048576 else sizes (d - 1) k 1
def sizes : Int → List Ft → Nat → Nat
  | _, [], a => a
  | d, x :: r, a => sizes d r (min (a + size d x) 1048576)
end

mutual
theorem size_le : ∀ (d : Int) (f : Ft), size d f ≤ 1048576
  | d, mk _ n t k => by
    rw [size]
    split
    · exact Nat.le_refl _
    · exact sizes_le (d - 1) k 1 (by omega)
theorem sizes_le : ∀ (d : Int) (l : List Ft) (a : Nat), a ≤ 1048576 → sizes d l a ≤ 1048576
  | _, [], a, h => by rw [sizes]; exact h
  | d, x :: r, a, h => by
    rw [sizes]
    exact sizes_le d r _ (by omega)
end

mutual
/-- What isn't great has as many. -/
theorem size_count : ∀ (d : Int) (f : Ft), size d f < 1048576 → size d f = count f
  | d, mk _ n t k, h => by
    rw [size] at h ⊢
    split at h
    · omega
    · rename_i hg
      rw [if_neg hg, count]
      exact sizes_count (d - 1) k 1 (by omega) h
theorem sizes_count : ∀ (d : Int) (l : List Ft) (a : Nat), a ≤ 1048576 → sizes d l a < 1048576 → sizes d l a = a + counts l
  | _, [], a, _, _ => by rw [sizes, counts]; rfl
  | d, x :: r, a, ha, h => by
    rw [sizes] at h ⊢
    have hm : a + size d x < 1048576 := by
      rcases Nat.lt_or_ge (a + size d x) 1048576 with hlt | hge
      · exact hlt
      · rw [Nat.min_eq_right hge, sizes_top] at h
        omega
    rw [Nat.min_eq_left (by omega)] at h ⊢
    rw [sizes_count d r _ (by omega) h, size_count d x (by omega), counts]
    omega
theorem sizes_top : ∀ (d : Int) (l : List Ft), sizes d l 1048576 = 1048576
  | _, [] => by rw [sizes]
  | d, x :: r => by
    rw [sizes, Nat.min_eq_right (by omega)]
    exact sizes_top d r
end

theorem sizes_snoc (d : Int) (x : Ft) : ∀ (l : List Ft) (a : Nat), sizes d (l ++ [x]) a = min (sizes d l a + size d x) 1048576
  | [], a => by simp [sizes]
  | y :: r, a => by rw [List.cons_append, sizes, sizes, sizes_snoc d x r]
end Ft

set_option maxHeartbeats 4000000 in
set_option maxRecDepth 100000 in
theorem size_any : ∀ (m : Nat) (f : Ft) (d : Int) (w : World) (v : Value), f.count ≤ m → -1 ≤ d → d ≤ 1000 → FAt w v f →
    Calls Try.prog 28 #[v, .int .i64 d] w fun e w' => e = .returned (.int .i64 (Ft.size d f : Nat)) ∧ Lay w w' := by
  intro m
  induction m with
  | zero =>
    intro f d w v h
    cases f with
    | mk o n t k => rw [Ft.count] at h; omega
  | succ m ih =>
    intro f d w v hm hd0 hd1 hf
    obtain ⟨o, nm, t, ks⟩ := f
    obtain ⟨kv, rfl, hks⟩ := hf
    rw [KsAt] at hks
    obtain ⟨a, cap, rfl, hl63, hks⟩ := hks
    rw [Ft.count] at hm
    have IH := Lib.hid ih
    have HK := Lib.hid hks
    clear ih hks
    simp only [Ft.val, Ft.op, Ft.name, Ft.text]
    by_cases hg : d < 0 ∨ 300 < t.size ∨ 300 < nm.size ∨ 300 < ks.length
    · have HS : Hid (Ft.size d (.mk o nm t ks) = 1048576) := Lib.hid (by rw [Ft.size, if_pos hg])
      have hg' : decide (d < 0) = true ∨ (decide (d < 0) = false ∧ decide (300 < (t.size : Int)) = true) ∨ (decide (d < 0) = false ∧ decide (300 < (t.size : Int)) = false ∧ decide (300 < (nm.size : Int)) = true) ∨ (decide (d < 0) = false ∧ decide (300 < (t.size : Int)) = false ∧ decide (300 < (nm.size : Int)) = false ∧ decide (300 < (ks.length : Int)) = true) := by
        simp
        omega
      clear hg
      rcases hg' with h1 | ⟨h1, h2⟩ | ⟨h1, h2, h3⟩ | ⟨h1, h2, h3, h4⟩
      all_goals
        go_enter Try.func28, Try.ntmps28
        go_wp2_with fail
        go_ret
        rw [HS.out]
        exact ⟨rfl, (Keep.refl _ _).alloc _⟩
    · have HS : Hid (Ft.size d (.mk o nm t ks) = Ft.sizes (d - 1) ks 1) := Lib.hid (by rw [Ft.size, if_neg hg])
      have h1 : decide (d < 0) = false := by simp; omega
      have h2 : decide (300 < (t.size : Int)) = false := by simp; omega
      have h3 : decide (300 < (nm.size : Int)) = false := by simp; omega
      have h4 : decide (300 < (ks.length : Int)) = false := by simp; omega
      have hk300 : ks.length ≤ 300 := by omega
      have hd00 : 0 ≤ d := by omega
      clear hg
      go_enter Try.func28, Try.ntmps28
      go_wp2_with fail
      go_loopw [5, 31] (fun vn vi wr => ∃ i : Nat, vi = .int .i64 i ∧ i ≤ ks.length ∧ vn = .int .i64 (Ft.sizes (d - 1) (ks.take i) 1 : Nat) ∧ Lay w wr) (fun _ vi _ => ks.length - (intOf vi).toNat)
      case atStart => exact ⟨0, rfl, Nat.zero_le _, rfl, (Keep.refl _ _).alloc _⟩
      case round =>
        obtain ⟨i, rfl, hi, rfl, hl⟩ := hrel
        have HL := Lib.hid hl
        by_cases hlt : i < ks.length
        · rcases HK.out with h0 | ⟨b, off, rfl, hbl, hka⟩
          · exact absurd hlt (by rw [h0]; simp)
          obtain ⟨kv, x0, x1, x2, x3, x4⟩ := KAt.get (KAt.below (Lay.below hl) b hbl off ks hka) i hlt
          have hcm := counts_mem ks i hlt
          have HSN : Hid (Ft.sizes (d - 1) (ks.take (i + 1)) 1 = min (Ft.sizes (d - 1) (ks.take i) 1 + Ft.size (d - 1) ks[i]) 1048576) := Lib.hid (by
            rw [List.take_succ_eq_append_getElem hlt, Ft.sizes_snoc])
          have hbl2 : b < wr.heap.size := Nat.lt_of_lt_of_le hbl hl.size
          generalize ks[i] = x at x0 x1 x2 x3 x4 hcm HSN
          obtain ⟨ak, ck, rfl⟩ := x4.shape
          have hal : Lay wr (wr.alloc (.cells #[.int .i64 x.op, .string x.name, .string x.text, .slice ak x.kids.length ck] 26)) := (Keep.refl _ _).alloc _
          have HAL := Lib.hid hal
          have HCX := Lib.hid (IH.out x (d - 1) (wr.alloc (.cells #[.int .i64 x.op, .string x.name, .string x.text, .slice ak x.kids.length ck] 26)) (x.val (.slice ak x.kids.length ck)) (by omega) (by omega) (by omega) ⟨_, rfl, KsAt.below (hal.below.mono (Nat.le_refl _)) _ x x4⟩)
          have hz1 := Ft.sizes_le (d - 1) (ks.take i) 1 (by omega)
          have hz2 := Ft.size_le (d - 1) x
          obtain ⟨A, hA⟩ : ∃ A, A = Ft.sizes (d - 1) (ks.take i) 1 := ⟨_, rfl⟩
          obtain ⟨B, hB⟩ : ∃ B, B = Ft.size (d - 1) x := ⟨_, rfl⟩
          rw [← hA, ← hB] at HSN
          rw [← hA] at hz1
          rw [← hB] at hz2 HCX
          rw [← hA]
          clear hl hka x4 hal hA hB
          go_wp2_with (go_at_call 28; refine HCX.out.mono ?_; rintro e w3 ⟨rfl, hl3⟩)
          go_roundw
          case rel =>
            refine ⟨i + 1, by go_num, by omega, ?_, Keep.trans HL.out (Keep.trans HAL.out hl3)⟩
            rw [HSN.out]
            refine congrArg (Value.int IntKind.i64) ?_
            omega
          case measure => simp [intOf]; omega
        · obtain rfl : i = ks.length := by omega
          rw [List.take_length]
          clear hl
          go_wp2_with fail
          go_ret
          rw [HS.out]
          exact ⟨rfl, HL.out⟩

set_option maxHeartbeats 1000000 in
/-- Great, with 500 parts, 30 within one another. -/
theorem great_any (f : Ft) (w : World) (v : Value) (hf : FAt w v f) :
    Calls Try.prog 19 #[v, .int .i64 500, .int .i64 30] w fun e w' => e = .returned (.bool (decide (500 < Ft.size 30 f))) ∧ Lay w w' := by
  obtain ⟨kv, rfl, hks⟩ := hf
  obtain ⟨ak, ck, rfl⟩ := hks.shape
  have hal : Lay w (w.alloc (.cells #[.int .i64 f.op, .string f.name, .string f.text, .slice ak f.kids.length ck] 26)) := (Keep.refl _ _).alloc _
  have HAL := Lib.hid hal
  have HC := Lib.hid (size_any f.count f 30 _ (f.val (.slice ak f.kids.length ck)) (Nat.le_refl _) (by decide) (by decide) ⟨_, rfl, KsAt.below hal.below _ f hks⟩)
  clear hks hal
  simp only [Ft.val] at HC ⊢
  go_enter Try.func19, Try.ntmps19
  go_wp2_with (go_at_call 28; refine HC.out.mono ?_; rintro e w3 ⟨rfl, hl3⟩)
  go_ret
  refine ⟨ret_bool ?_, Keep.trans HAL.out hl3⟩
  rw [Bool.eq_iff_iff]
  simp
  try omega

end Go.Proofs.Ytgmahdeaggjjgaa
