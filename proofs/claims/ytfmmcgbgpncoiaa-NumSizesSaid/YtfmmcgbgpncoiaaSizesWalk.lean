/-
  magpielaw01.NumSizes: the walk.
-/
import Derived.Test.YtfmmcgbgpncoiaaAlive
namespace Go.Proofs.Ytfmmcgbgpncoiaa
open Go.RowKit Go

/-- A number fits its bytes, and not fewer. -/
theorem size_bounds (x : Nat) : x < 128 ^ (Lib.uvarint x).length ∧ ((Lib.uvarint x).length ≤ 1 ∨ 128 ^ ((Lib.uvarint x).length - 1) ≤ x) := by
  induction x using Nat.strongRecOn with
  | _ x ih =>
    by_cases h : x < 128
    · rw [Lib.uvarint_small h]
      exact ⟨by simpa using h, .inl (by simp)⟩
    · obtain ⟨h1, h2⟩ := ih (x / 128) (by omega)
      have hp := Lib.uvarint_pos (x / 128)
      rw [Lib.uvarint_big (by omega), List.length_cons]
      generalize (Lib.uvarint (x / 128)).length = m at h1 h2 hp
      refine ⟨?_, .inr ?_⟩
      · rw [Nat.pow_succ]; omega
      · rw [Nat.add_sub_cancel]
        obtain ⟨j, rfl⟩ : ∃ j, m = j + 1 := ⟨m - 1, by omega⟩
        rw [Nat.pow_succ]
        rcases h2 with h2 | h2
        · obtain rfl : j = 0 := by omega
          simp; omega
        · rw [Nat.add_sub_cancel] at h2
          omega

/-- A lesser number has no more bytes. -/
theorem size_mono (y x : Nat) (h : y ≤ x) : (Lib.uvarint y).length ≤ (Lib.uvarint x).length := by
  obtain ⟨_, a⟩ := size_bounds y
  obtain ⟨b, _⟩ := size_bounds x
  have hp := Lib.uvarint_pos x
  rcases a with a | a
  · omega
  · rcases Nat.lt_or_ge (Lib.uvarint x).length (Lib.uvarint y).length with c | c
    · exfalso
      have : 128 ^ (Lib.uvarint x).length ≤ 128 ^ ((Lib.uvarint y).length - 1) := Nat.pow_le_pow_right (by decide) (by omega)
      omega
    · exact c

theorem pow_int (k : Nat) : ((2 : Int) ^ (7 * k)) = ((128 ^ k : Nat) : Int) := by rw [← pow7]; simp

theorem shr_zero (x k : Nat) (h : x < 128 ^ k) : (x : Int) / 2 ^ (7 * k) = 0 := by
  rw [pow_int]
  exact Int.ediv_eq_zero_of_lt (by omega) (by omega)

theorem shr_pos (x k : Nat) (hk : 1 ≤ k) (h : 128 ^ (k - 1) ≤ x) : ((x : Int) / 2 ^ (7 * k - 7) == 0) = false := by
  have e : 7 * k - 7 = 7 * (k - 1) := by omega
  rw [e, pow_int]
  have hp : 0 < 128 ^ (k - 1) := Nat.pow_pos (by decide)
  have hd : 1 ≤ x / 128 ^ (k - 1) := (Nat.le_div_iff_mul_le hp).2 (by omega)
  have e2 : (x : Int) / ((128 ^ (k - 1) : Nat) : Int) = ((x / 128 ^ (k - 1) : Nat) : Int) := by simp
  rw [e2]
  simp only [beq_eq_false_iff_ne]
  omega

theorem uint_len (x k : Nat) (hx : x < 18446744073709551616) (hk : (Lib.uvarint x).length = k) (w : World) :
    Calls Try.prog 10 #[.slice none 0 0, .int .u64 x] w fun e w' => ∃ a c, e = .returned (.slice a k c) ∧ Below w.heap.size w w' :=
  (uint_any w.heap.size x hx _ [] w (Bs.nil _ _) (Nat.le_refl _) (by simp)).mono fun e w' ⟨v, h1, h2, h3⟩ => by
    obtain ⟨a, c, rfl⟩ := h2.shape
    subst hk
    exact ⟨a, c, h1, h3⟩

set_option maxHeartbeats 2000000 in
theorem sizes_walk (x y : Nat) (hx : x < 18446744073709551616) (hy : y < 18446744073709551616) (w : World) :
    Calls Try.prog 7 #[.int .u64 x, .int .u64 y] w fun e w' => e = .returned (.bool true) ∧ Below w.heap.size w w' := by
  have h1 := Lib.uvarint_pos x
  have h10 := Lib.uvarint_length64 hx
  have hS := fun w => size_any x hx w
  have hU := fun (w : World) => uint_len x _ hx rfl w
  have hm : y ≤ x → (Lib.uvarint y).length ≤ (Lib.uvarint x).length := size_mono y x
  obtain ⟨b1, b2⟩ := size_bounds x
  generalize (Lib.uvarint x).length = k at h1 h10 hS b1 b2 hU hm
  have HS := Lib.hid hS
  have HU := Lib.hid hU
  have hY := fun w => size_any y hy w
  have HY := Lib.hid hY
  have d1 := shr_zero x k b1
  have D1 := Lib.hid d1
  have hd2 : k ≤ 1 ∨ ((x : Int) / 2 ^ (7 * k - 7) == 0) = false := b2.imp id (fun h => shr_pos x k h1 h)
  have D2 := Lib.hid hd2
  have HM := Lib.hid hm
  clear hS hU hY b1 b2 d1 hd2 hm
  have WK : ∀ (_ : k < 10 ∧ (x : Int) / 2 ^ (7 * k) = 0 ∨ k = 10) (_ : k = 1 ∨ (1 < k ∧ ((x : Int) / 2 ^ (7 * k - 7) == 0) = false)), Calls Try.prog 7 #[.int .u64 x, .int .u64 y] w fun e w' => e = .returned (.bool true) ∧ Below w.heap.size w w' := by
    intro c1 c2
    by_cases hyx : y ≤ x
    · have hyl := HM.out hyx
      generalize (Lib.uvarint y).length = m at HY hyl
      clear D1 D2 HM
      rcases c1 with ⟨c1, d1⟩ | rfl
      all_goals
        rcases c2 with c2 | ⟨c2, d2⟩
        all_goals first | (exfalso; omega) | subst c2 | skip
        all_goals
          go_enter Try.func7, Try.ntmps7
          go_wp2_with (first | (go_at_call 9; refine (alive_any w).mono ?_; rintro e w1 ⟨rfl, hb1⟩) | (go_at_call 10; refine (HU.out _).mono ?_; rintro e w2 ⟨a, c, rfl, hb2⟩))
          refine (HS.out _).mono ?_
          rintro e w' ⟨rfl, rfl⟩
          go_wp2_with (first | (go_at_call 9; refine (alive_any w).mono ?_; rintro e w1 ⟨rfl, hb1⟩) | (go_at_call 10; refine (HU.out _).mono ?_; rintro e w2 ⟨a, c, rfl, hb2⟩))
          refine (HY.out _).mono ?_
          rintro e w' ⟨rfl, rfl⟩
          go_wp2
          go_ret
          refine ⟨?_, hb1.trans (hb2.mono hb1.size)⟩
          first | rfl | (simp; omega)
    · clear D1 D2 HM HY
      rcases c1 with ⟨c1, d1⟩ | rfl
      all_goals
        rcases c2 with c2 | ⟨c2, d2⟩
        all_goals first | (exfalso; omega) | subst c2 | skip
        all_goals
          go_enter Try.func7, Try.ntmps7
          go_wp2_with (first | (go_at_call 9; refine (alive_any w).mono ?_; rintro e w1 ⟨rfl, hb1⟩) | (go_at_call 10; refine (HU.out _).mono ?_; rintro e w2 ⟨a, c, rfl, hb2⟩))
          refine (HS.out _).mono ?_
          rintro e w' ⟨rfl, rfl⟩
          go_wp2_with (first | (go_at_call 9; refine (alive_any w).mono ?_; rintro e w1 ⟨rfl, hb1⟩) | (go_at_call 10; refine (HU.out _).mono ?_; rintro e w2 ⟨a, c, rfl, hb2⟩))
          go_ret
          refine ⟨?_, hb1.trans (hb2.mono hb1.size)⟩
          first | rfl | (simp; omega)
  refine WK ?_ ?_
  · rcases Nat.lt_or_ge k 10 with h | h
    · exact .inl ⟨h, D1.out⟩
    · exact .inr (by omega)
  · rcases Nat.lt_or_ge 1 k with h | h
    · exact .inr ⟨h, D2.out.resolve_left (by omega)⟩
    · exact .inl (by omega)

end Go.Proofs.Ytfmmcgbgpncoiaa
