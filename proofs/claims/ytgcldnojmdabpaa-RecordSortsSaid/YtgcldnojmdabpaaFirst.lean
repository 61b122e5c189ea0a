/-
  num.first AND num.ends: the number that a text begins with.
-/
import Derived.Test.YtgcldnojmdabpaaBytes
import Derived.Outline
import Derived.Lib.EndianBits
namespace Go.Proofs.Ytgcldnojmdabpaa
open Go.RowKit Go

set_option maxHeartbeats 400000 in
theorem ends_yes (c k : Nat) (hc : c < 128) (hk : k ≤ 9) (h9 : k = 9 → c ≤ 1) (hz : c ≠ 0 ∨ k = 0) (w : World) :
    Calls Try.prog 96 #[.int .u8 c, .int .i64 k] w fun e w' => e = .returned (.bool true) ∧ w = w' := by
  by_cases hk9 : k = 9
  · subst hk9
    have hc1 : c = 0 ∨ c = 1 := by omega
    rcases hc1 with rfl | rfl
    · simp at hz
    · go_enter Try.func96, Try.ntmps96
      go_wp2
      go_ret
      exact ⟨rfl, rfl⟩
  · have e9 : ((k : Int) == 9) = false := by simp; omega
    by_cases hc0 : c = 0
    · subst hc0
      have hk0 : k = 0 := by simpa using hz
      subst hk0
      go_enter Try.func96, Try.ntmps96
      go_wp2
      go_ret
      exact ⟨rfl, rfl⟩
    · have e0 : ((c : Int) != 0) = true := by simp; omega
      have HZ := Lib.hid hz
      clear hz h9 hk9
      go_enter Try.func96, Try.ntmps96
      go_wp2
      go_ret
      exact ⟨rfl, rfl⟩

set_option maxHeartbeats 400000 in
theorem ends_no (c k : Nat) (hc : c < 128) (hk : k ≤ 9) (h : (k = 9 ∧ 1 < c) ∨ (c = 0 ∧ k ≠ 0)) (w : World) :
    Calls Try.prog 96 #[.int .u8 c, .int .i64 k] w fun e w' => e = .returned (.bool false) ∧ w = w' := by
  by_cases hk9 : k = 9
  · subst hk9
    by_cases hc1 : 1 < c
    · clear h
      go_enter Try.func96, Try.ntmps96
      go_wp2
      go_ret
      exact ⟨rfl, rfl⟩
    · have hc0 : c = 0 := by omega
      subst hc0
      clear h
      go_enter Try.func96, Try.ntmps96
      go_wp2
      go_ret
      exact ⟨rfl, rfl⟩
  · have e9 : ((k : Int) == 9) = false := by simp; omega
    have hc0 : c = 0 := by omega
    subst hc0
    have e0 : ((k : Int) == 0) = false := by simp; omega
    clear h hk9
    go_enter Try.func96, Try.ntmps96
    go_wp2
    go_ret
    exact ⟨rfl, rfl⟩

theorem pow7 (k : Nat) : (2 : Nat) ^ (7 * k) = 128 ^ k := by rw [Nat.pow_mul]

set_option maxRecDepth 100000 in
theorem andNot128 : ∀ b : Fin 256, bits .andNot .u8 (b.val : Int) 128 = ((b.val % 128 : Nat) : Int) := by decide

/-- 'n |= uint64(c&^more) << (7 * i)'. -/
theorem or_step (acc b k : Nat) (hacc : acc < 128 ^ k) (hb : b < 256) (hfit : b % 128 * 128 ^ k < 18446744073709551616) (hk : k ≤ 9) :
    bits .or .u64 (acc : Int) (IntKind.u64.wrap (IntKind.u64.wrap (bits .andNot .u8 (b : Int) 128) * 2 ^ (7 * k))) = ((acc + b % 128 * 128 ^ k : Nat) : Int) := by
  have e0 : bits .andNot .u8 (b : Int) 128 = ((b % 128 : Nat) : Int) := andNot128 ⟨b, hb⟩
  have e1 : IntKind.u64.wrap ((b % 128 : Nat) : Int) = ((b % 128 : Nat) : Int) := by rw [IntKind.wrap_u64]; omega
  have e2 : ((b % 128 : Nat) : Int) * 2 ^ (7 * k) = ((b % 128 * 128 ^ k : Nat) : Int) := by
    rw [← pow7]; simp
  have e3 : IntKind.u64.wrap ((b % 128 * 128 ^ k : Nat) : Int) = ((b % 128 * 128 ^ k : Nat) : Int) := by
    rw [IntKind.wrap_u64]
    generalize b % 128 * 128 ^ k = x at hfit
    omega
  rw [e0, e1, e2, e3]
  have hp : 128 ^ k ≤ 128 ^ 9 := Nat.pow_le_pow_right (by decide) hk
  have p9 := M.pow9
  have ep : ((2 : Int) ^ (7 * k)) = ((128 ^ k : Nat) : Int) := by rw [← pow7]; simp
  have hm : b % 128 * 128 ^ k % 128 ^ k = 0 := Nat.mul_mod_left _ _
  have g1 : (acc : Int) < 2 ^ (7 * k) := by rw [ep]; omega
  have g2 : ((b % 128 * 128 ^ k : Nat) : Int) % 2 ^ (7 * k) = 0 := by rw [ep]; omega
  have g3 : ((b % 128 * 128 ^ k : Nat) : Int) < 2 ^ 64 := by
    generalize b % 128 * 128 ^ k = x at hfit
    omega
  rw [bits_join_low .u64 64 (by decide) wraps_u64 (7 * k) _ _ (by omega) g1 (by omega) (by omega) g2 g3]
  omega

theorem byte_at (s : ByteArray) (l : List UInt8) (hs : s.data.toList = l) (k : Nat) (h : k < s.size) (h' : k < l.length) : s[k] = l[k] := by
  subst hs
  rfl

theorem low_snoc (l : List UInt8) (c : UInt8) : M.low (l ++ [c]) = M.low l + c.toNat % 128 * 128 ^ l.length := by
  rw [M.low_append, Nat.mul_comm]
  simp [M.low]

theorem take_snoc (l : List UInt8) (k : Nat) (h : k < l.length) : l.take (k + 1) = l.take k ++ [l[k]] := by
  rw [List.take_succ_eq_append_getElem h]

/-- A round that goes on. -/
theorem or_next (l0 : List UInt8) (k : Nat) (hk : k < l0.length) (h9 : k ≤ 8) :
    bits .or .u64 ((M.low (l0.take k) : Nat) : Int) (IntKind.u64.wrap (IntKind.u64.wrap (bits .andNot .u8 (l0[k].toNat : Int) 128) * 2 ^ (7 * k))) = ((M.low (l0.take (k + 1)) : Nat) : Int) := by
  have hl : (l0.take k).length = k := by rw [List.length_take]; omega
  have h1 := M.low_lt (l0.take k)
  rw [hl] at h1
  rw [or_step _ _ k h1 l0[k].toNat_lt (by
    have h128 : l0[k].toNat % 128 < 128 := Nat.mod_lt _ (by decide)
    have hp : 128 ^ k ≤ 128 ^ 8 := Nat.pow_le_pow_right (by decide) h9
    have p8 : (128 : Nat) ^ 8 = 72057594037927936 := by decide
    have h2 : l0[k].toNat % 128 * 128 ^ k ≤ 127 * 128 ^ 8 := Nat.mul_le_mul (by omega) hp
    omega) (by omega), take_snoc _ _ hk, low_snoc, hl]

/-- The last round. -/
theorem or_last (l0 : List UInt8) (c : UInt8) (hn : M.IsNum l0 c) :
    bits .or .u64 ((M.low l0 : Nat) : Int) (IntKind.u64.wrap (IntKind.u64.wrap (bits .andNot .u8 (c.toNat : Int) 128) * 2 ^ (7 * l0.length))) = ((M.low (l0 ++ [c]) : Nat) : Int) := by
  have h1 := M.low_lt l0
  have h2 := hn.lt
  rw [low_snoc] at h2
  rw [or_step _ _ l0.length h1 c.toNat_lt (by omega) hn.nine, low_snoc]

set_option maxHeartbeats 1000000 in
set_option maxRecDepth 100000 in
theorem first_yes (s : ByteArray) (l0 : List UInt8) (c : UInt8) (r : List UInt8) (hs : s.data.toList = l0 ++ c :: r) (hlen : s.size ≤ 70368744177664) (hn : M.IsNum l0 c) (w : World) :
    Calls Try.prog 86 #[.string s] w fun e w' => e = .returned (.tuple #[.int .u64 (M.low (l0 ++ [c]) : Nat), .int .i64 (l0.length + 1 : Nat)]) ∧ w = w' := by
  have hsz : s.size = l0.length + (r.length + 1) := by
    have : s.data.toList.length = s.size := Array.length_toList
    rw [← this, hs]; simp
  have HS := Lib.hid hs
  have HZ := Lib.hid hsz
  have HN := Lib.hid hn
  have h9 := hn.nine
  clear hs hsz hn
  go_enter Try.func86, Try.ntmps86
  go_wp2
  go_loop [4, 5, 6] (fun vn vi _ => ∃ k : Nat, vi = .int .i64 k ∧ k ≤ l0.length ∧ vn = .int .u64 (M.low (l0.take k) : Nat)) (fun _ vi _ => l0.length + 1 - (intOf vi).toNat)
  case atStart => exact ⟨0, rfl, Nat.zero_le _, rfl⟩
  case round =>
    obtain ⟨k, rfl, hk, rfl⟩ := hrel
    have hks : k < s.size := by have := HZ.out; omega
    by_cases hlt : k < l0.length
    · go_wp2_with fail
      · exfalso
        have hb : s[k] = l0[k] := by rw [byte_at s _ HS.out k hks (by simp; omega), List.getElem_append_left hlt]
        have hc := HN.out.cont l0[k] (List.getElem_mem _)
        have h1 : ((s[k].toNat : Nat) : Int) < 128 := by assumption
        rw [hb] at h1
        omega
      · have hb : s[k] = l0[k] := by rw [byte_at s _ HS.out k hks (by simp; omega), List.getElem_append_left hlt]
        have hX := or_next l0 k hlt (by omega)
        go_round
        case rel => exact ⟨k + 1, by go_num, by omega, by rw [hb, hX]⟩
        case measure => simp [intOf]; omega
    · obtain rfl : k = l0.length := by omega
      have hb : s[l0.length] = c := by rw [byte_at s _ HS.out l0.length hks (by simp)]; simp
      have hcl := HN.out.last
      have HB := Lib.hid hb
      clear hb
      go_wp2_with fail
      · refine (ends_yes _ _ (by rw [HB.out]; omega) h9 (by rw [HB.out]; exact HN.out.one) (by rw [HB.out]; exact HN.out.short.imp id (fun h => by rw [h]; rfl)) _).mono ?_
        rintro e w' ⟨rfl, rfl⟩
        go_wp2
        go_ret2
        have hX := or_last l0 c HN.out
        rw [HB.out, hX]
        exact ⟨rfl, rfl⟩
      · exfalso
        have h1 : 128 ≤ ((s[l0.length].toNat : Nat) : Int) := by assumption
        rw [HB.out] at h1
        omega

set_option maxHeartbeats 1000000 in
set_option maxRecDepth 100000 in
theorem first_no (s : ByteArray) (t : Nat) (ht : t ≤ s.size) (hc : ∀ j (h : j < t), 128 ≤ (s[j]'(by omega)).toNat) (hlen : s.size ≤ 70368744177664)
    (hend : t = s.size ∨ 10 ≤ t ∨ (t ≤ 9 ∧ ∃ h : t < s.size, s[t].toNat < 128 ∧ ((t = 9 ∧ 1 < s[t].toNat) ∨ (s[t].toNat = 0 ∧ t ≠ 0)))) (w : World) :
    Calls Try.prog 86 #[.string s] w fun e w' => e = .returned (.tuple #[.int .u64 0, .int .i64 0]) ∧ w = w' := by
  have HC := Lib.hid hc
  have HE := Lib.hid hend
  clear hc hend
  go_enter Try.func86, Try.ntmps86
  go_wp2
  go_loop [4, 5, 6] (fun vn vi _ => ∃ (k : Nat) (x : Int), vi = .int .i64 k ∧ k ≤ t ∧ k ≤ 10 ∧ vn = .int .u64 x) (fun _ vi _ => t + 1 - (intOf vi).toNat)
  case atStart => exact ⟨0, 0, rfl, Nat.zero_le _, by omega, rfl⟩
  case round =>
    obtain ⟨k, x, rfl, hk, hk10, rfl⟩ := hrel
    by_cases h10 : k < 10
    · by_cases hlt : k < t
      · have hks : k < s.size := by omega
        go_wp2_with fail
        · exfalso
          have h1 : ((s[k].toNat : Nat) : Int) < 128 := by assumption
          have h2 := HC.out k hlt
          omega
        · go_round
          case rel => exact ⟨k + 1, _, by go_num, by omega, by omega, rfl⟩
          case measure => simp [intOf]; omega
      · obtain rfl : k = t := by omega
        by_cases hks : k < s.size
        · obtain ⟨_, hb, hw⟩ : ∃ h : k < s.size, s[k].toNat < 128 ∧ ((k = 9 ∧ 1 < s[k].toNat) ∨ (s[k].toNat = 0 ∧ k ≠ 0)) := by
            rcases HE.out with h | h | ⟨_, h⟩
            · omega
            · omega
            · exact h
          have HB := Lib.hid hb
          have HW := Lib.hid hw
          clear hb hw
          go_wp2_with fail
          · refine (ends_no _ _ HB.out (by omega) HW.out _).mono ?_
            rintro e w' ⟨rfl, rfl⟩
            go_wp2
            go_ret2
            exact ⟨rfl, rfl⟩
          · exfalso
            have h1 : 128 ≤ ((s[k].toNat : Nat) : Int) := by assumption
            have := HB.out
            omega
        · go_wp2
          go_ret2
          exact ⟨rfl, rfl⟩
    · obtain rfl : k = 10 := by omega
      by_cases hks : 10 < s.size
      · go_wp2
        go_ret2
        exact ⟨rfl, rfl⟩
      · go_wp2
        go_ret2
        exact ⟨rfl, rfl⟩

end Go.Proofs.Ytgcldnojmdabpaa
