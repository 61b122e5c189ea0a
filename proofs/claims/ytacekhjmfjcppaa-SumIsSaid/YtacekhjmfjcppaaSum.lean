/-
  WHAT THE CALLS OF PACKAGE sum DO: behind, Of, put, Seal, Open.
-/
import Derived.Test.YtacekhjmfjcppaaBytes
import Derived.Laws.BitsAllLaws
import Derived.Outline
import Derived.Lib.Strings
namespace Go.Proofs.Ytacekhjmfjcppaa
open Go.RowKit Go

theorem step_odd {m : Nat} (hm : m < 4294967296) (h : m % 2 = 1) : bits .xor .u32 ((m : Int) / 2) 3988292384 = ((M.step m : Nat) : Int) := by
  have e := u32_xor_nat (m / 2) 3988292384 (by omega) (by decide)
  unfold M.step
  rw [if_pos h]
  exact e

theorem and_one {m : Nat} (hm : m < 4294967296) : bits .and .u32 (m : Int) 1 = ((m % 2 : Nat) : Int) := by
  have := u32_and_nat m 1 hm (by decide)
  rw [Nat.and_one_is_mod] at this
  exact this

set_option maxHeartbeats 400000 in
theorem behind_to (n : Nat) (hn : n < 4294967296) (N : Nat) (hN : N = M.steps 8 n) (w : World) :
    Calls Try.prog 18 #[.int .u32 n] w fun e w' => e = .returned (.int .u32 N) ∧ w = w' := by
  have HN := Lib.hid hN
  clear hN
  go_enter Try.func18, Try.ntmps18
  go_wp2
  go_loop [0, 3, 4] (fun vn _ vi => ∃ k m : Nat, vi = .int .i64 k ∧ k ≤ 8 ∧ vn = .int .u32 m ∧ m < 4294967296 ∧ N = M.steps (8 - k) m) (fun _ _ vi => 8 - (intOf vi).toNat)
  case atStart => exact ⟨0, n, rfl, by omega, rfl, hn, HN.out⟩
  case round =>
    obtain ⟨k, m, rfl, hk, rfl, hm, hs⟩ := hrel
    have HS := Lib.hid hs
    clear hs
    by_cases hk8 : k < 8
    · have hs1 : M.steps (8 - k) m = M.steps (8 - (k + 1)) (M.step m) := by
        rw [show 8 - k = (8 - (k + 1)) + 1 by omega]
        rfl
      have H1 := Lib.hid hs1
      have H2 := Lib.hid (M.step_lt hm)
      clear hs1
      by_cases hodd : m % 2 = 1
      · have e1 : bits .and .u32 (m : Int) 1 = 1 := by rw [and_one hm, hodd]; rfl
        have H3 := Lib.hid (step_odd hm hodd)
        go_wp2
        refine ⟨⟨k + 1, M.step m, by go_num, by omega, by rw [H3.out], H2.out, by rw [HS.out, H1.out]⟩, ?_⟩
        simp [intOf]; omega
      · have e1 : bits .and .u32 (m : Int) 1 = 0 := by rw [and_one hm, show m % 2 = 0 by omega]; rfl
        have H3 : Hid (m / 2 = M.step m) := by
          show m / 2 = M.step m
          unfold M.step
          rw [if_neg hodd]
        go_wp2
        refine ⟨⟨k + 1, M.step m, by go_num, by omega, by rw [← H3.out]; rfl, H2.out, by rw [HS.out, H1.out]⟩, ?_⟩
        simp [intOf]; omega
    · obtain rfl : k = 8 := by omega
      have hN8 : N = m := HS.out
      subst hN8
      go_wp2
      go_ret
      exact ⟨rfl, rfl⟩

theorem byte_at (s : ByteArray) (l : List UInt8) (hs : s.data.toList = l) (k : Nat) (h : k < s.size) (h' : k < l.length) : s[k] = l[k] := by
  subst hs
  rfl

theorem crc_take (l : List UInt8) (k : Nat) (h : k < l.length) (n : Nat) : M.crc n (l.take (k + 1)) = M.steps 8 (M.crc n (l.take k) ^^^ l[k].toNat) := by
  rw [List.take_succ_eq_append_getElem h, M.crc_append, M.crc_cons]
  rfl

theorem not_u32 {c : Nat} (hc : c < 4294967296) : bits .xor .u32 4294967295 (c : Int) = ((4294967295 - c : Nat) : Int) := by
  have := u32_xor_nat 4294967295 c (by decide) hc
  rw [← M.flip_all hc] at this
  exact this

set_option maxHeartbeats 400000 in
/-- sum.Of. -/
theorem of_any (s : ByteArray) (hlen : s.size ≤ 70368744177664) (w : World) :
    Calls Try.prog 10 #[.string s] w fun e w' => e = .returned (.int .u32 (M.of s.data.toList : Nat)) ∧ w = w' := by
  have hsz : s.data.toList.length = s.size := (Lib.size_eq s).symm
  have HZ := Lib.hid hsz
  clear hsz
  go_enter Try.func10, Try.ntmps10
  go_wp2
  go_loop [3, 4, 7] (fun vn _ vi => ∃ k c : Nat, vi = .int .i64 k ∧ k ≤ s.size ∧ vn = .int .u32 c ∧ c < 4294967296 ∧ c = M.crc 4294967295 (s.data.toList.take k)) (fun _ _ vi => s.size - (intOf vi).toNat)
  case atStart => exact ⟨0, 4294967295, rfl, by omega, rfl, by decide, rfl⟩
  case round =>
    obtain ⟨k, c, rfl, hk, rfl, hc, hs⟩ := hrel
    have HS := Lib.hid hs
    clear hs
    by_cases hks : k < s.size
    · have hX : bits .xor .u32 (c : Int) ((s[k].toNat : Int) % 4294967296) = ((c ^^^ s[k].toNat : Nat) : Int) := by
        have hlt := s[k].toNat_lt
        rw [Int.emod_eq_of_lt (by omega) (by omega)]
        exact u32_xor_nat c s[k].toNat hc (by omega)
      have HX := Lib.hid hX
      clear hX
      obtain ⟨N, hN⟩ : ∃ N, N = M.steps 8 (c ^^^ s[k].toNat) := ⟨_, rfl⟩
      have HB := Lib.hid (behind_to (c ^^^ s[k].toNat) (M.xor_byte_lt hc _) N hN w)
      have HLT := Lib.hid (M.steps_lt 8 (M.xor_byte_lt hc s[k]))
      have hkl : k < s.data.toList.length := by rw [HZ.out]; exact hks
      have hb : s[k]'hks = s.data.toList[k]'hkl := rfl
      have HT := Lib.hid (crc_take s.data.toList k hkl 4294967295)
      have HN := Lib.hid hN
      have HE := Lib.hid hb
      clear hN hb
      go_wp2_with fail
      rw [HX.out]
      refine HB.out.mono ?_
      rintro e w' ⟨rfl, rfl⟩
      go_wp2
      refine ⟨⟨k + 1, N, by go_num, by omega, rfl, by rw [HN.out]; exact HLT.out, by rw [HT.out, HN.out, HS.out, HE.out]⟩, ?_⟩
      simp [intOf]; omega
    · obtain rfl : k = s.size := by omega
      have hX := not_u32 hc
      have HX := Lib.hid hX
      clear hX
      go_wp2
      go_ret
      refine ⟨?_, rfl⟩
      have e : s.data.toList.take s.size = s.data.toList := List.take_of_length_le (by rw [HZ.out]; omega)
      have e2 : c = M.crc 4294967295 s.data.toList := by rw [HS.out, e]
      unfold M.of
      rw [← e2]
      first | exact congrArg (fun x => Ending.returned (Value.int .u32 x)) HX.out | rw [HX.out]

theorem le_snoc (k : Nat) : ∀ n, M.le (k + 1) n = M.le k n ++ [UInt8.ofNat (n / 256 ^ k)] := by
  induction k with
  | zero => intro n; simp [M.le]
  | succ k ih =>
    intro n
    rw [M.le_succ, ih, M.le_succ, List.cons_append, Nat.div_div_eq_div_mul, Nat.pow_succ, Nat.mul_comm 256]

set_option maxHeartbeats 1000000 in
/-- sum.put. -/
theorem put_any (G : Nat → Prop) (n : Nat) (sv : Value) (l : List UInt8) (w : World) (hown : Bs G w sv l) (hG : ∀ k, w.heap.size ≤ k → G k) (hlim : l.length ≤ 70368744177664) :
    Calls Try.prog 17 #[sv, .int .u32 n] w fun e w' => ∃ v', e = .returned v' ∧ Bs G w' v' (l ++ M.le 4 n) ∧ Keep G w w' := by
  go_enter Try.func17, Try.ntmps17
  go_wp2
  go_loopw [0, 5, 6] (fun vb _ vi wr => ∃ k : Nat, vi = .int .i64 k ∧ k ≤ 4 ∧ Bs G wr vb (l ++ M.le k n) ∧ Keep G w wr)
    (fun _ _ vi _ => 4 - (intOf vi).toNat)
  case atStart => exact ⟨0, rfl, by omega, by simpa [M.le] using hown, Keep.refl _ _⟩
  case round =>
    obtain ⟨k, rfl, hk, hown1, hnx⟩ := hrel
    have hlk : (M.le k n).length = k := M.le_length k n
    have HL := Lib.hid hlk
    have HS := Lib.hid (le_snoc k n)
    have hsz := hnx.size
    clear hlk
    by_cases hk4 : k < 4
    · have hc : (n : Int) / 2 ^ (8 * k) % 256 = (((UInt8.ofNat (n / 256 ^ k)).toNat : Nat) : Int) := by
        have e : (2 : Int) ^ (8 * k) = ((256 ^ k : Nat) : Int) := by rw [Int.pow_mul]; simp
        rw [e]
        simp
      have HC := Lib.hid hc
      clear hc
      go_wp2_with (at_builtin; refine wpList_append_bs _ rfl _ _ 27 rfl rfl (hown1.alloc _) ?c1 (.slice (some ⟨wr.heap.size, 0, none⟩) 1 1) [UInt8.ofNat (n / 256 ^ k)] rfl (src_one wr _ _ ?c2) ?c3 ?_)
      case c1 => intro k hk; exact hG k (by simp at hk; omega)
      case c2 => exact HC.out
      case c3 => have := HL.out; simp; omega
      intro v' w1 hown' hbel
      have hnx1 : Keep G w w1 := (hnx.alloc _).trans hbel
      go_wp2
      go_roundw
      case rel =>
        refine ⟨k + 1, by go_num, by omega, ?_, hnx1⟩
        rw [HS.out]
        simpa using hown'
      case measure => simp [intOf]; omega
    · obtain rfl : k = 4 := by omega
      go_wp2
      go_ret
      exact ⟨u0, rfl, hown1, hnx⟩

end Go.Proofs.Ytacekhjmfjcppaa
