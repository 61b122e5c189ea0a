/-
  magpielaw03.WordRunes: the walk.
-/
import Derived.Test.YtgjlbcmejanfaaaAlive
namespace Go.Proofs.Ytgjlbcmejanfaaa
open Go.RowKit Go

theorem is_one {l : List UInt8} {c : Nat} (hl : l ≠ []) (h : M.dec l = (c, l.length)) : M.is l = M.letter c := by
  unfold M.is
  rw [M.all_cons l hl, h]
  simp only [List.drop_length, M.all_nil, Bool.and_true]
  cases l with
  | nil => exact absurd rfl hl
  | cons a r => simp

def Good (c : Nat) : Prop := c < 55296 ∨ (57344 ≤ c ∧ c ≤ 1114111)

theorem dec_of {l : List UInt8} {n b0 b1 b2 b3 : Nat} (hn : l.length = n) (h0 : (l.getD 0 0).toNat = b0) (h1 : (l.getD 1 0).toNat = b1) (h2 : (l.getD 2 0).toNat = b2) (h3 : (l.getD 3 0).toNat = b3) : M.dec l = Lib.decodeN n b0 b1 b2 b3 := by
  unfold M.dec
  rw [hn, h0, h1, h2, h3]

theorem nat_byte {n : Nat} (h : n < 256) : (UInt8.ofNat n).toNat = n := by
  rw [UInt8.toNat_ofNat']
  exact Nat.mod_eq_of_lt h

theorem encode_one (c : Nat) (hg : Good c) : (Utf8.encode c).data.toList ≠ [] ∧ M.dec (Utf8.encode c).data.toList = (c, (Utf8.encode c).data.toList.length) := by
  have hv : Utf8.valid (c : Int) = true := by
    unfold Utf8.valid Good at *
    simp
    omega
  unfold Good at hg
  unfold Utf8.encode
  simp only [hv, if_true, Int.toNat_natCast]
  by_cases h1 : c < 128
  · rw [if_pos h1]
    refine ⟨by simp, ?_⟩
    rw [dec_of (l := [UInt8.ofNat c]) (n := 1) (b0 := c) (b1 := 0) (b2 := 0) (b3 := 0) rfl (nat_byte (by omega)) rfl rfl rfl]
    unfold Lib.decodeN
    rw [if_pos h1]
    rfl
  rw [if_neg h1]
  by_cases h2 : c < 2048
  · rw [if_pos h2]
    refine ⟨by simp, ?_⟩
    rw [dec_of (l := [UInt8.ofNat (192 + c / 64), UInt8.ofNat (128 + c % 64)]) (n := 2) (b0 := 192 + c / 64) (b1 := 128 + c % 64) (b2 := 0) (b3 := 0) rfl (nat_byte (by omega)) (nat_byte (by omega)) rfl rfl]
    unfold Lib.decodeN
    rw [if_neg (by omega), if_pos (by omega), if_pos (by omega)]
    exact Prod.ext (by show (192 + c / 64) % 32 * 64 + (128 + c % 64) % 64 = c; omega) rfl
  rw [if_neg h2]
  by_cases h3 : c < 65536
  · rw [if_pos h3]
    refine ⟨by simp, ?_⟩
    rw [dec_of (l := [UInt8.ofNat (224 + c / 4096), UInt8.ofNat (128 + c / 64 % 64), UInt8.ofNat (128 + c % 64)]) (n := 3) (b0 := 224 + c / 4096) (b1 := 128 + c / 64 % 64) (b2 := 128 + c % 64) (b3 := 0) rfl (nat_byte (by omega)) (nat_byte (by omega)) (nat_byte (by omega)) rfl]
    unfold Lib.decodeN
    rw [if_neg (by omega), if_neg (by omega), if_pos (by omega), if_pos (by omega)]
    exact Prod.ext (by show (224 + c / 4096) % 16 * 4096 + (128 + c / 64 % 64) % 64 * 64 + (128 + c % 64) % 64 = c; omega) rfl
  rw [if_neg h3]
  refine ⟨by simp, ?_⟩
  rw [dec_of (l := [UInt8.ofNat (240 + c / 262144), UInt8.ofNat (128 + c / 4096 % 64), UInt8.ofNat (128 + c / 64 % 64), UInt8.ofNat (128 + c % 64)]) (n := 4) (b0 := 240 + c / 262144) (b1 := 128 + c / 4096 % 64) (b2 := 128 + c / 64 % 64) (b3 := 128 + c % 64) rfl (nat_byte (by omega)) (nat_byte (by omega)) (nat_byte (by omega)) (nat_byte (by omega))]
  unfold Lib.decodeN
  rw [if_neg (by omega), if_neg (by omega), if_neg (by omega), if_pos (by omega), if_pos (by omega)]
  exact Prod.ext (by show (240 + c / 262144) % 8 * 262144 + (128 + c / 4096 % 64) % 64 * 4096 + (128 + c / 64 % 64) % 64 * 64 + (128 + c % 64) % 64 = c; omega) rfl

theorem is_encode (c : Nat) (hg : Good c) : M.is (Utf8.encode c).data.toList = letterI c := by
  rw [letterI_nat]
  exact is_one (encode_one c hg).1 (encode_one c hg).2

theorem dec_four (l : List UInt8) : (M.dec l).2 ≤ 4 := by
  unfold M.dec Lib.decodeN
  repeat' split
  all_goals (dsimp only; omega)

theorem size_le (s : ByteArray) (h : s.data.toList.length ≤ 4) : s.size ≤ 4 := by
  have e : s.data.toList.length = s.size := Array.length_toList
  omega

theorem encode_size (c : Nat) (hg : Good c) : (Utf8.encode c).size ≤ 4 := by
  have h := dec_four (Utf8.encode c).data.toList
  rw [(encode_one c hg).2] at h
  dsimp only at h
  generalize Utf8.encode (c : Int) = s at h ⊢
  exact size_le s h

set_option maxHeartbeats 2000000 in
theorem runes_walk (c : Int) (h1 : -2147483648 ≤ c) (h2 : c ≤ 2147483647) (w : World) :
    Calls Try.prog 3 #[.int .i32 c] w fun e w' => e = .returned (.bool true) ∧ Below w.heap.size w w' := by
  obtain ⟨b, hb⟩ : ∃ b, b = letterI c := ⟨_, rfl⟩
  have C6 := Lib.hid (fun W => letter_any c W)
  have C7 := Lib.hid (fun W => refLetter_any c W)
  have C8 : Hid (0 ≤ c → c ≤ 1114111 → (c < 55296 ∨ 57343 < c) → ∀ W, Calls Try.prog 8 #[.string (Utf8.encode c)] W fun e w' => e = .returned (.bool (letterI c)) ∧ Below W.heap.size W w') := Lib.hid fun h0 h1 h2 W => by
    obtain ⟨n, rfl⟩ := Int.eq_ofNat_of_zero_le h0
    have hg : Good n := by unfold Good; omega
    have h := is_any (Utf8.encode n) (Nat.le_trans (encode_size n hg) (by omega)) W
    rw [is_encode n hg] at h
    exact h
  rw [← hb] at C6 C7 C8
  have HB := Lib.hid hb
  go_enter Try.func3, Try.ntmps3
  go_wp2_with fail
  refine (alive_any w).mono ?_
  rintro e w1 ⟨rfl, hb1⟩
  have HB1 := Lib.hid hb1
  clear hb1 hb
  go_wp2_with (first | (go_at_call 6; refine (C6.out _).mono ?_; rintro e w' ⟨rfl, rfl⟩) | (go_at_call 7; refine (C7.out _).mono ?_; rintro e w' ⟨rfl, rfl⟩) | (go_at_call 8; refine (C8.out (by omega) (by omega) (by omega) _).mono ?_; rintro e w2 ⟨rfl, hb2⟩; have HB2 := Lib.hid (HB1.out.trans (hb2.mono HB1.out.size)); clear hb2))
  all_goals
    go_ret
    first | exact ⟨rfl, HB1.out⟩ | exact ⟨rfl, HB2.out⟩

end Go.Proofs.Ytgjlbcmejanfaaa
