/-
  PLAIN MATHEMATICS OF LAYER 1: the bytes of a number (seven bits a byte, the lowest first) and back. No program.
-/
import Derived.Lib.Varint
import Derived.Lib.VarintBits
import Derived.Lib.VarintMem
import Derived.Lib.Zigzag
namespace Go.Proofs.Ytgcldnojmdabpaa.M
open Go

/-- The number that bytes make, seven bits a byte, the lowest first. -/
def low : List UInt8 → Nat
  | [] => 0
  | c :: r => c.toNat % 128 + 128 * low r

/-- All of them say that the number goes on. -/
def Cont (l : List UInt8) : Prop := ∀ c ∈ l, 128 ≤ c.toNat

theorem low_append (l m : List UInt8) : low (l ++ m) = low l + 128 ^ l.length * low m := by
  induction l with
  | nil => simp [low]
  | cons c r ih =>
    simp only [List.cons_append, low, List.length_cons, Nat.pow_succ, ih, Nat.mul_add]
    rw [Nat.mul_comm (128 ^ r.length) 128, Nat.mul_assoc]
    omega

theorem low_lt (l : List UInt8) : low l < 128 ^ l.length := by
  induction l with
  | nil => simp [low]
  | cons c r ih =>
    simp only [low, List.length_cons, Nat.pow_succ]
    have : c.toNat % 128 < 128 := Nat.mod_lt _ (by decide)
    omega

theorem low_one (c : UInt8) (h : c.toNat < 128) : low [c] = c.toNat := by
  simp [low, Nat.mod_eq_of_lt h]

theorem pow9 : (128 : Nat) ^ 9 = 9223372036854775808 := by decide

theorem eq_u8 {a b : UInt8} (h : a.toNat = b.toNat) : a = b := UInt8.toNat_inj.1 h

theorem put_of (l0 : List UInt8) (c : UInt8) (h0 : Cont l0) (hc : c.toNat < 128) (hz : c.toNat ≠ 0 ∨ l0 = []) : Lib.uvarint (low (l0 ++ [c])) = l0 ++ [c] := by
  induction l0 with
  | nil =>
    rw [List.nil_append, low_one c hc, Lib.uvarint_small hc]
    congr 1
    apply eq_u8
    rw [Lib.toUInt8_toNat (by omega)]
  | cons d r ih =>
    have hz' : c.toNat ≠ 0 := by simpa using hz
    have hd : 128 ≤ d.toNat := h0 d (by simp)
    have hd2 : d.toNat < 256 := d.toNat_lt
    have hr : Cont r := fun x hx => h0 x (by simp [hx])
    have ih' := ih hr (.inl hz')
    have hpos : 0 < low (r ++ [c]) := by
      rw [low_append, low_one c hc]
      have : 0 < 128 ^ r.length * c.toNat := Nat.mul_pos (Nat.pow_pos (by decide)) (by omega)
      omega
    have e : low (d :: r ++ [c]) = d.toNat % 128 + 128 * low (r ++ [c]) := rfl
    rw [e, Lib.uvarint_big (by omega)]
    have e1 : (d.toNat % 128 + 128 * low (r ++ [c])) / 128 = low (r ++ [c]) := by omega
    have e2 : (d.toNat % 128 + 128 * low (r ++ [c])) % 128 + 128 = d.toNat := by omega
    rw [e1, e2, ih', List.cons_append]
    congr 1
    apply eq_u8
    rw [Lib.toUInt8_toNat hd2]

theorem of_put : ∀ (x : Nat), ∃ l0 c, Lib.uvarint x = l0 ++ [c] ∧ Cont l0 ∧ c.toNat < 128 ∧ (c.toNat ≠ 0 ∨ l0 = []) ∧ low (l0 ++ [c]) = x ∧ (l0 = [] ∨ 128 ≤ x) := by
  intro x
  induction x using Nat.strongRecOn with
  | _ x ih =>
    by_cases hx : x < 128
    · have hn : x.toUInt8.toNat = x := Lib.toUInt8_toNat (by omega)
      exact ⟨[], x.toUInt8, Lib.uvarint_small hx, (fun _ h => by cases h), by omega, .inr rfl, by rw [List.nil_append, low_one _ (by omega), hn], .inl rfl⟩
    · obtain ⟨l0, c, e, h0, hc, hz, hl, hb⟩ := ih (x / 128) (by omega)
      have hn : (x % 128 + 128).toUInt8.toNat = x % 128 + 128 := Lib.toUInt8_toNat (by omega)
      refine ⟨(x % 128 + 128).toUInt8 :: l0, c, by rw [Lib.uvarint_big (by omega), e, List.cons_append], ?_, hc, .inl ?_, ?_, .inr (by omega)⟩
      · intro d hd
        rcases List.mem_cons.1 hd with rfl | hd
        · omega
        · exact h0 d hd
      · rcases hz with hz | rfl
        · exact hz
        · rw [List.nil_append, low_one c hc] at hl
          omega
      · have e2 : low ((x % 128 + 128).toUInt8 :: l0 ++ [c]) = (x % 128 + 128).toUInt8.toNat % 128 + 128 * low (l0 ++ [c]) := rfl
        rw [e2, hl, hn]
        omega

/-- Ten bytes at most, and the tenth at most 1: just what fits 64 bits. -/
theorem fits (l0 : List UInt8) (c : UInt8) (hc : c.toNat < 128) (h9 : l0.length ≤ 9) (h1 : l0.length = 9 → c.toNat ≤ 1) : low (l0 ++ [c]) < 18446744073709551616 := by
  rcases Nat.lt_or_ge l0.length 9 with h | h
  · have a := low_lt (l0 ++ [c])
    have b : 128 ^ (l0 ++ [c]).length ≤ 128 ^ 9 := Nat.pow_le_pow_right (by decide) (by simp; omega)
    have := pow9
    omega
  · have e : l0.length = 9 := by omega
    have a := low_lt l0
    rw [low_append, low_one c hc, e, pow9]
    rw [e, pow9] at a
    have := h1 e
    omega

theorem fits_of (l0 : List UInt8) (c : UInt8) (hc : c.toNat < 128) (hz : c.toNat ≠ 0 ∨ l0 = []) (hx : low (l0 ++ [c]) < 18446744073709551616) : l0.length ≤ 9 ∧ (l0.length = 9 → c.toNat ≤ 1) := by
  rw [low_append, low_one c hc] at hx
  have p9 := pow9
  refine ⟨?_, ?_⟩
  · rcases Nat.lt_or_ge 9 l0.length with h | h
    · exfalso
      have hc1 : 1 ≤ c.toNat := by
        rcases hz with hz | rfl
        · omega
        · simp at h
      have hp : 128 ^ 10 ≤ 128 ^ l0.length := Nat.pow_le_pow_right (by decide) h
      have p10 : (128 : Nat) ^ 10 = 1180591620717411303424 := by decide
      have : 128 ^ l0.length * 1 ≤ 128 ^ l0.length * c.toNat := Nat.mul_le_mul_left _ hc1
      omega
    · exact h
  · intro e
    rw [e, p9] at hx
    omega

/-- WHAT A NUMBER'S BYTES ARE: some that go on, and one that does not. -/
structure IsNum (l0 : List UInt8) (c : UInt8) : Prop where
  cont : Cont l0
  last : c.toNat < 128
  short : c.toNat ≠ 0 ∨ l0 = []
  nine : l0.length ≤ 9
  one : l0.length = 9 → c.toNat ≤ 1

theorem IsNum.put {l0 : List UInt8} {c : UInt8} (h : IsNum l0 c) : Lib.uvarint (low (l0 ++ [c])) = l0 ++ [c] := put_of l0 c h.cont h.last h.short
theorem IsNum.lt {l0 : List UInt8} {c : UInt8} (h : IsNum l0 c) : low (l0 ++ [c]) < 18446744073709551616 := fits l0 c h.last h.nine h.one

theorem isNum_of (x : Nat) (hx : x < 18446744073709551616) : ∃ l0 c, Lib.uvarint x = l0 ++ [c] ∧ IsNum l0 c ∧ low (l0 ++ [c]) = x := by
  obtain ⟨l0, c, e, h0, hc, hz, hl, _⟩ := of_put x
  have hf := fits_of l0 c hc hz (by rw [hl]; exact hx)
  exact ⟨l0, c, e, ⟨h0, hc, hz, hf.1, hf.2⟩, hl⟩

/-- A text begins with bytes that go on; behind them it ends, or one stands that does not. -/
theorem parts (l : List UInt8) : Cont l ∨ ∃ l0 c r, l = l0 ++ c :: r ∧ Cont l0 ∧ c.toNat < 128 := by
  induction l with
  | nil => exact .inl (fun _ h => by cases h)
  | cons d t ih =>
    by_cases hd : d.toNat < 128
    · exact .inr ⟨[], d, t, rfl, (fun _ h => by cases h), hd⟩
    · rcases ih with ih | ⟨l0, c, r, rfl, h0, hc⟩
      · refine .inl fun x hx => ?_
        rcases List.mem_cons.1 hx with rfl | hx
        · omega
        · exact ih x hx
      · refine .inr ⟨d :: l0, c, r, rfl, fun x hx => ?_, hc⟩
        rcases List.mem_cons.1 hx with rfl | hx
        · omega
        · exact h0 x hx

/-- No number stands at a text's beginning. -/
def NoNum (l : List UInt8) : Prop := ∀ l0 c r, IsNum l0 c → l ≠ l0 ++ c :: r

theorem parts_unique {l0 m0 : List UInt8} {c d : UInt8} {r t : List UInt8} (h0 : Cont l0) (hc : c.toNat < 128) (k0 : Cont m0) (kd : d.toNat < 128) (e : l0 ++ c :: r = m0 ++ d :: t) : l0 = m0 ∧ c = d ∧ r = t := by
  induction l0 generalizing m0 with
  | nil =>
    cases m0 with
    | nil => simpa using e
    | cons b m =>
      simp at e
      have := k0 b (by simp)
      rw [← e.1] at this
      omega
  | cons a l ih =>
    cases m0 with
    | nil =>
      simp at e
      have := h0 a (by simp)
      rw [e.1] at this
      omega
    | cons b m =>
      simp only [List.cons_append, List.cons.injEq] at e
      obtain ⟨rfl, e⟩ := e
      have := ih (fun x hx => h0 x (by simp [hx])) (fun x hx => k0 x (by simp [hx])) e
      exact ⟨by rw [this.1], this.2⟩

/-- Either a number stands there, just one; or none, and then we know why. -/
theorem num_or (l : List UInt8) : (∃ l0 c r, l = l0 ++ c :: r ∧ IsNum l0 c) ∨ NoNum l := by
  rcases parts l with h | ⟨l0, c, r, rfl, h0, hc⟩
  · refine .inr fun l0 c r hn e => ?_
    have := h c (by rw [e]; simp)
    have := hn.last
    omega
  · by_cases hn : IsNum l0 c
    · exact .inl ⟨l0, c, r, rfl, hn⟩
    · refine .inr fun m0 d t hm e => hn ?_
      obtain ⟨rfl, rfl, rfl⟩ := parts_unique h0 hc hm.cont hm.last e
      exact hm

end Go.Proofs.Ytgcldnojmdabpaa.M
