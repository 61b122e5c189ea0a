/-
  THE MATHEMATICS OF THE SUM: with no program in it. A state of 32 bits is moved bit by bit by a linear map of which only 0 goes to 0; so a row of up to 32 bits otherwise changes the state.
-/
namespace Go.Proofs.Ytacekhjmfjcppaa.M

/-- One bit falls out. -/
def step (n : Nat) : Nat := if n % 2 = 1 then (n / 2) ^^^ 3988292384 else n / 2
/-- So many bits fall out. -/
def steps : Nat → Nat → Nat
  | 0, n => n
  | k + 1, n => steps k (step n)
/-- Bytes, one behind the other. -/
def crc : Nat → List UInt8 → Nat
  | n, [] => n
  | n, b :: r => crc (steps 8 (n ^^^ b.toNat)) r
/-- The sum. -/
def of (l : List UInt8) : Nat := 4294967295 - crc 4294967295 l
/-- The lowest k bytes of a number, the lowest first. -/
def le : Nat → Nat → List UInt8
  | 0, _ => []
  | k + 1, n => UInt8.ofNat n :: le k (n / 256)
/-- Sealed bytes. -/
def shut (l : List UInt8) : List UInt8 := l ++ le 4 (of l)

theorem crc_cons (n : Nat) (b : UInt8) (r : List UInt8) : crc n (b :: r) = crc (steps 8 (n ^^^ b.toNat)) r := rfl
theorem le_succ (k n : Nat) : le (k + 1) n = UInt8.ofNat n :: le k (n / 256) := rfl

theorem le_length (k : Nat) : ∀ n, (le k n).length = k := by
  induction k with
  | zero => intro n; rfl
  | succ k ih => intro n; simp [le, ih]

theorem shut_length (l : List UInt8) : (shut l).length = l.length + 4 := by simp [shut, le_length]

theorem xor_half (a b : Nat) : (a ^^^ b) / 2 = a / 2 ^^^ b / 2 := by
  apply Nat.eq_of_testBit_eq
  intro i
  simp [Nat.testBit_div_two]

theorem xor_odd (a b : Nat) : (a ^^^ b) % 2 = (a % 2 + b % 2) % 2 := by
  have h := Nat.testBit_xor a b 0
  simp only [Nat.testBit_zero] at h
  have ha := Nat.mod_two_eq_zero_or_one a
  have hb := Nat.mod_two_eq_zero_or_one b
  have hc := Nat.mod_two_eq_zero_or_one (a ^^^ b)
  rcases ha with ha | ha <;> rcases hb with hb | hb <;> rcases hc with hc | hc <;> simp_all

theorem step_xor (a b : Nat) : step (a ^^^ b) = step a ^^^ step b := by
  unfold step
  rw [xor_half, xor_odd]
  have ha := Nat.mod_two_eq_zero_or_one a
  have hb := Nat.mod_two_eq_zero_or_one b
  rcases ha with ha | ha <;> rcases hb with hb | hb <;> simp only [ha, hb]
  · simp
  · simp [Nat.xor_assoc]
  · rw [if_pos (by decide), if_pos (by decide), if_neg (by decide)]
    rw [Nat.xor_assoc, Nat.xor_assoc, Nat.xor_comm (b / 2)]
  · rw [if_neg (by decide), if_pos (by decide)]
    have e : a / 2 ^^^ 3988292384 ^^^ (b / 2 ^^^ 3988292384) = a / 2 ^^^ b / 2 ^^^ (3988292384 ^^^ 3988292384) := by
      rw [Nat.xor_assoc, Nat.xor_assoc]
      congr 1
      rw [← Nat.xor_assoc, Nat.xor_comm 3988292384, Nat.xor_assoc]
    rw [if_pos trivial, e, Nat.xor_self, Nat.xor_zero]

theorem steps_xor (k : Nat) : ∀ a b, steps k (a ^^^ b) = steps k a ^^^ steps k b := by
  induction k with
  | zero => intro a b; rfl
  | succ k ih => intro a b; simp only [steps]; rw [step_xor, ih]

theorem steps_zero (k : Nat) : steps k 0 = 0 := by
  induction k with
  | zero => rfl
  | succ k ih => exact ih

theorem steps_add (j k : Nat) : ∀ n, steps (j + k) n = steps k (steps j n) := by
  induction j with
  | zero => intro n; rw [Nat.zero_add]; rfl
  | succ j ih => intro n; rw [show j + 1 + k = (j + k) + 1 by omega]; simp only [steps]; exact ih _

theorem steps_succ (k n : Nat) : steps (k + 1) n = step (steps k n) := by
  rw [steps_add]; rfl

theorem step_double (n : Nat) : step (2 * n) = n := by
  unfold step
  rw [if_neg (by omega)]
  omega

theorem steps_shift (i k n : Nat) : steps (i + k) (2 ^ i * n) = steps k n := by
  induction i with
  | zero => simp
  | succ i ih =>
    rw [show i + 1 + k = (i + k) + 1 by omega]
    simp only [steps]
    rw [show 2 ^ (i + 1) * n = 2 * (2 ^ i * n) by rw [Nat.pow_succ, Nat.mul_comm (2 ^ i) 2, Nat.mul_assoc], step_double, ih]

theorem step_lt {n : Nat} (h : n < 4294967296) : step n < 4294967296 := by
  unfold step
  split
  · exact Nat.xor_lt_two_pow (n := 32) (by omega) (by decide)
  · omega

theorem steps_lt (k : Nat) : ∀ {n : Nat}, n < 4294967296 → steps k n < 4294967296 := by
  induction k with
  | zero => intro n h; exact h
  | succ k ih => intro n h; exact ih (step_lt h)

theorem step_eq_zero {n : Nat} (h : n < 4294967296) (hz : step n = 0) : n = 0 := by
  unfold step at hz
  split at hz
  · exfalso
    have e : n / 2 = 3988292384 := by
      have := congrArg (· ^^^ 3988292384) hz
      simpa [Nat.xor_assoc] using this
    omega
  · omega

theorem steps_eq_zero (k : Nat) : ∀ {n : Nat}, n < 4294967296 → steps k n = 0 → n = 0 := by
  induction k with
  | zero => intro n _ h; exact h
  | succ k ih => intro n h hz; exact step_eq_zero h (ih (step_lt h) hz)

theorem xor_byte_lt {n : Nat} (h : n < 4294967296) (b : UInt8) : n ^^^ b.toNat < 4294967296 := by
  have := b.toNat_lt
  exact Nat.xor_lt_two_pow (n := 32) h (by omega)

theorem crc_lt : ∀ (l : List UInt8) {n : Nat}, n < 4294967296 → crc n l < 4294967296
  | [], _, h => h
  | b :: r, _, h => crc_lt r (steps_lt 8 (xor_byte_lt h b))

theorem of_lt (l : List UInt8) : of l < 4294967296 := by unfold of; omega

theorem crc_append : ∀ (l m : List UInt8) (n : Nat), crc n (l ++ m) = crc (crc n l) m
  | [], _, _ => rfl
  | _ :: r, m, _ => crc_append r m _

/-- The state is linear. -/
theorem crc_xor (l : List UInt8) : ∀ (n e : Nat), crc (n ^^^ e) l = crc n l ^^^ steps (8 * l.length) e := by
  induction l with
  | nil => intro n e; exact (rfl : crc (n ^^^ e) [] = n ^^^ steps 0 e)
  | cons b r ih =>
    intro n e
    rw [List.length_cons, show 8 * (r.length + 1) = 8 + 8 * r.length by omega, steps_add 8]
    show crc (steps 8 (n ^^^ e ^^^ b.toNat)) r = crc (steps 8 (n ^^^ b.toNat)) r ^^^ steps (8 * r.length) (steps 8 e)
    rw [show n ^^^ e ^^^ b.toNat = n ^^^ b.toNat ^^^ e by rw [Nat.xor_assoc, Nat.xor_comm e, ← Nat.xor_assoc], steps_xor, ih]

theorem flip_all {n : Nat} (h : n < 4294967296) : 4294967295 - n = 4294967295 ^^^ n := by
  have e : (4294967295 ^^^ n) + n = 4294967295 := by
    have h1 : 4294967295 ^^^ n = 4294967295 - n := by
      apply Nat.eq_of_testBit_eq
      intro i
      have h2 := Nat.testBit_two_pow_sub_succ (x := n) (n := 32) h i
      rw [show 2 ^ 32 - (n + 1) = 4294967295 - n by omega] at h2
      have h3 := Nat.testBit_two_pow_sub_one 32 i
      rw [show 2 ^ 32 - 1 = 4294967295 by decide] at h3
      rw [Nat.testBit_xor, h2, h3]
      by_cases hi : i < 32
      · simp [hi]
      · have : n.testBit i = false := Nat.testBit_lt_two_pow (Nat.lt_of_lt_of_le h (Nat.pow_le_pow_right (n := 2) (by decide) (Nat.le_of_not_lt hi)))
        simp [hi, this]
    omega
  omega

/-- A number's bytes are its bits in a row. -/
theorem crc_le (k : Nat) : ∀ (n m : Nat), m < 256 ^ k → crc n (le k m) = steps (8 * k) (n ^^^ m) := by
  induction k with
  | zero =>
    intro n m h
    have : m = 0 := by simpa using h
    subst this
    rw [Nat.xor_zero]
    exact (rfl : crc n [] = steps 0 n)
  | succ k ih =>
    intro n m h
    have hm : m / 256 < 256 ^ k := by
      rw [Nat.pow_succ] at h
      exact Nat.div_lt_of_lt_mul (by rw [Nat.mul_comm]; exact h)
    rw [le_succ, crc_cons, ih _ _ hm, show 8 * (k + 1) = 8 + 8 * k by omega, steps_add 8]
    congr 1
    have e1 : (UInt8.ofNat m).toNat = m % 256 := by simp
    have e2 : m = m % 256 ^^^ (2 ^ 8 * (m / 256)) := by
      apply Nat.eq_of_testBit_eq
      intro i
      rw [Nat.testBit_xor, show 256 = 2 ^ 8 by decide, Nat.testBit_mod_two_pow, Nat.testBit_two_pow_mul, Nat.testBit_div_two_pow]
      by_cases hi : i < 8
      · simp [hi, Nat.not_le.2 hi]
      · simp [hi, Nat.le_of_not_lt hi]
    have e3 := steps_shift 8 0 (m / 256)
    simp only [Nat.add_zero] at e3
    rw [e1]
    conv => rhs; rw [e2, ← Nat.xor_assoc, steps_xor, e3]
    rfl

/-- What all sealed bytes lead to. -/
theorem crc_shut (l : List UInt8) : crc 4294967295 (shut l) = steps 32 4294967295 := by
  have h := crc_lt l (n := 4294967295) (by decide)
  unfold shut of
  rw [crc_append, crc_le 4 _ _ (Nat.lt_of_le_of_lt (Nat.sub_le _ _) (by decide)), flip_all h, Nat.xor_comm 4294967295, ← Nat.xor_assoc, Nat.xor_self, Nat.zero_xor]

/-- One byte otherwise. -/
theorem crc_set : ∀ (l : List UInt8) (j : Nat) (h : j < l.length) (b : UInt8) (e n : Nat), b.toNat = l[j].toNat ^^^ e → crc n (l.set j b) = crc n l ^^^ steps (8 * (l.length - j)) e
  | c :: r, 0, _, b, e, n, hb => by
    rw [List.set_cons_zero, crc_cons, crc_cons, List.length_cons, Nat.sub_zero, hb, List.getElem_cons_zero, ← Nat.xor_assoc, steps_xor, crc_xor, show 8 * (r.length + 1) = 8 + 8 * r.length by omega, steps_add 8]
  | c :: r, j + 1, h, b, e, n, hb => by
    rw [List.set_cons_succ, crc_cons, crc_cons, List.length_cons, crc_set r j (by simpa using h) b e _ (by simpa using hb), Nat.add_sub_add_right]

/-- One bit more. -/
theorem mod_next (x k : Nat) : x % 2 ^ (k + 1) = if x / 2 ^ k % 2 = 1 then x % 2 ^ k ^^^ 2 ^ k else x % 2 ^ k := by
  apply Nat.eq_of_testBit_eq
  intro i
  have hx : x.testBit k = decide (x / 2 ^ k % 2 = 1) := by
    rw [Nat.testBit_eq_decide_div_mod_eq]
  split
  · rename_i h
    rw [decide_eq_true h] at hx
    rw [Nat.testBit_mod_two_pow, Nat.testBit_xor, Nat.testBit_mod_two_pow, Nat.testBit_two_pow]
    rcases Nat.lt_trichotomy i k with hi | hi | hi
    · have : i < k + 1 := by omega
      have h2 : ¬ k = i := by omega
      simp [hi, this, h2]
    · subst hi; simp [hx]
    · have h1 : ¬ i < k + 1 := by omega
      have h2 : ¬ i < k := by omega
      have h3 : ¬ k = i := by omega
      simp [h1, h2, h3]
  · rename_i h
    rw [decide_eq_false h] at hx
    rw [Nat.testBit_mod_two_pow, Nat.testBit_mod_two_pow]
    rcases Nat.lt_trichotomy i k with hi | hi | hi
    · have : i < k + 1 := by omega
      simp [hi, this]
    · subst hi; simp [hx]
    · have h1 : ¬ i < k + 1 := by omega
      have h2 : ¬ i < k := by omega
      simp [h1, h2]

/-- A round of the turning. -/
theorem turn_next (l : List UInt8) (N p at_ k x : Nat) (hN : l.length = N) (hp : p = at_ + k) (h8 : p < 8 * N) (hk : k < 32) (h : crc 4294967295 l = steps 32 4294967295 ^^^ steps (8 * N - at_) (x % 2 ^ k)) (hx : x / 2 ^ k % 2 = 1) (hj : p / 8 < l.length) (b : UInt8) (hb : b.toNat = l[p / 8].toNat ^^^ 2 ^ (p % 8)) :
    crc 4294967295 (l.set (p / 8) b) = steps 32 4294967295 ^^^ steps (8 * N - at_) (x % 2 ^ (k + 1)) := by
  rw [crc_set l (p / 8) hj b (2 ^ (p % 8)) _ hb, h, mod_next, if_pos hx, steps_xor, Nat.xor_assoc, hN]
  congr 2
  have e1 := steps_shift (p % 8) (8 * N - p) 1
  have e2 := steps_shift k (8 * N - p) 1
  rw [Nat.mul_one] at e1 e2
  rw [show p % 8 + (8 * N - p) = 8 * (N - p / 8) by omega] at e1
  rw [show k + (8 * N - p) = 8 * N - at_ by omega] at e2
  rw [e1, e2]

/-- A round that turns nothing. -/
theorem turn_none (x k : Nat) (hx : ¬ x / 2 ^ k % 2 = 1) : x % 2 ^ (k + 1) = x % 2 ^ k := by rw [mod_next, if_neg hx]

/-- WITH UP TO 32 BITS IN A ROW OTHERWISE what was sealed isn't. -/
theorem not_shut (l s : List UInt8) (m x : Nat) (hx : x < 4294967296) (h0 : x ≠ 0) (h : crc 4294967295 l = steps 32 4294967295 ^^^ steps m (x % 2 ^ 32)) : l ≠ shut s := by
  intro e
  rw [e, crc_shut, Nat.mod_eq_of_lt (by simpa using hx)] at h
  have h1 : steps m x = 0 := by
    have := congrArg (steps 32 4294967295 ^^^ ·) h
    simp only [← Nat.xor_assoc, Nat.xor_self, Nat.zero_xor] at this
    exact this.symm
  exact h0 (steps_eq_zero m hx h1)

/-- The two ways to take a byte in. -/
theorem shut_inj {a b : List UInt8} (h : shut a = shut b) : a = b := by
  have hl : a.length = b.length := by
    have := congrArg List.length h
    rw [shut_length, shut_length] at this
    omega
  exact List.append_inj_left h hl

end Go.Proofs.Ytacekhjmfjcppaa.M
