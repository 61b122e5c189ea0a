/-
  WORDS OF BYTES, AND NAMES: no program in it.
-/
import Derived.Lib.DecodeN
import Derived.Lib.Strings
import Derived.Test.YtjghomppmphkoaaGreatDoorRows
namespace Go.Proofs.YtjghomppmphkoaaGreatDoor.MW
open Go

/-- Is a rune a word's? -/
def letter (c : Nat) : Bool := if 128 ≤ c then c != 65533 else (decide (97 ≤ c) && decide (c ≤ 122)) || (decide (65 ≤ c) && decide (c ≤ 90)) || (decide (48 ≤ c) && decide (c ≤ 57)) || c == 95

/-- The first rune of a text, and how many bytes it has. -/
def dec (l : List UInt8) : Nat × Nat := Lib.decodeN l.length (l.getD 0 0).toNat (l.getD 1 0).toNat (l.getD 2 0).toNat (l.getD 3 0).toNat

theorem get_getD (s : ByteArray) (i : Nat) : s.get! i = s.data.toList.getD i 0 := by
  simp only [ByteArray.get!, List.getD_eq_getElem?_getD, Array.getElem?_toList]
  rw [getElem!_def]
  cases s.data[i]? <;> rfl

theorem dec_at (s : ByteArray) (i : Nat) : Utf8.decode s i = dec (s.data.toList.drop i) := by
  have e : ∀ k, s.get! (i + k) = (s.data.toList.drop i).getD k 0 := fun k => by
    rw [get_getD]
    simp [List.getD_eq_getElem?_getD]
  have e0 := e 0
  rw [Nat.add_zero] at e0
  rw [Lib.decode_at s i, e0, e 1, e 2, e 3]
  unfold dec
  rw [List.length_drop]
  rfl

theorem byte_lt (b : UInt8) : b.toNat < 256 := b.toNat_lt

theorem dec_pos (l : List UInt8) : 1 ≤ (dec l).2 := by
  unfold dec Lib.decodeN
  repeat' split
  all_goals simp

theorem dec_le (l : List UInt8) (h : l ≠ []) : (dec l).2 ≤ l.length := by
  have hp := List.length_pos_iff.2 h
  unfold dec Lib.decodeN
  repeat' split
  all_goals simp only
  all_goals omega

/-- Are all its runes words'? -/
theorem drop_lt (l : List UInt8) (h : l ≠ []) : (l.drop (dec l).2).length < l.length := by
  have := dec_pos l
  have := List.length_pos_iff.2 h
  rw [List.length_drop]
  omega

def af : Nat → List UInt8 → Bool
  | 0, _ => true
  | f + 1, l => if l = [] then true else letter (dec l).1 && af f (l.drop (dec l).2)

theorem af_fuel : ∀ (n : Nat) (l : List UInt8) (f g : Nat), l.length ≤ n → l.length ≤ f → l.length ≤ g → af f l = af g l := by
  intro n
  induction n with
  | zero =>
    intro l f g h _ _
    obtain rfl := List.length_eq_zero_iff.1 (Nat.le_zero.1 h)
    cases f <;> cases g <;> simp [af]
  | succ n ih =>
    intro l f g h hf hg
    by_cases hl : l = []
    · subst hl; cases f <;> cases g <;> simp [af]
    · have hd := drop_lt l hl
      have hp := List.length_pos_iff.2 hl
      obtain ⟨f, rfl⟩ : ∃ k, f = k + 1 := ⟨f - 1, by omega⟩
      obtain ⟨g, rfl⟩ : ∃ k, g = k + 1 := ⟨g - 1, by omega⟩
      simp only [af, if_neg hl]
      rw [ih _ f g (by omega) (by omega) (by omega)]

def all (l : List UInt8) : Bool := af l.length l
theorem all_nil : all [] = true := rfl
theorem all_cons (l : List UInt8) (hl : l ≠ []) : all l = (letter (dec l).1 && all (l.drop (dec l).2)) := by
  have hd := drop_lt l hl
  have hp := List.length_pos_iff.2 hl
  unfold all
  obtain ⟨n, hn⟩ : ∃ n, l.length = n + 1 := ⟨l.length - 1, by omega⟩
  rw [hn]
  simp only [af, if_neg hl]
  rw [af_fuel n _ _ _ (by omega) (by omega) (Nat.le_refl _)]

/-- Is all of it one word? -/
def is (l : List UInt8) : Bool := all l && !l.isEmpty

theorem dec_drop {l : List UInt8} {pos : Nat} (h : pos < l.length) : 1 ≤ (dec (l.drop pos)).2 ∧ pos + (dec (l.drop pos)).2 ≤ l.length := by
  have h1 := dec_pos (l.drop pos)
  have h2 := dec_le (l.drop pos) (by intro e; have := congrArg List.length e; simp at this; omega)
  rw [List.length_drop] at h2
  omega

/-- A byte of a name. -/
def ch (c : UInt8) : Bool := c == 95 || (decide (48 ≤ c.toNat) && decide (c.toNat ≤ 57)) || (decide (97 ≤ c.toNat) && decide (c.toNat ≤ 122)) || (decide (65 ≤ c.toNat) && decide (c.toNat ≤ 90))
def dig (c : UInt8) : Bool := decide (48 ≤ c.toNat) && decide (c.toNat ≤ 57)
def low (c : UInt8) : Bool := decide (c.toNat < 128)

theorem ch_low (c : UInt8) (h : ch c = true) : low c = true := by
  unfold ch at h
  unfold low
  have h95 : (c == 95) = true → c.toNat = 95 := fun h => by rw [eq_of_beq h]; rfl
  simp only [Bool.or_eq_true, Bool.and_eq_true, decide_eq_true_eq] at h ⊢
  rcases h with ((h | h) | h) | h
  · have := h95 h; omega
  all_goals omega

theorem letter_ch (c : UInt8) (h : c.toNat < 128) : letter c.toNat = ch c := by
  unfold letter ch
  rw [if_neg (by omega)]
  have h95 : (c == 95) = (c.toNat == 95) := by
    rw [Bool.eq_iff_iff]
    simp only [beq_iff_eq]
    exact ⟨fun h => by rw [h]; rfl, fun h => UInt8.toNat_inj.1 h⟩
  rw [h95, Bool.eq_iff_iff]
  simp
  omega

theorem dec_low (b : UInt8) (r : List UInt8) (h : b.toNat < 128) : dec (b :: r) = (b.toNat, 1) := by
  unfold dec
  rw [Lib.decodeN]
  simp [h]

/-- Of bytes below 128 alone: a word just if all are letters. -/
theorem all_low : ∀ (l : List UInt8), l.all low = true → all l = l.all ch
  | [], _ => rfl
  | b :: r, h => by
    rw [List.all_cons, Bool.and_eq_true] at h
    have hb : b.toNat < 128 := of_decide_eq_true h.1
    rw [all_cons _ (by simp), dec_low b r hb, List.all_cons, letter_ch b hb]
    rw [List.drop_succ_cons, List.drop_zero, all_low r h.2]

/-- Can it be a label's name? -/
def name (l : List UInt8) : Bool := !l.isEmpty && decide (l.length ≤ 20) && !dig (l.headD 0) && l.all ch

theorem name_of (l : List UInt8) (h : l.length ≤ 20) (hl : l.all low = true) : name l = (is l && !dig (l.headD 0)) := by
  unfold name is
  rw [all_low l hl]
  cases l.isEmpty <;> cases dig (l.headD 0) <;> cases l.all ch <;> simp [h]

theorem name_long (l : List UInt8) (h : ¬ l.length ≤ 20) : name l = false := by unfold name; simp [h]
theorem name_is (l : List UInt8) (hl : l.all low = true) (h : is l = false) : name l = false := by
  unfold is at h
  rw [all_low l hl] at h
  unfold name
  cases h1 : l.isEmpty <;> cases h2 : l.all ch <;> simp_all
theorem name_high (l : List UInt8) (hl : l.all low = false) : name l = false := by
  unfold name
  have : l.all ch = false := by
    rw [Bool.eq_false_iff]
    intro h
    rw [Bool.eq_false_iff] at hl
    refine hl (List.all_eq_true.2 fun c hc => ch_low c (List.all_eq_true.1 h c hc))
  rw [this, Bool.and_false]

end Go.Proofs.YtjghomppmphkoaaGreatDoor.MW
