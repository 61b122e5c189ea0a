/-
  THE WORDS OF A TEXT: plain mathematics over lists of bytes; no program in it.
-/
import Derived.Lib.DecodeN
namespace Go.Proofs.YtgjlbcmejanfaaaDoor.M
open Go

/-- Is a rune a word's? -/
def letter (c : Nat) : Bool := if 128 ≤ c then c != 65533 else (decide (97 ≤ c) && decide (c ≤ 122)) || (decide (65 ≤ c) && decide (c ≤ 90)) || (decide (48 ≤ c) && decide (c ≤ 57)) || c == 95

/-- The first rune of a text, and how many bytes it has. -/
def dec (l : List UInt8) : Nat × Nat := Lib.decodeN l.length (l.getD 0 0).toNat (l.getD 1 0).toNat (l.getD 2 0).toNat (l.getD 3 0).toNat

theorem get_getD (s : ByteArray) (i : Nat) : s.get! i = s.data.toList.getD i 0 := by
  simp only [ByteArray.get!, List.getD_eq_getElem?_getD, Array.getElem?_toList]
  rw [getElem!_def]
  cases s.data[i]? <;> rfl

theorem dec_at (s : ByteArray) (i : Nat) : Utf8.decode s i = dec (s.data.toList.drop i) := by
  have e : ∀ k, s.get! (i + k) = (s.data.toList.drop i).getD k 0 := fun k => by
    rw [get_getD]
    simp [List.getD_eq_getElem?_getD]
  have e0 := e 0
  rw [Nat.add_zero] at e0
  rw [Lib.decode_at s i, e0, e 1, e 2, e 3]
  unfold dec
  rw [List.length_drop]
  rfl

theorem byte_lt (b : UInt8) : b.toNat < 256 := b.toNat_lt

theorem dec_pos (l : List UInt8) : 1 ≤ (dec l).2 := by
  unfold dec Lib.decodeN
  repeat' split
  all_goals simp

theorem dec_le (l : List UInt8) (h : l ≠ []) : (dec l).2 ≤ l.length := by
  have hp := List.length_pos_iff.2 h
  unfold dec Lib.decodeN
  repeat' split
  all_goals simp only
  all_goals omega

theorem dec_blank (p q : List UInt8) (h : p ≠ []) : dec (p ++ 32 :: q) = dec p := by
  match p, h with
  | [a], _ => simp [dec, Lib.decodeN]
  | [a, b], _ => simp [dec, Lib.decodeN]
  | [a, b, c], _ => simp [dec, Lib.decodeN]
  | a :: b :: c :: d :: r, _ => simp [dec, Lib.decodeN]

theorem dec_32 (q : List UInt8) : dec (32 :: q) = (32, 1) := by simp [dec, Lib.decodeN]

theorem letter_32 : letter 32 = false := by decide
theorem letter_bad : letter 65533 = false := by decide

/-- A word's rune stands for itself, whatever is behind it. -/
theorem dec_take (l : List UInt8) (hl : l ≠ []) (h : letter (dec l).1 = true) (q : List UInt8) : dec (l.take (dec l).2 ++ q) = dec l := by
  have hne : (dec l).1 ≠ 65533 := fun e => by rw [e, letter_bad] at h; cases h
  clear h
  revert hne
  have key : ∀ n b0 b1 b2 b3, (Lib.decodeN n b0 b1 b2 b3).1 ≠ 65533 →
      (b0 < 128 ∧ Lib.decodeN n b0 b1 b2 b3 = (b0, 1)) ∨ (∃ c, 1 < n ∧ Lib.decodeN n b0 b1 b2 b3 = (c, 2) ∧ ∀ m x y, 1 < m → Lib.decodeN m b0 b1 x y = (c, 2)) ∨
      (∃ c, 2 < n ∧ Lib.decodeN n b0 b1 b2 b3 = (c, 3) ∧ ∀ m y, 2 < m → Lib.decodeN m b0 b1 b2 y = (c, 3)) ∨ (∃ c, 3 < n ∧ Lib.decodeN n b0 b1 b2 b3 = (c, 4) ∧ ∀ m, 3 < m → Lib.decodeN m b0 b1 b2 b3 = (c, 4)) := by
    intro n b0 b1 b2 b3
    unfold Lib.decodeN
    by_cases h0 : b0 < 128
    · intro _; exact .inl ⟨h0, by rw [if_pos h0]⟩
    rw [if_neg h0]
    by_cases h1 : b0 / 32 = 6 ∧ (1 < n ∧ b1 / 64 = 2)
    · rw [if_pos h1]
      split
      · rename_i hc
        intro _
        exact .inr (.inl ⟨_, h1.2.1, rfl, fun m x y hm => by rw [if_pos ⟨h1.1, hm, h1.2.2⟩]⟩)
      · intro h; exact absurd rfl h
    rw [if_neg h1]
    by_cases h2 : b0 / 16 = 14 ∧ (1 < n ∧ b1 / 64 = 2) ∧ (2 < n ∧ b2 / 64 = 2)
    · rw [if_pos h2]
      split
      · rename_i hc
        intro _
        refine .inr (.inr (.inl ⟨_, h2.2.2.1, rfl, fun m y hm => ?_⟩))
        rw [if_neg (by omega), if_pos ⟨h2.1, ⟨by omega, h2.2.1.2⟩, hm, h2.2.2.2⟩]
      · intro h; exact absurd rfl h
    rw [if_neg h2]
    by_cases h3 : b0 / 8 = 30 ∧ (1 < n ∧ b1 / 64 = 2) ∧ (2 < n ∧ b2 / 64 = 2) ∧ (3 < n ∧ b3 / 64 = 2)
    · rw [if_pos h3]
      split
      · rename_i hc
        intro _
        refine .inr (.inr (.inr ⟨_, h3.2.2.2.1, rfl, fun m hm => ?_⟩))
        rw [if_neg (by omega), if_neg (by omega), if_pos ⟨h3.1, ⟨by omega, h3.2.1.2⟩, ⟨by omega, h3.2.2.1.2⟩, hm, h3.2.2.2.2⟩]
      · intro h; exact absurd rfl h
    rw [if_neg h3]
    intro h; exact absurd rfl h
  intro hne
  rcases key _ _ _ _ _ hne with ⟨h0, e⟩ | ⟨c, hn, e, hr⟩ | ⟨c, hn, e, hr⟩ | ⟨c, hn, e, hr⟩
  · have e' : dec l = _ := e
    match l, hl with
    | a :: r, _ =>
      rw [e']
      have h0' : a.toNat < 128 := by simpa using h0
      simp [dec, Lib.decodeN, h0']
  · have e' : dec l = _ := e
    match l, hn with
    | a :: b :: r, _ => rw [e']; exact hr _ _ _ (by simp)
  · have e' : dec l = _ := e
    match l, hn with
    | a :: b :: c :: r, _ => rw [e']; exact hr _ _ (by simp)
  · have e' : dec l = _ := e
    match l, hn with
    | a :: b :: c :: d :: r, _ => rw [e']; exact hr _ (by simp)

/-! ### Words -/

def fin (cur : List UInt8) : List (List UInt8) := if cur = [] then [] else [cur]

/-- The words of l, behind the letters cur. -/
def wf : Nat → List UInt8 → List UInt8 → List (List UInt8)
  | 0, _, cur => fin cur
  | f + 1, l, cur => if l = [] then fin cur else if letter (dec l).1 = true then wf f (l.drop (dec l).2) (cur ++ l.take (dec l).2) else fin cur ++ wf f (l.drop (dec l).2) []

theorem drop_lt (l : List UInt8) (h : l ≠ []) : (l.drop (dec l).2).length < l.length := by
  have := dec_pos l
  have := List.length_pos_iff.2 h
  rw [List.length_drop]
  omega

theorem wf_fuel : ∀ (n : Nat) (l cur : List UInt8) (f g : Nat), l.length ≤ n → l.length ≤ f → l.length ≤ g → wf f l cur = wf g l cur := by
  intro n
  induction n with
  | zero =>
    intro l cur f g h _ _
    obtain rfl := List.length_eq_zero_iff.1 (Nat.le_zero.1 h)
    cases f <;> cases g <;> simp [wf]
  | succ n ih =>
    intro l cur f g h hf hg
    by_cases hl : l = []
    · subst hl; cases f <;> cases g <;> simp [wf]
    · have hd := drop_lt l hl
      have hp := List.length_pos_iff.2 hl
      obtain ⟨f, rfl⟩ : ∃ k, f = k + 1 := ⟨f - 1, by omega⟩
      obtain ⟨g, rfl⟩ : ∃ k, g = k + 1 := ⟨g - 1, by omega⟩
      simp only [wf, if_neg hl]
      rw [ih _ _ f g (by omega) (by omega) (by omega), ih _ [] f g (by omega) (by omega) (by omega)]

/-- The words of l, behind the letters cur. -/
def W (l cur : List UInt8) : List (List UInt8) := wf l.length l cur
def words (l : List UInt8) : List (List UInt8) := W l []

theorem W_nil (cur : List UInt8) : W [] cur = fin cur := rfl
theorem W_letter (l cur : List UInt8) (hl : l ≠ []) (h : letter (dec l).1 = true) : W l cur = W (l.drop (dec l).2) (cur ++ l.take (dec l).2) := by
  have hd := drop_lt l hl
  have hp := List.length_pos_iff.2 hl
  unfold W
  obtain ⟨n, hn⟩ : ∃ n, l.length = n + 1 := ⟨l.length - 1, by omega⟩
  rw [hn]
  simp only [wf, if_neg hl, if_pos h]
  exact wf_fuel n _ _ _ _ (by omega) (by omega) (Nat.le_refl _)
theorem W_other (l cur : List UInt8) (hl : l ≠ []) (h : letter (dec l).1 = false) : W l cur = fin cur ++ W (l.drop (dec l).2) [] := by
  have hd := drop_lt l hl
  have hp := List.length_pos_iff.2 hl
  unfold W
  obtain ⟨n, hn⟩ : ∃ n, l.length = n + 1 := ⟨l.length - 1, by omega⟩
  rw [hn]
  simp only [wf, if_neg hl, h, Bool.false_eq_true, if_false]
  rw [wf_fuel n _ [] _ _ (by omega) (by omega) (Nat.le_refl _)]

theorem fin_nil : fin [] = [] := rfl
theorem fin_cons {l : List UInt8} (h : l ≠ []) : fin l = [l] := if_neg h

/-- Texts parted by a blank. -/
theorem W_blank (b : List UInt8) : ∀ (n : Nat) (a cur : List UInt8), a.length ≤ n → W (a ++ 32 :: b) cur = W a cur ++ words b := by
  intro n
  induction n with
  | zero =>
    intro a cur h
    obtain rfl := List.length_eq_zero_iff.1 (Nat.le_zero.1 h)
    rw [List.nil_append, W_other _ _ (by simp) (by rw [dec_32]; exact letter_32), dec_32, W_nil]
    rfl
  | succ n ih =>
    intro a cur h
    by_cases ha : a = []
    · subst ha; exact ih [] cur (by simp)
    · have hd := drop_lt a ha
      have hle := dec_le a ha
      have e := dec_blank a b ha
      have h1 : (a ++ 32 :: b).drop (dec a).2 = a.drop (dec a).2 ++ 32 :: b := List.drop_append_of_le_length hle
      have h2 : (a ++ 32 :: b).take (dec a).2 = a.take (dec a).2 := List.take_append_of_le_length hle
      by_cases hlt : letter (dec a).1 = true
      · rw [W_letter _ _ (by simp) (by rw [e]; exact hlt), W_letter _ _ ha hlt, e, h1, h2, ih _ _ (by omega)]
      · have hlt := Bool.eq_false_iff.2 hlt
        rw [W_other _ _ (by simp) (by rw [e]; exact hlt), W_other _ _ ha hlt, e, h1, ih _ _ (by omega), List.append_assoc]

theorem words_blank (a b : List UInt8) : words (a ++ 32 :: b) = words a ++ words b := W_blank b a.length a [] (Nat.le_refl _)

/-- A text of words' runes alone. -/
inductive Run : List UInt8 → Prop
  | nil : Run []
  | snoc {x t : List UInt8} : Run x → t ≠ [] → letter (dec t).1 = true → (∀ q, dec (t ++ q) = ((dec t).1, t.length)) → Run (x ++ t)

theorem Run.step {x l : List UInt8} (h : Run x) (hl : l ≠ []) (hlt : letter (dec l).1 = true) : Run (x ++ l.take (dec l).2) := by
  have hle := dec_le l hl
  have hp := dec_pos l
  have hlen : (l.take (dec l).2).length = (dec l).2 := by rw [List.length_take]; omega
  have h0 := dec_take l hl hlt []
  rw [List.append_nil] at h0
  refine .snoc h (fun e => by rw [e] at hlen; simp at hlen; omega) (by rw [h0]; exact hlt) (fun q => ?_)
  rw [h0, hlen]
  exact dec_take l hl hlt q

theorem W_run {x : List UInt8} (h : Run x) : ∀ (q cur : List UInt8), W (x ++ q) cur = W q (cur ++ x) := by
  induction h with
  | nil => intro q cur; rw [List.nil_append, List.append_nil]
  | @snoc x t hx ht hlt hd ih =>
    intro q cur
    rw [List.append_assoc, ih, W_letter _ _ (by simp [ht]) (by rw [hd]; exact hlt), hd]
    simp [List.append_assoc]

theorem Run.words {x : List UInt8} (h : Run x) (hx : x ≠ []) : words x = [x] := by
  have := W_run h [] []
  rw [List.append_nil, List.nil_append, W_nil, fin_cons hx] at this
  exact this

theorem W_words : ∀ (n : Nat) (l cur : List UInt8), l.length ≤ n → Run cur → ∀ x ∈ W l cur, Run x ∧ x ≠ [] := by
  intro n
  induction n with
  | zero =>
    intro l cur h hc x hx
    obtain rfl := List.length_eq_zero_iff.1 (Nat.le_zero.1 h)
    rw [W_nil] at hx
    unfold fin at hx
    split at hx
    · cases hx
    · obtain rfl := List.mem_singleton.1 hx; exact ⟨hc, by assumption⟩
  | succ n ih =>
    intro l cur h hc x hx
    by_cases hl : l = []
    · subst hl; exact ih [] cur (by simp) hc x hx
    · have hd := drop_lt l hl
      by_cases hlt : letter (dec l).1 = true
      · rw [W_letter _ _ hl hlt] at hx
        exact ih _ _ (by omega) (hc.step hl hlt) x hx
      · rw [W_other _ _ hl (Bool.eq_false_iff.2 hlt)] at hx
        rcases List.mem_append.1 hx with hx | hx
        · unfold fin at hx
          split at hx
          · cases hx
          · obtain rfl := List.mem_singleton.1 hx; exact ⟨hc, by assumption⟩
        · exact ih _ _ (by omega) .nil x hx

theorem words_run {l x : List UInt8} (h : x ∈ words l) : Run x ∧ x ≠ [] := W_words l.length l [] (Nat.le_refl _) .nil x h
theorem words_word {l x : List UInt8} (h : x ∈ words l) : words x = [x] := (words_run h).1.words (words_run h).2

/-- Are all its runes words'? -/
def af : Nat → List UInt8 → Bool
  | 0, _ => true
  | f + 1, l => if l = [] then true else letter (dec l).1 && af f (l.drop (dec l).2)

theorem af_fuel : ∀ (n : Nat) (l : List UInt8) (f g : Nat), l.length ≤ n → l.length ≤ f → l.length ≤ g → af f l = af g l := by
  intro n
  induction n with
  | zero =>
    intro l f g h _ _
    obtain rfl := List.length_eq_zero_iff.1 (Nat.le_zero.1 h)
    cases f <;> cases g <;> simp [af]
  | succ n ih =>
    intro l f g h hf hg
    by_cases hl : l = []
    · subst hl; cases f <;> cases g <;> simp [af]
    · have hd := drop_lt l hl
      have hp := List.length_pos_iff.2 hl
      obtain ⟨f, rfl⟩ : ∃ k, f = k + 1 := ⟨f - 1, by omega⟩
      obtain ⟨g, rfl⟩ : ∃ k, g = k + 1 := ⟨g - 1, by omega⟩
      simp only [af, if_neg hl]
      rw [ih _ f g (by omega) (by omega) (by omega)]

def all (l : List UInt8) : Bool := af l.length l
theorem all_nil : all [] = true := rfl
theorem all_cons (l : List UInt8) (hl : l ≠ []) : all l = (letter (dec l).1 && all (l.drop (dec l).2)) := by
  have hd := drop_lt l hl
  have hp := List.length_pos_iff.2 hl
  unfold all
  obtain ⟨n, hn⟩ : ∃ n, l.length = n + 1 := ⟨l.length - 1, by omega⟩
  rw [hn]
  simp only [af, if_neg hl]
  rw [af_fuel n _ _ _ (by omega) (by omega) (Nat.le_refl _)]

/-- Is all of it one word? -/
def is (l : List UInt8) : Bool := all l && !l.isEmpty

theorem all_run {x : List UInt8} (h : Run x) : ∀ q, all (x ++ q) = all q := by
  induction h with
  | nil => intro q; rfl
  | @snoc x t hx ht hlt hd ih =>
    intro q
    rw [List.append_assoc, ih, all_cons _ (by simp [ht]), hd, hlt]
    simp

theorem run_of_all : ∀ (n : Nat) (l cur : List UInt8), l.length ≤ n → Run cur → all l = true → Run (cur ++ l) := by
  intro n
  induction n with
  | zero =>
    intro l cur h hc _
    obtain rfl := List.length_eq_zero_iff.1 (Nat.le_zero.1 h)
    rwa [List.append_nil]
  | succ n ih =>
    intro l cur h hc ha
    by_cases hl : l = []
    · subst hl; rwa [List.append_nil]
    · have hd := drop_lt l hl
      rw [all_cons l hl, Bool.and_eq_true] at ha
      have := ih (l.drop (dec l).2) _ (by omega) (hc.step hl ha.1) ha.2
      rwa [List.append_assoc, List.take_append_drop] at this

theorem all_iff (l : List UInt8) : all l = true ↔ Run l := by
  constructor
  · intro h; exact run_of_all l.length l [] (Nat.le_refl _) .nil h
  · intro h; have := all_run h []; rw [List.append_nil] at this; rw [this]; rfl

theorem is_iff (l : List UInt8) : is l = true ↔ words l = [l] := by
  unfold is
  rw [Bool.and_eq_true, all_iff]
  constructor
  · rintro ⟨h, hl⟩
    exact h.words (by rintro rfl; cases hl)
  · intro h
    have hm : l ∈ words l := by rw [h]; simp
    obtain ⟨h1, h2⟩ := words_run hm
    exact ⟨h1, by cases l with | nil => exact absurd rfl h2 | cons => rfl⟩

theorem word_is {l x : List UInt8} (h : x ∈ words l) : is x = true := (is_iff x).2 (words_word h)

/-! ### Places -/

def finp : Option Nat → Nat → List (Nat × Nat)
  | none, _ => []
  | some k, to => [(k, to)]

/-- Where the words begin and end, from 'pos' on, one having begun at 'fr'. -/
def pf : Nat → List UInt8 → Nat → Option Nat → List (Nat × Nat)
  | 0, l, _, fr => finp fr l.length
  | f + 1, l, pos, fr => if pos < l.length then
      (if letter (dec (l.drop pos)).1 = true then pf f l (pos + (dec (l.drop pos)).2) (some (fr.getD pos)) else finp fr pos ++ pf f l (pos + (dec (l.drop pos)).2) none)
    else finp fr l.length

theorem dec_drop {l : List UInt8} {pos : Nat} (h : pos < l.length) : 1 ≤ (dec (l.drop pos)).2 ∧ pos + (dec (l.drop pos)).2 ≤ l.length := by
  have h1 := dec_pos (l.drop pos)
  have h2 := dec_le (l.drop pos) (by intro e; have := congrArg List.length e; simp at this; omega)
  rw [List.length_drop] at h2
  omega

theorem pf_fuel : ∀ (n : Nat) (l : List UInt8) (pos : Nat) (fr : Option Nat) (f g : Nat), l.length ≤ pos + n → l.length ≤ pos + f → l.length ≤ pos + g → pf f l pos fr = pf g l pos fr := by
  intro n
  induction n with
  | zero =>
    intro l pos fr f g h _ _
    have : ¬ pos < l.length := by omega
    cases f <;> cases g <;> simp [pf, this]
  | succ n ih =>
    intro l pos fr f g h hf hg
    by_cases hl : pos < l.length
    · have hd := dec_drop hl
      obtain ⟨f, rfl⟩ : ∃ k, f = k + 1 := ⟨f - 1, by omega⟩
      obtain ⟨g, rfl⟩ : ∃ k, g = k + 1 := ⟨g - 1, by omega⟩
      simp only [pf, if_pos hl]
      rw [ih l _ _ f g (by omega) (by omega) (by omega), ih l _ none f g (by omega) (by omega) (by omega)]
    · cases f <;> cases g <;> simp [pf, hl]

def P (l : List UInt8) (pos : Nat) (fr : Option Nat) : List (Nat × Nat) := pf l.length l pos fr
def places (l : List UInt8) : List (Nat × Nat) := P l 0 none

theorem P_end {l : List UInt8} {pos : Nat} (fr : Option Nat) (h : ¬ pos < l.length) : P l pos fr = finp fr l.length := by
  unfold P
  rw [pf_fuel l.length l pos fr l.length 0 (by omega) (by omega) (by omega)]
  rfl
theorem P_letter {l : List UInt8} {pos : Nat} (fr : Option Nat) (h : pos < l.length) (hlt : letter (dec (l.drop pos)).1 = true) : P l pos fr = P l (pos + (dec (l.drop pos)).2) (some (fr.getD pos)) := by
  have hd := dec_drop h
  unfold P
  rw [pf_fuel l.length l pos fr l.length (l.length + 1) (by omega) (by omega) (by omega)]
  simp only [pf, if_pos h, if_pos hlt]
theorem P_other {l : List UInt8} {pos : Nat} (fr : Option Nat) (h : pos < l.length) (hlt : letter (dec (l.drop pos)).1 = false) : P l pos fr = finp fr pos ++ P l (pos + (dec (l.drop pos)).2) none := by
  have hd := dec_drop h
  unfold P
  rw [pf_fuel l.length l pos fr l.length (l.length + 1) (by omega) (by omega) (by omega)]
  simp only [pf, if_pos h, hlt, Bool.false_eq_true, if_false]

/-- From there to there. -/
def piece (l : List UInt8) (p : Nat × Nat) : List UInt8 := (l.take p.2).drop p.1

def soFar (l : List UInt8) (pos : Nat) : Option Nat → List UInt8
  | none => []
  | some k => piece l (k, pos)

theorem finp_fin (l : List UInt8) (pos : Nat) (hp : pos ≤ l.length) (fr : Option Nat) (hk : ∀ k, fr = some k → k < pos) : (finp fr pos).map (piece l) = fin (soFar l pos fr) := by
  cases fr with
  | none => rfl
  | some k =>
    have := hk k rfl
    have hne : piece l (k, pos) ≠ [] := fun e => by
      have := congrArg List.length e
      simp [piece] at this
      omega
    simp [finp, soFar, fin, hne]

theorem P_words : ∀ (n : Nat) (l : List UInt8) (pos : Nat) (fr : Option Nat), l.length ≤ pos + n → pos ≤ l.length → (∀ k, fr = some k → k < pos) → (P l pos fr).map (piece l) = W (l.drop pos) (soFar l pos fr) := by
  intro n
  induction n with
  | zero =>
    intro l pos fr h hp hk
    obtain rfl : pos = l.length := by omega
    rw [P_end fr (by omega), List.drop_length, W_nil]
    exact finp_fin l l.length (Nat.le_refl _) fr hk
  | succ n ih =>
    intro l pos fr h hp hk
    by_cases hl : pos < l.length
    · have hd := dec_drop hl
      have hne : l.drop pos ≠ [] := fun e => by have := congrArg List.length e; simp at this; omega
      by_cases hlt : letter (dec (l.drop pos)).1 = true
      · rw [P_letter fr hl hlt, W_letter _ _ hne hlt, ih l _ _ (by omega) (by omega) (fun k hk' => by
          simp at hk'
          subst hk'
          cases fr with
          | none => simp; omega
          | some j => have := hk j rfl; simp; omega), List.drop_drop]
        congr 1
        cases fr with
        | none =>
          simp only [soFar, Option.getD_none, piece, List.nil_append, List.drop_take]
          congr 1
          omega
        | some j =>
          have := hk j rfl
          simp only [soFar, Option.getD_some, piece]
          rw [List.drop_take, List.drop_take]
          have e1 : l.drop pos = (l.drop j).drop (pos - j) := by rw [List.drop_drop]; congr 1; omega
          have e2 : pos + (dec (l.drop pos)).2 - j = (pos - j) + (dec (l.drop pos)).2 := by omega
          rw [e2, List.take_add, ← e1]
      · have hlt := Bool.eq_false_iff.2 hlt
        rw [P_other fr hl hlt, W_other _ _ hne hlt, List.map_append, ih l _ none (by omega) (by omega) (fun k h => by cases h), List.drop_drop, finp_fin l pos hp fr hk]
        rfl
    · obtain rfl : pos = l.length := by omega
      rw [P_end fr (by omega), List.drop_length, W_nil]
      exact finp_fin l l.length (Nat.le_refl _) fr hk

theorem places_words (l : List UInt8) : (places l).map (piece l) = words l := by
  have := P_words l.length l 0 none (by omega) (by omega) (fun k h => by cases h)
  rwa [List.drop_zero] at this

/-- Where it can lie. -/
def Fits (l : List UInt8) (p : Nat × Nat) : Prop := p.1 < p.2 ∧ p.2 ≤ l.length

theorem P_fits : ∀ (n : Nat) (l : List UInt8) (pos : Nat) (fr : Option Nat), l.length ≤ pos + n → pos ≤ l.length → (∀ k, fr = some k → k < pos) → ∀ p ∈ P l pos fr, Fits l p := by
  have hf : ∀ (l : List UInt8) (pos : Nat) (fr : Option Nat), pos ≤ l.length → (∀ k, fr = some k → k < pos) → ∀ p ∈ finp fr pos, Fits l p := by
    intro l pos fr hp hk p h
    cases fr with
    | none => cases h
    | some k => obtain rfl := List.mem_singleton.1 h; exact ⟨hk k rfl, hp⟩
  intro n
  induction n with
  | zero =>
    intro l pos fr h hp hk p hm
    obtain rfl : pos = l.length := by omega
    rw [P_end fr (by omega)] at hm
    exact hf l _ fr hp hk p hm
  | succ n ih =>
    intro l pos fr h hp hk p hm
    by_cases hl : pos < l.length
    · have hd := dec_drop hl
      by_cases hlt : letter (dec (l.drop pos)).1 = true
      · rw [P_letter fr hl hlt] at hm
        exact ih l _ _ (by omega) (by omega) (fun k hk' => by
          simp at hk'
          subst hk'
          cases fr with
          | none => simp; omega
          | some j => have := hk j rfl; simp; omega) p hm
      · rw [P_other fr hl (Bool.eq_false_iff.2 hlt)] at hm
        rcases List.mem_append.1 hm with hm | hm
        · exact hf l pos fr hp hk p hm
        · exact ih l _ none (by omega) (by omega) (fun k h => by cases h) p hm
    · obtain rfl : pos = l.length := by omega
      rw [P_end fr (by omega)] at hm
      exact hf l _ fr hp hk p hm

theorem places_fits (l : List UInt8) : ∀ p ∈ places l, Fits l p := P_fits l.length l 0 none (by omega) (by omega) (fun k h => by cases h)

/-- Does it touch neither end? -/
def within (l : List UInt8) (p : Nat × Nat) : Bool := decide (0 < p.1) && decide (p.2 < l.length)
def inner (l : List UInt8) : List (List UInt8) := ((places l).filter (within l)).map (piece l)

/-- How many words there are. -/
theorem W_length : ∀ (n : Nat) (l cur : List UInt8), l.length ≤ n → (W l cur).length ≤ l.length + (if cur = [] then 0 else 1) := by
  have hf : ∀ cur : List UInt8, (fin cur).length = if cur = [] then 0 else 1 := fun cur => by unfold fin; split <;> rfl
  intro n
  induction n with
  | zero =>
    intro l cur h
    obtain rfl := List.length_eq_zero_iff.1 (Nat.le_zero.1 h)
    rw [W_nil, hf]; omega
  | succ n ih =>
    intro l cur h
    by_cases hl : l = []
    · subst hl; rw [W_nil, hf]; omega
    · have hd := drop_lt l hl
      by_cases hlt : letter (dec l).1 = true
      · rw [W_letter _ _ hl hlt]
        have := ih (l.drop (dec l).2) (cur ++ l.take (dec l).2) (by omega)
        split at this <;> split <;> omega
      · rw [W_other _ _ hl (Bool.eq_false_iff.2 hlt), List.length_append, hf]
        have := ih (l.drop (dec l).2) [] (by omega)
        rw [if_pos rfl] at this
        split <;> omega

theorem words_length (l : List UInt8) : (words l).length ≤ l.length := by
  have := W_length l.length l [] (Nat.le_refl _)
  rw [if_pos rfl] at this
  exact this

end Go.Proofs.YtgjlbcmejanfaaaDoor.M
