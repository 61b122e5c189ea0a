/-
  IS A TEXT A WORD OF ANOTHER ONE? word.Has, by iterators over iterators (the texts of stage 3, joined).
-/
import Derived.Lib.DecodeN
import Derived.RangeFuncRecord
import Derived.RangeFuncSeq
import Derived.RangeFuncCalls
import Derived.Shelf.Abstract
import Derived.WalkKit
import Derived.OrdersIn
import Derived.Test.YtdjddlebjbngfaaGreatDoorRows
import Derived.WalkSpells
import Derived.WalkLawsBesides
import Derived.Deep.QuietTactic
import Derived.BigQuiet
import Derived.Lib.Hide
import Derived.Lib.OthersKept
import Derived.Outline
import Derived.OwnWalkIn
import Derived.TacticsInMore
import Derived.LoopNIn
import Derived.LoopIn
import Derived.RangeFuncLeaves
import Derived.Deep.AppendSrc
import Derived.Deep.Upon
namespace Go.Proofs.YtdjddlebjbngfaaGreatDoor.H3.M
open Go

/-- Is a rune a word's? -/
def letter (c : Nat) : Bool := if 128 ≤ c then c != 65533 else (decide (97 ≤ c) && decide (c ≤ 122)) || (decide (65 ≤ c) && decide (c ≤ 90)) || (decide (48 ≤ c) && decide (c ≤ 57)) || c == 95

/-- The first rune of a text, and how many bytes it has. -/
def dec (l : List UInt8) : Nat × Nat := Lib.decodeN l.length (l.getD 0 0).toNat (l.getD 1 0).toNat (l.getD 2 0).toNat (l.getD 3 0).toNat

theorem dec_pos (l : List UInt8) : 1 ≤ (dec l).2 := by
  unfold dec Lib.decodeN
  repeat' split
  all_goals simp

theorem dec_le (l : List UInt8) (h : l ≠ []) : (dec l).2 ≤ l.length := by
  have hp := List.length_pos_iff.2 h
  unfold dec Lib.decodeN
  repeat' split
  all_goals simp only
  all_goals omega

theorem letter_bad : letter 65533 = false := by decide

/-- A word's rune stands for itself, whatever is behind it. -/
theorem dec_take (l : List UInt8) (hl : l ≠ []) (h : letter (dec l).1 = true) (q : List UInt8) : dec (l.take (dec l).2 ++ q) = dec l := by
  have hne : (dec l).1 ≠ 65533 := fun e => by rw [e, letter_bad] at h; cases h
  clear h
  revert hne
  have key : ∀ n b0 b1 b2 b3, (Lib.decodeN n b0 b1 b2 b3).1 ≠ 65533 →
      (b0 < 128 ∧ Lib.decodeN n b0 b1 b2 b3 = (b0, 1)) ∨ (∃ c, 1 < n ∧ Lib.decodeN n b0 b1 b2 b3 = (c, 2) ∧ ∀ m x y, 1 < m → Lib.decodeN m b0 b1 x y = (c, 2)) ∨
      (∃ c, 2 < n ∧ Lib.decodeN n b0 b1 b2 b3 = (c, 3) ∧ ∀ m y, 2 < m → Lib.decodeN m b0 b1 b2 y = (c, 3)) ∨ (∃ c, 3 < n ∧ Lib.decodeN n b0 b1 b2 b3 = (c, 4) ∧ ∀ m, 3 < m → Lib.decodeN m b0 b1 b2 b3 = (c, 4)) := by
    intro n b0 b1 b2 b3
    unfold Lib.decodeN
    by_cases h0 : b0 < 128
    · intro _; exact .inl ⟨h0, by rw [if_pos h0]⟩
    rw [if_neg h0]
    by_cases h1 : b0 / 32 = 6 ∧ (1 < n ∧ b1 / 64 = 2)
    · rw [if_pos h1]
      split
      · rename_i hc
        intro _
        exact .inr (.inl ⟨_, h1.2.1, rfl, fun m x y hm => by rw [if_pos ⟨h1.1, hm, h1.2.2⟩]⟩)
      · intro h; exact absurd rfl h
    rw [if_neg h1]
    by_cases h2 : b0 / 16 = 14 ∧ (1 < n ∧ b1 / 64 = 2) ∧ (2 < n ∧ b2 / 64 = 2)
    · rw [if_pos h2]
      split
      · rename_i hc
        intro _
        refine .inr (.inr (.inl ⟨_, h2.2.2.1, rfl, fun m y hm => ?_⟩))
        rw [if_neg (by omega), if_pos ⟨h2.1, ⟨by omega, h2.2.1.2⟩, hm, h2.2.2.2⟩]
      · intro h; exact absurd rfl h
    rw [if_neg h2]
    by_cases h3 : b0 / 8 = 30 ∧ (1 < n ∧ b1 / 64 = 2) ∧ (2 < n ∧ b2 / 64 = 2) ∧ (3 < n ∧ b3 / 64 = 2)
    · rw [if_pos h3]
      split
      · rename_i hc
        intro _
        refine .inr (.inr (.inr ⟨_, h3.2.2.2.1, rfl, fun m hm => ?_⟩))
        rw [if_neg (by omega), if_neg (by omega), if_pos ⟨h3.1, ⟨by omega, h3.2.1.2⟩, ⟨by omega, h3.2.2.1.2⟩, hm, h3.2.2.2.2⟩]
      · intro h; exact absurd rfl h
    rw [if_neg h3]
    intro h; exact absurd rfl h
  intro hne
  rcases key _ _ _ _ _ hne with ⟨h0, e⟩ | ⟨c, hn, e, hr⟩ | ⟨c, hn, e, hr⟩ | ⟨c, hn, e, hr⟩
  · have e' : dec l = _ := e
    match l, hl with
    | a :: r, _ =>
      rw [e']
      have h0' : a.toNat < 128 := by simpa using h0
      simp [dec, Lib.decodeN, h0']
  · have e' : dec l = _ := e
    match l, hn with
    | a :: b :: r, _ => rw [e']; exact hr _ _ _ (by simp)
  · have e' : dec l = _ := e
    match l, hn with
    | a :: b :: c :: r, _ => rw [e']; exact hr _ _ (by simp)
  · have e' : dec l = _ := e
    match l, hn with
    | a :: b :: c :: d :: r, _ => rw [e']; exact hr _ (by simp)

/-! ### Words -/

def fin (cur : List UInt8) : List (List UInt8) := if cur = [] then [] else [cur]

/-- The words of l, behind the letters cur. -/
def wf : Nat → List UInt8 → List UInt8 → List (List UInt8)
  | 0, _, cur => fin cur
  | f + 1, l, cur => if l = [] then fin cur else if letter (dec l).1 = true then wf f (l.drop (dec l).2) (cur ++ l.take (dec l).2) else fin cur ++ wf f (l.drop (dec l).2) []

theorem drop_lt (l : List UInt8) (h : l ≠ []) : (l.drop (dec l).2).length < l.length := by
  have := dec_pos l
  have := List.length_pos_iff.2 h
  rw [List.length_drop]
  omega

theorem wf_fuel : ∀ (n : Nat) (l cur : List UInt8) (f g : Nat), l.length ≤ n → l.length ≤ f → l.length ≤ g → wf f l cur = wf g l cur := by
  intro n
  induction n with
  | zero =>
    intro l cur f g h _ _
    obtain rfl := List.length_eq_zero_iff.1 (Nat.le_zero.1 h)
    cases f <;> cases g <;> simp [wf]
  | succ n ih =>
    intro l cur f g h hf hg
    by_cases hl : l = []
    · subst hl; cases f <;> cases g <;> simp [wf]
    · have hd := drop_lt l hl
      have hp := List.length_pos_iff.2 hl
      obtain ⟨f, rfl⟩ : ∃ k, f = k + 1 := ⟨f - 1, by omega⟩
      obtain ⟨g, rfl⟩ : ∃ k, g = k + 1 := ⟨g - 1, by omega⟩
      simp only [wf, if_neg hl]
      rw [ih _ _ f g (by omega) (by omega) (by omega), ih _ [] f g (by omega) (by omega) (by omega)]

/-- The words of l, behind the letters cur. -/
def W (l cur : List UInt8) : List (List UInt8) := wf l.length l cur
def words (l : List UInt8) : List (List UInt8) := W l []

theorem W_nil (cur : List UInt8) : W [] cur = fin cur := rfl
theorem W_letter (l cur : List UInt8) (hl : l ≠ []) (h : letter (dec l).1 = true) : W l cur = W (l.drop (dec l).2) (cur ++ l.take (dec l).2) := by
  have hd := drop_lt l hl
  have hp := List.length_pos_iff.2 hl
  unfold W
  obtain ⟨n, hn⟩ : ∃ n, l.length = n + 1 := ⟨l.length - 1, by omega⟩
  rw [hn]
  simp only [wf, if_neg hl, if_pos h]
  exact wf_fuel n _ _ _ _ (by omega) (by omega) (Nat.le_refl _)
theorem fin_cons {l : List UInt8} (h : l ≠ []) : fin l = [l] := if_neg h

/-- A text of words' runes alone. -/
inductive Run : List UInt8 → Prop
  | nil : Run []
  | snoc {x t : List UInt8} : Run x → t ≠ [] → letter (dec t).1 = true → (∀ q, dec (t ++ q) = ((dec t).1, t.length)) → Run (x ++ t)

theorem Run.step {x l : List UInt8} (h : Run x) (hl : l ≠ []) (hlt : letter (dec l).1 = true) : Run (x ++ l.take (dec l).2) := by
  have hle := dec_le l hl
  have hp := dec_pos l
  have hlen : (l.take (dec l).2).length = (dec l).2 := by rw [List.length_take]; omega
  have h0 := dec_take l hl hlt []
  rw [List.append_nil] at h0
  refine .snoc h (fun e => by rw [e] at hlen; simp at hlen; omega) (by rw [h0]; exact hlt) (fun q => ?_)
  rw [h0, hlen]
  exact dec_take l hl hlt q

theorem W_run {x : List UInt8} (h : Run x) : ∀ (q cur : List UInt8), W (x ++ q) cur = W q (cur ++ x) := by
  induction h with
  | nil => intro q cur; rw [List.nil_append, List.append_nil]
  | @snoc x t hx ht hlt hd ih =>
    intro q cur
    rw [List.append_assoc, ih, W_letter _ _ (by simp [ht]) (by rw [hd]; exact hlt), hd]
    simp [List.append_assoc]

theorem Run.words {x : List UInt8} (h : Run x) (hx : x ≠ []) : words x = [x] := by
  have := W_run h [] []
  rw [List.append_nil, List.nil_append, W_nil, fin_cons hx] at this
  exact this

/-- Are all its runes words'? -/
def af : Nat → List UInt8 → Bool
  | 0, _ => true
  | f + 1, l => if l = [] then true else letter (dec l).1 && af f (l.drop (dec l).2)

def all (l : List UInt8) : Bool := af l.length l
/-- Is all of it one word? -/
def is (l : List UInt8) : Bool := all l && !l.isEmpty

/-! ### Places -/

def finp : Option Nat → Nat → List (Nat × Nat)
  | none, _ => []
  | some k, to => [(k, to)]

/-- Where the words begin and end, from 'pos' on, one having begun at 'fr'. -/
def pf : Nat → List UInt8 → Nat → Option Nat → List (Nat × Nat)
  | 0, l, _, fr => finp fr l.length
  | f + 1, l, pos, fr => if pos < l.length then
      (if letter (dec (l.drop pos)).1 = true then pf f l (pos + (dec (l.drop pos)).2) (some (fr.getD pos)) else finp fr pos ++ pf f l (pos + (dec (l.drop pos)).2) none)
    else finp fr l.length

def P (l : List UInt8) (pos : Nat) (fr : Option Nat) : List (Nat × Nat) := pf l.length l pos fr
end Go.Proofs.YtdjddlebjbngfaaGreatDoor.H3.M

namespace Go.Proofs.YtdjddlebjbngfaaGreatDoor.H3
open Go.RowKit Go

/-- Of the old blocks only those of G have turned. -/
structure Keep (G : Nat → Prop) (w w' : World) : Prop where
  os : w'.os = w.os
  tape : w'.tape = w.tape
  output : w'.output = w.output
  size : w.heap.size ≤ w'.heap.size
  block : ∀ k, k < w.heap.size → ¬ G k → w'.heap[k]? = w.heap[k]?

theorem Keep.refl (G : Nat → Prop) (w : World) : Keep G w w := ⟨rfl, rfl, rfl, Nat.le_refl _, fun _ _ _ => rfl⟩
theorem Keep.trans {G : Nat → Prop} {a b c : World} (h : Keep G a b) (k : Keep G b c) : Keep G a c :=
  ⟨k.os.trans h.os, k.tape.trans h.tape, k.output.trans h.output, Nat.le_trans h.size k.size, fun i hi hn => (k.block i (Nat.lt_of_lt_of_le hi h.size) hn).trans (h.block i hi hn)⟩
theorem Keep.mono {G H : Nat → Prop} {a b : World} (h : Keep G a b) (hGH : ∀ k, k < a.heap.size → G k → H k) : Keep H a b :=
  ⟨h.os, h.tape, h.output, h.size, fun k hk hn => h.block k hk (fun hg => hn (hGH k hk hg))⟩
theorem Keep.alloc {G : Nat → Prop} {a w : World} (h : Keep G a w) (o : Obj) : Keep G a (w.alloc o) :=
  h.trans ⟨rfl, rfl, rfl, by simp, fun k hk _ => Below.heap_alloc _ _ _ hk⟩
theorem Keep.drew {G : Nat → Prop} {a w : World} (h : Keep G a w) : Keep G a w.drew := ⟨h.os, h.tape, h.output, h.size, h.block⟩
/-- A step that turns block r alone. -/
theorem Keep.put {G : Nat → Prop} {a w : World} (h : Keep G a w) {r : Nat} (o : Obj) (hr : r < a.heap.size → G r) : Keep G a (w.putObj r o) :=
  ⟨h.os, h.tape, h.output, by simpa using h.size, fun k hk hn => by
    rw [World.putObj_heap_other (fun e => hn (by subst e; exact hr hk))]
    exact h.block k hk hn⟩
theorem Below.keep {G : Nat → Prop} {w w' : World} (h : Below w.heap.size w w') : Keep G w w' :=
  ⟨h.os, h.tape, h.output, h.size, fun k hk _ => h.block k hk⟩

/-- All of G are blocks of w. -/
def Live (G : Nat → Prop) (w : World) : Prop := ∀ k, G k → k < w.heap.size

/-- What the loop's side holds: of the blocks of G, in a world. -/
abbrev Stance := (Nat → Prop) → World → Prop

/-- J holds again, of some of G and of new blocks; and only blocks of G have turned. -/
def Next (J : Stance) (G : Nat → Prop) (W W' : World) : Prop :=
  ∃ G', J G' W' ∧ Live G' W' ∧ (∀ k, G' k → G k ∨ W.heap.size ≤ k) ∧ Keep G W W'

theorem Next.keep {J : Stance} {G : Nat → Prop} {W W' : World} (h : Next J G W W') : Keep G W W' := h.elim fun _ h => h.2.2.2

theorem Next.mk {J : Stance} {G : Nat → Prop} {W W' : World} (G' : Nat → Prop) (hJ : J G' W') (hL : Live G' W') (hG : ∀ k, G' k → G k ∨ W.heap.size ≤ k) (hK : Keep G W W') : Next J G W W' := ⟨G', hJ, hL, hG, hK⟩

/-- From a stance at G, reached from H, to the next. -/
theorem Next.from {J : Stance} {G H : Nat → Prop} {A W W' : World} (hG : ∀ k, G k → H k ∨ A.heap.size ≤ k) (hK : Keep H A W) (h : Next J G W W') : Next J H A W' := by
  obtain ⟨G', hJ, hL, hg, hk⟩ := h
  refine ⟨G', hJ, hL, fun k hk' => ?_, hk.os.trans hK.os, hk.tape.trans hK.tape, hk.output.trans hK.output, Nat.le_trans hK.size hk.size, fun k hk' hn => ?_⟩
  · rcases hg k hk' with h | h
    · exact hG k h
    · exact .inr (Nat.le_trans hK.size h)
  · have hng : ¬ G k := fun hgk => by
      rcases hG k hgk with h | h
      · exact hn h
      · omega
    exact (hk.block k (Nat.lt_of_lt_of_le hk' hK.size) hng).trans (hK.block k hk' hn)

theorem Keep.after {G H : Nat → Prop} {A W W' : World} (hG : ∀ k, G k → H k ∨ A.heap.size ≤ k) (hK : Keep H A W) (hk : Keep G W W') : Keep H A W' :=
  (Next.from (J := fun _ _ => True) hG hK ⟨fun _ => False, trivial, fun _ h => h.elim, fun _ h => h.elim, hk⟩).keep

theorem Next.imp {J J' : Stance} {G : Nat → Prop} {W W' : World} (h : Next J G W W') (hJ : ∀ G W, J G W → J' G W) : Next J' G W W' := by
  obtain ⟨G', h1, h2⟩ := h
  exact ⟨G', hJ _ _ h1, h2⟩

end Go.Proofs.YtdjddlebjbngfaaGreatDoor.H3

namespace Go.Proofs.YtdjddlebjbngfaaGreatDoor.H3
open Go

/-- All slots that the operations write, filled with ys. -/
def putsFrom (ys : Nat → Value) : List Oper → Nat → Act → Act
  | [], _, a => a
  | o :: r, k, a => putsFrom ys r (k + 1) (a.put o.dst (ys k))

def upd (ys : Nat → Value) (i : Nat) (v : Value) : Nat → Value := fun j => if j = i then v else ys j
theorem upd_same (ys : Nat → Value) (i : Nat) (v : Value) : upd ys i v i = v := by unfold upd; rw [if_pos rfl]
theorem upd_other (ys : Nat → Value) {i j : Nat} (v : Value) (h : j ≠ i) : upd ys i v j = ys j := by unfold upd; rw [if_neg h]

/-- No two operations write one slot. -/
def dstsApart : List Oper → Bool
  | [] => true
  | o :: r => (match o.dst with | some d => r.all (fun p => p.dst != some d) | none => true) && dstsApart r

theorem puts_congr {ys zs : Nat → Value} : ∀ (l : List Oper) (k : Nat) (a : Act), (∀ j, k ≤ j → ys j = zs j) → putsFrom ys l k a = putsFrom zs l k a
  | [], _, _, _ => rfl
  | o :: r, k, a, h => by
    rw [putsFrom, putsFrom, h k (Nat.le_refl _)]
    exact puts_congr r (k + 1) _ (fun j hj => h j (by omega))

theorem put_put (a : Act) (d : Option Tmp) (u v : Value) : (a.put d u).put d v = a.put d v := by
  cases d with
  | none => rfl
  | some d => simp [Act.put]

theorem puts_comm {ys : Nat → Value} {d : Option Tmp} {v : Value} : ∀ (l : List Oper) (k : Nat) (a : Act), (∀ x, d = some x → ∀ p ∈ l, p.dst ≠ some x) → (putsFrom ys l k a).put d v = putsFrom ys l k (a.put d v)
  | [], _, _, _ => rfl
  | o :: r, k, a, h => by
    rw [putsFrom, putsFrom, puts_comm r (k + 1) _ (fun x hx p hp => h x hx p (by simp [hp]))]
    congr 1
    exact Act.put_comm a (ys k) v (fun x hx hd => h x hd o (by simp) hx)

theorem puts_set {ys : Nat → Value} {i : Nat} {v : Value} : ∀ (l : List Oper) (k : Nat) (a : Act) (o : Oper), dstsApart l = true → k ≤ i → l[i - k]? = some o → (putsFrom ys l k a).put o.dst v = putsFrom (upd ys i v) l k a
  | [], _, _, _, _, _, h => by simp at h
  | p :: r, k, a, o, hd, hk, h => by
    simp only [dstsApart, Bool.and_eq_true] at hd
    rcases Nat.lt_or_ge k i with hlt | hge
    · have e : i - k = (i - (k + 1)) + 1 := by omega
      rw [e, List.getElem?_cons_succ] at h
      rw [putsFrom, putsFrom, puts_set r (k + 1) _ o hd.2 (by omega) h, upd_other ys v (by omega)]
    · obtain rfl : k = i := by omega
      rw [Nat.sub_self, List.getElem?_cons_zero] at h
      obtain rfl : p = o := by simpa using h
      rw [putsFrom, putsFrom, upd_same, puts_comm, put_put]
      · exact puts_congr r (k + 1) _ (fun j hj => (upd_other ys v (by omega)).symm)
      · intro x hx q hq
        have h1 := hd.1
        rw [hx] at h1
        have := List.all_eq_true.1 h1 q hq
        simpa using this

theorem put_own (a : Act) (d : Tmp) : a.put (some d) (a.tmps.getD d undef) = a := by
  obtain ⟨t, ds⟩ := a
  simp only [Act.put, Act.mk.injEq, and_true]
  apply Array.ext
  · simp
  · intro i h1 h2
    rw [Array.getElem_setIfInBounds]
    split
    · rename_i h; subst h; simp [Array.getD, h2]
    · rfl

/-- What the slots hold, as ys. -/
def nowOf (ops : Array Oper) (a : Act) : Nat → Value := fun j => match (ops[j]?).bind (·.dst) with | some d => a.tmps.getD d undef | none => undef

theorem puts_now (a : Act) {ys : Nat → Value} : ∀ (l : List Oper) (k : Nat), (∀ i o d, l[i]? = some o → o.dst = some d → ys (k + i) = a.tmps.getD d undef) → putsFrom ys l k a = a
  | [], _, _ => rfl
  | o :: r, k, h => by
    have e : a.put o.dst (ys k) = a := by
      cases hd : o.dst with
      | none => rfl
      | some d =>
        have := h 0 o d rfl hd
        rw [Nat.add_zero] at this
        rw [this]
        exact put_own a d
    rw [putsFrom, e]
    exact puts_now a r (k + 1) (fun i o d hi hd => by
      have := h (i + 1) o d (by simpa using hi) hd
      rw [← this]; congr 1; omega)

/-- How many of the first n are still to come. -/
def unl : Nat → Array Bool → Nat
  | 0, _ => 0
  | n + 1, l => unl n l + (if l.getD n true = true then 0 else 1)

theorem unl_zero {l : Array Bool} : ∀ (n : Nat), unl n l = 0 → ∀ j, j < n → l.getD j true = true
  | 0, _, j, h => by omega
  | n + 1, h, j, hj => by
    simp only [unl] at h
    by_cases e : j = n
    · subst e
      by_cases hb : l.getD j true = true
      · exact hb
      · rw [if_neg hb] at h; omega
    · exact unl_zero n (by omega) j (by omega)

theorem unl_le {l : Array Bool} {i : Nat} : ∀ (n : Nat), unl n (l.setIfInBounds i true) ≤ unl n l
  | 0 => Nat.le_refl _
  | n + 1 => by
    have := unl_le (l := l) (i := i) n
    simp only [unl]
    by_cases hb : l.getD n true = true
    · have hb' : (l.setIfInBounds i true).getD n true = true := by
        by_cases e : i = n
        · subst e
          simp [Array.getD]
        · rw [getD_set_ne true e]; exact hb
      rw [if_pos hb, if_pos hb']
      omega
    · rw [if_neg hb]
      split <;> omega

theorem unl_lt {l : Array Bool} {i : Nat} (hi : i < l.size) (hf : l.getD i true = false) : ∀ (n : Nat), i < n → unl n (l.setIfInBounds i true) < unl n l
  | 0, h => by omega
  | n + 1, h => by
    simp only [unl]
    by_cases e : i = n
    · subst e
      have h1 : (l.setIfInBounds i true).getD i true = true := by simp [Array.getD]
      have := unl_le (l := l) (i := i) i
      rw [if_pos h1, hf]
      simp
      omega
    · have := unl_lt hi hf n (by omega)
      rw [getD_set_ne true e]
      omega

/-- Each operation waits for earlier ones alone. -/
def backEdges (ops : Array Oper) : Bool := (List.range ops.size).all fun i => match ops[i]? with | some o => o.after.all fun e => !Region.binds .any e || decide (e.on < i) | none => true

section
variable {F : Fence} {n : Nat} {P : Program} {ops : Array Oper} {Q : Exit → Act → World → Prop}

theorem least_unlisted (listed : Array Bool) : ∀ n, (∀ j, j < n → listed.getD j true = true) ∨ ∃ i, i < n ∧ listed.getD i true = false ∧ ∀ j, j < i → listed.getD j true = true
  | 0 => .inl (fun j h => by omega)
  | n + 1 => by
    rcases least_unlisted listed n with h | ⟨i, hi, hf, hj⟩
    · by_cases hb : listed.getD n true = true
      · refine .inl fun j hj => ?_
        by_cases e : j = n
        · subst e; exact hb
        · exact h j (by omega)
      · exact .inr ⟨n, by omega, by simpa using hb, h⟩
    · exact .inr ⟨i, by omega, hf, hj⟩

theorem getD_true_false {listed : Array Bool} {j : Nat} (hj : j < listed.size) (h : listed.getD j true = true) : listed.getD j false = true := by
  simp [Array.getD, hj] at h ⊢
  exact h

theorem ready_none {listed : Array Bool} (hsz : listed.size = ops.size) (hb : backEdges ops = true) (h : Region.ready .any ops listed = []) : ∀ j, j < ops.size → listed.getD j true = true := by
  rcases least_unlisted listed ops.size with h1 | ⟨i, hi, hf, hj⟩
  · exact h1
  · exfalso
    have hm : i ∈ Region.ready .any ops listed := by
      rw [mem_ready]
      refine ⟨hf, ops[i], Array.getElem?_eq_getElem hi, fun e he hbe => ?_⟩
      have h1 := List.all_eq_true.1 hb i (List.mem_range.2 hi)
      rw [Array.getElem?_eq_getElem hi] at h1
      have h2 : e.on < i := by
        have := Array.all_eq_true_iff_forall_mem.1 h1 e he
        rw [hbe] at this
        simpa using this
      exact getD_true_false (by omega) (hj _ h2)
    rw [h] at hm
    cases hm

/-- An edge by which a value is handed on. -/
def asked (e : Edge) : Bool := match e.ground with | .data => true | .guard => true | _ => false
theorem asked_binds {e : Edge} (h : asked e = true) : Region.binds .any e = true := by
  unfold asked at h
  unfold Region.binds
  split at h <;> simp_all

/-- Does j wait for i, be it by others? -/
def anc (ops : Array Oper) : Nat → Nat → Nat → Bool
  | 0, _, _ => false
  | f + 1, i, j => match ops[j]? with
    | some o => o.after.toList.any fun e => Region.binds .any e && (e.on == i || anc ops f i e.on)
    | none => false

/-- Behind i, is what j left still asked for: in the end (F), or by an operation that i doesn't wait for? -/
def needed (ops : Array Oper) (E : Nat → Bool) (i j : Nat) : Bool :=
  E j || (List.range ops.size).any fun c => c != i && !anc ops ops.size c i && ((ops[c]?).map fun o => o.after.toList.any fun e => asked e && e.on == j).getD false

/-- Whatever is listed, what it waits for is, too. -/
def ShutDown (ops : Array Oper) (listed : Array Bool) : Prop := ∀ j o, ops[j]? = some o → listed.getD j false = true → ∀ e ∈ o.after, Region.binds .any e = true → listed.getD e.on false = true

theorem anc_listed {listed : Array Bool} (hc : ShutDown ops listed) : ∀ (f i j : Nat), listed.getD j false = true → anc ops f i j = true → listed.getD i false = true
  | 0, _, _, _, h => by cases h
  | f + 1, i, j, hj, h => by
    unfold anc at h
    cases ho : ops[j]? with
    | none => rw [ho] at h; cases h
    | some o =>
      rw [ho] at h
      obtain ⟨e, he, h⟩ := List.any_eq_true.1 h
      rw [Array.mem_toList_iff] at he
      simp only [Bool.and_eq_true, Bool.or_eq_true, beq_iff_eq] at h
      have hl := hc j o ho hj e he h.1
      rcases h.2 with h2 | h2
      · rw [← h2]; exact hl
      · exact anc_listed hc f i e.on hl h2

theorem anc_ready {listed : Array Bool} (hc : ShutDown ops listed) {i : Nat} {o : Oper} (ho : ops[i]? = some o) (hall : ∀ e ∈ o.after, Region.binds .any e = true → listed.getD e.on false = true) {f c : Nat} (h : anc ops f c i = true) : listed.getD c false = true := by
  cases f with
  | zero => cases h
  | succ f =>
    unfold anc at h
    rw [ho] at h
    obtain ⟨e, he, h⟩ := List.any_eq_true.1 h
    rw [Array.mem_toList_iff] at he
    simp only [Bool.and_eq_true, Bool.or_eq_true, beq_iff_eq] at h
    have hl := hall e he h.1
    rcases h.2 with h2 | h2
    · rw [← h2]; exact hl
    · exact anc_listed hc f c e.on hl h2

/-- What slot d holds. -/
def slotFrom (ys : Nat → Value) (d : Nat) : List Oper → Nat → Value → Value
  | [], _, v => v
  | o :: r, k, v => slotFrom ys d r (k + 1) (if o.dst == some d then ys k else v)

theorem getD_puts {ys : Nat → Value} {d : Nat} : ∀ (l : List Oper) (k : Nat) (a : Act), d < a.tmps.size → (putsFrom ys l k a).tmps.getD d undef = slotFrom ys d l k (a.tmps.getD d undef)
  | [], _, _, _ => rfl
  | o :: r, k, a, h => by
    rw [putsFrom, slotFrom]
    cases hd : o.dst with
    | none => exact getD_puts r (k + 1) _ h
    | some x =>
      have hsz : d < (a.put (some x) (ys k)).tmps.size := by simpa [Act.put] using h
      rw [getD_puts r (k + 1) _ hsz]
      congr 1
      by_cases e : x = d
      · subst e
        simp [Act.put, Array.getD, h]
      · have e2 : (some x == some d) = false := by simpa using e
        rw [e2]
        simp [Act.put, Array.getD, h, e]

/-- What is not over keeps what waits for it from being over. -/
theorem not_yet {listed : Array Bool} (hc : ShutDown ops listed) {i c : Nat} (hi : listed.getD i false = false) (ha : anc ops ops.size i c = true) : listed.getD c false = false := by
  cases h : listed.getD c false with
  | false => rfl
  | true => rw [anc_listed hc _ _ _ h ha] at hi; cases hi

/-- What must be shown of operation i. -/
def StepOK (F : Fence) (n : Nat) (P : Program) (ops : Array Oper) (Q : Exit → Act → World → Prop) (a0 : Act) (I : Array Bool → (Nat → Value) → World → Prop) (R : Nat → (Nat → Value) → World → World → Prop) (V : Nat → (Nat → Value) → World → Prop) (i : Nat) (o : Oper) : Prop :=
  ∀ (listed : Array Bool) (ys : Nat → Value) (A : Act) (w : World), listed.size = ops.size → ShutDown ops listed → listed.getD i false = false → (∀ e ∈ o.after, Region.binds .any e = true → listed.getD e.on false = true) →
    (∀ d, d < a0.tmps.size → A.tmps.getD d undef = slotFrom ys d ops.toList 0 (a0.tmps.getD d undef)) → I listed ys w → (∀ e ∈ o.after, asked e = true → V e.on ys w) →
    ∀ K : Act → World → Prop, (∀ v w', I (listed.setIfInBounds i true) (upd ys i v) w' → R i ys w w' → V i (upd ys i v) w' → K (A.put o.dst v) w') →
      if Region.wanted o (yielded ops A.tmps) = true then o.wpIn F n P A w K Q else K (A.put o.dst undef) w

/-- An operation that is wanted. -/
theorem step_run {o : Oper} {A : Act} {w : World} {K : Act → World → Prop} (h : o.guard = none ∨ ∃ j d b, o.guard = some (j, b) ∧ (ops[j]?).bind (·.dst) = some d ∧ A.tmps.getD d undef = .bool b) (hw : o.wpIn F n P A w K Q) :
    if Region.wanted o (yielded ops A.tmps) = true then o.wpIn F n P A w K Q else K (A.put o.dst undef) w := by
  have hwt : Region.wanted o (yielded ops A.tmps) = true := by
    rcases h with h | ⟨j, d, b, h, hd, hv⟩
    · unfold Region.wanted; rw [h]
    · unfold Region.wanted
      rw [h]
      unfold yielded
      simp only [hd, Option.bind_some]
      have e : A.tmps[d]? = some (.bool b) := by
        cases hx : A.tmps[d]? with
        | none => rw [Array.getD_eq_getD_getElem?, hx] at hv; cases hv
        | some y => rw [Array.getD_eq_getD_getElem?, hx] at hv; simpa using hv
      rw [e]
      simp
  rw [if_pos hwt]
  exact hw

/-- Still asked for, in the state 'listed'. -/
def Wants (ops : Array Oper) (E : Nat → Bool) (listed : Array Bool) (j : Nat) : Prop :=
  E j = true ∨ ∃ c o, ops[c]? = some o ∧ listed.getD c false = false ∧ ∃ e ∈ o.after, asked e = true ∧ e.on = j

theorem flow_any (hF : ∀ f, F.fn f) {a0 : Act} {I : Array Bool → (Nat → Value) → World → Prop} {R : Nat → (Nat → Value) → World → World → Prop} {V : Nat → (Nat → Value) → World → Prop} {E : Nat → Bool} (hb : backEdges ops = true) (hd : dstsApart ops.toList = true)
    (hst : ∀ i j ys v w w', i ≠ j → anc ops ops.size i j = false → needed ops E i j = true → V j ys w → R i ys w w' → V j (upd ys i v) w')
    (step : ∀ i o, ops[i]? = some o → StepOK F n P ops Q a0 I R V i o)
    (fin : ∀ listed ys w, (∀ j, j < ops.size → listed.getD j false = true) → I listed ys w → (∀ j, j < ops.size → E j = true → V j ys w) → Q .normal (putsFrom ys ops.toList 0 a0) w) :
    ∀ (fuel : Nat) (listed : Array Bool) (ys : Nat → Value) (w : World), listed.size = ops.size → unl ops.size listed ≤ fuel → ShutDown ops listed → I listed ys w → (∀ j, listed.getD j false = true → Wants ops E listed j → V j ys w) →
      wpAnyIn F n P .any ops Q fuel listed (putsFrom ys ops.toList 0 a0) w := by
  have done : ∀ (listed : Array Bool) (ys : Nat → Value) (w : World), listed.size = ops.size → I listed ys w → (∀ j, listed.getD j false = true → Wants ops E listed j → V j ys w) → (∀ j, j < ops.size → listed.getD j true = true) → Q .normal (putsFrom ys ops.toList 0 a0) w :=
    fun listed ys w hsz hI hV hall => fin listed ys w (fun j hj => getD_true_false (by omega) (hall j hj)) hI (fun j hj hE => hV j (getD_true_false (by omega) (hall j hj)) (.inl hE))
  intro fuel
  induction fuel with
  | zero =>
    intro listed ys w hsz hu _ hI hV
    have hall := unl_zero ops.size (by omega : unl ops.size listed = 0)
    refine ⟨?_, done listed ys w hsz hI hV hall⟩
    cases hr : Region.ready .any ops listed with
    | nil => rfl
    | cons i r =>
      have hm : i ∈ Region.ready .any ops listed := by rw [hr]; simp
      obtain ⟨h0, o, ho, _⟩ := mem_ready.1 hm
      have := hall i (Array.getElem?_eq_some_iff.1 ho).1
      rw [h0] at this
      cases this
  | succ fuel ih =>
    intro listed ys w hsz hu hsd hI hV
    refine ⟨fun hr => done listed ys w hsz hI hV (ready_none hsz hb hr), fun i hi => ?_⟩
    obtain ⟨h0, o, ho, hall⟩ := mem_ready.1 hi
    have hlt : i < ops.size := (Array.getElem?_eq_some_iff.1 ho).1
    have h0f : listed.getD i false = false := by
      simp [Array.getD, hsz, hlt] at h0 ⊢
      exact h0
    have hdeps : ∀ e ∈ o.after, asked e = true → V e.on ys w := fun e he hbe => hV _ (hall e he (asked_binds hbe)) (.inr ⟨i, o, ho, h0f, e, he, hbe, rfl⟩)
    have hsd' : ShutDown ops (listed.setIfInBounds i true) := by
      intro j oj hoj hj e he hbe
      by_cases hij : i = j
      · subst hij
        rw [ho] at hoj
        obtain rfl : o = oj := by simpa using hoj
        exact getD_set_true (hall e he hbe)
      · rw [getD_set_ne false hij] at hj
        exact getD_set_true (hsd j oj hoj hj e he hbe)
    have next : ∀ v w', I (listed.setIfInBounds i true) (upd ys i v) w' → R i ys w w' → V i (upd ys i v) w' → wpAnyIn F n P .any ops Q fuel (listed.setIfInBounds i true) ((putsFrom ys ops.toList 0 a0).put o.dst v) w' := by
      intro v w' hI' hR hv
      rw [puts_set (i := i) ops.toList 0 a0 o hd (Nat.zero_le _) (by rw [Nat.sub_zero, Array.getElem?_toList]; exact ho)]
      refine ih _ _ w' (by simpa using hsz) (by have := unl_lt (l := listed) (i := i) (by omega) h0 ops.size hlt; omega) hsd' hI' (fun j hj hw => ?_)
      by_cases e : j = i
      · subst e; exact hv
      · rw [getD_set_ne false (Ne.symm e)] at hj
        have hneed : needed ops E i j = true ∧ Wants ops E listed j := by
          rcases hw with hE | ⟨c, oc, hoc, hcf, e1, he1, hbe1, hon⟩
          · exact ⟨by unfold needed; rw [hE]; rfl, .inl hE⟩
          · have hclt : c < ops.size := (Array.getElem?_eq_some_iff.1 hoc).1
            have hci : c ≠ i := by
              intro h
              subst h
              simp [Array.getD, hsz, hclt] at hcf
            rw [getD_set_ne false (Ne.symm hci)] at hcf
            refine ⟨?_, .inr ⟨c, oc, hoc, hcf, e1, he1, hbe1, hon⟩⟩
            have hna : anc ops ops.size c i = false := by
              cases ha : anc ops ops.size c i with
              | false => rfl
              | true =>
                have := anc_ready hsd ho hall ha
                rw [hcf] at this
                cases this
            unfold needed
            rw [Bool.or_eq_true]
            refine .inr (List.any_eq_true.2 ⟨c, List.mem_range.2 hclt, ?_⟩)
            rw [hoc, hna]
            simp only [Option.map_some, Option.getD_some, Bool.not_false, Bool.and_true, Bool.and_eq_true, bne_iff_ne, ne_eq]
            exact ⟨hci, List.any_eq_true.2 ⟨e1, Array.mem_toList_iff.2 he1, by rw [hbe1]; simpa using hon⟩⟩
        have hanc : anc ops ops.size i j = false := by
          cases ha : anc ops ops.size i j with
          | false => rfl
          | true =>
            have := anc_listed hsd _ _ _ hj ha
            rw [h0f] at this
            cases this
        exact hst i j ys v w w' (Ne.symm e) hanc hneed.1 (hV j hj hneed.2) hR
    have hs := step i o ho listed ys (putsFrom ys ops.toList 0 a0) w hsz hsd h0f hall (fun d hd => getD_puts ops.toList 0 a0 hd) hI hdeps _ next
    unfold wpOpIn
    rw [ho]
    simp only []
    split
    · rename_i hw
      rw [if_pos hw] at hs
      exact hs
    · rename_i hw
      rw [if_neg hw] at hs
      exact ⟨fun f _ => hF f, hs⟩

/-- The steps, listed. -/
def StepsFrom (F : Fence) (n : Nat) (P : Program) (ops : Array Oper) (Q : Exit → Act → World → Prop) (a0 : Act) (I : Array Bool → (Nat → Value) → World → Prop) (R : Nat → (Nat → Value) → World → World → Prop) (V : Nat → (Nat → Value) → World → Prop) : List Oper → Nat → Prop
  | [], _ => True
  | o :: r, k => StepOK F n P ops Q a0 I R V k o ∧ StepsFrom F n P ops Q a0 I R V r (k + 1)

theorem steps_of {a0 : Act} {I : Array Bool → (Nat → Value) → World → Prop} {R : Nat → (Nat → Value) → World → World → Prop} {V : Nat → (Nat → Value) → World → Prop} : ∀ (l : List Oper) (k : Nat), StepsFrom F n P ops Q a0 I R V l k → ∀ i o, l[i]? = some o → StepOK F n P ops Q a0 I R V (k + i) o
  | [], _, _, _, _, h => by simp at h
  | p :: r, k, hs, i, o, h => by
    cases i with
    | zero =>
      obtain rfl : p = o := by simpa using h
      exact hs.1
    | succ i =>
      have := steps_of r (k + 1) hs.2 i o (by simpa using h)
      rw [show k + (i + 1) = k + 1 + i by omega]
      exact this

/-- THE THEOREM. I: what holds all the time, by which operations are over; R i: what operation i does to the world; V i: what it leaves in its slot; E: whose are asked for in the end. -/
theorem wpIn_region_flow (hF : ∀ f, F.fn f) {id : Nat} {a0 : Act} {w0 : World} (hm : P.follows .mixedOrders = true) (I : Array Bool → (Nat → Value) → World → Prop) (R : Nat → (Nat → Value) → World → World → Prop) (V : Nat → (Nat → Value) → World → Prop) (E : Nat → Bool) (hb : backEdges ops = true) (hd : dstsApart ops.toList = true)
    (hst : ∀ i j ys v w w', i ≠ j → anc ops ops.size i j = false → needed ops E i j = true → V j ys w → R i ys w w' → V j (upd ys i v) w') (hI : I (Array.replicate ops.size false) (nowOf ops a0) w0.drew)
    (step : StepsFrom F n P ops Q a0 I R V ops.toList 0)
    (fin : ∀ listed ys w, (∀ j, j < ops.size → listed.getD j false = true) → I listed ys w → (∀ j, j < ops.size → E j = true → V j ys w) → Q .normal (putsFrom ys ops.toList 0 a0) w) : (Code.region id ops true).wpIn F n P Q a0 w0 := by
  refine wpIn_region_any hm ?_
  have h0 : putsFrom (nowOf ops a0) ops.toList 0 a0 = a0 := puts_now a0 ops.toList 0 (fun i o d hi hdo => by
    rw [Array.getElem?_toList] at hi
    simp only [nowOf, Nat.zero_add, hi, Option.bind_some, hdo])
  have hno : ∀ j, (Array.replicate ops.size false).getD j false = false := fun j => by
    by_cases e : j < ops.size <;> simp [Array.getD, e]
  have h := flow_any (F := F) (n := n) (P := P) (Q := Q) (E := E) hF hb hd hst (fun i o ho => by
    have := steps_of ops.toList 0 step i o (by rw [Array.getElem?_toList]; exact ho)
    rwa [Nat.zero_add] at this) fin ops.size (Array.replicate ops.size false) (nowOf ops a0) w0.drew (by simp) ?_ (fun j o _ hj => by rw [hno] at hj; cases hj) hI (fun j hj => by rw [hno] at hj; cases hj)
  · rw [h0] at h
    exact h
  · have : ∀ (n : Nat) (l : Array Bool), unl n l ≤ n := fun n l => by
      induction n with
      | zero => exact Nat.le_refl _
      | succ n ih => simp only [unl]; split <;> omega
    exact this _ _

end

/-! ### One operation alone turns the world, and every other one comes ahead of it, or behind -/

def waistI (c : Nat) (W1 : World) (Out : Value → World → Prop) (listed : Array Bool) (ys : Nat → Value) (w : World) : Prop :=
  (listed.getD c false = false → w = W1) ∧ (listed.getD c false = true → Out (ys c) w)

theorem waistI.other {c : Nat} {W1 : World} {Out : Value → World → Prop} {listed : Array Bool} {ys : Nat → Value} {w : World} (h : waistI c W1 Out listed ys w) {i : Nat} (hi : i ≠ c) (v : Value) : waistI c W1 Out (listed.setIfInBounds i true) (upd ys i v) w := by
  unfold waistI
  rw [getD_set_ne false hi, upd_other ys v (Ne.symm hi)]
  exact h

theorem waistI.call {c : Nat} {W1 : World} {Out : Value → World → Prop} {listed : Array Bool} {ys : Nat → Value} {w : World} {v : Value} (hc : c < listed.size) (h : Out v w) : waistI c W1 Out (listed.setIfInBounds c true) (upd ys c v) w := by
  unfold waistI
  rw [upd_same]
  refine ⟨fun h0 => ?_, fun _ => h⟩
  simp [Array.getD, hc] at h0

end Go.Proofs.YtdjddlebjbngfaaGreatDoor.H3

namespace Go.Proofs.YtdjddlebjbngfaaGreatDoor.H3
open Go.RowKit Go

end Go.Proofs.YtdjddlebjbngfaaGreatDoor.H3

namespace Go.Proofs.YtdjddlebjbngfaaGreatDoor.H3
open Go.RowKit Go Go.Shelf

attribute [local go_sem] Oper.semAt_some

theorem wide_fn (f : FuncId) : Fence.wide.fn f = True := rfl
theorem wide_depth : Fence.wide.depth = none := rfl
attribute [local go_sem] wide_fn wide_depth

/-- A variable's box. -/
def Box (W : World) (B : Nat) (t : TypeId) (v : Value) : Prop := W.heap[B]? = some (.cells #[v] t (0, 0))
theorem Box.lt {W : World} {B : Nat} {t : TypeId} {v : Value} (h : Box W B t v) : B < W.heap.size := (Array.getElem?_eq_some_iff.1 h).1
theorem Box.cell {W : World} {B : Nat} {t : TypeId} {v : Value} (h : Box W B t v) : W.cell? ⟨B, 0, none⟩ = some v := by simp [World.cell?, show W.heap[B]? = _ from h]
theorem Box.frozen {W : World} {B : Nat} {t : TypeId} {v : Value} (h : Box W B t v) : W.frozen? ⟨B, 0, none⟩ = false := by simp [World.frozen?, show W.heap[B]? = _ from h]
theorem Box.new (W : World) (t : TypeId) (v : Value) : Box (W.alloc (.cells #[v] t)) W.heap.size t v := World.alloc_heap_new W _
theorem Box.keep {G : Nat → Prop} {W W' : World} {B : Nat} {t : TypeId} {v : Value} (h : Box W B t v) (hk : Keep G W W') (hn : ¬ G B) : Box W' B t v := (hk.block B h.lt hn).trans h
theorem Box.alloc {W : World} {B : Nat} {t : TypeId} {v : Value} (h : Box W B t v) (o : Obj) : Box (W.alloc o) B t v := h.keep ((Keep.refl (fun _ => False) W).alloc o) (fun h => h)

end Go.Proofs.YtdjddlebjbngfaaGreatDoor.H3

namespace Go.Proofs.YtdjddlebjbngfaaGreatDoor.H3
open Go.RowKit Go Go.Shelf

attribute [local go_sem] Oper.semAt_some wide_fn wide_depth

def bs (l : List UInt8) : ByteArray := ⟨l.toArray⟩
end Go.Proofs.YtdjddlebjbngfaaGreatDoor.H3

namespace Go.Proofs.YtdjddlebjbngfaaGreatDoor.H3
open Go.RowKit Go

/-- v is the nil slice, and xs is empty; or v holds the cells xs, in a block of G, of which no cell is frozen. -/
def Rs (G : Nat → Prop) (w : World) (v : Value) (xs : List Value) : Prop :=
  (v = .slice none 0 0 ∧ xs = []) ∨
  ∃ g cap, v = .slice (some ⟨g, 0, none⟩) xs.length cap ∧ G g ∧ g < w.heap.size ∧ xs.length ≤ cap ∧ cap ≤ maxLen ∧
    (∀ j, j < xs.length → w.cell? ⟨g, j, none⟩ = xs[j]?) ∧
    (∀ j, j < cap → (w.cell? ⟨g, j, none⟩).isSome = true ∧ w.frozen? ⟨g, j, none⟩ = false)

/-- The slice lies in block k. -/
def At (v : Value) (k : Nat) : Prop := ∃ n c, v = .slice (some ⟨k, 0, none⟩) n c

theorem Rs.nil (G : Nat → Prop) (w : World) : Rs G w (.slice none 0 0) [] := .inl ⟨rfl, rfl⟩

theorem Rs.carry {G : Nat → Prop} {w w' : World} {v : Value} {xs : List Value} (h : Rs G w v xs) (hs : w.heap.size ≤ w'.heap.size) (hb : ∀ k, G k → At v k → k < w.heap.size → w'.heap[k]? = w.heap[k]?) : Rs G w' v xs := by
  rcases h with h | ⟨g, cap, hv, hB, hg, hl, hm, hc, hf⟩
  · exact .inl h
  · have e := hb g hB ⟨_, _, hv⟩ hg
    refine .inr ⟨g, cap, hv, hB, Nat.lt_of_lt_of_le hg hs, hl, hm, fun j hj => ?_, fun j hj => ?_⟩
    · rw [World.cell?_of_block (a := ⟨g, j, none⟩) e]; exact hc j hj
    · rw [World.cell?_of_block (a := ⟨g, j, none⟩) e, World.frozen?_of_block (a := ⟨g, j, none⟩) e]; exact hf j hj

theorem Rs.alloc {G : Nat → Prop} {w : World} {v : Value} {xs : List Value} (h : Rs G w v xs) (o : Obj) : Rs G (w.alloc o) v xs :=
  h.carry (by simp) (fun k _ _ hk => Below.heap_alloc w o k hk)

theorem Rs.mono {G G' : Nat → Prop} {w : World} {v : Value} {xs : List Value} (h : Rs G w v xs) (hG : ∀ k, G k → At v k → G' k) : Rs G' w v xs := by
  rcases h with h | ⟨g, cap, hv, h1, hr⟩
  · exact .inl h
  · exact .inr ⟨g, cap, hv, hG g h1 ⟨_, _, hv⟩, hr⟩

/-- What turns not the slice's own block leaves the slice. -/
theorem Rs.keep {G H : Nat → Prop} {w w' : World} {v : Value} {xs : List Value} (h : Rs G w v xs) (hk : Keep H w w') (hd : ∀ k, G k → At v k → k < w.heap.size → ¬ H k) : Rs G w' v xs :=
  h.carry hk.size (fun k hg ha hs => hk.block k hs (hd k hg ha hs))
theorem Rs.at {G : Nat → Prop} {w : World} {v : Value} {xs : List Value} (h : Rs G w v xs) {k : Nat} (hk : At v k) : G k ∧ k < w.heap.size := by
  obtain ⟨n, c, e⟩ := hk
  rcases h with ⟨h, _⟩ | ⟨g, cap, hv, h1, h2, _⟩
  · rw [h] at e; cases e
  · rw [hv] at e
    obtain rfl : g = k := by
      have : (some (⟨g, 0, none⟩ : Addr)) = some ⟨k, 0, none⟩ := by injection e
      simpa using this
    exact ⟨h1, h2⟩

theorem add_lit (g j : Nat) : (⟨g, 0, none⟩ : Addr).add j = ⟨g, j, none⟩ := by unfold Addr.add; split <;> simp_all

/-- A slice as what is appended. -/
theorem Rs.src {P : Program} {t e : TypeId} (ht : P.underlying t = some (.slice e)) {G : Nat → Prop} {w : World} {v : Value} {xs : List Value} (h : Rs G w v xs) (h1 : ∀ u ∈ xs, u.oneCell' = true) : Src P 1 t v xs.length xs w := by
  rcases h with ⟨rfl, rfl⟩ | ⟨g, cap, rfl, hBg, hg, hlc, hm, hc, hf⟩
  · exact Src.ofNil w ht 0
  · refine Src.ofSlice w ht _ _ _ _ (by omega) (fun j u hu => ?_) h1
    have hj : j < xs.length := (List.getElem?_eq_some_iff.1 hu).1
    rw [add_lit, hc j hj, hu]

end Go.Proofs.YtdjddlebjbngfaaGreatDoor.H3

namespace Go.Proofs.YtdjddlebjbngfaaGreatDoor.H3
open Go.RowKit Go Go.Shelf

attribute [local go_sem] Oper.semAt_some wide_fn wide_depth

/-- Texts, as cells. -/
def strs (l : List ByteArray) : List Value := l.map Value.string
theorem strs_length (l : List ByteArray) : (strs l).length = l.length := by simp [strs]
end Go.Proofs.YtdjddlebjbngfaaGreatDoor.H3

namespace Go.Proofs.YtdjddlebjbngfaaGreatDoor.H3
open Go.RowKit Go

theorem Rs.block {G : Nat → Prop} {w : World} {v : Value} {l : List ByteArray} (h : Rs G w v (strs l)) (hl : 0 < l.length) : ∃ g c, v = .slice (some ⟨g, 0, none⟩) l.length c := by
  rcases h with ⟨_, h⟩ | ⟨g, cap, hv, _⟩
  · rw [← strs_length, h] at hl; cases hl
  · rw [strs_length] at hv; exact ⟨g, cap, hv⟩

end Go.Proofs.YtdjddlebjbngfaaGreatDoor.H3

namespace Go.Proofs.YtdjddlebjbngfaaGreatDoor.H3
open Go.RowKit Go Go.Shelf

attribute [local go_sem] Oper.semAt_some wide_fn wide_depth

end Go.Proofs.YtdjddlebjbngfaaGreatDoor.H3
