/-
  Hw.
-/
import Derived.Lib.DecodeN
import Derived.RangeFuncRecord
import Derived.RangeFuncSeq
import Derived.RangeFuncCalls
import Derived.Shelf.Abstract
import Derived.WalkKit
import Derived.OrdersIn
import Derived.Test.YtoobjjpheegmdaaGreatRows
import Derived.WalkSpells
import Derived.WalkLawsBesides
import Derived.Deep.QuietTactic
import Derived.BigQuiet
import Derived.Lib.Hide
import Derived.Lib.OthersKept
import Derived.Outline
import Derived.OwnWalkIn
import Derived.TacticsInMore
import Derived.LoopNIn
import Derived.LoopIn
import Derived.RangeFuncLeaves
import Derived.Deep.AppendSrc
import Derived.Deep.Upon
namespace Go.Proofs.YtoobjjpheegmdaaGreat.H3.M
open Go
def letter (c : Nat) : Bool := if 128 ≤ c then c != 65533 else (decide (97 ≤ c) && decide (c ≤ 122)) || (decide (65 ≤ c) && decide (c ≤ 90)) || (decide (48 ≤ c) && decide (c ≤ 57)) || c == 95
def dec (l : List UInt8) : Nat × Nat := Lib.decodeN l.length (l.getD 0 0).toNat (l.getD 1 0).toNat (l.getD 2 0).toNat (l.getD 3 0).toNat
theorem get_getD (s : ByteArray) (i : Nat) : s.get! i = s.data.toList.getD i 0 := by
  simp only [ByteArray.get!, List.getD_eq_getElem?_getD, Array.getElem?_toList]
  rw [getElem!_def]
  cases s.data[i]? <;> rfl
theorem dec_at (s : ByteArray) (i : Nat) : Utf8.decode s i = dec (s.data.toList.drop i) := by
  have e : ∀ k, s.get! (i + k) = (s.data.toList.drop i).getD k 0 := fun k => by
    rw [get_getD]
    simp [List.getD_eq_getElem?_getD]
  have e0 := e 0
  rw [Nat.add_zero] at e0
  rw [Lib.decode_at s i, e0, e 1, e 2, e 3]
  unfold dec
  rw [List.length_drop]
  rfl
theorem dec_pos (l : List UInt8) : 1 ≤ (dec l).2 := by
  unfold dec Lib.decodeN
  repeat' split
  all_goals simp
theorem dec_le (l : List UInt8) (h : l ≠ []) : (dec l).2 ≤ l.length := by
  have hp := List.length_pos_iff.2 h
  unfold dec Lib.decodeN
  repeat' split
  all_goals simp only
  all_goals omega
def fin (cur : List UInt8) : List (List UInt8) := if cur = [] then [] else [cur]
def wf : Nat → List UInt8 → List UInt8 → List (List UInt8)
  | 0, _, cur => fin cur
  | f + 1, l, cur => if l = [] then fin cur else if letter (dec l).1 = true then wf f (l.drop (dec l).2) (cur ++ l.take (dec l).2) else fin cur ++ wf f (l.drop (dec l).2) []
theorem drop_lt (l : List UInt8) (h : l ≠ []) : (l.drop (dec l).2).length < l.length := by
  have := dec_pos l
  have := List.length_pos_iff.2 h
  rw [List.length_drop]
  omega
theorem wf_fuel : ∀ (n : Nat) (l cur : List UInt8) (f g : Nat), l.length ≤ n → l.length ≤ f → l.length ≤ g → wf f l cur = wf g l cur := by
  intro n
  induction n with
  | zero =>
    intro l cur f g h _ _
    obtain rfl := List.length_eq_zero_iff.1 (Nat.le_zero.1 h)
    cases f <;> cases g <;> simp [wf]
  | succ n ih =>
    intro l cur f g h hf hg
    by_cases hl : l = []
    · subst hl; cases f <;> cases g <;> simp [wf]
    · have hd := drop_lt l hl
      have hp := List.length_pos_iff.2 hl
      obtain ⟨f, rfl⟩ : ∃ k, f = k + 1 := ⟨f - 1, by omega⟩
      obtain ⟨g, rfl⟩ : ∃ k, g = k + 1 := ⟨g - 1, by omega⟩
      simp only [wf, if_neg hl]
      rw [ih _ _ f g (by omega) (by omega) (by omega), ih _ [] f g (by omega) (by omega) (by omega)]
def W (l cur : List UInt8) : List (List UInt8) := wf l.length l cur
def words (l : List UInt8) : List (List UInt8) := W l []
theorem W_nil (cur : List UInt8) : W [] cur = fin cur := rfl
theorem W_letter (l cur : List UInt8) (hl : l ≠ []) (h : letter (dec l).1 = true) : W l cur = W (l.drop (dec l).2) (cur ++ l.take (dec l).2) := by
  have hd := drop_lt l hl
  have hp := List.length_pos_iff.2 hl
  unfold W
  obtain ⟨n, hn⟩ : ∃ n, l.length = n + 1 := ⟨l.length - 1, by omega⟩
  rw [hn]
  simp only [wf, if_neg hl, if_pos h]
  exact wf_fuel n _ _ _ _ (by omega) (by omega) (Nat.le_refl _)
theorem W_other (l cur : List UInt8) (hl : l ≠ []) (h : letter (dec l).1 = false) : W l cur = fin cur ++ W (l.drop (dec l).2) [] := by
  have hd := drop_lt l hl
  have hp := List.length_pos_iff.2 hl
  unfold W
  obtain ⟨n, hn⟩ : ∃ n, l.length = n + 1 := ⟨l.length - 1, by omega⟩
  rw [hn]
  simp only [wf, if_neg hl, h, Bool.false_eq_true, if_false]
  rw [wf_fuel n _ [] _ _ (by omega) (by omega) (Nat.le_refl _)]
def finp : Option Nat → Nat → List (Nat × Nat)
  | none, _ => []
  | some k, to => [(k, to)]
def pf : Nat → List UInt8 → Nat → Option Nat → List (Nat × Nat)
  | 0, l, _, fr => finp fr l.length
  | f + 1, l, pos, fr => if pos < l.length then
      (if letter (dec (l.drop pos)).1 = true then pf f l (pos + (dec (l.drop pos)).2) (some (fr.getD pos)) else finp fr pos ++ pf f l (pos + (dec (l.drop pos)).2) none)
    else finp fr l.length
theorem dec_drop {l : List UInt8} {pos : Nat} (h : pos < l.length) : 1 ≤ (dec (l.drop pos)).2 ∧ pos + (dec (l.drop pos)).2 ≤ l.length := by
  have h1 := dec_pos (l.drop pos)
  have h2 := dec_le (l.drop pos) (by intro e; have := congrArg List.length e; simp at this; omega)
  rw [List.length_drop] at h2
  omega
theorem pf_fuel : ∀ (n : Nat) (l : List UInt8) (pos : Nat) (fr : Option Nat) (f g : Nat), l.length ≤ pos + n → l.length ≤ pos + f → l.length ≤ pos + g → pf f l pos fr = pf g l pos fr := by
  intro n
  induction n with
  | zero =>
    intro l pos fr f g h _ _
    have : ¬ pos < l.length := by omega
    cases f <;> cases g <;> simp [pf, this]
  | succ n ih =>
    intro l pos fr f g h hf hg
    by_cases hl : pos < l.length
    · have hd := dec_drop hl
      obtain ⟨f, rfl⟩ : ∃ k, f = k + 1 := ⟨f - 1, by omega⟩
      obtain ⟨g, rfl⟩ : ∃ k, g = k + 1 := ⟨g - 1, by omega⟩
      simp only [pf, if_pos hl]
      rw [ih l _ _ f g (by omega) (by omega) (by omega), ih l _ none f g (by omega) (by omega) (by omega)]
    · cases f <;> cases g <;> simp [pf, hl]
def P (l : List UInt8) (pos : Nat) (fr : Option Nat) : List (Nat × Nat) := pf l.length l pos fr
def places (l : List UInt8) : List (Nat × Nat) := P l 0 none
theorem P_end {l : List UInt8} {pos : Nat} (fr : Option Nat) (h : ¬ pos < l.length) : P l pos fr = finp fr l.length := by
  unfold P
  rw [pf_fuel l.length l pos fr l.length 0 (by omega) (by omega) (by omega)]
  rfl
theorem P_letter {l : List UInt8} {pos : Nat} (fr : Option Nat) (h : pos < l.length) (hlt : letter (dec (l.drop pos)).1 = true) : P l pos fr = P l (pos + (dec (l.drop pos)).2) (some (fr.getD pos)) := by
  have hd := dec_drop h
  unfold P
  rw [pf_fuel l.length l pos fr l.length (l.length + 1) (by omega) (by omega) (by omega)]
  simp only [pf, if_pos h, if_pos hlt]
theorem P_other {l : List UInt8} {pos : Nat} (fr : Option Nat) (h : pos < l.length) (hlt : letter (dec (l.drop pos)).1 = false) : P l pos fr = finp fr pos ++ P l (pos + (dec (l.drop pos)).2) none := by
  have hd := dec_drop h
  unfold P
  rw [pf_fuel l.length l pos fr l.length (l.length + 1) (by omega) (by omega) (by omega)]
  simp only [pf, if_pos h, hlt, Bool.false_eq_true, if_false]
def piece (l : List UInt8) (p : Nat × Nat) : List UInt8 := (l.take p.2).drop p.1
def soFar (l : List UInt8) (pos : Nat) : Option Nat → List UInt8
  | none => []
  | some k => piece l (k, pos)
theorem finp_fin (l : List UInt8) (pos : Nat) (hp : pos ≤ l.length) (fr : Option Nat) (hk : ∀ k, fr = some k → k < pos) : (finp fr pos).map (piece l) = fin (soFar l pos fr) := by
  cases fr with
  | none => rfl
  | some k =>
    have := hk k rfl
    have hne : piece l (k, pos) ≠ [] := fun e => by
      have := congrArg List.length e
      simp [piece] at this
      omega
    simp [finp, soFar, fin, hne]
theorem P_words : ∀ (n : Nat) (l : List UInt8) (pos : Nat) (fr : Option Nat), l.length ≤ pos + n → pos ≤ l.length → (∀ k, fr = some k → k < pos) → (P l pos fr).map (piece l) = W (l.drop pos) (soFar l pos fr) := by
  intro n
  induction n with
  | zero =>
    intro l pos fr h hp hk
    obtain rfl : pos = l.length := by omega
    rw [P_end fr (by omega), List.drop_length, W_nil]
    exact finp_fin l l.length (Nat.le_refl _) fr hk
  | succ n ih =>
    intro l pos fr h hp hk
    by_cases hl : pos < l.length
    · have hd := dec_drop hl
      have hne : l.drop pos ≠ [] := fun e => by have := congrArg List.length e; simp at this; omega
      by_cases hlt : letter (dec (l.drop pos)).1 = true
      · rw [P_letter fr hl hlt, W_letter _ _ hne hlt, ih l _ _ (by omega) (by omega) (fun k hk' => by
          simp at hk'
          subst hk'
          cases fr with
          | none => simp; omega
          | some j => have := hk j rfl; simp; omega), List.drop_drop]
        congr 1
        cases fr with
        | none =>
          simp only [soFar, Option.getD_none, piece, List.nil_append, List.drop_take]
          congr 1
          omega
        | some j =>
          have := hk j rfl
          simp only [soFar, Option.getD_some, piece]
          rw [List.drop_take, List.drop_take]
          have e1 : l.drop pos = (l.drop j).drop (pos - j) := by rw [List.drop_drop]; congr 1; omega
          have e2 : pos + (dec (l.drop pos)).2 - j = (pos - j) + (dec (l.drop pos)).2 := by omega
          rw [e2, List.take_add, ← e1]
      · have hlt := Bool.eq_false_iff.2 hlt
        rw [P_other fr hl hlt, W_other _ _ hne hlt, List.map_append, ih l _ none (by omega) (by omega) (fun k h => by cases h), List.drop_drop, finp_fin l pos hp fr hk]
        rfl
    · obtain rfl : pos = l.length := by omega
      rw [P_end fr (by omega), List.drop_length, W_nil]
      exact finp_fin l l.length (Nat.le_refl _) fr hk
theorem places_words (l : List UInt8) : (places l).map (piece l) = words l := by
  have := P_words l.length l 0 none (by omega) (by omega) (fun k h => by cases h)
  rwa [List.drop_zero] at this
def Fits (l : List UInt8) (p : Nat × Nat) : Prop := p.1 < p.2 ∧ p.2 ≤ l.length
theorem P_fits : ∀ (n : Nat) (l : List UInt8) (pos : Nat) (fr : Option Nat), l.length ≤ pos + n → pos ≤ l.length → (∀ k, fr = some k → k < pos) → ∀ p ∈ P l pos fr, Fits l p := by
  have hf : ∀ (l : List UInt8) (pos : Nat) (fr : Option Nat), pos ≤ l.length → (∀ k, fr = some k → k < pos) → ∀ p ∈ finp fr pos, Fits l p := by
    intro l pos fr hp hk p h
    cases fr with
    | none => cases h
    | some k => obtain rfl := List.mem_singleton.1 h; exact ⟨hk k rfl, hp⟩
  intro n
  induction n with
  | zero =>
    intro l pos fr h hp hk p hm
    obtain rfl : pos = l.length := by omega
    rw [P_end fr (by omega)] at hm
    exact hf l _ fr hp hk p hm
  | succ n ih =>
    intro l pos fr h hp hk p hm
    by_cases hl : pos < l.length
    · have hd := dec_drop hl
      by_cases hlt : letter (dec (l.drop pos)).1 = true
      · rw [P_letter fr hl hlt] at hm
        exact ih l _ _ (by omega) (by omega) (fun k hk' => by
          simp at hk'
          subst hk'
          cases fr with
          | none => simp; omega
          | some j => have := hk j rfl; simp; omega) p hm
      · rw [P_other fr hl (Bool.eq_false_iff.2 hlt)] at hm
        rcases List.mem_append.1 hm with hm | hm
        · exact hf l pos fr hp hk p hm
        · exact ih l _ none (by omega) (by omega) (fun k h => by cases h) p hm
    · obtain rfl : pos = l.length := by omega
      rw [P_end fr (by omega)] at hm
      exact hf l _ fr hp hk p hm
theorem places_fits (l : List UInt8) : ∀ p ∈ places l, Fits l p := P_fits l.length l 0 none (by omega) (by omega) (fun k h => by cases h)
theorem W_length : ∀ (n : Nat) (l cur : List UInt8), l.length ≤ n → (W l cur).length ≤ l.length + (if cur = [] then 0 else 1) := by
  have hf : ∀ cur : List UInt8, (fin cur).length = if cur = [] then 0 else 1 := fun cur => by unfold fin; split <;> rfl
  intro n
  induction n with
  | zero =>
    intro l cur h
    obtain rfl := List.length_eq_zero_iff.1 (Nat.le_zero.1 h)
    rw [W_nil, hf]; omega
  | succ n ih =>
    intro l cur h
    by_cases hl : l = []
    · subst hl; rw [W_nil, hf]; omega
    · have hd := drop_lt l hl
      by_cases hlt : letter (dec l).1 = true
      · rw [W_letter _ _ hl hlt]
        have := ih (l.drop (dec l).2) (cur ++ l.take (dec l).2) (by omega)
        split at this <;> split <;> omega
      · rw [W_other _ _ hl (Bool.eq_false_iff.2 hlt), List.length_append, hf]
        have := ih (l.drop (dec l).2) [] (by omega)
        rw [if_pos rfl] at this
        split <;> omega
theorem words_length (l : List UInt8) : (words l).length ≤ l.length := by
  have := W_length l.length l [] (Nat.le_refl _)
  rw [if_pos rfl] at this
  exact this
end Go.Proofs.YtoobjjpheegmdaaGreat.H3.M
namespace Go.Proofs.YtoobjjpheegmdaaGreat.H3
open Go.RowKit Go
structure Keep (G : Nat → Prop) (w w' : World) : Prop where
  os : w'.os = w.os
  tape : w'.tape = w.tape
  output : w'.output = w.output
  size : w.heap.size ≤ w'.heap.size
  block : ∀ k, k < w.heap.size → ¬ G k → w'.heap[k]? = w.heap[k]?
theorem Keep.refl (G : Nat → Prop) (w : World) : Keep G w w := ⟨rfl, rfl, rfl, Nat.le_refl _, fun _ _ _ => rfl⟩
theorem Keep.trans {G : Nat → Prop} {a b c : World} (h : Keep G a b) (k : Keep G b c) : Keep G a c :=
  ⟨k.os.trans h.os, k.tape.trans h.tape, k.output.trans h.output, Nat.le_trans h.size k.size, fun i hi hn => (k.block i (Nat.lt_of_lt_of_le hi h.size) hn).trans (h.block i hi hn)⟩
theorem Keep.mono {G H : Nat → Prop} {a b : World} (h : Keep G a b) (hGH : ∀ k, k < a.heap.size → G k → H k) : Keep H a b :=
  ⟨h.os, h.tape, h.output, h.size, fun k hk hn => h.block k hk (fun hg => hn (hGH k hk hg))⟩
theorem Keep.alloc {G : Nat → Prop} {a w : World} (h : Keep G a w) (o : Obj) : Keep G a (w.alloc o) :=
  h.trans ⟨rfl, rfl, rfl, by simp, fun k hk _ => Below.heap_alloc _ _ _ hk⟩
theorem Keep.drew {G : Nat → Prop} {a w : World} (h : Keep G a w) : Keep G a w.drew := ⟨h.os, h.tape, h.output, h.size, h.block⟩
theorem Keep.put {G : Nat → Prop} {a w : World} (h : Keep G a w) {r : Nat} (o : Obj) (hr : r < a.heap.size → G r) : Keep G a (w.putObj r o) :=
  ⟨h.os, h.tape, h.output, by simpa using h.size, fun k hk hn => by
    rw [World.putObj_heap_other (fun e => hn (by subst e; exact hr hk))]
    exact h.block k hk hn⟩
theorem Keep.below {G : Nat → Prop} {B : Nat} {w w' : World} (h : Keep G w w') (hG : ∀ k, G k → B ≤ k) (hB : B ≤ w.heap.size) : Below B w w' :=
  ⟨h.os, h.tape, h.output, h.size, fun k hk => h.block k (by omega) (fun hg => by have := hG k hg; omega)⟩
def Live (G : Nat → Prop) (w : World) : Prop := ∀ k, G k → k < w.heap.size
abbrev Stance := (Nat → Prop) → World → Prop
def Stable (J : Stance) : Prop := ∀ G W W', J G W → Live G W → Keep (fun k => ¬ G k) W W' → J G W'
def Next (J : Stance) (G : Nat → Prop) (W W' : World) : Prop :=
  ∃ G', J G' W' ∧ Live G' W' ∧ (∀ k, G' k → G k ∨ W.heap.size ≤ k) ∧ Keep G W W'
theorem Next.keep {J : Stance} {G : Nat → Prop} {W W' : World} (h : Next J G W W') : Keep G W W' := h.elim fun _ h => h.2.2.2
theorem Next.mk {J : Stance} {G : Nat → Prop} {W W' : World} (G' : Nat → Prop) (hJ : J G' W') (hL : Live G' W') (hG : ∀ k, G' k → G k ∨ W.heap.size ≤ k) (hK : Keep G W W') : Next J G W W' := ⟨G', hJ, hL, hG, hK⟩
theorem Next.from {J : Stance} {G H : Nat → Prop} {A W W' : World} (hG : ∀ k, G k → H k ∨ A.heap.size ≤ k) (hK : Keep H A W) (h : Next J G W W') : Next J H A W' := by
  obtain ⟨G', hJ, hL, hg, hk⟩ := h
  refine ⟨G', hJ, hL, fun k hk' => ?_, hk.os.trans hK.os, hk.tape.trans hK.tape, hk.output.trans hK.output, Nat.le_trans hK.size hk.size, fun k hk' hn => ?_⟩
  · rcases hg k hk' with h | h
    · exact hG k h
    · exact .inr (Nat.le_trans hK.size h)
  · have hng : ¬ G k := fun hgk => by
      rcases hG k hgk with h | h
      · exact hn h
      · omega
    exact (hk.block k (Nat.lt_of_lt_of_le hk' hK.size) hng).trans (hK.block k hk' hn)
theorem Keep.after {G H : Nat → Prop} {A W W' : World} (hG : ∀ k, G k → H k ∨ A.heap.size ≤ k) (hK : Keep H A W) (hk : Keep G W W') : Keep H A W' :=
  (Next.from (J := fun _ _ => True) hG hK ⟨fun _ => False, trivial, fun _ h => h.elim, fun _ h => h.elim, hk⟩).keep
def Left (J : Stance) (G : Nat → Prop) (W W' : World) (D : Nat) : Prop :=
  ∃ G', J G' W' ∧ Live G' W' ∧ (∀ k, G' k → G k ∨ W.heap.size ≤ k) ∧ Keep G W W' ∧ W.heap.size ≤ D ∧ ¬ G' D ∧ W'.heap[D]? = some (.deferred (some []))
theorem Left.shut {J : Stance} {G : Nat → Prop} {W W' : World} {D : Nat} (h : Left J G W W' D) (hJ : Stable J) : Next J G W (W'.putObj D (.deferred none)) := by
  obtain ⟨G', h1, h2, h3, h4, h5, h6, h7⟩ := h
  exact ⟨G', hJ G' _ _ h1 h2 ((Keep.refl _ _).put _ (fun _ => h6)), fun k hk => by rw [World.putObj_size]; exact h2 k hk, h3, h4.put _ (fun h => by omega)⟩
theorem Left.takes {J : Stance} {G : Nat → Prop} {P : Program} {W W' : World} {D : Nat} (h : Left J G W W' D) : (Instr.takeDeferred D).run P W' = .ok [] (W'.putObj D (.deferred none)) := by
  obtain ⟨G', h1, h2, h3, h4, h5, h6, h7⟩ := h
  exact run_takeDeferred h7
def Gives {α : Type} (P : Program) (g : Nat) (lb : Array Value) (C : Nat → Prop) (encs : α → Array Value) (xs : List α) (w0 : World) : Prop :=
  ∀ (l : Nat) (J Jx : List α → Stance) (G : Nat → Prop) (W : World), Keep (fun k => ¬ C k) w0 W → (∀ k, C k → ¬ G k) → (∀ s, Stable (J s)) → (∀ s, Stable (Jx s)) →
    (∀ pre x G1 W1, pre ++ [x] <+: xs → J pre G1 W1 → Live G1 W1 → ∀ n, YieldAt Fence.wide n P l (encs x) W1 fun e W' =>
      (e = .returned (.bool true) ∧ Next (J (pre ++ [x])) G1 W1 W') ∨ (e = .returned (.bool false) ∧ Next (Jx (pre ++ [x])) G1 W1 W')) →
    J [] G W → Live G W →
    Calls P g (#[.func (.yield l) #[] #[]] ++ lb) W fun e W' => (∃ v, e = .returned v) ∧ (Next (J xs) G W W' ∨ ∃ pre, pre <+: xs ∧ Next (Jx pre) G W W')
def roundEnd {α : Type} (I : List α → Stance) (Ix : Code → List α → Stance) (xs : List α) (G : Nat → Prop) (W : World) : Exit → Act → World → Prop
  | .normal, _, W' => Next (I xs) G W W'
  | .ret, _, W' => Next (Ix .ret xs) G W W'
  | .exit id, _, W' => Next (Ix (.exit id) xs) G W W'
  | .goto t, _, W' => Next (Ix (.goto t) xs) G W W'
  | .panic _, _, _ => False
  | .outgrown, _, _ => False
def withLoop (I : Stance) (L D : Nat) (o : Obj) : Stance := fun G W =>
  ∃ G', I G' W ∧ Live G' W ∧ G = (fun k => G' k ∨ k = L ∨ k = D) ∧ ¬ G' L ∧ ¬ G' D ∧ W.heap[L]? = some o ∧ W.heap[D]? = some (.deferred (some []))
theorem withLoop_stable {I : Stance} (hI : Stable I) (L D : Nat) (o : Obj) : Stable (withLoop I L D o) := by
  rintro G W W' ⟨G', h1, h2, rfl, h4, h5, h6, h7⟩ hL hk
  refine ⟨G', hI G' W W' h1 h2 (hk.mono fun k _ hn hg => hn (.inl hg)), fun k hg => Nat.lt_of_lt_of_le (h2 k hg) hk.size, rfl, h4, h5, ?_, ?_⟩
  · rw [hk.block L (hL L (.inr (.inl rfl))) (fun hn => hn (.inr (.inl rfl)))]; exact h6
  · rw [hk.block D (hL D (.inr (.inr rfl))) (fun hn => hn (.inr (.inr rfl)))]; exact h7
theorem round_any {n m : Nat} {P : Program} {l : Nat} {f : FuncId} {tmps : Array Value} {assign body : Code} {w : World} {R : Ending → World → Prop} (h : RoundIn Fence.wide n P l f tmps assign body w R) : RoundIn Fence.wide m P l f tmps assign body w R :=
  ⟨trivial, fun c cs _ => h.2 c cs (room_wide _)⟩
theorem round_in {n : Nat} {P : Program} {l l2 : Nat} {f : FuncId} {tmps : Array Value} {assign body : Code} {w : World} {R : Ending → World → Prop} (h : RoundIn Fence.wide n P l f tmps assign body w R) : RoundIn (Fence.wide.inRound l2) n P l f tmps assign body w R := h
theorem Next.imp {J J' : Stance} {G : Nat → Prop} {W W' : World} (h : Next J G W W') (hJ : ∀ G W, J G W → J' G W) : Next J' G W W' := by
  obtain ⟨G', h1, h2⟩ := h
  exact ⟨G', hJ _ _ h1, h2⟩
theorem wpIn_over {α : Type} {P : Program} {n : Nat} {g : Operand} {ps : Array Tmp} {assign body : Code} {Q : Exit → Act → World → Prop} {a : Act} {w : World}
    {gf : Nat} {lb : Array Value} (hg : a.eval g = .func (.func gf) #[] lb) (eg : ∀ args w, (callFunc gf args).run P w = .ok (.enter gf args) w)
    {C : Nat → Prop} {encs : α → Array Value} {xs : List α} (hseq : Gives P gf lb C encs xs w) (hC : ∀ k, C k → k < w.heap.size) (hps : ∀ x, (encs x).size = ps.size)
    (I : List α → Stance) (Ix : Code → List α → Stance) (hI : ∀ s, Stable (I s)) (hIx : ∀ c s, Stable (Ix c s)) (G : Nat → Prop) (hGC : ∀ k, C k → ¬ G k) (h0 : I [] G w) (hl : Live G w)
    (a₁ : α → Act)
    (hassign : ∀ (l : Nat) (x : α) (W : World) (K : Act → World → Prop), K (a₁ x) W →
      assign.wpIn (Fence.wide.inRound l) (n - 1 - 1) P (Exit.then K (fun _ _ _ => False)) { tmps := (ps.zip (encs x)).foldl (fun t (p, v) => t.setIfInBounds p v) a.tmps, defers := [] } W)
    (hbody : ∀ (l : Nat) (pre : List α) (x : α) (G1 : Nat → Prop) (W : World), pre ++ [x] <+: xs → I pre G1 W → Live G1 W → body.wpIn (Fence.wide.inRound l) (n - 1 - 1) P (roundEnd I Ix (pre ++ [x]) G1 W) (a₁ x) W)
    (hdone : ∀ (D : Nat) (W : World), Left (I xs) G w W D → Q .normal { a with defers := { target := .collected D, args := #[] } :: a.defers } W)
    (hstop : ∀ (D : Nat) (c : Code) (pre : List α) (W : World), pre <+: xs → Left (Ix c pre) G w W D → c.wpIn Fence.wide n P Q { a with defers := { target := .collected D, args := #[] } :: a.defers } W) :
    (Code.rangeFunc g ps assign body).wpIn Fence.wide n P Q a w := by
  refine wpIn_rangeFunc ?_
  intro fn _
  have hro : Fence.wide.round = none := rfl
  rw [hro]
  obtain ⟨rec, hrec⟩ : ∃ rec : LoopState → Option Code → Loop, rec = fun st pe => { state := st, pending := pe, fn, tmps := a.tmps, params := ps, assign, body, defers := w.heap.size } := ⟨_, rfl⟩
  obtain ⟨W1, hW1⟩ : ∃ W1, (w.alloc (.deferred (some []))).alloc (.loop (rec .ready none)) = W1 := ⟨_, rfl⟩
  have hL1 : W1.heap[w.heap.size + 1]? = some (.loop (rec .ready none)) := by
    rw [← hW1]
    have := World.alloc_heap_new (w.alloc (.deferred (some []))) (.loop (rec .ready none))
    rwa [World.size_alloc] at this
  have hD1 : W1.heap[w.heap.size]? = some (.deferred (some [])) := by
    rw [← hW1]
    exact (Below.heap_alloc _ _ _ (by simp)).trans (World.alloc_heap_new w _)
  have hK1 : ∀ H, Keep H w W1 := fun H => by rw [← hW1]; exact ((Keep.refl H w).alloc _).alloc _
  have hsz1 : W1.heap.size = w.heap.size + 2 := by rw [← hW1]; simp
  have hnL : ¬ G (w.heap.size + 1) := fun h => by have := hl _ h; omega
  have hnD : ¬ G w.heap.size := fun h => by have := hl _ h; omega
  refine ⟨w.heap.size + 1, [{ target := .collected w.heap.size, args := #[] }], W1, { target := .fn (.func gf) lb, args := #[.func (.yield (w.heap.size + 1)) #[] #[]] }, W1, gf,
    #[.func (.yield (w.heap.size + 1)) #[] #[]] ++ lb, W1, ?_, ?_, fun _ _ => trivial, ?_, (fun h => by cases h), ?_⟩
  · rw [← hW1, hrec]; exact run_enterLoop_outer _ _ _ _ _
  · simp only [resolve, hg]
    simp [go_sem]
  · simp [invoke, go_sem, eg]
  · refine callsIn_wide.2 ((hseq (w.heap.size + 1) (fun pre => withLoop (I pre) (w.heap.size + 1) w.heap.size (.loop (rec .ready none)))
      (fun pre G' W => ∃ c, withLoop (Ix c pre) (w.heap.size + 1) w.heap.size (.loop (rec .done (some c))) G' W)
      (fun k => G k ∨ k = w.heap.size + 1 ∨ k = w.heap.size) W1 (hK1 _) (fun k hc hg' => ?_) (fun s => withLoop_stable (hI s) _ _ _)
      (fun s G' W W' ⟨c, hc⟩ hL hk => ⟨c, withLoop_stable (hIx c s) _ _ _ G' W W' hc hL hk⟩) ?round
      ⟨G, hI [] G w W1 h0 hl (hK1 _), fun k hk => by have := hl k hk; omega, rfl, hnL, hnD, hL1, hD1⟩ (fun k hk => by
        rcases hk with hk | rfl | rfl
        · have := hl k hk; omega
        · omega
        · omega)).mono ?behind)
    · rcases hg' with hg' | rfl | rfl
      · exact hGC k hc hg'
      · have := hC _ hc; omega
      · have := hC _ hc; omega
    case round =>
      rintro pre x G1 W hpx ⟨G', hi, hlv, rfl, hnl, hnd, hL, hD⟩ _ m
      have hlt : w.heap.size + 1 < W.heap.size := (Array.getElem?_eq_some_iff.1 hL).1
      have hy := run_yield (P := P) (args := encs x) hL (by rw [hrec]; exact hps x)
      rw [hrec] at hy
      refine ⟨fn, _, assign, body, hy, round_any (n := n - 1 - 1) (roundIn_of_wpIn (F := Fence.wide) trivial (hassign _ x W _ ⟨_, run_beginRound hL (by rw [hrec]), ?_⟩))⟩
      obtain ⟨W2, hW2⟩ : ∃ W2, W.putObj (w.heap.size + 1) (.loop { rec .ready none with state := .busy }) = W2 := ⟨_, rfl⟩
      have hL2 : W2.heap[w.heap.size + 1]? = some (.loop { rec .ready none with state := .busy }) := by rw [← hW2]; exact World.putObj_heap_same hlt
      have hD2 : W2.heap[w.heap.size]? = some (.deferred (some [])) := by rw [← hW2]; exact (World.putObj_heap_other (by omega)).trans hD
      have hsz2 : W2.heap.size = W.heap.size := by rw [← hW2]; simp
      have hk2 : ∀ H, H (w.heap.size + 1) → Keep H W W2 := fun H hH => by rw [← hW2]; exact (Keep.refl _ _).put _ (fun _ => hH)
      rw [hW2]
      refine wpIn_mono (hbody _ pre x G' W2 hpx (hI pre G' W W2 hi hlv (hk2 _ hnl)) (fun k hk => by rw [hsz2]; exact hlv k hk)) ?_
      have fin : ∀ (J : Stance) (jump : Option Code) (W3 : World), Stable J → Next J G' W2 W3 →
          (Instr.endRound (w.heap.size + 1) jump).run P W3 = .ok (.bool jump.isNone) (W3.putObj (w.heap.size + 1) (.loop (rec (if jump.isNone then .ready else .done) jump))) ∧
          Next (withLoop J (w.heap.size + 1) w.heap.size (.loop (rec (if jump.isNone then .ready else .done) jump))) (fun k => G' k ∨ k = w.heap.size + 1 ∨ k = w.heap.size) W (W3.putObj (w.heap.size + 1) (.loop (rec (if jump.isNone then .ready else .done) jump))) := by
        intro J jump W3 hJs hn
        obtain ⟨G3, hJ3, hl3, hg3, hk3⟩ := hn
        have hL3 := (hk3.block _ (by omega) hnl).trans hL2
        have hD3 := (hk3.block _ (by omega) hnd).trans hD2
        have hlt3 := (Array.getElem?_eq_some_iff.1 hL3).1
        have hn3 : ¬ G3 (w.heap.size + 1) := fun h => (hg3 _ h).elim (fun h => hnl h) (fun h => by omega)
        have hn3d : ¬ G3 w.heap.size := fun h => (hg3 _ h).elim (fun h => hnd h) (fun h => by omega)
        have he := run_endRound (P := P) jump hL3
        rw [hrec] at he ⊢
        refine ⟨he, fun k => G3 k ∨ k = w.heap.size + 1 ∨ k = w.heap.size, ⟨G3, hJs G3 _ _ hJ3 hl3 ((Keep.refl _ _).put _ (fun _ => hn3)), fun k hk => by rw [World.putObj_size]; exact hl3 k hk, rfl, hn3, hn3d, World.putObj_heap_same hlt3, (World.putObj_heap_other (by omega)).trans hD3⟩,
          fun k hk => ?_, fun k hk => ?_, ?_⟩
        · rw [World.putObj_size]
          rcases hk with hk | rfl | rfl
          · exact hl3 k hk
          · exact hlt3
          · omega
        · rcases hk with hk | hk
          · rcases hg3 k hk with h | h
            · exact .inl (.inl h)
            · exact .inr (by omega)
          · exact .inl (.inr hk)
        · refine Keep.put ?_ _ (fun _ => .inr (.inl rfl))
          exact (hk2 _ (.inr (.inl rfl))).trans (hk3.mono fun k _ h => .inl h)
      rintro e a3 W3 hp
      cases e with
      | normal => obtain ⟨h1, h2⟩ := fin _ none W3 (hI _) hp; exact ⟨_, _, h1, .inl ⟨rfl, h2⟩⟩
      | ret =>
        obtain ⟨h1, G4, h2, h3⟩ := fin _ (some .ret) W3 (hIx .ret _) hp
        exact ⟨_, _, h1, .inr ⟨rfl, G4, ⟨.ret, h2⟩, h3⟩⟩
      | exit id =>
        obtain ⟨h1, G4, h2, h3⟩ := fin _ (some (.exit id)) W3 (hIx (.exit id) _) hp
        exact ⟨_, _, h1, .inr ⟨rfl, G4, ⟨.exit id, h2⟩, h3⟩⟩
      | goto t =>
        obtain ⟨h1, G4, h2, h3⟩ := fin _ (some (.goto t)) W3 (hIx (.goto t) _) hp
        exact ⟨_, _, h1, .inr ⟨rfl, G4, ⟨.goto t, h2⟩, h3⟩⟩
      | panic ch => exact hp.elim
      | outgrown => exact hp.elim
    case behind =>
      have out : ∀ (J : Stance) (st : LoopState) (jump : Option Code) (W3 : World), Stable J → st ≠ .busy → Next (withLoop J (w.heap.size + 1) w.heap.size (.loop (rec st jump))) (fun k => G k ∨ k = w.heap.size + 1 ∨ k = w.heap.size) W1 W3 →
          ∃ W4, (Instr.endLoop (w.heap.size + 1)).run P W3 = .ok jump W4 ∧ Left J G w W4 w.heap.size := by
        rintro J st jump W3 hJs hst ⟨_, ⟨G3, hJ3, hl3, rfl, hn3, hn3d, hL3, hD3⟩, _, hg3, hk3⟩
        have he := run_endLoop (P := P) hL3 (by rw [hrec]; exact hst)
        have hp : (rec st jump).pending = jump := by rw [hrec]
        rw [hp] at he
        refine ⟨_, he, G3, hJs G3 _ _ hJ3 hl3 ((Keep.refl _ _).put _ (fun _ => hn3)), fun k hk => by rw [World.putObj_size]; exact hl3 k hk, fun k hk => ?_, ?_, Nat.le_refl _, hn3d, (World.putObj_heap_other (by omega)).trans hD3⟩
        · rcases hg3 k (.inl hk) with (h | rfl | rfl) | h
          · exact .inl h
          · exact .inr (by omega)
          · exact .inr (by omega)
          · exact .inr (by omega)
        · refine Keep.put (Keep.after (fun k hk => ?_) (hK1 G) hk3) _ (fun h => by omega)
          rcases hk with hk | rfl | rfl
          · exact .inl hk
          · exact .inr (by omega)
          · exact .inr (by omega)
      rintro e W2 ⟨⟨v, rfl⟩, (hn | ⟨pre, hpre, G2, ⟨c, hc⟩, hr⟩)⟩
      · obtain ⟨W4, he, hlf⟩ := out _ .ready none W2 (hI _) (by simp) hn
        exact ⟨none, W4, he, hdone _ W4 hlf⟩
      · obtain ⟨W4, he, hlf⟩ := out (Ix c pre) .done (some c) W2 (hIx c pre) (by simp) ⟨G2, hc, hr⟩
        exact ⟨some c, W4, he, hstop _ c pre W4 hpre hlf⟩
end Go.Proofs.YtoobjjpheegmdaaGreat.H3
namespace Go.Proofs.YtoobjjpheegmdaaGreat.H3
open Go
def putsFrom (ys : Nat → Value) : List Oper → Nat → Act → Act
  | [], _, a => a
  | o :: r, k, a => putsFrom ys r (k + 1) (a.put o.dst (ys k))
def upd (ys : Nat → Value) (i : Nat) (v : Value) : Nat → Value := fun j => if j = i then v else ys j
theorem upd_same (ys : Nat → Value) (i : Nat) (v : Value) : upd ys i v i = v := by unfold upd; rw [if_pos rfl]
theorem upd_other (ys : Nat → Value) {i j : Nat} (v : Value) (h : j ≠ i) : upd ys i v j = ys j := by unfold upd; rw [if_neg h]
def dstsApart : List Oper → Bool
  | [] => true
  | o :: r => (match o.dst with | some d => r.all (fun p => p.dst != some d) | none => true) && dstsApart r
theorem puts_congr {ys zs : Nat → Value} : ∀ (l : List Oper) (k : Nat) (a : Act), (∀ j, k ≤ j → ys j = zs j) → putsFrom ys l k a = putsFrom zs l k a
  | [], _, _, _ => rfl
  | o :: r, k, a, h => by
    rw [putsFrom, putsFrom, h k (Nat.le_refl _)]
    exact puts_congr r (k + 1) _ (fun j hj => h j (by omega))
theorem put_put (a : Act) (d : Option Tmp) (u v : Value) : (a.put d u).put d v = a.put d v := by
  cases d with
  | none => rfl
  | some d => simp [Act.put]
theorem puts_comm {ys : Nat → Value} {d : Option Tmp} {v : Value} : ∀ (l : List Oper) (k : Nat) (a : Act), (∀ x, d = some x → ∀ p ∈ l, p.dst ≠ some x) → (putsFrom ys l k a).put d v = putsFrom ys l k (a.put d v)
  | [], _, _, _ => rfl
  | o :: r, k, a, h => by
    rw [putsFrom, putsFrom, puts_comm r (k + 1) _ (fun x hx p hp => h x hx p (by simp [hp]))]
    congr 1
    exact Act.put_comm a (ys k) v (fun x hx hd => h x hd o (by simp) hx)
theorem puts_set {ys : Nat → Value} {i : Nat} {v : Value} : ∀ (l : List Oper) (k : Nat) (a : Act) (o : Oper), dstsApart l = true → k ≤ i → l[i - k]? = some o → (putsFrom ys l k a).put o.dst v = putsFrom (upd ys i v) l k a
  | [], _, _, _, _, _, h => by simp at h
  | p :: r, k, a, o, hd, hk, h => by
    simp only [dstsApart, Bool.and_eq_true] at hd
    rcases Nat.lt_or_ge k i with hlt | hge
    · have e : i - k = (i - (k + 1)) + 1 := by omega
      rw [e, List.getElem?_cons_succ] at h
      rw [putsFrom, putsFrom, puts_set r (k + 1) _ o hd.2 (by omega) h, upd_other ys v (by omega)]
    · obtain rfl : k = i := by omega
      rw [Nat.sub_self, List.getElem?_cons_zero] at h
      obtain rfl : p = o := by simpa using h
      rw [putsFrom, putsFrom, upd_same, puts_comm, put_put]
      · exact puts_congr r (k + 1) _ (fun j hj => (upd_other ys v (by omega)).symm)
      · intro x hx q hq
        have h1 := hd.1
        rw [hx] at h1
        have := List.all_eq_true.1 h1 q hq
        simpa using this
theorem put_own (a : Act) (d : Tmp) : a.put (some d) (a.tmps.getD d undef) = a := by
  obtain ⟨t, ds⟩ := a
  simp only [Act.put, Act.mk.injEq, and_true]
  apply Array.ext
  · simp
  · intro i h1 h2
    rw [Array.getElem_setIfInBounds]
    split
    · rename_i h; subst h; simp [Array.getD, h2]
    · rfl
def nowOf (ops : Array Oper) (a : Act) : Nat → Value := fun j => match (ops[j]?).bind (·.dst) with | some d => a.tmps.getD d undef | none => undef
theorem puts_now (a : Act) {ys : Nat → Value} : ∀ (l : List Oper) (k : Nat), (∀ i o d, l[i]? = some o → o.dst = some d → ys (k + i) = a.tmps.getD d undef) → putsFrom ys l k a = a
  | [], _, _ => rfl
  | o :: r, k, h => by
    have e : a.put o.dst (ys k) = a := by
      cases hd : o.dst with
      | none => rfl
      | some d =>
        have := h 0 o d rfl hd
        rw [Nat.add_zero] at this
        rw [this]
        exact put_own a d
    rw [putsFrom, e]
    exact puts_now a r (k + 1) (fun i o d hi hd => by
      have := h (i + 1) o d (by simpa using hi) hd
      rw [← this]; congr 1; omega)
def unl : Nat → Array Bool → Nat
  | 0, _ => 0
  | n + 1, l => unl n l + (if l.getD n true = true then 0 else 1)
theorem unl_zero {l : Array Bool} : ∀ (n : Nat), unl n l = 0 → ∀ j, j < n → l.getD j true = true
  | 0, _, j, h => by omega
  | n + 1, h, j, hj => by
    simp only [unl] at h
    by_cases e : j = n
    · subst e
      by_cases hb : l.getD j true = true
      · exact hb
      · rw [if_neg hb] at h; omega
    · exact unl_zero n (by omega) j (by omega)
theorem unl_le {l : Array Bool} {i : Nat} : ∀ (n : Nat), unl n (l.setIfInBounds i true) ≤ unl n l
  | 0 => Nat.le_refl _
  | n + 1 => by
    have := unl_le (l := l) (i := i) n
    simp only [unl]
    by_cases hb : l.getD n true = true
    · have hb' : (l.setIfInBounds i true).getD n true = true := by
        by_cases e : i = n
        · subst e
          simp [Array.getD]
        · rw [getD_set_ne true e]; exact hb
      rw [if_pos hb, if_pos hb']
      omega
    · rw [if_neg hb]
      split <;> omega
theorem unl_lt {l : Array Bool} {i : Nat} (hi : i < l.size) (hf : l.getD i true = false) : ∀ (n : Nat), i < n → unl n (l.setIfInBounds i true) < unl n l
  | 0, h => by omega
  | n + 1, h => by
    simp only [unl]
    by_cases e : i = n
    · subst e
      have h1 : (l.setIfInBounds i true).getD i true = true := by simp [Array.getD]
      have := unl_le (l := l) (i := i) i
      rw [if_pos h1, hf]
      simp
      omega
    · have := unl_lt hi hf n (by omega)
      rw [getD_set_ne true e]
      omega
def backEdges (ops : Array Oper) : Bool := (List.range ops.size).all fun i => match ops[i]? with | some o => o.after.all fun e => !Region.binds .any e || decide (e.on < i) | none => true
section
variable {F : Fence} {n : Nat} {P : Program} {ops : Array Oper} {Q : Exit → Act → World → Prop}
theorem least_unlisted (listed : Array Bool) : ∀ n, (∀ j, j < n → listed.getD j true = true) ∨ ∃ i, i < n ∧ listed.getD i true = false ∧ ∀ j, j < i → listed.getD j true = true
  | 0 => .inl (fun j h => by omega)
  | n + 1 => by
    rcases least_unlisted listed n with h | ⟨i, hi, hf, hj⟩
    · by_cases hb : listed.getD n true = true
      · refine .inl fun j hj => ?_
        by_cases e : j = n
        · subst e; exact hb
        · exact h j (by omega)
      · exact .inr ⟨n, by omega, by simpa using hb, h⟩
    · exact .inr ⟨i, by omega, hf, hj⟩
theorem getD_true_false {listed : Array Bool} {j : Nat} (hj : j < listed.size) (h : listed.getD j true = true) : listed.getD j false = true := by
  simp [Array.getD, hj] at h ⊢
  exact h
theorem ready_none {listed : Array Bool} (hsz : listed.size = ops.size) (hb : backEdges ops = true) (h : Region.ready .any ops listed = []) : ∀ j, j < ops.size → listed.getD j true = true := by
  rcases least_unlisted listed ops.size with h1 | ⟨i, hi, hf, hj⟩
  · exact h1
  · exfalso
    have hm : i ∈ Region.ready .any ops listed := by
      rw [mem_ready]
      refine ⟨hf, ops[i], Array.getElem?_eq_getElem hi, fun e he hbe => ?_⟩
      have h1 := List.all_eq_true.1 hb i (List.mem_range.2 hi)
      rw [Array.getElem?_eq_getElem hi] at h1
      have h2 : e.on < i := by
        have := Array.all_eq_true_iff_forall_mem.1 h1 e he
        rw [hbe] at this
        simpa using this
      exact getD_true_false (by omega) (hj _ h2)
    rw [h] at hm
    cases hm
def asked (e : Edge) : Bool := match e.ground with | .data => true | .guard => true | _ => false
theorem asked_binds {e : Edge} (h : asked e = true) : Region.binds .any e = true := by
  unfold asked at h
  unfold Region.binds
  split at h <;> simp_all
def anc (ops : Array Oper) : Nat → Nat → Nat → Bool
  | 0, _, _ => false
  | f + 1, i, j => match ops[j]? with
    | some o => o.after.toList.any fun e => Region.binds .any e && (e.on == i || anc ops f i e.on)
    | none => false
def needed (ops : Array Oper) (E : Nat → Bool) (i j : Nat) : Bool :=
  E j || (List.range ops.size).any fun c => c != i && !anc ops ops.size c i && ((ops[c]?).map fun o => o.after.toList.any fun e => asked e && e.on == j).getD false
def ShutDown (ops : Array Oper) (listed : Array Bool) : Prop := ∀ j o, ops[j]? = some o → listed.getD j false = true → ∀ e ∈ o.after, Region.binds .any e = true → listed.getD e.on false = true
theorem anc_listed {listed : Array Bool} (hc : ShutDown ops listed) : ∀ (f i j : Nat), listed.getD j false = true → anc ops f i j = true → listed.getD i false = true
  | 0, _, _, _, h => by cases h
  | f + 1, i, j, hj, h => by
    unfold anc at h
    cases ho : ops[j]? with
    | none => rw [ho] at h; cases h
    | some o =>
      rw [ho] at h
      obtain ⟨e, he, h⟩ := List.any_eq_true.1 h
      rw [Array.mem_toList_iff] at he
      simp only [Bool.and_eq_true, Bool.or_eq_true, beq_iff_eq] at h
      have hl := hc j o ho hj e he h.1
      rcases h.2 with h2 | h2
      · rw [← h2]; exact hl
      · exact anc_listed hc f i e.on hl h2
theorem anc_ready {listed : Array Bool} (hc : ShutDown ops listed) {i : Nat} {o : Oper} (ho : ops[i]? = some o) (hall : ∀ e ∈ o.after, Region.binds .any e = true → listed.getD e.on false = true) {f c : Nat} (h : anc ops f c i = true) : listed.getD c false = true := by
  cases f with
  | zero => cases h
  | succ f =>
    unfold anc at h
    rw [ho] at h
    obtain ⟨e, he, h⟩ := List.any_eq_true.1 h
    rw [Array.mem_toList_iff] at he
    simp only [Bool.and_eq_true, Bool.or_eq_true, beq_iff_eq] at h
    have hl := hall e he h.1
    rcases h.2 with h2 | h2
    · rw [← h2]; exact hl
    · exact anc_listed hc f c e.on hl h2
def slotFrom (ys : Nat → Value) (d : Nat) : List Oper → Nat → Value → Value
  | [], _, v => v
  | o :: r, k, v => slotFrom ys d r (k + 1) (if o.dst == some d then ys k else v)
theorem getD_puts {ys : Nat → Value} {d : Nat} : ∀ (l : List Oper) (k : Nat) (a : Act), d < a.tmps.size → (putsFrom ys l k a).tmps.getD d undef = slotFrom ys d l k (a.tmps.getD d undef)
  | [], _, _, _ => rfl
  | o :: r, k, a, h => by
    rw [putsFrom, slotFrom]
    cases hd : o.dst with
    | none => exact getD_puts r (k + 1) _ h
    | some x =>
      have hsz : d < (a.put (some x) (ys k)).tmps.size := by simpa [Act.put] using h
      rw [getD_puts r (k + 1) _ hsz]
      congr 1
      by_cases e : x = d
      · subst e
        simp [Act.put, Array.getD, h]
      · have e2 : (some x == some d) = false := by simpa using e
        rw [e2]
        simp [Act.put, Array.getD, h, e]
theorem not_yet {listed : Array Bool} (hc : ShutDown ops listed) {i c : Nat} (hi : listed.getD i false = false) (ha : anc ops ops.size i c = true) : listed.getD c false = false := by
  cases h : listed.getD c false with
  | false => rfl
  | true => rw [anc_listed hc _ _ _ h ha] at hi; cases hi
def StepOK (F : Fence) (n : Nat) (P : Program) (ops : Array Oper) (Q : Exit → Act → World → Prop) (a0 : Act) (I : Array Bool → (Nat → Value) → World → Prop) (R : Nat → (Nat → Value) → World → World → Prop) (V : Nat → (Nat → Value) → World → Prop) (i : Nat) (o : Oper) : Prop :=
  ∀ (listed : Array Bool) (ys : Nat → Value) (A : Act) (w : World), listed.size = ops.size → ShutDown ops listed → listed.getD i false = false → (∀ e ∈ o.after, Region.binds .any e = true → listed.getD e.on false = true) →
    (∀ d, d < a0.tmps.size → A.tmps.getD d undef = slotFrom ys d ops.toList 0 (a0.tmps.getD d undef)) → I listed ys w → (∀ e ∈ o.after, asked e = true → V e.on ys w) →
    ∀ K : Act → World → Prop, (∀ v w', I (listed.setIfInBounds i true) (upd ys i v) w' → R i ys w w' → V i (upd ys i v) w' → K (A.put o.dst v) w') →
      if Region.wanted o (yielded ops A.tmps) = true then o.wpIn F n P A w K Q else K (A.put o.dst undef) w
theorem step_run {o : Oper} {A : Act} {w : World} {K : Act → World → Prop} (h : o.guard = none ∨ ∃ j d b, o.guard = some (j, b) ∧ (ops[j]?).bind (·.dst) = some d ∧ A.tmps.getD d undef = .bool b) (hw : o.wpIn F n P A w K Q) :
    if Region.wanted o (yielded ops A.tmps) = true then o.wpIn F n P A w K Q else K (A.put o.dst undef) w := by
  have hwt : Region.wanted o (yielded ops A.tmps) = true := by
    rcases h with h | ⟨j, d, b, h, hd, hv⟩
    · unfold Region.wanted; rw [h]
    · unfold Region.wanted
      rw [h]
      unfold yielded
      simp only [hd, Option.bind_some]
      have e : A.tmps[d]? = some (.bool b) := by
        cases hx : A.tmps[d]? with
        | none => rw [Array.getD_eq_getD_getElem?, hx] at hv; cases hv
        | some y => rw [Array.getD_eq_getD_getElem?, hx] at hv; simpa using hv
      rw [e]
      simp
  rw [if_pos hwt]
  exact hw
def Wants (ops : Array Oper) (E : Nat → Bool) (listed : Array Bool) (j : Nat) : Prop :=
  E j = true ∨ ∃ c o, ops[c]? = some o ∧ listed.getD c false = false ∧ ∃ e ∈ o.after, asked e = true ∧ e.on = j
theorem flow_any (hF : ∀ f, F.fn f) {a0 : Act} {I : Array Bool → (Nat → Value) → World → Prop} {R : Nat → (Nat → Value) → World → World → Prop} {V : Nat → (Nat → Value) → World → Prop} {E : Nat → Bool} (hb : backEdges ops = true) (hd : dstsApart ops.toList = true)
    (hst : ∀ i j ys v w w', i ≠ j → anc ops ops.size i j = false → needed ops E i j = true → V j ys w → R i ys w w' → V j (upd ys i v) w')
    (step : ∀ i o, ops[i]? = some o → StepOK F n P ops Q a0 I R V i o)
    (fin : ∀ listed ys w, (∀ j, j < ops.size → listed.getD j false = true) → I listed ys w → (∀ j, j < ops.size → E j = true → V j ys w) → Q .normal (putsFrom ys ops.toList 0 a0) w) :
    ∀ (fuel : Nat) (listed : Array Bool) (ys : Nat → Value) (w : World), listed.size = ops.size → unl ops.size listed ≤ fuel → ShutDown ops listed → I listed ys w → (∀ j, listed.getD j false = true → Wants ops E listed j → V j ys w) →
      wpAnyIn F n P .any ops Q fuel listed (putsFrom ys ops.toList 0 a0) w := by
  have done : ∀ (listed : Array Bool) (ys : Nat → Value) (w : World), listed.size = ops.size → I listed ys w → (∀ j, listed.getD j false = true → Wants ops E listed j → V j ys w) → (∀ j, j < ops.size → listed.getD j true = true) → Q .normal (putsFrom ys ops.toList 0 a0) w :=
    fun listed ys w hsz hI hV hall => fin listed ys w (fun j hj => getD_true_false (by omega) (hall j hj)) hI (fun j hj hE => hV j (getD_true_false (by omega) (hall j hj)) (.inl hE))
  intro fuel
  induction fuel with
  | zero =>
    intro listed ys w hsz hu _ hI hV
    have hall := unl_zero ops.size (by omega : unl ops.size listed = 0)
    refine ⟨?_, done listed ys w hsz hI hV hall⟩
    cases hr : Region.ready .any ops listed with
    | nil => rfl
    | cons i r =>
      have hm : i ∈ Region.ready .any ops listed := by rw [hr]; simp
      obtain ⟨h0, o, ho, _⟩ := mem_ready.1 hm
      have := hall i (Array.getElem?_eq_some_iff.1 ho).1
      rw [h0] at this
      cases this
  | succ fuel ih =>
    intro listed ys w hsz hu hsd hI hV
    refine ⟨fun hr => done listed ys w hsz hI hV (ready_none hsz hb hr), fun i hi => ?_⟩
    obtain ⟨h0, o, ho, hall⟩ := mem_ready.1 hi
    have hlt : i < ops.size := (Array.getElem?_eq_some_iff.1 ho).1
    have h0f : listed.getD i false = false := by
      simp [Array.getD, hsz, hlt] at h0 ⊢
      exact h0
    have hdeps : ∀ e ∈ o.after, asked e = true → V e.on ys w := fun e he hbe => hV _ (hall e he (asked_binds hbe)) (.inr ⟨i, o, ho, h0f, e, he, hbe, rfl⟩)
    have hsd' : ShutDown ops (listed.setIfInBounds i true) := by
      intro j oj hoj hj e he hbe
      by_cases hij : i = j
      · subst hij
        rw [ho] at hoj
        obtain rfl : o = oj := by simpa using hoj
        exact getD_set_true (hall e he hbe)
      · rw [getD_set_ne false hij] at hj
        exact getD_set_true (hsd j oj hoj hj e he hbe)
    have next : ∀ v w', I (listed.setIfInBounds i true) (upd ys i v) w' → R i ys w w' → V i (upd ys i v) w' → wpAnyIn F n P .any ops Q fuel (listed.setIfInBounds i true) ((putsFrom ys ops.toList 0 a0).put o.dst v) w' := by
      intro v w' hI' hR hv
      rw [puts_set (i := i) ops.toList 0 a0 o hd (Nat.zero_le _) (by rw [Nat.sub_zero, Array.getElem?_toList]; exact ho)]
      refine ih _ _ w' (by simpa using hsz) (by have := unl_lt (l := listed) (i := i) (by omega) h0 ops.size hlt; omega) hsd' hI' (fun j hj hw => ?_)
      by_cases e : j = i
      · subst e; exact hv
      · rw [getD_set_ne false (Ne.symm e)] at hj
        have hneed : needed ops E i j = true ∧ Wants ops E listed j := by
          rcases hw with hE | ⟨c, oc, hoc, hcf, e1, he1, hbe1, hon⟩
          · exact ⟨by unfold needed; rw [hE]; rfl, .inl hE⟩
          · have hclt : c < ops.size := (Array.getElem?_eq_some_iff.1 hoc).1
            have hci : c ≠ i := by
              intro h
              subst h
              simp [Array.getD, hsz, hclt] at hcf
            rw [getD_set_ne false (Ne.symm hci)] at hcf
            refine ⟨?_, .inr ⟨c, oc, hoc, hcf, e1, he1, hbe1, hon⟩⟩
            have hna : anc ops ops.size c i = false := by
              cases ha : anc ops ops.size c i with
              | false => rfl
              | true =>
                have := anc_ready hsd ho hall ha
                rw [hcf] at this
                cases this
            unfold needed
            rw [Bool.or_eq_true]
            refine .inr (List.any_eq_true.2 ⟨c, List.mem_range.2 hclt, ?_⟩)
            rw [hoc, hna]
            simp only [Option.map_some, Option.getD_some, Bool.not_false, Bool.and_true, Bool.and_eq_true, bne_iff_ne, ne_eq]
            exact ⟨hci, List.any_eq_true.2 ⟨e1, Array.mem_toList_iff.2 he1, by rw [hbe1]; simpa using hon⟩⟩
        have hanc : anc ops ops.size i j = false := by
          cases ha : anc ops ops.size i j with
          | false => rfl
          | true =>
            have := anc_listed hsd _ _ _ hj ha
            rw [h0f] at this
            cases this
        exact hst i j ys v w w' (Ne.symm e) hanc hneed.1 (hV j hj hneed.2) hR
    have hs := step i o ho listed ys (putsFrom ys ops.toList 0 a0) w hsz hsd h0f hall (fun d hd => getD_puts ops.toList 0 a0 hd) hI hdeps _ next
    unfold wpOpIn
    rw [ho]
    simp only []
    split
    · rename_i hw
      rw [if_pos hw] at hs
      exact hs
    · rename_i hw
      rw [if_neg hw] at hs
      exact ⟨fun f _ => hF f, hs⟩
def StepsFrom (F : Fence) (n : Nat) (P : Program) (ops : Array Oper) (Q : Exit → Act → World → Prop) (a0 : Act) (I : Array Bool → (Nat → Value) → World → Prop) (R : Nat → (Nat → Value) → World → World → Prop) (V : Nat → (Nat → Value) → World → Prop) : List Oper → Nat → Prop
  | [], _ => True
  | o :: r, k => StepOK F n P ops Q a0 I R V k o ∧ StepsFrom F n P ops Q a0 I R V r (k + 1)
theorem steps_of {a0 : Act} {I : Array Bool → (Nat → Value) → World → Prop} {R : Nat → (Nat → Value) → World → World → Prop} {V : Nat → (Nat → Value) → World → Prop} : ∀ (l : List Oper) (k : Nat), StepsFrom F n P ops Q a0 I R V l k → ∀ i o, l[i]? = some o → StepOK F n P ops Q a0 I R V (k + i) o
  | [], _, _, _, _, h => by simp at h
  | p :: r, k, hs, i, o, h => by
    cases i with
    | zero =>
      obtain rfl : p = o := by simpa using h
      exact hs.1
    | succ i =>
      have := steps_of r (k + 1) hs.2 i o (by simpa using h)
      rw [show k + (i + 1) = k + 1 + i by omega]
      exact this
theorem wpIn_region_flow (hF : ∀ f, F.fn f) {id : Nat} {a0 : Act} {w0 : World} (hm : P.follows .mixedOrders = true) (I : Array Bool → (Nat → Value) → World → Prop) (R : Nat → (Nat → Value) → World → World → Prop) (V : Nat → (Nat → Value) → World → Prop) (E : Nat → Bool) (hb : backEdges ops = true) (hd : dstsApart ops.toList = true)
    (hst : ∀ i j ys v w w', i ≠ j → anc ops ops.size i j = false → needed ops E i j = true → V j ys w → R i ys w w' → V j (upd ys i v) w') (hI : I (Array.replicate ops.size false) (nowOf ops a0) w0.drew)
    (step : StepsFrom F n P ops Q a0 I R V ops.toList 0)
    (fin : ∀ listed ys w, (∀ j, j < ops.size → listed.getD j false = true) → I listed ys w → (∀ j, j < ops.size → E j = true → V j ys w) → Q .normal (putsFrom ys ops.toList 0 a0) w) : (Code.region id ops true).wpIn F n P Q a0 w0 := by
  refine wpIn_region_any hm ?_
  have h0 : putsFrom (nowOf ops a0) ops.toList 0 a0 = a0 := puts_now a0 ops.toList 0 (fun i o d hi hdo => by
    rw [Array.getElem?_toList] at hi
    simp only [nowOf, Nat.zero_add, hi, Option.bind_some, hdo])
  have hno : ∀ j, (Array.replicate ops.size false).getD j false = false := fun j => by
    by_cases e : j < ops.size <;> simp [Array.getD, e]
  have h := flow_any (F := F) (n := n) (P := P) (Q := Q) (E := E) hF hb hd hst (fun i o ho => by
    have := steps_of ops.toList 0 step i o (by rw [Array.getElem?_toList]; exact ho)
    rwa [Nat.zero_add] at this) fin ops.size (Array.replicate ops.size false) (nowOf ops a0) w0.drew (by simp) ?_ (fun j o _ hj => by rw [hno] at hj; cases hj) hI (fun j hj => by rw [hno] at hj; cases hj)
  · rw [h0] at h
    exact h
  · have : ∀ (n : Nat) (l : Array Bool), unl n l ≤ n := fun n l => by
      induction n with
      | zero => exact Nat.le_refl _
      | succ n ih => simp only [unl]; split <;> omega
    exact this _ _
end
def waistI (c : Nat) (W1 : World) (Out : Value → World → Prop) (listed : Array Bool) (ys : Nat → Value) (w : World) : Prop :=
  (listed.getD c false = false → w = W1) ∧ (listed.getD c false = true → Out (ys c) w)
theorem waistI.other {c : Nat} {W1 : World} {Out : Value → World → Prop} {listed : Array Bool} {ys : Nat → Value} {w : World} (h : waistI c W1 Out listed ys w) {i : Nat} (hi : i ≠ c) (v : Value) : waistI c W1 Out (listed.setIfInBounds i true) (upd ys i v) w := by
  unfold waistI
  rw [getD_set_ne false hi, upd_other ys v (Ne.symm hi)]
  exact h
theorem waistI.call {c : Nat} {W1 : World} {Out : Value → World → Prop} {listed : Array Bool} {ys : Nat → Value} {w : World} {v : Value} (hc : c < listed.size) (h : Out v w) : waistI c W1 Out (listed.setIfInBounds c true) (upd ys c v) w := by
  unfold waistI
  rw [upd_same]
  refine ⟨fun h0 => ?_, fun _ => h⟩
  simp [Array.getD, hc] at h0
end Go.Proofs.YtoobjjpheegmdaaGreat.H3
namespace Go.Proofs.YtoobjjpheegmdaaGreat.H3
open Go.RowKit Go
theorem ret_bool {a b : Bool} (h : a = b) : Ending.returned (.bool a) = .returned (.bool b) := by rw [h]
def letterI (c : Int) : Bool := if 128 ≤ c then c != 65533 else (decide (97 ≤ c) && decide (c ≤ 122)) || (decide (65 ≤ c) && decide (c ≤ 90)) || (decide (48 ≤ c) && decide (c ≤ 57)) || c == 95
theorem letterI_nat (n : Nat) : letterI n = M.letter n := by
  unfold letterI M.letter
  by_cases h : 128 ≤ n
  · rw [if_pos h, if_pos (by omega)]
    rw [Bool.eq_iff_iff]; simp; omega
  · rw [if_neg h, if_neg (by omega)]
    rw [Bool.eq_iff_iff]; simp; omega
theorem letterI_iff (c : Int) : letterI c = true ↔ (128 ≤ c ∧ c ≠ 65533) ∨ (97 ≤ c ∧ c ≤ 122) ∨ (65 ≤ c ∧ c ≤ 90) ∨ (48 ≤ c ∧ c ≤ 57) ∨ c = 95 := by
  unfold letterI
  split
  · simp; omega
  · simp; omega
set_option maxHeartbeats 1000000 in
theorem letter_any (c : Int) (w : World) : Calls Tryz.prog 44 #[.int .i32 c] w fun e w' => e = .returned (.bool (letterI c)) ∧ w = w' := by
  go_enter Tryz.func44, Tryz.ntmps44
  go_wp2
  all_goals
    go_ret
    refine ⟨ret_bool ?_, rfl⟩
    rw [Bool.eq_iff_iff, letterI_iff]
    simp
    try omega
set_option maxHeartbeats 1000000 in
theorem places_any (s : ByteArray) (w : World) : Calls Tryz.prog 96 #[.string s] w fun e w' => e = .returned (.func (.func 113) #[] #[.pointer (some ⟨w.heap.size, 0, none⟩)]) ∧ w.alloc (.cells #[.string s] 9) = w' := by
  go_enter Tryz.func96, Tryz.ntmps96
  go_wp2
  go_ret
  exact ⟨rfl, rfl⟩
set_option maxHeartbeats 1000000 in
theorem words_any (s : ByteArray) (w : World) : Calls Tryz.prog 82 #[.string s] w fun e w' => e = .returned (.func (.func 95) #[] #[.pointer (some ⟨w.heap.size, 0, none⟩)]) ∧ w.alloc (.cells #[.string s] 9) = w' := by
  go_enter Tryz.func82, Tryz.ntmps82
  go_wp2
  go_ret
  exact ⟨rfl, rfl⟩
theorem letter_nat (c : Nat) (b : Bool) (h : M.letter c = b) (w : World) : Calls Tryz.prog 44 #[.int .i32 c] w fun e w' => e = .returned (.bool b) ∧ w = w' := by
  rw [← h, ← letterI_nat]
  exact letter_any c w
theorem next_at (w : World) (k : Nat) (s : ByteArray) (pos : Nat) (ty : TypeId) (hk : w.heap[k]? = some (.stringIter s pos)) (h : pos < s.size) (c n : Nat) (hd : M.dec (s.data.toList.drop pos) = (c, n)) :
    (Instr.next (.pointer (some ⟨k, 0, none⟩)) true ty).run Tryz.prog w = .ok (.tuple #[.bool true, .int .i64 pos, .int .i32 c]) (w.iterAt k s (pos + n)) := by
  have := Lib.run_next_any_at (P := Tryz.prog) w k s pos ty hk h
  rw [M.dec_at, hd] at this
  exact this
end Go.Proofs.YtoobjjpheegmdaaGreat.H3
namespace Go.Proofs.YtoobjjpheegmdaaGreat.H3
open Go.RowKit Go Go.Shelf
attribute [local go_sem] Oper.semAt_some
theorem wide_fn (f : FuncId) : Fence.wide.fn f = True := rfl
theorem wide_depth : Fence.wide.depth = none := rfl
attribute [local go_sem] wide_fn wide_depth
def Box (W : World) (B : Nat) (t : TypeId) (v : Value) : Prop := W.heap[B]? = some (.cells #[v] t (0, 0))
theorem Box.lt {W : World} {B : Nat} {t : TypeId} {v : Value} (h : Box W B t v) : B < W.heap.size := (Array.getElem?_eq_some_iff.1 h).1
theorem Box.cell {W : World} {B : Nat} {t : TypeId} {v : Value} (h : Box W B t v) : W.cell? ⟨B, 0, none⟩ = some v := by simp [World.cell?, show W.heap[B]? = _ from h]
theorem Box.new (W : World) (t : TypeId) (v : Value) : Box (W.alloc (.cells #[v] t)) W.heap.size t v := World.alloc_heap_new W _
theorem Box.keep {G : Nat → Prop} {W W' : World} {B : Nat} {t : TypeId} {v : Value} (h : Box W B t v) (hk : Keep G W W') (hn : ¬ G B) : Box W' B t v := (hk.block B h.lt hn).trans h
theorem Box.alloc {W : World} {B : Nat} {t : TypeId} {v : Value} (h : Box W B t v) (o : Obj) : Box (W.alloc o) B t v := h.keep ((Keep.refl (fun _ => False) W).alloc o) (fun h => h)
def encP (p : Nat × Nat) : Array Value := #[.int .i64 p.1, .int .i64 p.2]
def frI : Option Nat → Int
  | none => -1
  | some k => k
theorem keep_iterAt {G : Nat → Prop} (W : World) (R : Nat) (s : ByteArray) (pos : Nat) (h : G R) : Keep G W (W.iterAt R s pos) :=
  ⟨rfl, rfl, rfl, by rw [Lib.iterAt_size]; exact Nat.le_refl _, fun k _ hn => Lib.iterAt_other W R k s pos (fun e => hn (e ▸ h))⟩
def PRel (l : List UInt8) (s : ByteArray) (J : List (Nat × Nat) → Stance) (G : Nat → Prop) (W : World) (v : Value) (wr : World) : Prop :=
  ∃ (pos : Nat) (fr : Option Nat) (pre : List (Nat × Nat)) (G1 : Nat → Prop), v = .int .i64 (frI fr) ∧ pos ≤ s.size ∧ (∀ k, fr = some k → k < pos) ∧ wr.heap[W.heap.size]? = some (.stringIter s pos) ∧
    pre ++ M.P l pos fr = M.places l ∧ J pre G1 wr ∧ Live G1 wr ∧ (∀ k, G1 k → G k ∨ W.heap.size ≤ k) ∧ ¬ G1 W.heap.size ∧ Keep G W wr
theorem neg_ne (k : Nat) : ((k : Int) == -1) = false := by
  simp
  try omega
theorem neg_ne' (k : Nat) : ((k : Int) != -1) = true := by
  simp
  try omega
set_option maxHeartbeats 4000000 in
set_option maxRecDepth 100000 in
theorem places_gives (s : ByteArray) (_hlen : s.size ≤ 70368744177664) (B : Nat) (w : World) (hB : Box w B 9 (.string s)) :
    Gives Tryz.prog 113 #[.pointer (some ⟨B, 0, none⟩)] (fun k => k = B) encP (M.places s.data.toList) w := by
  intro l J Jx G W hW hCG hJ hJx hY h0 hlive
  have hBW := hB.keep hW (fun h => h rfl)
  have hGB := hCG B rfl
  have hsz : s.data.toList.length = s.size := Array.length_toList
  have HZ := Lib.hid hsz
  clear hsz
  have hcB := hBW.cell
  have hGR : ¬ G W.heap.size := fun h => by have := hlive _ h; omega
  refine (callsIn_wide (n := 5)).1 ?_
  refine callsIn_of_wp Tryz.func113 rfl trivial ?_
  simp only [Tryz.ntmps113, List.size_toArray, List.length_cons, List.length_nil, Nat.reduceAdd, Nat.reduceSub, Array.replicate_succ, Array.replicate_zero, List.push_toArray, List.append_toArray, List.nil_append, List.cons_append]
  gi_wp2
  gi_loopw [3] (fun v wr => PRel s.data.toList s J G W v wr) (fun _ wr => s.size - wr.iterPos W.heap.size)
  case atStart =>
    exact ⟨0, none, [], G, rfl, Nat.zero_le _, (fun k h => by cases h), World.iter_heap W s 0, rfl, hJ _ _ _ _ h0 hlive ((Keep.refl _ _).alloc _), fun k hk => by have := hlive k hk; simp [World.iter]; omega, fun k hk => .inl hk, hGR, (Keep.refl _ _).alloc _⟩
  case round =>
    obtain ⟨pos, fr, pre, G1, rfl, hp, hfr, hit, hP, hj, hlv, hg, hnR, hKp⟩ := hrel
    by_cases hlt : pos < s.size
    · obtain ⟨c, n, hd⟩ : ∃ c n, M.dec (s.data.toList.drop pos) = (c, n) := ⟨_, _, rfl⟩
      have hpl : pos < s.data.toList.length := by rw [HZ.out]; exact hlt
      have hdd := M.dec_drop hpl
      have hPl := M.P_letter fr hpl
      have hPo := M.P_other fr hpl
      rw [hd] at hdd hPl hPo
      rw [HZ.out] at hdd
      have HIT := Lib.hid (Lib.iterAt_heap wr _ s pos (pos + n) hit)
      have hnx := fun ty => next_at wr _ s pos ty hit hlt c n hd
      have HP0 := Lib.hid (iterPos_of hit)
      have HP1 := Lib.hid (iterPos_of HIT.out)
      have HJ1 := Lib.hid (hJ pre G1 wr (wr.iterAt W.heap.size s (pos + n)) hj hlv (keep_iterAt wr _ s _ hnR))
      have HL1 : Hid (Live G1 (wr.iterAt W.heap.size s (pos + n))) := Lib.hid fun k hk => by rw [Lib.iterAt_size]; exact hlv k hk
      have HK1 : Hid (Keep G W (wr.iterAt W.heap.size s (pos + n))) := Lib.hid ⟨hKp.os, hKp.tape, hKp.output, by rw [Lib.iterAt_size]; exact hKp.size, fun k hk hn => (Lib.iterAt_other wr _ k s _ (by omega)).trans (hKp.block k hk hn)⟩
      have HD := Lib.hid hd
      have HPP := Lib.hid hP
      clear hd hit hj hlv hKp hP
      by_cases hl : M.letter c = true
      · have HPL := Lib.hid (hPl hl)
        have HL := Lib.hid (letter_nat c true hl (wr.iterAt W.heap.size s (pos + n)))
        clear hPl hPo hl
        cases fr with
        | none =>
          simp only [frI]
          gi_wp2_with (gi_at_call 44; refine (callsIn_wide.2 HL.out).mono ?_; rintro e w' ⟨rfl, rfl⟩)
          go_roundw
          case rel => exact ⟨pos + n, some pos, pre, G1, rfl, hdd.2, (fun k h => by cases h; omega), HIT.out, by rw [← HPP.out, HPL.out]; rfl, HJ1.out, HL1.out, hg, hnR, HK1.out⟩
          case measure => rw [HP0.out, HP1.out]; omega
        | some k =>
          have hk1 := neg_ne k
          have hkp := hfr k rfl
          simp only [frI]
          gi_wp2_with (gi_at_call 44; refine (callsIn_wide.2 HL.out).mono ?_; rintro e w' ⟨rfl, rfl⟩)
          go_roundw
          case rel => exact ⟨pos + n, some k, pre, G1, rfl, hdd.2, (fun j h => by cases h; omega), HIT.out, by rw [← HPP.out, HPL.out]; rfl, HJ1.out, HL1.out, hg, hnR, HK1.out⟩
          case measure => rw [HP0.out, HP1.out]; omega
      · have hl := Bool.eq_false_iff.2 hl
        have HPL := Lib.hid (hPo hl)
        have HL := Lib.hid (letter_nat c false hl (wr.iterAt W.heap.size s (pos + n)))
        clear hPl hPo hl
        cases fr with
        | none =>
          simp only [frI]
          gi_wp2_with (gi_at_call 44; refine (callsIn_wide.2 HL.out).mono ?_; rintro e w' ⟨rfl, rfl⟩)
          go_roundw
          case rel => exact ⟨pos + n, none, pre, G1, rfl, hdd.2, (fun k h => by cases h), HIT.out, by rw [← HPP.out, HPL.out]; rfl, HJ1.out, HL1.out, hg, hnR, HK1.out⟩
          case measure => rw [HP0.out, HP1.out]; omega
        | some k =>
          have hk1 := neg_ne' k
          have hkp := hfr k rfl
          have hPk : M.places s.data.toList = pre ++ [(k, pos)] ++ M.P s.data.toList (pos + n) none := by rw [← HPP.out, HPL.out, List.append_assoc]; rfl
          have HPK := Lib.hid hPk
          obtain ⟨fn, tmps, assign, body, hy, hR⟩ := hY pre (k, pos) G1 _ (by rw [hPk]; exact ⟨_, rfl⟩) HJ1.out HL1.out 4
          have HR := Lib.hid hR
          clear hPk hR
          simp only [frI]
          dsimp only [encP] at hy
          gi_wp2_with (gi_at_call 44; refine (callsIn_wide.2 HL.out).mono ?_; rintro e w' ⟨rfl, rfl⟩)
          refine (round_any HR.out).mono ?_
          have hRlt : W.heap.size < (wr.iterAt W.heap.size s (pos + n)).heap.size := (Array.getElem?_eq_some_iff.1 HIT.out).1
          rintro e W3 (⟨rfl, hn⟩ | ⟨rfl, hn⟩)
          · obtain ⟨G2, hJ2, hl2, hg2, hk2⟩ := hn
            have HIT3 := Lib.hid ((hk2.block _ hRlt hnR).trans HIT.out)
            have HJ2 := Lib.hid hJ2
            have HL2 := Lib.hid hl2
            have HK2 := Lib.hid (Keep.after hg HK1.out hk2)
            have hn2 : ¬ G2 W.heap.size := fun h => (hg2 _ h).elim hnR (fun h => by omega)
            have hgg : ∀ k, G2 k → G k ∨ W.heap.size ≤ k := fun k h => (hg2 _ h).elim (fun h => hg k h) (fun h => .inr (by omega))
            have HP3 := Lib.hid (iterPos_of HIT3.out)
            clear hk2 hJ2 hl2 hg2
            gi_wp2
            go_roundw
            case rel => exact ⟨pos + n, none, pre ++ [(k, pos)], G2, rfl, hdd.2, (fun j h => by cases h), HIT3.out, HPK.out.symm, HJ2.out, HL2.out, hgg, hn2, HK2.out⟩
            case measure => rw [HP0.out, HP3.out]; omega
          · have HN := Lib.hid (Next.from hg HK1.out hn)
            clear hn
            gi_wp2
            refine bodyPost_ret (results_none rfl _ _ _) rfl ?_
            exact ⟨⟨_, rfl⟩, .inr ⟨_, ⟨_, HPK.out.symm⟩, HN.out⟩⟩
    · obtain rfl : pos = s.size := by omega
      have hnx := fun ty => Lib.run_next_end_at (P := Tryz.prog) wr _ s s.size ty hit hlt
      rw [M.P_end fr (by rw [HZ.out]; exact hlt), HZ.out] at hP
      have HPP := Lib.hid hP
      have HJ1 := Lib.hid hj
      have HL1 := Lib.hid hlv
      have HK1 := Lib.hid hKp
      have hcB := (hBW.keep hKp hGB).cell
      clear hP hit hj hlv hKp
      cases fr with
      | none =>
        simp only [frI]
        gi_wp2
        go_end0
        exact ⟨⟨_, rfl⟩, .inl ⟨G1, by rw [← HPP.out]; simpa [M.finp] using HJ1.out, HL1.out, hg, HK1.out⟩⟩
      | some k =>
        have hk1 := neg_ne' k
        obtain ⟨fn, tmps, assign, body, hy, hR⟩ := hY pre (k, s.size) G1 _ (by rw [← HPP.out]; exact List.prefix_refl _) HJ1.out HL1.out 4
        have HR := Lib.hid hR
        clear hR
        simp only [frI]
        dsimp only [encP] at hy
        gi_wp2
        refine (round_any HR.out).mono ?_
        rintro e W3 (⟨rfl, hn⟩ | ⟨rfl, hn⟩)
        · have HN := Lib.hid (Next.from hg HK1.out hn)
          clear hn
          gi_wp2
          go_end0
          exact ⟨⟨_, rfl⟩, .inl (by rw [← HPP.out]; exact HN.out)⟩
        · have HN := Lib.hid (Next.from hg HK1.out hn)
          clear hn
          gi_wp2
          go_end0
          exact ⟨⟨_, rfl⟩, .inr ⟨_, by rw [← HPP.out]; exact List.prefix_refl _, HN.out⟩⟩
end Go.Proofs.YtoobjjpheegmdaaGreat.H3
namespace Go.Proofs.YtoobjjpheegmdaaGreat.H3
open Go.RowKit Go Go.Shelf
attribute [local go_sem] Oper.semAt_some wide_fn wide_depth
def encS (s : ByteArray) : Array Value := #[.string s]
def bs (l : List UInt8) : ByteArray := ⟨l.toArray⟩
def pc (s : ByteArray) (p : Nat × Nat) : ByteArray := bs (M.piece s.data.toList p)
theorem pc_eq (s : ByteArray) (p : Nat × Nat) : s.extract p.1 p.2 = pc s p := by
  unfold pc bs M.piece
  apply ByteArray.ext
  apply Array.toList_inj.1
  rw [ByteArray.data_extract]
  simp [List.drop_take, List.extract_eq_take_drop]
def lift (y : Value) (G : Nat → Prop) (W : World) (J : Stance) : Stance := fun G1 Wr =>
  ∃ G', J G' Wr ∧ Live G' Wr ∧ G1 = (fun k => G' k ∨ k ≤ W.heap.size) ∧ Box Wr W.heap.size 103 y ∧ ¬ G' W.heap.size ∧ (∀ k, G' k → G k ∨ W.heap.size ≤ k) ∧ Keep G W Wr
theorem lift_stable {y : Value} {G : Nat → Prop} {W : World} {J : Stance} (hJ : Stable J) : Stable (lift y G W J) := by
  rintro G1 Wr W' ⟨G', h1, h2, rfl, h4, h5, h6, h7⟩ hL hk
  refine ⟨G', hJ G' Wr W' h1 h2 (hk.mono fun k _ hn hg => hn (.inl hg)), fun k hg => Nat.lt_of_lt_of_le (h2 k hg) hk.size, rfl, h4.keep hk (fun hn => hn (.inr (Nat.le_refl _))), h5, h6,
    hk.os.trans h7.os, hk.tape.trans h7.tape, hk.output.trans h7.output, Nat.le_trans h7.size hk.size, fun k hk' hn => ?_⟩
  rw [hk.block k (Nat.lt_of_lt_of_le hk' h7.size) (fun hn => hn (.inr (Nat.le_of_lt hk')))]
  exact h7.block k hk' hn
theorem unlift {y : Value} {G H : Nat → Prop} {W A W' : World} {J : Stance} (h : Next (lift y G W J) H A W') : Next J G W W' := by
  obtain ⟨_, ⟨G', h1, h2, rfl, _, _, h6, h7⟩, _⟩ := h
  exact ⟨G', h1, h2, h6, h7⟩
theorem relift {y : Value} {G G' : Nat → Prop} {W Wr W' : World} {J : Stance} (h4 : Box Wr W.heap.size 103 y) (h5 : ¬ G' W.heap.size) (h6 : ∀ k, G' k → G k ∨ W.heap.size ≤ k) (h7 : Keep G W Wr) (h : Next J G' Wr.drew W') :
    Next (lift y G W J) (fun k => G' k ∨ k ≤ W.heap.size) Wr W' := by
  obtain ⟨G2, hJ2, hl2, hg2, hk2⟩ := h
  have hk3 : Keep G' Wr W' := ⟨hk2.os, hk2.tape, hk2.output, hk2.size, hk2.block⟩
  have hlt := h4.lt
  have hsz := hk3.size
  refine ⟨fun k => G2 k ∨ k ≤ W.heap.size, ⟨G2, hJ2, hl2, rfl, h4.keep hk3 h5, fun h => (hg2 _ h).elim h5 (fun h => ?_), fun k hk => (hg2 k hk).elim (fun h => h6 k h) (fun h => .inr ?_), Keep.after h6 h7 hk3⟩, fun k hk => ?_, fun k hk => ?_, hk3.mono fun k _ h => .inl h⟩
  · have h : Wr.heap.size ≤ W.heap.size := h
    omega
  · have h : Wr.heap.size ≤ k := h
    omega
  · rcases hk with hk | hk
    · exact hl2 k hk
    · omega
  · rcases hk with hk | hk
    · exact (hg2 k hk).elim (fun h => .inl (.inl h)) (fun h => .inr h)
    · exact .inl (.inr hk)
def WV (y : Value) (s : ByteArray) (a b : Nat) (t : ByteArray) : Nat → (Nat → Value) → World → Prop
  | 0, ys, _ => ys 0 = y
  | 1, ys, _ => ys 1 = .string s
  | 2, ys, _ => ys 2 = .int .i64 a
  | 3, ys, _ => ys 3 = .int .i64 b
  | 4, ys, _ => ys 4 = .string t
  | 6, ys, _ => ∃ c : Bool, ys 5 = .bool c ∧ ys 6 = .bool (!c)
  | _, _, _ => True
def Said (T U : World → Prop) (v : Value) (w : World) : Prop := (v = .bool true ∧ T w) ∨ (v = .bool false ∧ U w)
set_option maxHeartbeats 4000000 in
set_option maxRecDepth 100000 in
theorem words_gives (s : ByteArray) (hlen : s.size ≤ 70368744177664) (B : Nat) (w : World) (hB : Box w B 9 (.string s)) :
    Gives Tryz.prog 95 #[.pointer (some ⟨B, 0, none⟩)] (fun k => k = B) encS ((M.places s.data.toList).map (pc s)) w := by
  intro l J Jx G W hW hCG hJ hJx hY h0 hlive
  have hBW := hB.keep hW (fun h => h rfl)
  have hGB := hCG B rfl
  have hcB := hBW.cell
  have hGR : ¬ G W.heap.size := fun h => by have := hlive _ h; omega
  have hBlt := hBW.lt
  refine (callsIn_wide (n := 9)).1 ?_
  refine callsIn_of_wp_marks Tryz.func95 rfl trivial ?_
  simp only [Tryz.ntmps95, List.size_toArray, List.length_cons, List.length_nil, Nat.reduceAdd, Nat.reduceSub, Array.replicate_succ, Array.replicate_zero, List.push_toArray, List.append_toArray, List.nil_append, List.cons_append]
  gi_wp2_with (gi_at_call 96; refine (callsIn_wide.2 (places_any s _)).mono ?_; rintro e w' ⟨rfl, rfl⟩)
  have hY1 : Box (W.alloc (.cells #[.func (.yield l) #[] #[]] 103)) W.heap.size 103 (.func (.yield l) #[] #[]) := Box.new W 103 _
  have hB2 := Box.new (W.alloc (.cells #[.func (.yield l) #[] #[]] 103)) 9 (.string s)
  rw [World.size_alloc] at hB2
  refine wpIn_over (gf := 113) (lb := #[.pointer (some ⟨W.heap.size + 1, 0, none⟩)]) rfl (enters_of Tryz.func113 (by kernel_rfl) rfl) (places_gives s hlen (W.heap.size + 1) _ hB2) (fun k hk => by subst hk; simp) (fun _ => rfl)
    (fun pre => lift (.func (.yield l) #[] #[]) G W (J (pre.map (pc s)))) (fun c pre => lift (.func (.yield l) #[] #[]) G W (fun G' Wr => c = .ret ∧ Jx (pre.map (pc s)) G' Wr))
    (fun s => lift_stable (hJ _)) (fun c s => lift_stable (fun G' W1 W2 h hl hk => ⟨h.1, hJx _ G' W1 W2 h.2 hl hk⟩)) (fun k => G k ∨ k ≤ W.heap.size)
    (fun k hk h => by subst hk; exact h.elim (fun h => by have := hlive _ h; omega) (fun h => by omega))
    ⟨G, hJ _ _ _ _ h0 hlive (((Keep.refl _ _).alloc _).alloc _), fun k hk => by have := hlive k hk; simp; omega, rfl, hY1.alloc _, hGR, fun k hk => .inl hk, ((Keep.refl _ _).alloc _).alloc _⟩
    (fun k hk => hk.elim (fun hk => by have := hlive k hk; simp; omega) (fun hk => by simp; omega))
    (fun x => { tmps := #[.func (.yield l) #[] #[], .pointer (some ⟨B, 0, none⟩), .pointer (some ⟨W.heap.size, 0, none⟩), .int .i64 x.1, .int .i64 x.2, .string s, .func (.func 113) #[] #[.pointer (some ⟨W.heap.size + 1, 0, none⟩)], .int .i64 x.1, .int .i64 x.2, undef, undef, undef, undef, undef, undef, undef], defers := [] }) ?assign ?body ?done ?stop
  case assign =>
    intro l2 x W2 K hK
    dsimp only [encP]
    gi_wp2
    exact hK
  case body =>
    rintro l2 pre x G1 Wr hpx ⟨G', h1, h2, rfl, h4, h5, h6, h7⟩ _
    gi_wp2
    have hmem : x ∈ M.places s.data.toList := hpx.subset (by simp)
    obtain ⟨hf1, hf2⟩ := M.places_fits _ x hmem
    obtain ⟨a, b⟩ := x
    have hf2 : b ≤ s.size := hf2
    have hf1 : a ≤ b := Nat.le_of_lt hf1
    have hcs := (hBW.keep h7 hGB).cell
    have hcy := h4.cell
    obtain ⟨t, ht⟩ : ∃ t, t = pc s (a, b) := ⟨_, rfl⟩
    have hpe : s.extract a b = t := ht ▸ pc_eq s (a, b)
    have hpm : (pre ++ [(a, b)]).map (pc s) = pre.map (pc s) ++ [t] := by rw [List.map_append, ht]; rfl
    have hJd := hJ _ _ _ _ h1 h2 ((Keep.refl _ Wr).drew)
    obtain ⟨fn, tmps, assign, body, hy, hR⟩ := hY (pre.map (pc s)) t G' Wr.drew (by rw [← hpm]; exact hpx.map _) hJd h2 4
    dsimp only [encS] at hy
    have HR := Lib.hid hR
    have HPM := Lib.hid hpm
    clear hR hpm ht hpx hmem
    refine wpIn_region_flow (fun _ => trivial) (by kernel_rfl) (waistI 5 Wr.drew (Said (Next (J (pre.map (pc s) ++ [t])) G' Wr.drew) (Next (Jx (pre.map (pc s) ++ [t])) G' Wr.drew))) (fun _ _ _ _ => True) (WV (.func (.yield l) #[] #[]) s a b t) (fun j => j == 6) (by kernel_rfl) (by kernel_rfl) ?hst ⟨fun _ => rfl, fun h => by cases h⟩ ?step ?fin
    case hst =>
      intro i j ys v w1 w2 hij hanc _ hV _
      match j, hV with
      | 0, hV => exact (upd_other ys v (Ne.symm hij)).trans hV
      | 1, hV => exact (upd_other ys v (Ne.symm hij)).trans hV
      | 2, hV => exact (upd_other ys v (Ne.symm hij)).trans hV
      | 3, hV => exact (upd_other ys v (Ne.symm hij)).trans hV
      | 4, hV => exact (upd_other ys v (Ne.symm hij)).trans hV
      | 5, hV => trivial
      | 6, hV =>
        obtain ⟨c, h5, h6⟩ := hV
        by_cases e : i = 5
        · subst e; cases hanc.symm.trans (by kernel_rfl : _ = true)
        · exact ⟨c, (upd_other ys v (Ne.symm e)).trans h5, (upd_other ys v (Ne.symm hij)).trans h6⟩
      | _ + 7, hV => trivial
    case step =>
      refine ⟨?_, ?_, ?_, ?_, ?_, ?_, ?_, trivial⟩
      · intro listed ys A w hsz hsd hi hall hA hI hd K hK
        obtain rfl := hI.1 (not_yet hsd hi (by kernel_rfl))
        have e2 : A.tmps.getD 2 undef = .pointer (some ⟨W.heap.size, 0, none⟩) := hA 2 (Nat.le_of_ble_eq_true rfl)
        refine step_run (.inl rfl) ?_
        clear hA hd
        go_simp
        exact hK _ _ (hI.other (by decide) _) trivial (upd_same _ _ _)
      · intro listed ys A w hsz hsd hi hall hA hI hd K hK
        obtain rfl := hI.1 (not_yet hsd hi (by kernel_rfl))
        have e1 : A.tmps.getD 1 undef = .pointer (some ⟨B, 0, none⟩) := hA 1 (Nat.le_of_ble_eq_true rfl)
        refine step_run (.inl rfl) ?_
        clear hA hd
        go_simp
        exact hK _ _ (hI.other (by decide) _) trivial (upd_same _ _ _)
      · intro listed ys A w hsz hsd hi hall hA hI hd K hK
        have e3 : A.tmps.getD 3 undef = .int .i64 a := hA 3 (Nat.le_of_ble_eq_true rfl)
        refine step_run (.inl rfl) ?_
        clear hA hd
        go_simp
        exact hK _ _ (hI.other (by decide) _) trivial (upd_same _ _ _)
      · intro listed ys A w hsz hsd hi hall hA hI hd K hK
        have e4 : A.tmps.getD 4 undef = .int .i64 b := hA 4 (Nat.le_of_ble_eq_true rfl)
        refine step_run (.inl rfl) ?_
        clear hA hd
        go_simp
        exact hK _ _ (hI.other (by decide) _) trivial (upd_same _ _ _)
      · intro listed ys A w hsz hsd hi hall hA hI hd K hK
        have e10 : A.tmps.getD 10 undef = .string s := (hA 10 (Nat.le_of_ble_eq_true rfl)).trans (hd ⟨1, .data⟩ (by simp) rfl)
        have e11 : A.tmps.getD 11 undef = .int .i64 a := (hA 11 (Nat.le_of_ble_eq_true rfl)).trans (hd ⟨2, .data⟩ (by simp) rfl)
        have e12 : A.tmps.getD 12 undef = .int .i64 b := (hA 12 (Nat.le_of_ble_eq_true rfl)).trans (hd ⟨3, .data⟩ (by simp) rfl)
        refine step_run (.inl rfl) ?_
        clear hA hd
        go_simp
        exact hK _ _ (hI.other (by decide) _) trivial (upd_same _ _ _)
      · intro listed ys A w hsz hsd hi hall hA hI hd K hK
        obtain rfl := hI.1 hi
        have e9 : A.tmps.getD 9 undef = .func (.yield l) #[] #[] := (hA 9 (Nat.le_of_ble_eq_true rfl)).trans (hd ⟨0, .data⟩ (by simp) rfl)
        have e13 : A.tmps.getD 13 undef = .string t := (hA 13 (Nat.le_of_ble_eq_true rfl)).trans (hd ⟨4, .data⟩ (by simp) rfl)
        refine step_run (.inl rfl) ?_
        clear hA hd
        go_simp
        refine (round_in (round_any HR.out)).mono ?_
        rintro e W3 (⟨rfl, hn⟩ | ⟨rfl, hn⟩)
        · exact hK _ _ (waistI.call (by rw [hsz]; decide) (.inl ⟨rfl, hn⟩)) trivial trivial
        · exact hK _ _ (waistI.call (by rw [hsz]; decide) (.inr ⟨rfl, hn⟩)) trivial trivial
      · intro listed ys A w hsz hsd hi hall hA hI hd K hK
        have h5 := hI.2 (hall ⟨5, .data⟩ (by simp) rfl)
        have e14 : A.tmps.getD 14 undef = ys 5 := hA 14 (Nat.le_of_ble_eq_true rfl)
        rcases h5 with ⟨hb, _⟩ | ⟨hb, _⟩
        · rw [hb] at e14
          refine step_run (.inl rfl) ?_
          clear hA hd
          go_simp
          exact hK _ _ (hI.other (by decide) _) trivial ⟨true, (upd_other _ _ (by decide)).trans hb, upd_same _ _ _⟩
        · rw [hb] at e14
          refine step_run (.inl rfl) ?_
          clear hA hd
          go_simp
          exact hK _ _ (hI.other (by decide) _) trivial ⟨false, (upd_other _ _ (by decide)).trans hb, upd_same _ _ _⟩
    case fin =>
      intro listed ys w hall hI hV
      have h5' := hI.2 (hall 5 (by decide))
      obtain ⟨c, hc5, hc6⟩ := hV 6 (by decide) rfl
      have H4 := Lib.hid (fun J => relift (J := J) (W' := w) h4 h5 h6 h7)
      clear hI hV hcs hcy hf1 hf2 hpe hy hall h5 h6 h7
      rcases h5' with ⟨hb, hn⟩ | ⟨hb, hn⟩
      · rw [hb] at hc5
        obtain rfl : c = true := by injection hc5 with h; exact h.symm
        have HN := Lib.hid hn
        clear hn hb hc5
        simp only [putsFrom]
        simp only [hc6, Bool.not_true, Act.put, List.setIfInBounds_toArray, List.set_cons_succ, List.set_cons_zero]
        gi_wp2
        show Next (lift _ G W (J ((pre ++ [(a, b)]).map (pc s)))) _ Wr w
        rw [HPM.out]
        exact H4.out _ HN.out
      · rw [hb] at hc5
        obtain rfl : c = false := by injection hc5 with h; exact h.symm
        have HN := Lib.hid hn
        clear hn hb hc5
        simp only [putsFrom]
        simp only [hc6, Bool.not_false, Act.put, List.setIfInBounds_toArray, List.set_cons_succ, List.set_cons_zero]
        gi_wp2
        show Next (lift _ G W (fun G' Wr => Code.ret = .ret ∧ Jx ((pre ++ [(a, b)]).map (pc s)) G' Wr)) _ Wr w
        rw [HPM.out]
        exact H4.out _ (HN.out.imp fun _ _ h => ⟨rfl, h⟩)
  case done =>
    intro D We hlf
    gi_wp2
    refine ⟨by simp, .inl ⟨_, _, rfl, hlf.takes, ?_⟩⟩
    exact ⟨_, results_none rfl _ _ _, ⟨_, rfl⟩, .inl (unlift (hlf.shut (lift_stable (hJ _))))⟩
  case stop =>
    intro D c pre We hpre hlf
    have hc : c = .ret := by obtain ⟨_, ⟨_, ⟨hc, _⟩, _⟩, _⟩ := hlf; exact hc
    subst hc
    gi_wp2
    refine ⟨by simp, .inl ⟨_, _, rfl, hlf.takes, ?_⟩⟩
    refine ⟨_, results_none rfl _ _ _, ⟨_, rfl⟩, .inr ⟨pre.map (pc s), hpre.map _, ?_⟩⟩
    obtain ⟨G', hj, hr⟩ := unlift (hlf.shut (lift_stable (fun G' W1 W2 h hl hk => ⟨h.1, hJx _ G' W1 W2 h.2 hl hk⟩)))
    exact ⟨G', hj.2, hr⟩
end Go.Proofs.YtoobjjpheegmdaaGreat.H3
namespace Go.Proofs.YtoobjjpheegmdaaGreat.H3
open Go.RowKit Go
end Go.Proofs.YtoobjjpheegmdaaGreat.H3
namespace Go.Proofs.YtoobjjpheegmdaaGreat.H3
open Go.RowKit Go Go.Shelf
attribute [local go_sem] Oper.semAt_some wide_fn wide_depth
end Go.Proofs.YtoobjjpheegmdaaGreat.H3
namespace Go.Proofs.YtoobjjpheegmdaaGreat.H3
open Go.RowKit Go
end Go.Proofs.YtoobjjpheegmdaaGreat.H3
namespace Go.Proofs.YtoobjjpheegmdaaGreat.H3
open Go.RowKit Go Go.Shelf
attribute [local go_sem] Oper.semAt_some wide_fn wide_depth
def wordsB (s : ByteArray) : List ByteArray := (M.places s.data.toList).map (pc s)
theorem wordsB_eq (s : ByteArray) : wordsB s = (M.words s.data.toList).map bs := by
  unfold wordsB
  rw [← M.places_words, List.map_map]
  rfl
theorem wordsB_length (s : ByteArray) : (wordsB s).length ≤ s.size := by
  rw [wordsB_eq, List.length_map]
  have h := M.words_length s.data.toList
  have e : s.data.toList.length = s.size := Array.length_toList
  omega
def hasB (s t : ByteArray) : Bool := (wordsB s).any fun x => decide (x = t)
end Go.Proofs.YtoobjjpheegmdaaGreat.H3
