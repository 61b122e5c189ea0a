/-
  READING AGAIN WHAT WAS PUT: what a reader makes of a number's bytes, and a text's. Of the old blocks only one has turned ('Chg').
-/
import Derived.Test.YtgcldnojmdabpaaRead
import Derived.Test.YtgcldnojmdabpaaPut
namespace Go.Proofs.Ytgcldnojmdabpaa
open Go.RowKit Go

/-- The three ways. -/
theorem RU.ways {most : Nat} {l : List UInt8} {bad : Bool} {n : Nat} {l' : List UInt8} {bad' : Bool} (h : RU most l bad n l' bad') :
    (∃ l0 c, M.IsNum l0 c ∧ l = l0 ++ c :: l' ∧ bad = false ∧ n = M.low (l0 ++ [c]) ∧ bad' = false ∧ M.low (l0 ++ [c]) ≤ most) ∨
    (bad = false ∧ n = 0 ∧ l' = [] ∧ bad' = true ∧ ∀ l0 c r, M.IsNum l0 c → l = l0 ++ c :: r → most < M.low (l0 ++ [c])) ∨
    (bad = true ∧ n = 0 ∧ l' = l ∧ bad' = true) := by
  cases h with
  | good l0 c _ hn hm => exact .inl ⟨l0, c, hn, rfl, rfl, rfl, rfl, hm⟩
  | none _ hno => exact .inr (.inl ⟨rfl, rfl, rfl, rfl, hno⟩)
  | bad => exact .inr (.inr ⟨rfl, rfl, rfl, rfl⟩)

/-- What a reader answers hangs on what is left alone. -/
theorem RU.det {most : Nat} {l : List UInt8} {bad : Bool} {n : Nat} {l' : List UInt8} {bad' : Bool} {n2 : Nat} {l2 : List UInt8} {bad2 : Bool} (h : RU most l bad n l' bad') (k : RU most l bad n2 l2 bad2) : n2 = n ∧ l2 = l' ∧ bad2 = bad' := by
  rcases h.ways with ⟨l0, c, hn, hl, hb, h1, h2, hm⟩ | ⟨hb, h1, h2, h3, hno⟩ | ⟨hb, h1, h2, h3⟩
  · rcases k.ways with ⟨m0, d, km, kl, _, k1, k2, _⟩ | ⟨_, _, _, _, kno⟩ | ⟨kb, _⟩
    · obtain ⟨rfl, rfl, rfl⟩ := M.parts_unique hn.cont hn.last km.cont km.last (hl.symm.trans kl)
      exact ⟨by rw [h1, k1], rfl, by rw [h2, k2]⟩
    · have := kno l0 c l' hn hl
      omega
    · rw [hb] at kb; cases kb
  · rcases k.ways with ⟨m0, d, km, kl, _, k1, k2, kle⟩ | ⟨_, k1, k2, k3, _⟩ | ⟨kb, _⟩
    · have := hno m0 d l2 km kl
      omega
    · exact ⟨by rw [h1, k1], by rw [h2, k2], by rw [h3, k3]⟩
    · rw [hb] at kb; cases kb
  · rcases k.ways with ⟨m0, d, km, kl, kb, _⟩ | ⟨kb, _⟩ | ⟨_, k1, k2, k3⟩
    · rw [hb] at kb; cases kb
    · rw [hb] at kb; cases kb
    · exact ⟨by rw [h1, k1], by rw [h2, k2], by rw [h3, k3]⟩

theorem zig_unzig (n : Nat) : Lib.zigzag (Lib.unzigzag n) = n := by
  by_cases h : n % 2 = 0
  · rw [unzig_even n h]; unfold Lib.zigzag; rw [if_pos (by omega)]; omega
  · rw [unzig_odd n h]; unfold Lib.zigzag; rw [if_neg (by omega)]; omega

theorem unzig_bounds (n : Nat) (h : n < 18446744073709551616) : -9223372036854775808 ≤ Lib.unzigzag n ∧ Lib.unzigzag n ≤ 9223372036854775807 := by
  by_cases e : n % 2 = 0
  · rw [unzig_even n e]; omega
  · rw [unzig_odd n e]; omega

theorem bs_string_of {B : Nat} {w : World} {v : Value} {l : List UInt8} (h : Bs B w v l) (s : ByteArray) (hs : s.data.toList = l) : (convert 32 9 v).run Try.prog w = .ok (.string s) w := by
  have := bs_string h
  rw [← hs, Lib.mk_data] at this
  exact this

/-- The number of all bytes. -/
theorem ru_all {most : Nat} {l : List UInt8} {n : Nat} (h : RU most l false n [] false) : Lib.uvarint n = l := by
  cases h with
  | good l0 c r hn hm => exact hn.put

/-- What was put is read. -/
theorem ru_put {most x : Nat} (hx : x < 18446744073709551616) (hm : x ≤ most) {r l : List UInt8} (hl : l = Lib.uvarint x ++ r) {n : Nat} {l' : List UInt8} {bad' : Bool} (h : RU most l false n l' bad') : n = x ∧ l' = r ∧ bad' = false := by
  obtain ⟨l0, c, e, hn, hlow⟩ := M.isNum_of x hx
  rw [e, List.append_assoc] at hl
  cases h with
  | good m0 d t hm0 _ =>
    obtain ⟨rfl, rfl, rfl⟩ := M.parts_unique hm0.cont hm0.last hn.cont hn.last hl
    exact ⟨hlow, rfl, rfl⟩
  | none _ hno =>
    have := hno l0 c r hn hl
    omega

/-- A text that was put is read. -/
theorem rt_put {most : Nat} {s r l : List UInt8} (hs : s.length < 18446744073709551616) (hm : s.length ≤ most) (hl : l = textB s ++ r) {t l' : List UInt8} {bad' : Bool} (h : RT most l false t l' bad') : t = s ∧ l' = r ∧ bad' = false := by
  have hl2 : l = Lib.uvarint s.length ++ (s ++ r) := by rw [hl]; unfold textB; rw [List.append_assoc]
  cases h with
  | bad n l1 h =>
    obtain ⟨_, _, h3⟩ := ru_put hs hm hl2 h
    cases h3
  | short n l1 h hn =>
    obtain ⟨rfl, rfl, _⟩ := ru_put hs hm hl2 h
    simp at hn
    omega
  | good n l1 h hn =>
    obtain ⟨rfl, rfl, _⟩ := ru_put hs hm hl2 h
    exact ⟨by simp, by simp, rfl⟩

theorem append_data (a b : ByteArray) : (a ++ b).data.toList = a.data.toList ++ b.data.toList := by
  rw [ByteArray.data_append, Array.toList_append]
theorem append_size (a b : ByteArray) : (a ++ b).size = a.size + b.size := by
  rw [Lib.size_eq, append_data, List.length_append, ← Lib.size_eq, ← Lib.size_eq]

/-- Of the old blocks only g has turned. -/
structure Chg (g : Nat) (w w' : World) : Prop where
  os : w'.os = w.os
  tape : w'.tape = w.tape
  output : w'.output = w.output
  size : w.heap.size ≤ w'.heap.size
  block : ∀ k, k < w.heap.size → k ≠ g → w'.heap[k]? = w.heap[k]?

theorem Chg.refl (g : Nat) (w : World) : Chg g w w := ⟨rfl, rfl, rfl, Nat.le_refl _, fun _ _ _ => rfl⟩
theorem Chg.trans {g : Nat} {a b c : World} (h : Chg g a b) (k : Chg g b c) : Chg g a c :=
  ⟨k.os.trans h.os, k.tape.trans h.tape, k.output.trans h.output, Nat.le_trans h.size k.size, fun i hi hn => (k.block i (Nat.lt_of_lt_of_le hi h.size) hn).trans (h.block i hi hn)⟩
theorem Only.chg {g : Nat} {w w' : World} (h : Only g w w') : Chg g w w' := ⟨h.os, h.tape, h.output, Nat.le_of_eq h.size.symm, fun k _ hk => h.block k hk⟩
theorem Chg.drew {g : Nat} {a w : World} (h : Chg g a w) : Chg g a w.drew := ⟨h.os, h.tape, h.output, h.size, h.block⟩
theorem Chg.alloc (g : Nat) (w : World) (o : Obj) : Chg g w (w.alloc o) := ⟨rfl, rfl, rfl, by simp, fun k hk _ => Below.heap_alloc w o k hk⟩
theorem Chg.below {g B : Nat} {w w' : World} (h : Chg g w w') (hg : B ≤ g) (hB : B ≤ w.heap.size) : Below B w w' := ⟨h.os, h.tape, h.output, h.size, fun k hk => h.block k (by omega) (by omega)⟩
theorem Chg.cell {g : Nat} {w w' : World} (h : Chg g w w') {b o : Nat} (hb : b < w.heap.size) (hn : b ≠ g) : w'.cell? ⟨b, o, none⟩ = w.cell? ⟨b, o, none⟩ := World.cell?_of_block (a := ⟨b, o, none⟩) (h.block b hb hn)
theorem Rd.drew {w : World} {g : Nat} {l : List UInt8} {bad : Bool} (h : Rd w g l bad) : Rd w.drew g l bad := h.carry rfl
theorem Rd.alloc {w : World} {g : Nat} {l : List UInt8} {bad : Bool} (h : Rd w g l bad) (o : Obj) : Rd (w.alloc o) g l bad := h.carry (Below.heap_alloc w o g h.lt)

theorem unzig_zig (k : Int) : Lib.unzigzag (Lib.zigzag k) = k := by
  unfold Lib.zigzag Lib.unzigzag
  by_cases h : 0 ≤ k
  · rw [if_pos h, if_pos (by omega)]; omega
  · rw [if_neg h, if_neg (by omega)]; omega

/-- A number of which the text breaks off, or not. -/
theorem ru_trunc {most y : Nat} (hy : y < 18446744073709551616) {l u E : List UInt8} (hl : l ++ u = Lib.uvarint y ++ E) {m : Nat} {l' : List UInt8} {bad' : Bool} (h : RU most l false m l' bad') :
    bad' = true ∨ (l' ++ u = E ∧ m = y) := by
  obtain ⟨m0, d, e, hm, hlow⟩ := M.isNum_of y hy
  rcases h.ways with ⟨l0, c, hn, h1, _, h2, h3, _⟩ | ⟨_, _, _, h3, _⟩ | ⟨h3, _⟩
  · rw [h1, e, List.append_assoc, List.append_assoc, List.cons_append, List.singleton_append] at hl
    obtain ⟨rfl, rfl, h4⟩ := M.parts_unique hn.cont hn.last hm.cont hm.last hl
    exact .inr ⟨h4, by rw [h2, hlow]⟩
  · exact .inl h3
  · cases h3

theorem rt_trunc {most : Nat} {s : List UInt8} (hs : s.length < 18446744073709551616) {l u E : List UInt8} (hl : l ++ u = textB s ++ E) {t l' : List UInt8} {bad' : Bool} (h : RT most l false t l' bad') : bad' = true ∨ l' ++ u = E := by
  have hl2 : l ++ u = Lib.uvarint s.length ++ (s ++ E) := by rw [hl]; unfold textB; rw [List.append_assoc]
  cases h with
  | bad n l1 h => exact .inl rfl
  | short n l1 h hn => exact .inl rfl
  | good n l1 h hn =>
    rcases ru_trunc hs hl2 h with h3 | ⟨h3, rfl⟩
    · cases h3
    · refine .inr ?_
      have h4 := congrArg (List.drop s.length) h3
      rw [List.drop_append_of_le_length hn, List.drop_left] at h4
      exact h4

theorem ru_bad {most : Nat} {l : List UInt8} {m : Nat} {l' : List UInt8} {bad' : Bool} (h : RU most l true m l' bad') : bad' = true := by
  rcases h.ways with ⟨_, _, _, _, h3, _⟩ | ⟨h3, _⟩ | ⟨_, _, _, h3⟩
  · cases h3
  · cases h3
  · exact h3

theorem rt_bad {most : Nat} {l t l' : List UInt8} {bad' : Bool} (h : RT most l true t l' bad') : bad' = true := by
  cases h with
  | bad n l1 h => rfl
  | short n l1 h hn => rfl
  | good n l1 h hn => exact ru_bad h

/-- A slice's beginning. -/
theorem Bs.take {B : Nat} {w : World} {g len cap : Nat} {l : List UInt8} (h : Bs B w (.slice (some ⟨g, 0, none⟩) len cap) l) (k : Nat) (hk : k ≤ l.length) : Bs B w (.slice (some ⟨g, 0, none⟩) k cap) (l.take k) := by
  rcases h with ⟨h, _⟩ | ⟨g', cap', hv, hB, hg, hl, hm, hc, hf⟩
  · cases h
  · simp only [Value.slice.injEq, Option.some.injEq, Addr.mk.injEq, and_true] at hv
    obtain ⟨rfl, rfl, rfl⟩ := hv
    have hkl : (l.take k).length = k := by rw [List.length_take]; omega
    refine .inr ⟨g, cap, by rw [hkl], hB, hg, by omega, hm, fun j hj => ?_, hf⟩
    rw [hkl] at hj
    rw [hc j (by omega)]
    simp only [cellsOf, List.getElem?_map, List.getElem?_take, if_pos hj]

end Go.Proofs.Ytgcldnojmdabpaa
