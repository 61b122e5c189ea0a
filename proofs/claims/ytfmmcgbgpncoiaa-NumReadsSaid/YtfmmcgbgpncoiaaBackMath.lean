/-
  Items put one behind the other, and read again: what is left of them. No walk.
-/
import Derived.Test.YtfmmcgbgpncoiaaBack1
namespace Go.Proofs.Ytfmmcgbgpncoiaa
open Go.RowKit Go

theorem unzig_zig (k : Int) : Lib.unzigzag (Lib.zigzag k) = k := by
  unfold Lib.zigzag Lib.unzigzag
  by_cases h : 0 ≤ k
  · rw [if_pos h, if_pos (by omega)]; omega
  · rw [if_neg h, if_neg (by omega)]; omega

/-- A number of which the text breaks off, or not. -/
theorem ru_trunc {most y : Nat} (hy : y < 18446744073709551616) {l u E : List UInt8} (hl : l ++ u = Lib.uvarint y ++ E) {m : Nat} {l' : List UInt8} {bad' : Bool} (h : RU most l false m l' bad') :
    bad' = true ∨ (l' ++ u = E ∧ m = y) := by
  obtain ⟨m0, d, e, hm, hlow⟩ := M.isNum_of y hy
  rcases h.ways with ⟨l0, c, hn, h1, _, h2, h3, _⟩ | ⟨_, _, _, h3, _⟩ | ⟨h3, _⟩
  · rw [h1, e, List.append_assoc, List.append_assoc, List.cons_append, List.singleton_append] at hl
    obtain ⟨rfl, rfl, h4⟩ := M.parts_unique hn.cont hn.last hm.cont hm.last hl
    exact .inr ⟨h4, by rw [h2, hlow]⟩
  · exact .inl h3
  · cases h3

theorem rt_trunc {most : Nat} {s : List UInt8} (hs : s.length < 18446744073709551616) {l u E : List UInt8} (hl : l ++ u = textB s ++ E) {t l' : List UInt8} {bad' : Bool} (h : RT most l false t l' bad') : bad' = true ∨ l' ++ u = E := by
  have hl2 : l ++ u = Lib.uvarint s.length ++ (s ++ E) := by rw [hl]; unfold textB; rw [List.append_assoc]
  cases h with
  | bad n l1 h => exact .inl rfl
  | short n l1 h hn => exact .inl rfl
  | good n l1 h hn =>
    rcases ru_trunc hs hl2 h with h3 | ⟨h3, rfl⟩
    · cases h3
    · refine .inr ?_
      have h4 := congrArg (List.drop s.length) h3
      rw [List.drop_append_of_le_length hn, List.drop_left] at h4
      exact h4

theorem enc_yes (n : Nat) : [if n % 2 == 1 then (1 : UInt8) else 0] = Lib.uvarint (n % 2) := by
  rw [Lib.uvarint_small (by omega)]
  have : n % 2 = 0 ∨ n % 2 = 1 := by omega
  rcases this with h | h <;> rw [h] <;> rfl

theorem It.enc0 {x : It} (h : x.kind = 0) : x.enc = Lib.uvarint x.n := by unfold It.enc; rw [if_pos h]
theorem It.enc1 {x : It} (h : x.kind = 1) : x.enc = Lib.uvarint (Lib.zigzag (wrap64 x.n)) := by unfold It.enc; rw [if_neg (by omega), if_pos h]
theorem It.enc2 {x : It} (h : x.kind = 2) : x.enc = textB x.s.data.toList := by unfold It.enc; rw [if_neg (by omega), if_neg (by omega), if_pos h]
theorem It.enc3 {x : It} (h0 : x.kind ≠ 0) (h1 : x.kind ≠ 1) (h2 : x.kind ≠ 2) : x.enc = Lib.uvarint (x.n % 2) := by unfold It.enc; rw [if_neg h0, if_neg h1, if_neg h2, enc_yes]

theorem zw_lt (n : Int) : Lib.zigzag (wrap64 n) < 18446744073709551616 := Lib.zigzag_lt (wrap_bounds n).1 (wrap_bounds n).2

/-- An item that was put is read. -/
theorem rb_put {x : It} (hx : x.Fits) {r : List UInt8} {ok : Bool} {l l' : List UInt8} {bad' : Bool} (hl : l = x.enc ++ r) (h : RB x l false ok l' bad') : ok = true ∧ l' = r ∧ bad' = false := by
  cases h with
  | num h m _ _ hr =>
    obtain ⟨rfl, h2, h3⟩ := ru_put hx.num (Nat.le_refl _) (by rw [hl, It.enc0 h]) hr
    exact ⟨by simp, h2, h3⟩
  | int h m _ _ hr =>
    obtain ⟨rfl, h2, h3⟩ := ru_put (zw_lt x.n) (by have := zw_lt x.n; omega) (by rw [hl, It.enc1 h]) hr
    exact ⟨by rw [unzig_zig]; simp, h2, h3⟩
  | txt h t _ _ hr =>
    have hs : x.s.data.toList.length = x.s.size := (Lib.size_eq x.s).symm
    have ht := hx.txt
    obtain ⟨h1, h2, h3⟩ := rt_put (by rw [hs]; omega) (Nat.le_of_eq hs) (by rw [hl, It.enc2 h]) hr
    exact ⟨by rw [Lib.toList_data, Lib.toList_data, h1]; simp, h2, h3⟩
  | yes h0 h1 h2 m _ _ hr =>
    obtain ⟨rfl, h2, h3⟩ := ru_put (x := x.n % 2) (by omega) (by omega) (by rw [hl, It.enc3 h0 h1 h2]) hr
    exact ⟨by simp, h2, h3⟩

theorem rb_trunc {x : It} (hx : x.Fits) {u E : List UInt8} {ok : Bool} {l l' : List UInt8} {bad' : Bool} (hl : l ++ u = x.enc ++ E) (h : RB x l false ok l' bad') : bad' = true ∨ l' ++ u = E := by
  cases h with
  | num h m _ _ hr => exact (ru_trunc hx.num (by rw [hl, It.enc0 h]) hr).imp id And.left
  | int h m _ _ hr => exact (ru_trunc (zw_lt x.n) (by rw [hl, It.enc1 h]) hr).imp id And.left
  | txt h t _ _ hr =>
    have hs : x.s.data.toList.length = x.s.size := (Lib.size_eq x.s).symm
    have ht := hx.txt
    exact rt_trunc (by rw [hs]; omega) (by rw [hl, It.enc2 h]) hr
  | yes h0 h1 h2 m _ _ hr => exact (ru_trunc (y := x.n % 2) (by omega) (by rw [hl, It.enc3 h0 h1 h2]) hr).imp id And.left

theorem ru_bad {most : Nat} {l : List UInt8} {m : Nat} {l' : List UInt8} {bad' : Bool} (h : RU most l true m l' bad') : bad' = true := by
  rcases h.ways with ⟨_, _, _, _, h3, _⟩ | ⟨h3, _⟩ | ⟨_, _, _, h3⟩
  · cases h3
  · cases h3
  · exact h3

theorem rt_bad {most : Nat} {l t l' : List UInt8} {bad' : Bool} (h : RT most l true t l' bad') : bad' = true := by
  cases h with
  | bad n l1 h => rfl
  | short n l1 h hn => rfl
  | good n l1 h hn => exact ru_bad h

theorem rb_bad {x : It} {ok : Bool} {l l' : List UInt8} {bad' : Bool} (h : RB x l true ok l' bad') : bad' = true := by
  cases h with
  | num h m _ _ hr => exact ru_bad hr
  | int h m _ _ hr => exact ru_bad hr
  | txt h t _ _ hr => exact rt_bad hr
  | yes h0 h1 h2 m _ _ hr => exact ru_bad hr

/-- All items' bytes. -/
def encAll : List It → List UInt8
  | [] => []
  | x :: r => x.enc ++ encAll r

theorem encAll_append (l m : List It) : encAll (l ++ m) = encAll l ++ encAll m := by
  induction l with
  | nil => rfl
  | cons x r ih => simp only [List.cons_append, encAll, ih, List.append_assoc]

theorem enc_len (x : It) (hx : x.Fits) : x.enc.length ≤ 110 := by
  unfold It.enc
  split
  · have := Lib.uvarint_length64 hx.num; omega
  · split
    · have := Lib.uvarint_length64 (zw_lt x.n); omega
    · split
      · have hs : x.s.data.toList.length = x.s.size := (Lib.size_eq x.s).symm
        have ht := hx.txt
        have := Lib.uvarint_length64 (x := x.s.data.toList.length) (by omega)
        simp only [textB, List.length_append]
        omega
      · simp

theorem encAll_len (l : List It) (h : ∀ x ∈ l, x.Fits) : (encAll l).length ≤ 110 * l.length := by
  induction l with
  | nil => simp [encAll]
  | cons x r ih =>
    have a := enc_len x (h x (by simp))
    have b := ih (fun y hy => h y (by simp [hy]))
    simp only [encAll, List.length_append, List.length_cons]
    omega

/-- What is left of a text that breaks off. -/
def Cut (its : List It) (l : List UInt8) (bad : Bool) : Prop := bad = true ∨ ∃ u, u ≠ [] ∧ l ++ u = encAll its

theorem Cut.next {x : It} {its : List It} (hx : x.Fits) {l : List UInt8} {bad : Bool} (hc : Cut (x :: its) l bad) {ok : Bool} {l' : List UInt8} {bad' : Bool} (h : RB x l bad ok l' bad') : Cut its l' bad' := by
  cases bad with
  | true => exact .inl (rb_bad h)
  | false =>
    rcases hc with hc | ⟨u, hu, hl⟩
    · cases hc
    · exact (rb_trunc hx hl h).imp id (fun e => ⟨u, hu, e⟩)

theorem Cut.last {l : List UInt8} {bad : Bool} (hc : Cut [] l bad) : bad = true := by
  rcases hc with hc | ⟨u, hu, hl⟩
  · exact hc
  · exfalso
    have := congrArg List.length hl
    simp only [List.length_append, encAll, List.length_nil] at this
    exact hu (List.eq_nil_of_length_eq_zero (by omega))

/-- A slice's beginning. -/
theorem Bs.take {B : Nat} {w : World} {g len cap : Nat} {l : List UInt8} (h : Bs B w (.slice (some ⟨g, 0, none⟩) len cap) l) (k : Nat) (hk : k ≤ l.length) : Bs B w (.slice (some ⟨g, 0, none⟩) k cap) (l.take k) := by
  rcases h with ⟨h, _⟩ | ⟨g', cap', hv, hB, hg, hl, hm, hc, hf⟩
  · cases h
  · simp only [Value.slice.injEq, Option.some.injEq, Addr.mk.injEq, and_true] at hv
    obtain ⟨rfl, rfl, rfl⟩ := hv
    have hkl : (l.take k).length = k := by rw [List.length_take]; omega
    refine .inr ⟨g, cap, by rw [hkl], hB, hg, by omega, hm, fun j hj => ?_, hf⟩
    rw [hkl] at hj
    rw [hc j (by omega)]
    simp only [cellsOf, List.getElem?_map, List.getElem?_take, if_pos hj]

end Go.Proofs.Ytfmmcgbgpncoiaa
