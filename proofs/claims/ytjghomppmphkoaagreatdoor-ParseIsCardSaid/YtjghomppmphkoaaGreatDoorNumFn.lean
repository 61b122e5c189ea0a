/-
  A NUMBER HAS ONE WAY TO BE WRITTEN, AND THAT WAY IS READ BACK: no program in it.
-/
import Derived.Test.YtjghomppmphkoaaGreatDoorNums
import Derived.Lib.AtoiAll
import Derived.Lib.AtoiAllCases
namespace Go.Proofs.YtjghomppmphkoaaGreatDoor.LX
open Go MW Lib

theorem dig_nat {c : UInt8} (h : dig c = true) : 48 ≤ c.toNat ∧ c.toNat ≤ 57 := by
  unfold dig at h
  rw [Bool.and_eq_true] at h
  exact ⟨of_decide_eq_true h.1, of_decide_eq_true h.2⟩

/-- What digits without noughts ahead say is written by these digits. -/
theorem dec_back : ∀ (n : Nat) (d : List UInt8), d.length = n + 1 → d.all dig = true → (d.headD 0 ≠ 48 ∨ n = 0) → decDigits (natOf d) = d := by
  intro n
  induction n with
  | zero =>
    intro d hl ha _
    match d, hl with
    | [c], _ =>
      simp only [List.all_cons, List.all_nil, Bool.and_true] at ha
      have hc := dig_nat ha
      have e : natOf [c] = c.toNat - 48 := by simp [natOf]
      rw [e, decDigits, dif_pos (by omega)]
      congr 1
      exact UInt8.toNat_inj.1 (by rw [digit_nat _ (by omega)]; omega)
  | succ n ih =>
    intro d hl ha hh
    have hne : d ≠ [] := fun e => by rw [e] at hl; simp at hl
    obtain ⟨a, c, rfl⟩ : ∃ a c, d = a ++ [c] := ⟨d.dropLast, d.getLast hne, (List.dropLast_concat_getLast hne).symm⟩
    have hla : a.length = n + 1 := by simpa using hl
    rw [List.all_append, Bool.and_eq_true] at ha
    obtain ⟨ha1, ha2⟩ := ha
    simp only [List.all_cons, List.all_nil, Bool.and_true] at ha2
    have hc := dig_nat ha2
    have hhd : a.headD 0 ≠ 48 := by
      rcases hh with hh | hh
      · cases a with
        | nil => simp at hla
        | cons x r => exact hh
      · omega
    have hA := ih a hla ha1 (.inl hhd)
    have hpos : natOf a ≠ 0 := fun e => by
      rw [e, decDigits] at hA
      rw [← hA] at hhd
      exact hhd rfl
    rw [natOf_snoc, decDigits, dif_neg (by omega), show (10 * natOf a + (c.toNat - 48)) / 10 = natOf a by omega, hA, show (10 * natOf a + (c.toNat - 48)) % 10 = c.toNat - 48 by omega]
    congr 2
    exact UInt8.toNat_inj.1 (by rw [digit_nat _ (by omega)]; omega)

theorem num_itoa {l : List UInt8} {v : Int} (h : num l = some v) : l = itoa v ∧ -9223372036854775808 ≤ v ∧ v ≤ 9223372036854775807 := by
  unfold num at h
  by_cases hf : numForm l = true
  · rw [if_pos hf] at h
    unfold numForm at hf
    rw [Bool.and_eq_true, Bool.and_eq_true, Bool.and_eq_true] at hf
    obtain ⟨⟨⟨h1, h2⟩, h3⟩, h4⟩ := hf
    have hne : digs l ≠ [] := fun e => by rw [e] at h1; cases h1
    have hl : ∃ n, (digs l).length = n + 1 := ⟨(digs l).length - 1, by have := List.length_pos_iff.2 hne; omega⟩
    obtain ⟨n, hl⟩ := hl
    rw [Bool.or_eq_true] at h3
    by_cases h45 : l.headD 0 = 45
    · rw [if_pos h45] at h
      have hd : digs l = l.tail := if_pos h45
      have hc : l = 45 :: l.tail := by
        cases l with
        | nil => cases h45
        | cons c r => exact congrArg (· :: r) h45
      have h48 : (digs l).headD 0 ≠ 48 := by
        rcases h3 with h3 | h3
        · simpa using h3
        · have := of_decide_eq_true h3
          rw [this] at h45
          cases h45
      have hb := dec_back n _ hl h4 (.inl h48)
      split at h
      · rename_i hle
        cases h
        have hpos : natOf (digs l) ≠ 0 := fun e => by
          rw [e, decDigits] at hb
          rw [← hb] at h48
          exact h48 rfl
        refine ⟨?_, by omega, by omega⟩
        unfold itoa
        rw [if_pos (by omega), show (-(natOf (digs l) : Int)).natAbs = natOf (digs l) by omega, hb, hd]
        exact hc
      · cases h
    · rw [if_neg h45] at h
      have hd : digs l = l := if_neg h45
      rw [hd] at hl h h3 h4
      have hb := dec_back n l hl h4 (by
        rcases h3 with h3 | h3
        · exact .inl (by simpa using h3)
        · have := of_decide_eq_true h3
          rw [this] at hl
          exact .inr (by simpa using hl.symm))
      split at h
      · rename_i hlt
        cases h
        refine ⟨?_, by omega, by omega⟩
        unfold itoa
        rw [if_neg (by omega), show ((natOf l : Int)).toNat = natOf l by omega, hb]
      · cases h
  · rw [if_neg hf] at h
    cases h

theorem parse_digits : ∀ (d : List UInt8) (a : Nat), d.all dig = true → d.foldl (fun n c => 10 * n + (c.toNat - 48)) a < 18446744073709551616 → parseUint10 a d = .ok (d.foldl (fun n c => 10 * n + (c.toNat - 48)) a) := by
  have mono : ∀ (d : List UInt8) (a : Nat), a ≤ d.foldl (fun n c => 10 * n + (c.toNat - 48)) a := by
    intro d
    induction d with
    | nil => intro a; exact Nat.le_refl _
    | cons c r ih => intro a; rw [List.foldl_cons]; exact Nat.le_trans (by omega) (ih _)
  intro d
  induction d with
  | nil => intro a _ _; rfl
  | cons c r ih =>
    intro a ha hlt
    rw [List.all_cons, Bool.and_eq_true] at ha
    have hc := dig_nat ha.1
    rw [List.foldl_cons] at hlt
    have hm := mono r (10 * a + (c.toNat - 48))
    rw [parseUint10, if_pos hc, if_neg (by omega), if_neg (by omega), List.foldl_cons, show a * 10 + (c.toNat - 48) = 10 * a + (c.toNat - 48) by omega]
    exact ih _ ha.2 hlt

theorem mag_digits {d : List UInt8} (hne : d ≠ []) (ha : d.all dig = true) (hlt : natOf d < 18446744073709551616) : parseMag d = .ok (natOf d) := by
  unfold parseMag
  rw [if_neg hne]
  exact parse_digits d 0 ha hlt

theorem atoi_itoa (v : Int) (h0 : -9223372036854775808 ≤ v) (h1 : v ≤ 9223372036854775807) : atoiAll (itoa v) = .ok v := by
  unfold itoa
  split
  · rename_i hn
    unfold atoiAll
    have h45 : (45 : UInt8).toNat = 45 := rfl
    simp only [h45, or_true, if_true]
    rw [mag_digits (decDigits_ne _) (decDigits_all _) (by rw [decDigits_nat]; omega), decDigits_nat]
    simp only [not_true, false_and, if_false, true_and]
    rw [if_neg (by omega)]
    congr 1
    omega
  · rename_i hn
    have hall := decDigits_all v.toNat
    have hnat := decDigits_nat v.toNat
    cases hd : decDigits v.toNat with
    | nil => exact absurd hd (decDigits_ne _)
    | cons c r =>
      rw [hd] at hall hnat
      have hc := dig_nat (by rw [List.all_cons, Bool.and_eq_true] at hall; exact hall.1)
      unfold atoiAll
      have h43 : ¬ (c.toNat = 43 ∨ c.toNat = 45) := by omega
      have h45 : ¬ c.toNat = 45 := by omega
      simp only [if_neg h43]
      rw [mag_digits (by simp) hall (by rw [hnat]; omega), hnat]
      simp only [h45, not_false_eq_true, true_and, false_and, if_false]
      rw [if_neg (by omega)]
      congr 1
      omega

/-- What is read and written again as it stood is the number; what is not is none. -/
theorem num_of_atoi {l : List UInt8} {v : Int} (_ha : atoiAll l = .ok v) (he : itoa v = l) (hb : -9223372036854775808 ≤ v ∧ v ≤ 9223372036854775807) : num l = some v := by
  rw [← he]
  exact (itoa_parts v hb.1 hb.2).1

theorem num_none {l : List UInt8} (h : ∀ v, atoiAll l = .ok v → itoa v ≠ l) : num l = none := by
  cases hn : num l with
  | none => rfl
  | some v =>
    obtain ⟨he, h0, h1⟩ := num_itoa hn
    exact absurd he.symm (h v (by rw [he]; exact atoi_itoa v h0 h1))

end Go.Proofs.YtjghomppmphkoaaGreatDoor.LX
