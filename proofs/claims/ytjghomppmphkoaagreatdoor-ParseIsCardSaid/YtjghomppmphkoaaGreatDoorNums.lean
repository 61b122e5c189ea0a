/-
  A NUMBER's DIGITS ARE ONE TOKEN: no program in it.
-/
import Derived.Test.YtjghomppmphkoaaGreatDoorToks
import Derived.Lib.ItoaNum
namespace Go.Proofs.YtjghomppmphkoaaGreatDoor.LX
open Go MW Lib

theorem digit_nat (d : Nat) (h : d < 10) : (UInt8.ofNat (48 + d)).toNat = 48 + d := by
  rw [UInt8.toNat_ofNat']
  omega

theorem decDigits_ne (u : Nat) : decDigits u ≠ [] := by
  rw [decDigits]
  split <;> simp

theorem decDigits_all (u : Nat) : (decDigits u).all dig = true := by
  induction u using Nat.strongRecOn with
  | _ u ih =>
    have hd : ∀ d, d < 10 → dig (UInt8.ofNat (48 + d)) = true := fun d hd => by
      unfold dig
      rw [digit_nat d hd]
      simp
      omega
    rw [decDigits]
    split
    · rename_i h
      simp only [List.all_cons, List.all_nil, Bool.and_true]
      exact hd u h
    · rename_i h
      rw [List.all_append, ih (u / 10) (by omega), Bool.true_and]
      simp only [List.all_cons, List.all_nil, Bool.and_true]
      exact hd _ (by omega)

theorem natOf_snoc (a : List UInt8) (c : UInt8) : natOf (a ++ [c]) = 10 * natOf a + (c.toNat - 48) := by simp [natOf]

theorem decDigits_nat (u : Nat) : natOf (decDigits u) = u := by
  induction u using Nat.strongRecOn with
  | _ u ih =>
    rw [decDigits]
    split
    · rename_i h
      simp only [natOf, List.foldl_cons, List.foldl_nil]
      rw [digit_nat u h]
      omega
    · rename_i h
      rw [natOf_snoc, ih (u / 10) (by omega), digit_nat _ (by omega)]
      omega

theorem nDigits_le : ∀ (k u : Nat), u < 10 ^ (k + 1) → nDigits u ≤ k + 1
  | 0, u, h => by rw [nDigits_small (by simpa using h)]; omega
  | k + 1, u, h => by
    by_cases hs : u < 10
    · rw [nDigits_small hs]; omega
    · rw [nDigits_big hs]
      have := nDigits_le k (u / 10) (by rw [Nat.pow_succ] at h; omega)
      omega

theorem decDigits_head (u : Nat) : 1 ≤ u → (decDigits u).headD 0 ≠ 48 := by
  induction u using Nat.strongRecOn with
  | _ u ih =>
    intro h1
    rw [decDigits]
    split
    · rename_i h
      intro e
      rw [List.headD_cons] at e
      have := congrArg UInt8.toNat e
      rw [digit_nat u h] at this
      have h48 : (48 : UInt8).toNat = 48 := rfl
      omega
    · rename_i h
      have := ih (u / 10) (by omega) (by omega)
      cases hd : decDigits (u / 10) with
      | nil => exact absurd hd (decDigits_ne _)
      | cons a r => rw [hd] at this; exact this

theorem dig_ch (c : UInt8) (h : dig c = true) : ch c = true := by
  unfold dig at h
  unfold ch
  rw [h]
  simp

theorem itoa_parts (n : Int) (h0 : -9223372036854775808 ≤ n) (h1 : n ≤ 9223372036854775807) :
    num (itoa n) = some n ∧ (itoa n).length ≤ 20 ∧ ∃ c r, itoa n = c :: r ∧ r.all ch = true ∧ (c = 45 ∨ dig c = true) := by
  unfold itoa
  split
  · rename_i hn
    have hu : n.natAbs ≤ 9223372036854775808 := by omega
    have hl : (decDigits n.natAbs).length ≤ 19 := by
      rw [decDigits_length]
      exact nDigits_le 18 _ (by omega)
    refine ⟨?_, by simp only [List.length_cons]; omega, 45, _, rfl, List.all_eq_true.2 fun x hx => dig_ch x (List.all_eq_true.1 (decDigits_all _) x hx), .inl rfl⟩
    have hf : numForm (45 :: decDigits n.natAbs) = true := by
      unfold numForm
      have hd : digs (45 :: decDigits n.natAbs) = decDigits n.natAbs := rfl
      rw [hd, decDigits_all, decide_eq_true hl, decide_eq_false (decDigits_head _ (by omega))]
      simp [decDigits_ne]
    unfold num
    have hd : digs (45 :: decDigits n.natAbs) = decDigits n.natAbs := rfl
    rw [if_pos hf, if_pos (show (45 :: decDigits n.natAbs).headD 0 = 45 from rfl), hd, decDigits_nat, if_pos hu]
    congr 1
    omega
  · rename_i hn
    have hl : (decDigits n.toNat).length ≤ 19 := by
      rw [decDigits_length]
      exact nDigits_le 18 _ (by omega)
    have hall := decDigits_all n.toNat
    have hnat := decDigits_nat n.toNat
    have hhead := decDigits_head n.toNat
    have hz : n.toNat = 0 → decDigits n.toNat = [48] := fun e => by rw [e, decDigits]; rfl
    cases hd : decDigits n.toNat with
    | nil => exact absurd hd (decDigits_ne _)
    | cons c r =>
      rw [hd] at hl hall hnat hhead hz
      rw [List.all_cons, Bool.and_eq_true] at hall
      have hc45 : c ≠ 45 := fun e => by rw [e] at hall; exact absurd hall.1 (by decide)
      have hdg : digs (c :: r) = c :: r := if_neg hc45
      refine ⟨?_, by omega, c, r, rfl, List.all_eq_true.2 fun x hx => dig_ch x (List.all_eq_true.1 hall.2 x hx), .inr hall.1⟩
      have hf : numForm (c :: r) = true := by
        unfold numForm
        rw [hdg, List.all_cons, hall.1, hall.2, decide_eq_true hl]
        by_cases e : n.toNat = 0
        · rw [hz e]; rfl
        · rw [decide_eq_false (hhead (by omega))]; rfl
      unfold num
      rw [if_pos hf, if_neg (by simpa using hc45), hdg, hnat, if_pos (by omega)]
      congr 1
      omega

theorem lex_itoa (n : Int) (h0 : -9223372036854775808 ≤ n) (h1 : n ≤ 9223372036854775807) : lex (itoa n) = .ok [⟨3, itoa n, n, 1⟩, ⟨0, [], 0, (itoa n).length + 1⟩] := by
  obtain ⟨hn, hlen, c, r, he, hr, hc⟩ := itoa_parts n h0 h1
  rw [he] at hn hlen ⊢
  have hlow : low c = true := by
    rcases hc with rfl | hc
    · rfl
    · exact ch_low c (dig_ch c hc)
  have hu : U8 (c :: r) := U8.cons (of_decide_eq_true hlow) (U8.low (List.all_eq_true.2 fun x hx => ch_low x (List.all_eq_true.1 hr x hx)))
  have hne : ∀ d : UInt8, d ≠ 45 → dig d = false → c ≠ d := fun d hd hg e => by
    subst e
    rcases hc with h | h
    · exact hd h
    · rw [hg] at h; cases h
  have hname : name (c :: r) = false := by
    rw [Bool.eq_false_iff]
    intro h
    obtain ⟨c', r', e, _, hall, hdig⟩ := name_parts h
    cases e
    rcases hc with rfl | hc
    · rw [List.all_cons] at hall
      exact absurd hall (by simp [ch])
    · rw [hc] at hdig; cases hdig
  have hword : isWord (c :: r) = false := by
    rw [Bool.eq_false_iff]
    intro h
    rw [word_name h] at hname
    cases hname
  have ht : tok c r = some (3, c :: r, n, r.length + 1) := by
    unfold tok
    rw [if_neg (by rintro (e | e | e) <;> exact hne _ (by decide) (by decide) e), if_neg (fun e => hne _ (by decide) (by decide) e.1), if_neg (hne _ (by decide) (by decide)), if_pos (hc.imp id fun h => dig_ch c h), run_self r hr]
    unfold kindOf
    rw [if_neg (by simp [hword]), if_neg (by simp [hname]), hn]
    rfl
  have e : toks 0 (c :: r) = .ok [⟨3, c :: r, n, 1⟩] := by
    rw [toks_some (hne _ (by decide) (by decide)) ht, List.drop_eq_nil_of_le (by simp), toks_nil]
    rfl
  rw [lex_u8 (by omega) hu, e]
  rfl

end Go.Proofs.YtjghomppmphkoaaGreatDoor.LX
