/-
  THE DOCUMENT'S OWN Number.
-/
import Derived.Test.YtpchlnikcdhklaaDoorRefQuote
import Derived.Test.YtpchlnikcdhklaaDoorNums
namespace Go.Proofs.YtpchlnikcdhklaaDoor
open Go.RowKit Go

theorem ext_tail (s : ByteArray) : (s.extract 1 s.size).data.toList = s.data.toList.drop 1 := by
  rw [Lib.extract_data, List.take_of_length_le]
  rw [List.length_drop, ← Lib.size_eq]
  omega

theorem natOf_take {l : List UInt8} {k : Nat} {c : UInt8} {q : List UInt8} (h : l.drop k = c :: q) : LX.natOf (l.take (k + 1)) = 10 * LX.natOf (l.take k) + (c.toNat - 48) := by
  have hk : k < l.length := by
    have := congrArg List.length h
    rw [List.length_drop, List.length_cons] at this
    omega
  have e : l[k] = c := by
    have := List.drop_eq_getElem_cons hk
    rw [h] at this
    exact (List.cons.inj this).1.symm
  rw [List.take_succ_eq_append_getElem hk, LX.natOf_snoc, e]

theorem natOf_lt : ∀ (k : Nat) (l : List UInt8), (l.take k).all MW.dig = true → LX.natOf (l.take k) < 10 ^ k
  | 0, l, _ => by simp [LX.natOf]
  | k + 1, l, h => by
    by_cases hk : k < l.length
    · have hd := List.drop_eq_getElem_cons hk
      rw [List.take_succ_eq_append_getElem hk, List.all_append, Bool.and_eq_true] at h
      have ih := natOf_lt k l h.1
      have hdig := h.2
      simp only [List.all_cons, List.all_nil, Bool.and_true] at hdig
      unfold MW.dig at hdig
      simp only [Bool.and_eq_true, decide_eq_true_eq] at hdig
      rw [natOf_take hd, Nat.pow_succ]
      omega
    · have e : l.take (k + 1) = l.take k := by rw [List.take_of_length_le (by omega), List.take_of_length_le (by omega)]
      rw [e] at h ⊢
      have := natOf_lt k l h
      rw [Nat.pow_succ]
      omega

/-- What Number answers. -/
def NumPost (l : List UInt8) (w : World) (e : Ending) (w' : World) : Prop :=
  ∃ v : Int, e = .returned (.tuple #[.int .i64 v, .bool (LX.num l).isSome]) ∧ (∀ n, LX.num l = some n → v = n) ∧ w' = w

theorem NumPost.no {l : List UInt8} (h : LX.numForm l = false) (w : World) : NumPost l w (.returned (.tuple #[.int .i64 0, .bool false])) w := by
  have e : LX.num l = none := by unfold LX.num; rw [h]; rfl
  refine ⟨0, ?_, ?_, rfl⟩
  · rw [e]; rfl
  · intro n hn
    rw [e] at hn
    cases hn

theorem numForm_no {l d : List UInt8} {c : UInt8} (hd : d = LX.digs l) (hc : c ∈ d) (h : MW.dig c = false) : LX.numForm l = false := by
  unfold LX.numForm
  rw [← hd]
  have : d.all MW.dig = false := by
    rw [Bool.eq_false_iff]
    intro e
    rw [List.all_eq_true.1 e c hc] at h
    cases h
  rw [this, Bool.and_false]

theorem fold_ge : ∀ (r : List UInt8) (n : Nat), n ≤ r.foldl (fun n c => 10 * n + (c.toNat - 48)) n
  | [], n => Nat.le_refl _
  | c :: r, n => Nat.le_trans (by omega) (fold_ge r (10 * n + (c.toNat - 48)))

theorem natOf_pos {l : List UInt8} (h0 : 0 < l.length) (h : l.all MW.dig = true) : l.headD 0 ≠ 48 → 1 ≤ LX.natOf l := by
  intro hh
  match l, h0 with
  | c :: r, _ =>
    rw [List.all_cons, Bool.and_eq_true] at h
    have hd := h.1
    unfold MW.dig at hd
    simp only [Bool.and_eq_true, decide_eq_true_eq] at hd
    have hc : c.toNat ≠ 48 := fun e => hh (UInt8.toNat_inj.1 e)
    have := fold_ge r (10 * 0 + (c.toNat - 48))
    unfold LX.natOf
    rw [List.foldl_cons]
    omega

theorem head_of (s : ByteArray) (h : 0 < s.size) : s.data.toList.headD 0 = s[0] := by
  have := byte_drop s 0 h
  rw [List.drop_zero] at this
  rw [this]
  rfl

set_option maxHeartbeats 8000000 in
set_option maxRecDepth 100000 in
theorem refNumber_any (s : ByteArray) (w : World) : Calls Tryd.prog 25 #[.string s] w (NumPost s.data.toList w) := by
  have hsz : s.data.toList.length = s.size := (Lib.size_eq s).symm
  have HZ := Lib.hid hsz
  by_cases h0 : s.size = 0
  · obtain rfl : s = ⟨#[]⟩ := toList_inj _ _ (by rw [Lib.toList_data, Lib.toList_data]; exact List.eq_nil_of_length_eq_zero (by omega))
    go_enter Tryd.func25, Tryd.ntmps25
    go_wp2_with fail
    go_ret2
    exact NumPost.no rfl _
  have hne' : s.toList.isEmpty = false := by
    rw [Bool.eq_false_iff]
    intro e
    have : s.data.toList = [] := by rw [← Lib.toList_data]; exact List.isEmpty_iff.1 e
    rw [this] at hsz
    exact h0 hsz.symm
  have hp : 0 < s.size := by omega
  have hh := head_of s hp
  obtain ⟨m0, hm0⟩ : ∃ m, s[0].toNat = m := ⟨_, rfl⟩
  have hix0 : ∀ w, (Instr.index 9 (.string s) (.int .i64 0)).run Tryd.prog w = .ok (.int .u8 (m0 : Int)) w := fun w => idx_run s 0 m0 hp hm0 w
  have HM0 : Hid ((s.data.toList.headD 0).toNat = m0) := Lib.hid (by rw [hh]; exact hm0)
  clear hm0 hsz hh
  by_cases h45 : m0 = 45
  · subst h45
    obtain ⟨t, ht⟩ : ∃ t, s.extract 1 s.size = t := ⟨_, rfl⟩
    have HH45 : Hid (s.data.toList.headD 0 = 45) := Lib.hid (UInt8.toNat_inj.1 HM0.out)
    have HTD : Hid (t.data.toList = LX.digs s.data.toList) := Lib.hid (by
      rw [← ht, ext_tail]
      unfold LX.digs
      rw [if_pos HH45.out]
      exact List.drop_one)
    have htz : t.data.toList.length = t.size := (Lib.size_eq t).symm
    have HTZ := Lib.hid htz
    have HTS : Hid (t.size = s.size - 1) := Lib.hid (by rw [← ht]; simp [ByteArray.size_extract])
    have hne1 : (s.toList == [48]) = false := by
      rw [beq_eq_false_iff_ne]
      intro e
      have h := HH45.out
      rw [← Lib.toList_data, e] at h
      exact absurd h (by decide)
    clear htz
    by_cases ht0 : t.size = 0
    · have hte : t.toList.isEmpty = true := by
        rw [List.isEmpty_iff, Lib.toList_data]
        exact List.eq_nil_of_length_eq_zero (by rw [HTZ.out]; exact ht0)
      have HNF : Hid (LX.numForm s.data.toList = false) := Lib.hid (by
        unfold LX.numForm
        rw [← HTD.out]
        have : t.data.toList = [] := List.eq_nil_of_length_eq_zero (by rw [HTZ.out]; exact ht0)
        rw [this]
        rfl)
      go_enter Tryd.func25, Tryd.ntmps25
      go_wp2_with fail
      go_ret2
      exact NumPost.no HNF.out _
    have htp : 0 < t.size := by omega
    have hte : t.toList.isEmpty = false := by
      rw [Bool.eq_false_iff]
      intro e
      have : t.data.toList = [] := by rw [← Lib.toList_data]; exact List.isEmpty_iff.1 e
      have h := HTZ.out
      rw [this] at h
      exact ht0 h.symm
    by_cases h19 : t.size ≤ 19
    · have h19' : decide (19 < (t.size : Int)) = false := by simp; omega
      have hh := head_of t htp
      obtain ⟨m1, hm1⟩ : ∃ m, t[0].toNat = m := ⟨_, rfl⟩
      have hix1 : ∀ w, (Instr.index 9 (.string t) (.int .i64 0)).run Tryd.prog w = .ok (.int .u8 (m1 : Int)) w := fun w => idx_run t 0 m1 htp hm1 w
      have HM1 : Hid ((t.data.toList.headD 0).toNat = m1) := Lib.hid (by rw [hh]; exact hm1)
      clear hm1 hh
      by_cases h48 : m1 = 48
      · subst h48
        have HNF : Hid (LX.numForm s.data.toList = false) := Lib.hid (by
          unfold LX.numForm
          have h1 : t.data.toList.headD 0 = 48 := UInt8.toNat_inj.1 HM1.out
          have h2 : s.data.toList ≠ [48] := fun e => by rw [Lib.toList_data, e] at hne1; exact absurd hne1 (by decide)
          rw [← HTD.out, decide_eq_true h1, decide_eq_false h2]
          simp)
        go_enter Tryd.func25, Tryd.ntmps25
        go_wp2_with fail
        go_ret2
        exact NumPost.no HNF.out _
      · have h48' : ((m1 : Int) == 48) = false := by simp; omega
        have HH : Hid (t.data.toList.headD 0 ≠ 48) := Lib.hid fun e => h48 (by rw [← HM1.out, e]; rfl)
        have HOK : Hid ((!decide (t.data.toList.headD 0 = 48) || decide (s.data.toList = [48])) = true) := Lib.hid (by rw [decide_eq_false HH.out]; rfl)
        go_enter Tryd.func25, Tryd.ntmps25
        go_wp2_with fail
        go_loopw [5, 6] (fun vn vi wr => ∃ k : Nat, vi = .int .i64 k ∧ k ≤ t.size ∧ vn = .int .u64 (LX.natOf (t.data.toList.take k) : Nat) ∧ (t.data.toList.take k).all MW.dig = true ∧ wr = w) (fun _ vi _ => t.size - (intOf vi).toNat)
        case atStart => exact ⟨0, rfl, Nat.zero_le _, rfl, rfl, rfl⟩
        case round =>
          obtain ⟨k, rfl, hk, rfl, hall, rfl⟩ := hrel
          have HALL := Lib.hid hall
          have hN := natOf_lt k _ hall
          clear hall
          by_cases hlt : k < t.size
          · have HD := Lib.hid (byte_drop t k hlt)
            have hN18 : LX.natOf (t.data.toList.take k) < 10 ^ 18 := Nat.lt_of_lt_of_le hN (Nat.pow_le_pow_right (by decide) (by omega))
            have HNT := Lib.hid (natOf_take HD.out)
            have HTK : Hid (t.data.toList.take (k + 1) = t.data.toList.take k ++ [t[k]]) := Lib.hid (by
              have hkl : k < t.data.toList.length := by rw [HTZ.out]; exact hlt
              rw [List.take_succ_eq_append_getElem hkl]
              rfl)
            have HMEM : Hid (t[k] ∈ t.data.toList) := Lib.hid (List.mem_of_mem_drop (i := k) (by rw [HD.out]; exact List.mem_cons_self))
            obtain ⟨c, hc⟩ : ∃ c, c = t[k] := ⟨_, rfl⟩
            obtain ⟨m, hm⟩ : ∃ m, t[k].toNat = m := ⟨_, rfl⟩
            have hix := fun w => idx_run t k m hlt hm w
            rw [← hc] at HD HNT HTK HMEM hm
            have hm256 : m < 256 := hm ▸ c.toNat_lt
            have HC := Lib.hid hm
            clear hc hm hN
            obtain ⟨N, hNN⟩ : ∃ N, N = LX.natOf (t.data.toList.take k) := ⟨_, rfl⟩
            have HNN := Lib.hid hNN
            rw [← hNN] at HNT hN18 ⊢
            clear hNN
            have hN18' : N < 1000000000000000000 := hN18
            by_cases h48 : m < 48
            · have hd48 : decide ((m : Int) < 48) = true := by simp; omega
              have HNF : Hid (LX.numForm s.data.toList = false) := Lib.hid (numForm_no HTD.out HMEM.out (by unfold MW.dig; rw [HC.out]; simp; omega))
              go_wp2_with fail
              go_ret2
              exact NumPost.no HNF.out _
            have hd48 : decide ((m : Int) < 48) = false := by simp; omega
            by_cases h57 : 57 < m
            · have hd57 : decide (57 < (m : Int)) = true := by simp; omega
              have HNF : Hid (LX.numForm s.data.toList = false) := Lib.hid (numForm_no HTD.out HMEM.out (by unfold MW.dig; rw [HC.out]; simp; omega))
              go_wp2_with fail
              go_ret2
              exact NumPost.no HNF.out _
            have hd57 : decide (57 < (m : Int)) = false := by simp; omega
            have hw1 : IntKind.u64.wrap (10 * (N : Int)) = 10 * (N : Int) := by rw [IntKind.wrap_u64]; omega
            have hw2 : IntKind.u8.wrap ((m : Int) - 48) = (m : Int) - 48 := by rw [IntKind.wrap_u8']; omega
            have hw3 : IntKind.u64.wrap ((m : Int) - 48) = (m : Int) - 48 := by rw [IntKind.wrap_u64]; omega
            have hw4 : IntKind.u64.wrap (10 * (N : Int) + ((m : Int) - 48)) = 10 * (N : Int) + ((m : Int) - 48) := by rw [IntKind.wrap_u64]; omega
            go_wp2_with fail
            go_roundw
            case rel =>
              refine ⟨k + 1, by go_num, by omega, ?_, ?_, by trivial⟩
              · rw [HNT.out, HC.out]
                refine congrArg (Value.int IntKind.u64) ?_
                omega
              · rw [HTK.out, List.all_append, HALL.out]
                simp only [List.all_cons, List.all_nil, Bool.and_true, Bool.true_and]
                unfold MW.dig
                rw [HC.out]
                simp
                omega
            case measure => simp [intOf]; omega
          · obtain rfl : k = t.size := by omega
            have e : t.data.toList.take t.size = t.data.toList := List.take_of_length_le (by rw [HTZ.out]; exact Nat.le_refl _)
            have hall := HALL.out
            rw [e] at hN hall ⊢
            have hN19 : LX.natOf t.data.toList < 10 ^ 19 := Nat.lt_of_lt_of_le hN (Nat.pow_le_pow_right (by decide) h19)
            have HNF : Hid (LX.numForm s.data.toList = true) := Lib.hid (by
              unfold LX.numForm
              rw [← HTD.out, HTZ.out, decide_eq_true h19, hall, HOK.out]
              have : t.data.toList.isEmpty = false := by rw [← Lib.toList_data]; exact hte
              rw [this]
              rfl)
            have HPOS := Lib.hid (natOf_pos (l := t.data.toList) (by rw [HTZ.out]; exact htp) hall)
            obtain ⟨N, hNN⟩ : ∃ N, N = LX.natOf t.data.toList := ⟨_, rfl⟩
            have HNN := Lib.hid hNN
            rw [← hNN] at hN19 HPOS ⊢
            clear hNN e hN hall
            have hN19' : N < 10000000000000000000 := hN19
            have h1 : 1 ≤ N := HPOS.out HH.out
            have hneq : (t.toList == s.toList) = false := by
              rw [beq_eq_false_iff_ne]
              intro e
              have := congrArg List.length e
              rw [Lib.toList_data, Lib.toList_data, HTZ.out, HZ.out, HTS.out] at this
              omega
            have hw1 : IntKind.u64.wrap ((N : Int) - 1) = (N : Int) - 1 := by rw [IntKind.wrap_u64]; omega
            have HNUM : Hid (LX.num s.data.toList = if N ≤ 9223372036854775808 then some (-(N : Int)) else none) := Lib.hid (by
              unfold LX.num
              rw [if_pos HNF.out, if_pos HH45.out, ← HTD.out, HNN.out])
            by_cases h63 : N ≤ 9223372036854775808
            · have hd : decide ((N : Int) ≤ 9223372036854775808) = true := by simp; omega
              have hw2 : IntKind.i64.wrap ((N : Int) - 1) = (N : Int) - 1 := by rw [IntKind.wrap_i64]; omega
              have hw3 : IntKind.i64.wrap (-((N : Int) - 1)) = -((N : Int) - 1) := by rw [IntKind.wrap_i64]; omega
              have hw4 : IntKind.i64.wrap (-((N : Int) - 1) - 1) = -((N : Int) - 1) - 1 := by rw [IntKind.wrap_i64]; omega
              go_wp2_with fail
              go_ret2
              refine ⟨_, by rw [HNUM.out, if_pos h63]; rfl, fun n hn => ?_, rfl⟩
              rw [HNUM.out, if_pos h63] at hn
              cases hn
              omega
            · have hd : decide ((N : Int) ≤ 9223372036854775808) = false := by simp; omega
              go_wp2_with fail
              go_ret2
              refine ⟨_, by rw [HNUM.out, if_neg h63]; rfl, fun n hn => ?_, rfl⟩
              rw [HNUM.out, if_neg h63] at hn
              cases hn
    · have h19' : decide (19 < (t.size : Int)) = true := by simp; omega
      have HNF : Hid (LX.numForm s.data.toList = false) := Lib.hid (by
        unfold LX.numForm
        rw [← HTD.out, HTZ.out, decide_eq_false h19]
        simp)
      go_enter Tryd.func25, Tryd.ntmps25
      go_wp2_with fail
      go_ret2
      exact NumPost.no HNF.out _
  · have h45' : ((m0 : Int) == 45) = false := by simp; omega
    have HH45 : Hid (s.data.toList.headD 0 ≠ 45) := Lib.hid fun e => h45 (by rw [← HM0.out, e]; rfl)
    have HTD : Hid (s.data.toList = LX.digs s.data.toList) := Lib.hid (by
      unfold LX.digs
      rw [if_neg HH45.out])
    have HTZ := Lib.hid HZ.out
    have htp := hp
    have hte := hne'
    by_cases h19 : s.size ≤ 19
    · have h19' : decide (19 < (s.size : Int)) = false := by simp; omega
      have hcase : (m0 = 48 ∧ s.data.toList ≠ [48]) ∨ (m0 = 48 ∧ s.data.toList = [48]) ∨ m0 ≠ 48 := by
        by_cases h : m0 = 48
        · by_cases h2 : s.data.toList = [48]
          · exact .inr (.inl ⟨h, h2⟩)
          · exact .inl ⟨h, h2⟩
        · exact .inr (.inr h)
      rcases hcase with ⟨rfl, h2⟩ | ⟨rfl, h2⟩ | h48
      · have hne1 : (s.toList == [48]) = false := by
          rw [beq_eq_false_iff_ne, Lib.toList_data]
          exact h2
        have HNF : Hid (LX.numForm s.data.toList = false) := Lib.hid (by
          unfold LX.numForm
          have h1 : s.data.toList.headD 0 = 48 := UInt8.toNat_inj.1 HM0.out
          rw [← HTD.out, decide_eq_true h1, decide_eq_false h2]
          simp)
        clear h2
        go_enter Tryd.func25, Tryd.ntmps25
        go_wp2_with fail
        go_ret2
        exact NumPost.no HNF.out _
      · have hne1 : (s.toList == [48]) = true := by
          rw [beq_iff_eq, Lib.toList_data]
          exact h2
        have HOK : Hid ((!decide (s.data.toList.headD 0 = 48) || decide (s.data.toList = [48])) = true) := Lib.hid (by rw [decide_eq_true h2]; simp)
        clear h2
        go_enter Tryd.func25, Tryd.ntmps25
        go_wp2_with fail
        go_loopw [5, 6] (fun vn vi wr => ∃ k : Nat, vi = .int .i64 k ∧ k ≤ s.size ∧ vn = .int .u64 (LX.natOf (s.data.toList.take k) : Nat) ∧ (s.data.toList.take k).all MW.dig = true ∧ wr = w) (fun _ vi _ => s.size - (intOf vi).toNat)
        case atStart => exact ⟨0, rfl, Nat.zero_le _, rfl, rfl, rfl⟩
        case round =>
          obtain ⟨k, rfl, hk, rfl, hall, rfl⟩ := hrel
          have HALL := Lib.hid hall
          have hN := natOf_lt k _ hall
          clear hall
          by_cases hlt : k < s.size
          · have HD := Lib.hid (byte_drop s k hlt)
            have hN18 : LX.natOf (s.data.toList.take k) < 10 ^ 18 := Nat.lt_of_lt_of_le hN (Nat.pow_le_pow_right (by decide) (by omega))
            have HNT := Lib.hid (natOf_take HD.out)
            have HTK : Hid (s.data.toList.take (k + 1) = s.data.toList.take k ++ [s[k]]) := Lib.hid (by
              have hkl : k < s.data.toList.length := by rw [HTZ.out]; exact hlt
              rw [List.take_succ_eq_append_getElem hkl]
              rfl)
            have HMEM : Hid (s[k] ∈ s.data.toList) := Lib.hid (List.mem_of_mem_drop (i := k) (by rw [HD.out]; exact List.mem_cons_self))
            obtain ⟨c, hc⟩ : ∃ c, c = s[k] := ⟨_, rfl⟩
            obtain ⟨m, hm⟩ : ∃ m, s[k].toNat = m := ⟨_, rfl⟩
            have hix := fun w => idx_run s k m hlt hm w
            rw [← hc] at HD HNT HTK HMEM hm
            have hm256 : m < 256 := hm ▸ c.toNat_lt
            have HC := Lib.hid hm
            clear hc hm hN
            obtain ⟨N, hNN⟩ : ∃ N, N = LX.natOf (s.data.toList.take k) := ⟨_, rfl⟩
            have HNN := Lib.hid hNN
            rw [← hNN] at HNT hN18 ⊢
            clear hNN
            have hN18' : N < 1000000000000000000 := hN18
            by_cases h48 : m < 48
            · have hd48 : decide ((m : Int) < 48) = true := by simp; omega
              have HNF : Hid (LX.numForm s.data.toList = false) := Lib.hid (numForm_no HTD.out HMEM.out (by unfold MW.dig; rw [HC.out]; simp; omega))
              go_wp2_with fail
              go_ret2
              exact NumPost.no HNF.out _
            have hd48 : decide ((m : Int) < 48) = false := by simp; omega
            by_cases h57 : 57 < m
            · have hd57 : decide (57 < (m : Int)) = true := by simp; omega
              have HNF : Hid (LX.numForm s.data.toList = false) := Lib.hid (numForm_no HTD.out HMEM.out (by unfold MW.dig; rw [HC.out]; simp; omega))
              go_wp2_with fail
              go_ret2
              exact NumPost.no HNF.out _
            have hd57 : decide (57 < (m : Int)) = false := by simp; omega
            have hw1 : IntKind.u64.wrap (10 * (N : Int)) = 10 * (N : Int) := by rw [IntKind.wrap_u64]; omega
            have hw2 : IntKind.u8.wrap ((m : Int) - 48) = (m : Int) - 48 := by rw [IntKind.wrap_u8']; omega
            have hw3 : IntKind.u64.wrap ((m : Int) - 48) = (m : Int) - 48 := by rw [IntKind.wrap_u64]; omega
            have hw4 : IntKind.u64.wrap (10 * (N : Int) + ((m : Int) - 48)) = 10 * (N : Int) + ((m : Int) - 48) := by rw [IntKind.wrap_u64]; omega
            go_wp2_with fail
            go_roundw
            case rel =>
              refine ⟨k + 1, by go_num, by omega, ?_, ?_, by trivial⟩
              · rw [HNT.out, HC.out]
                refine congrArg (Value.int IntKind.u64) ?_
                omega
              · rw [HTK.out, List.all_append, HALL.out]
                simp only [List.all_cons, List.all_nil, Bool.and_true, Bool.true_and]
                unfold MW.dig
                rw [HC.out]
                simp
                omega
            case measure => simp [intOf]; omega
          · obtain rfl : k = s.size := by omega
            have e : s.data.toList.take s.size = s.data.toList := List.take_of_length_le (by rw [HTZ.out]; exact Nat.le_refl _)
            have hall := HALL.out
            rw [e] at hN hall ⊢
            have hN19 : LX.natOf s.data.toList < 10 ^ 19 := Nat.lt_of_lt_of_le hN (Nat.pow_le_pow_right (by decide) h19)
            have HNF : Hid (LX.numForm s.data.toList = true) := Lib.hid (by
              unfold LX.numForm
              rw [← HTD.out, HTZ.out, decide_eq_true h19, hall, HOK.out]
              have : s.data.toList.isEmpty = false := by rw [← Lib.toList_data]; exact hte
              rw [this]
              rfl)
            have HPOS := Lib.hid (natOf_pos (l := s.data.toList) (by rw [HTZ.out]; exact htp) hall)
            obtain ⟨N, hNN⟩ : ∃ N, N = LX.natOf s.data.toList := ⟨_, rfl⟩
            have HNN := Lib.hid hNN
            rw [← hNN] at hN19 HPOS ⊢
            clear hNN e hN hall
            have hN19' : N < 10000000000000000000 := hN19
            have HNUM : Hid (LX.num s.data.toList = if N < 9223372036854775808 then some (N : Int) else none) := Lib.hid (by
              unfold LX.num
              rw [if_pos HNF.out, if_neg HH45.out, ← HTD.out, HNN.out])
            by_cases h63 : N < 9223372036854775808
            · have hd : decide ((N : Int) < 9223372036854775808) = true := by simp; omega
              have hw2 : IntKind.i64.wrap (N : Int) = (N : Int) := by rw [IntKind.wrap_i64]; omega
              go_wp2_with fail
              go_ret2
              refine ⟨_, by rw [HNUM.out, if_pos h63]; rfl, fun n hn => ?_, rfl⟩
              rw [HNUM.out, if_pos h63] at hn
              cases hn
              rfl
            · have hd : decide ((N : Int) < 9223372036854775808) = false := by simp; omega
              go_wp2_with fail
              go_ret2
              refine ⟨_, by rw [HNUM.out, if_neg h63]; rfl, fun n hn => ?_, rfl⟩
              rw [HNUM.out, if_neg h63] at hn
              cases hn
      · have h48' : ((m0 : Int) == 48) = false := by simp; omega
        have HH : Hid (s.data.toList.headD 0 ≠ 48) := Lib.hid fun e => h48 (by rw [← HM0.out, e]; rfl)
        have HOK : Hid ((!decide (s.data.toList.headD 0 = 48) || decide (s.data.toList = [48])) = true) := Lib.hid (by rw [decide_eq_false HH.out]; rfl)
        go_enter Tryd.func25, Tryd.ntmps25
        go_wp2_with fail
        go_loopw [5, 6] (fun vn vi wr => ∃ k : Nat, vi = .int .i64 k ∧ k ≤ s.size ∧ vn = .int .u64 (LX.natOf (s.data.toList.take k) : Nat) ∧ (s.data.toList.take k).all MW.dig = true ∧ wr = w) (fun _ vi _ => s.size - (intOf vi).toNat)
        case atStart => exact ⟨0, rfl, Nat.zero_le _, rfl, rfl, rfl⟩
        case round =>
          obtain ⟨k, rfl, hk, rfl, hall, rfl⟩ := hrel
          have HALL := Lib.hid hall
          have hN := natOf_lt k _ hall
          clear hall
          by_cases hlt : k < s.size
          · have HD := Lib.hid (byte_drop s k hlt)
            have hN18 : LX.natOf (s.data.toList.take k) < 10 ^ 18 := Nat.lt_of_lt_of_le hN (Nat.pow_le_pow_right (by decide) (by omega))
            have HNT := Lib.hid (natOf_take HD.out)
            have HTK : Hid (s.data.toList.take (k + 1) = s.data.toList.take k ++ [s[k]]) := Lib.hid (by
              have hkl : k < s.data.toList.length := by rw [HTZ.out]; exact hlt
              rw [List.take_succ_eq_append_getElem hkl]
              rfl)
            have HMEM : Hid (s[k] ∈ s.data.toList) := Lib.hid (List.mem_of_mem_drop (i := k) (by rw [HD.out]; exact List.mem_cons_self))
            obtain ⟨c, hc⟩ : ∃ c, c = s[k] := ⟨_, rfl⟩
            obtain ⟨m, hm⟩ : ∃ m, s[k].toNat = m := ⟨_, rfl⟩
            have hix := fun w => idx_run s k m hlt hm w
            rw [← hc] at HD HNT HTK HMEM hm
            have hm256 : m < 256 := hm ▸ c.toNat_lt
            have HC := Lib.hid hm
            clear hc hm hN
            obtain ⟨N, hNN⟩ : ∃ N, N = LX.natOf (s.data.toList.take k) := ⟨_, rfl⟩
            have HNN := Lib.hid hNN
            rw [← hNN] at HNT hN18 ⊢
            clear hNN
            have hN18' : N < 1000000000000000000 := hN18
            by_cases h48 : m < 48
            · have hd48 : decide ((m : Int) < 48) = true := by simp; omega
              have HNF : Hid (LX.numForm s.data.toList = false) := Lib.hid (numForm_no HTD.out HMEM.out (by unfold MW.dig; rw [HC.out]; simp; omega))
              go_wp2_with fail
              go_ret2
              exact NumPost.no HNF.out _
            have hd48 : decide ((m : Int) < 48) = false := by simp; omega
            by_cases h57 : 57 < m
            · have hd57 : decide (57 < (m : Int)) = true := by simp; omega
              have HNF : Hid (LX.numForm s.data.toList = false) := Lib.hid (numForm_no HTD.out HMEM.out (by unfold MW.dig; rw [HC.out]; simp; omega))
              go_wp2_with fail
              go_ret2
              exact NumPost.no HNF.out _
            have hd57 : decide (57 < (m : Int)) = false := by simp; omega
            have hw1 : IntKind.u64.wrap (10 * (N : Int)) = 10 * (N : Int) := by rw [IntKind.wrap_u64]; omega
            have hw2 : IntKind.u8.wrap ((m : Int) - 48) = (m : Int) - 48 := by rw [IntKind.wrap_u8']; omega
            have hw3 : IntKind.u64.wrap ((m : Int) - 48) = (m : Int) - 48 := by rw [IntKind.wrap_u64]; omega
            have hw4 : IntKind.u64.wrap (10 * (N : Int) + ((m : Int) - 48)) = 10 * (N : Int) + ((m : Int) - 48) := by rw [IntKind.wrap_u64]; omega
            go_wp2_with fail
            go_roundw
            case rel =>
              refine ⟨k + 1, by go_num, by omega, ?_, ?_, by trivial⟩
              · rw [HNT.out, HC.out]
                refine congrArg (Value.int IntKind.u64) ?_
                omega
              · rw [HTK.out, List.all_append, HALL.out]
                simp only [List.all_cons, List.all_nil, Bool.and_true, Bool.true_and]
                unfold MW.dig
                rw [HC.out]
                simp
                omega
            case measure => simp [intOf]; omega
          · obtain rfl : k = s.size := by omega
            have e : s.data.toList.take s.size = s.data.toList := List.take_of_length_le (by rw [HTZ.out]; exact Nat.le_refl _)
            have hall := HALL.out
            rw [e] at hN hall ⊢
            have hN19 : LX.natOf s.data.toList < 10 ^ 19 := Nat.lt_of_lt_of_le hN (Nat.pow_le_pow_right (by decide) h19)
            have HNF : Hid (LX.numForm s.data.toList = true) := Lib.hid (by
              unfold LX.numForm
              rw [← HTD.out, HTZ.out, decide_eq_true h19, hall, HOK.out]
              have : s.data.toList.isEmpty = false := by rw [← Lib.toList_data]; exact hte
              rw [this]
              rfl)
            have HPOS := Lib.hid (natOf_pos (l := s.data.toList) (by rw [HTZ.out]; exact htp) hall)
            obtain ⟨N, hNN⟩ : ∃ N, N = LX.natOf s.data.toList := ⟨_, rfl⟩
            have HNN := Lib.hid hNN
            rw [← hNN] at hN19 HPOS ⊢
            clear hNN e hN hall
            have hN19' : N < 10000000000000000000 := hN19
            have HNUM : Hid (LX.num s.data.toList = if N < 9223372036854775808 then some (N : Int) else none) := Lib.hid (by
              unfold LX.num
              rw [if_pos HNF.out, if_neg HH45.out, ← HTD.out, HNN.out])
            by_cases h63 : N < 9223372036854775808
            · have hd : decide ((N : Int) < 9223372036854775808) = true := by simp; omega
              have hw2 : IntKind.i64.wrap (N : Int) = (N : Int) := by rw [IntKind.wrap_i64]; omega
              go_wp2_with fail
              go_ret2
              refine ⟨_, by rw [HNUM.out, if_pos h63]; rfl, fun n hn => ?_, rfl⟩
              rw [HNUM.out, if_pos h63] at hn
              cases hn
              rfl
            · have hd : decide ((N : Int) < 9223372036854775808) = false := by simp; omega
              go_wp2_with fail
              go_ret2
              refine ⟨_, by rw [HNUM.out, if_neg h63]; rfl, fun n hn => ?_, rfl⟩
              rw [HNUM.out, if_neg h63] at hn
              cases hn
    · have h19' : decide (19 < (s.size : Int)) = true := by simp; omega
      have HNF : Hid (LX.numForm s.data.toList = false) := Lib.hid (by
        unfold LX.numForm
        rw [← HTD.out, HTZ.out, decide_eq_false h19]
        simp)
      go_enter Tryd.func25, Tryd.ntmps25
      go_wp2_with fail
      go_ret2
      exact NumPost.no HNF.out _

end Go.Proofs.YtpchlnikcdhklaaDoor
