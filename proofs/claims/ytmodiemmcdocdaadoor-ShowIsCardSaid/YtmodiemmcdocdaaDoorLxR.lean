/-
  THE DOCUMENT'S OWN: Quote, text.
  THE DOCUMENT'S OWN Number.
  THE DOCUMENT'S OWN Lex.
  What the document's own Lex answers, in two lemmas.
-/
import Derived.Test.YtmodiemmcdocdaaDoorLxA
import Derived.Test.YtmodiemmcdocdaaDoorLxS
import Derived.Laws.Concat
import Derived.OwnWalk
import Derived.Test.YtmodiemmcdocdaaDoorOwA
import Derived.Shelf.SlSortCmp.QuietGrown
namespace Go.Proofs.YtmodiemmcdocdaaDoor
open Go.RowKit Go

theorem ext_one (s : ByteArray) (k : Nat) (h : k < s.size) : (s.extract k (k + 1)).data.toList = [s[k]] := by
  rw [Lib.extract_data, byte_drop s k h, Nat.add_sub_cancel_left]
  rfl

theorem add_data (a b : ByteArray) : (a ++ b).data.toList = a.data.toList ++ b.data.toList := by
  rw [ByteArray.data_append]
  simp

set_option maxHeartbeats 4000000 in
set_option maxRecDepth 100000 in
theorem quote_any (s : ByteArray) (hlen : s.size ≤ 1048576) (w : World) (hT : Lib.Utf8Tabs 0 1 w) :
    Calls Tryd.prog 17 #[.string s] w fun e w' => e = .returned (.string ⟨(LX.quote s.data.toList).toArray⟩) ∧ Below w.heap.size w w' := by
  have hsz : s.data.toList.length = s.size := (Lib.size_eq s).symm
  have HZ := Lib.hid hsz
  clear hsz
  have HIT := Lib.hid (isText_any s hlen w hT)
  clear hT
  cases hb : LX.isText s.data.toList with
  | false =>
    have HQ : Hid (LX.quote s.data.toList = []) := Lib.hid (by unfold LX.quote; rw [hb]; rfl)
    rw [hb] at HIT
    clear hb
    go_enter Tryd.func17, Tryd.ntmps17
    go_wp2_with fail
    refine HIT.out.mono ?_
    rintro e w1 ⟨rfl, hb1⟩
    go_wp2_with fail
    go_ret
    exact ⟨by rw [HQ.out]; rfl, hb1⟩
  | true =>
    have HQ := Lib.hid (LX.quote_of hb)
    rw [hb] at HIT
    clear hb
    go_enter Tryd.func17, Tryd.ntmps17
    go_wp2_with fail
    refine HIT.out.mono ?_
    rintro e w1 ⟨rfl, hb1⟩
    have HB1 := Lib.hid hb1
    clear hb1 HIT
    go_wp2_with fail
    go_loopw [3, 4] (fun vo vi wr => ∃ (k : Nat) (o : ByteArray), vi = .int .i64 k ∧ vo = .string o ∧ k ≤ s.size ∧ wr = w1 ∧ o.data.toList = 34 :: LX.esc (s.data.toList.take k)) (fun _ vi _ => s.size - (intOf vi).toNat)
    case atStart => exact ⟨0, _, rfl, rfl, Nat.zero_le _, rfl, rfl⟩
    case round =>
      obtain ⟨k, o, rfl, rfl, hk, rfl, ho⟩ := hrel
      have hos : o.size ≤ 2097153 := by
        have h1 := (LX.esc_len (s.data.toList.take k)).2
        have h2 : (s.data.toList.take k).length ≤ s.size := by rw [List.length_take, HZ.out]; omega
        rw [Lib.size_eq, ho, List.length_cons]
        omega
      have HO := Lib.hid ho
      clear ho
      by_cases hlt : k < s.size
      · have HD := Lib.hid (byte_drop s k hlt)
        have HE := Lib.hid (ext_one s k hlt)
        have hes : (s.extract k (k + 1)).size = 1 := by rw [Lib.size_eq, HE.out]; rfl
        have HTK : Hid (s.data.toList.take (k + 1) = s.data.toList.take k ++ [s[k]]) := Lib.hid (by
          have hkl : k < s.data.toList.length := by rw [HZ.out]; exact hlt
          rw [List.take_succ_eq_append_getElem hkl]
          rfl)
        obtain ⟨c, hc⟩ : ∃ c, c = s[k] := ⟨_, rfl⟩
        obtain ⟨m, hm⟩ : ∃ m, s[k].toNat = m := ⟨_, rfl⟩
        have hix := fun w => idx_run s k m hlt hm w
        rw [← hc] at HD HE HTK hm
        have HC := Lib.hid hm
        clear hc hm
        by_cases h34 : m = 34
        · subst h34
          go_wp2_with fail
          go_roundw
          case rel =>
            refine ⟨k + 1, _, by go_num, rfl, by omega, by trivial, ?_⟩
            have hc : c = 34 := UInt8.toNat_inj.1 HC.out
            rw [add_data, add_data, HE.out, HO.out, HTK.out, LX.esc_append, hc]
            simp [LX.esc]
          case measure => simp [intOf]; omega
        · have h34' : ((m : Int) == 34) = false := by simp; omega
          by_cases h92 : m = 92
          · subst h92
            go_wp2_with fail
            go_roundw
            case rel =>
              refine ⟨k + 1, _, by go_num, rfl, by omega, by trivial, ?_⟩
              have hc : c = 92 := UInt8.toNat_inj.1 HC.out
              rw [add_data, add_data, HE.out, HO.out, HTK.out, LX.esc_append, hc]
              simp [LX.esc]
            case measure => simp [intOf]; omega
          · have h92' : ((m : Int) == 92) = false := by simp; omega
            go_wp2_with fail
            go_roundw
            case rel =>
              refine ⟨k + 1, _, by go_num, rfl, by omega, by trivial, ?_⟩
              have hc1 : c ≠ 34 := fun e => h34 (by rw [← HC.out, e]; rfl)
              have hc2 : c ≠ 92 := fun e => h92 (by rw [← HC.out, e]; rfl)
              rw [add_data, HE.out, HO.out, HTK.out, LX.esc_append]
              simp [LX.esc, hc1, hc2]
            case measure => simp [intOf]; omega
      · obtain rfl : k = s.size := by omega
        go_wp2_with fail
        go_ret
        refine ⟨?_, HB1.out⟩
        refine congrArg (fun b => Ending.returned (Value.string b)) (str_of ?_)
        rw [add_data, HO.out, HQ.out, List.take_of_length_le (by rw [HZ.out]; exact Nat.le_refl _)]
        rfl

/-- What text answers. -/
def textOf : Option (List UInt8 × Nat) → Value
  | some q => .tuple #[.string ⟨q.1.toArray⟩, .int .i64 (q.2 : Nat)]
  | none => .tuple #[.string ⟨#[]⟩, .int .i64 (-1)]

set_option maxHeartbeats 4000000 in
set_option maxRecDepth 100000 in
theorem refText_any (s : ByteArray) (hlen : s.size ≤ 1048576) (p : Nat) (hp : p < s.size) (w : World) :
    Calls Tryd.prog 46 #[.string s, .int .i64 (p : Nat)] w fun e w' => e = .returned (textOf ((LX.text (s.data.toList.drop (p + 1))).map fun q => (q.1, p + 1 + q.2))) ∧ w' = w := by
  have hsz : s.data.toList.length = s.size := (Lib.size_eq s).symm
  have HZ := Lib.hid hsz
  clear hsz
  obtain ⟨T, hT⟩ : ∃ T, T = (LX.text (s.data.toList.drop (p + 1))).map fun q => (q.1, p + 1 + q.2) := ⟨_, rfl⟩
  rw [← hT]
  have HT := Lib.hid hT
  clear hT
  go_enter Tryd.func46, Tryd.ntmps46
  go_wp2_with fail
  go_loopw [6, 7] (fun vo vi wr => ∃ (k : Nat) (o : ByteArray), vi = .int .i64 k ∧ vo = .string o ∧ k ≤ s.size ∧ o.size ≤ k ∧ wr = w ∧ T = (LX.text (s.data.toList.drop k)).map fun q => (o.data.toList ++ q.1, k + q.2)) (fun _ vi _ => s.size - (intOf vi).toNat)
  case atStart => exact ⟨p + 1, ⟨#[]⟩, by go_num, rfl, by omega, Nat.zero_le _, rfl, HT.out⟩
  case round =>
    obtain ⟨k, o, rfl, rfl, hk, hok, rfl, ho⟩ := hrel
    have HO := Lib.hid ho
    clear ho HT
    by_cases hlt : k < s.size
    · have HD := Lib.hid (byte_drop s k hlt)
      have HE := Lib.hid (ext_one s k hlt)
      have hes : (s.extract k (k + 1)).size = 1 := by rw [Lib.size_eq, HE.out]; rfl
      obtain ⟨c, hc⟩ : ∃ c, c = s[k] := ⟨_, rfl⟩
      obtain ⟨m, hm⟩ : ∃ m, s[k].toNat = m := ⟨_, rfl⟩
      have hix := fun w => idx_run s k m hlt hm w
      rw [← hc] at HD HE hm
      have HC := Lib.hid hm
      clear hc hm
      by_cases h10 : m = 10
      · subst h10
        go_wp2_with fail
        go_ret2
        refine ⟨?_, rfl⟩
        have hc : c = 10 := UInt8.toNat_inj.1 HC.out
        rw [HO.out, HD.out, hc, LX.text_lf]
        rfl
      have h10' : ((m : Int) == 10) = false := by simp; omega
      by_cases h34 : m = 34
      · subst h34
        go_wp2_with fail
        go_ret2
        refine ⟨?_, rfl⟩
        have hc : c = 34 := UInt8.toNat_inj.1 HC.out
        rw [HO.out, HD.out, hc, LX.text_end]
        simp only [Option.map_some, textOf, List.append_nil]
        refine congrArg Ending.returned ?_
        exact rfl
      have h34' : ((m : Int) == 34) = false := by simp; omega
      by_cases h92 : m = 92
      · subst h92
        have hc : c = 92 := UInt8.toNat_inj.1 HC.out
        by_cases hlt2 : k + 1 < s.size
        · have HD2 := Lib.hid (byte_drop s (k + 1) hlt2)
          have HE2 := Lib.hid (ext_one s (k + 1) hlt2)
          have hes2 : (s.extract (k + 1) (k + 1 + 1)).size = 1 := by rw [Lib.size_eq, HE2.out]; rfl
          have HD3 : Hid (LX.text (s.data.toList.drop k) = if s[k + 1] = 34 ∨ s[k + 1] = 92 then (LX.text (s.data.toList.drop (k + 1 + 1))).map fun p => (s[k + 1] :: p.1, p.2 + 2) else none) := Lib.hid (by
            rw [HD.out, hc, HD2.out, LX.text_esc])
          have fin : Hid (s[k + 1] = 34 ∨ s[k + 1] = 92 → T = (LX.text (s.data.toList.drop (k + 1 + 1))).map fun q => ((o ++ s.extract (k + 1) (k + 1 + 1)).data.toList ++ q.1, k + 1 + 1 + q.2)) := Lib.hid fun hd => by
            rw [HO.out, HD3.out, if_pos hd, Option.map_map, add_data, HE2.out]
            congr 1
            funext q
            simp
            omega
          have fsz : Hid ((o ++ s.extract (k + 1) (k + 1 + 1)).size ≤ k + 1 + 1) := Lib.hid (by rw [Lib.size_eq, add_data, List.length_append, ← Lib.size_eq, ← Lib.size_eq, hes2]; omega)
          by_cases hd34 : s[k + 1].toNat = 34
          · have hb1 : ((s[k + 1].toNat : Int) != 34) = false := by simp; omega
            go_wp2_with fail
            go_roundw
            case rel => exact ⟨k + 1 + 1, _, by go_num, rfl, by omega, fsz.out, by trivial, fin.out (.inl (UInt8.toNat_inj.1 hd34))⟩
            case measure => simp [intOf]; omega
          · have hb1 : ((s[k + 1].toNat : Int) != 34) = true := by simp; omega
            by_cases hd92 : s[k + 1].toNat = 92
            · have hb2 : ((s[k + 1].toNat : Int) != 92) = false := by simp; omega
              go_wp2_with fail
              go_roundw
              case rel => exact ⟨k + 1 + 1, _, by go_num, rfl, by omega, fsz.out, by trivial, fin.out (.inr (UInt8.toNat_inj.1 hd92))⟩
              case measure => simp [intOf]; omega
            · have hb2 : ((s[k + 1].toNat : Int) != 92) = true := by simp; omega
              go_wp2_with fail
              go_ret2
              refine ⟨?_, rfl⟩
              rw [HO.out, HD3.out, if_neg]
              · rfl
              · rintro (h | h)
                · exact hd34 (by rw [h]; rfl)
                · exact hd92 (by rw [h]; rfl)
        · go_wp2_with fail
          go_ret2
          refine ⟨?_, rfl⟩
          have : s.data.toList.drop (k + 1) = [] := List.drop_of_length_le (by rw [HZ.out]; omega)
          rw [HO.out, HD.out, hc, this, LX.text_esc0]
          rfl
      · have h92' : ((m : Int) == 92) = false := by simp; omega
        go_wp2_with fail
        go_roundw
        case rel =>
          refine ⟨k + 1, _, by go_num, rfl, by omega, ?_, by trivial, ?_⟩
          · rw [Lib.size_eq, add_data, List.length_append, ← Lib.size_eq, ← Lib.size_eq, hes]; omega
          · rw [HO.out, HD.out, LX.text_other c _ (fun e => h10 (by rw [← HC.out, e]; rfl)) (fun e => h34 (by rw [← HC.out, e]; rfl)) (fun e => h92 (by rw [← HC.out, e]; rfl)), Option.map_map, add_data, HE.out]
            congr 1
            funext q
            simp
            omega
        case measure => simp [intOf]; omega
    · obtain rfl : k = s.size := by omega
      go_wp2_with fail
      go_ret2
      refine ⟨?_, rfl⟩
      rw [HO.out, List.drop_of_length_le (by rw [HZ.out]; exact Nat.le_refl _)]
      rfl

end Go.Proofs.YtmodiemmcdocdaaDoor

namespace Go.Proofs.YtmodiemmcdocdaaDoor
open Go.RowKit Go

theorem ext_tail (s : ByteArray) : (s.extract 1 s.size).data.toList = s.data.toList.drop 1 := by
  rw [Lib.extract_data, List.take_of_length_le]
  rw [List.length_drop, ← Lib.size_eq]
  omega

theorem natOf_take {l : List UInt8} {k : Nat} {c : UInt8} {q : List UInt8} (h : l.drop k = c :: q) : LX.natOf (l.take (k + 1)) = 10 * LX.natOf (l.take k) + (c.toNat - 48) := by
  have hk : k < l.length := by
    have := congrArg List.length h
    rw [List.length_drop, List.length_cons] at this
    omega
  have e : l[k] = c := by
    have := List.drop_eq_getElem_cons hk
    rw [h] at this
    exact (List.cons.inj this).1.symm
  rw [List.take_succ_eq_append_getElem hk, LX.natOf_snoc, e]

theorem natOf_lt : ∀ (k : Nat) (l : List UInt8), (l.take k).all MW.dig = true → LX.natOf (l.take k) < 10 ^ k
  | 0, l, _ => by simp [LX.natOf]
  | k + 1, l, h => by
    by_cases hk : k < l.length
    · have hd := List.drop_eq_getElem_cons hk
      rw [List.take_succ_eq_append_getElem hk, List.all_append, Bool.and_eq_true] at h
      have ih := natOf_lt k l h.1
      have hdig := h.2
      simp only [List.all_cons, List.all_nil, Bool.and_true] at hdig
      unfold MW.dig at hdig
      simp only [Bool.and_eq_true, decide_eq_true_eq] at hdig
      rw [natOf_take hd, Nat.pow_succ]
      omega
    · have e : l.take (k + 1) = l.take k := by rw [List.take_of_length_le (by omega), List.take_of_length_le (by omega)]
      rw [e] at h ⊢
      have := natOf_lt k l h
      rw [Nat.pow_succ]
      omega

/-- What Number answers. -/
def NumPost (l : List UInt8) (w : World) (e : Ending) (w' : World) : Prop :=
  ∃ v : Int, e = .returned (.tuple #[.int .i64 v, .bool (LX.num l).isSome]) ∧ (∀ n, LX.num l = some n → v = n) ∧ w' = w

theorem NumPost.no {l : List UInt8} (h : LX.numForm l = false) (w : World) : NumPost l w (.returned (.tuple #[.int .i64 0, .bool false])) w := by
  have e : LX.num l = none := by unfold LX.num; rw [h]; rfl
  refine ⟨0, ?_, ?_, rfl⟩
  · rw [e]; rfl
  · intro n hn
    rw [e] at hn
    cases hn

theorem numForm_no {l d : List UInt8} {c : UInt8} (hd : d = LX.digs l) (hc : c ∈ d) (h : MW.dig c = false) : LX.numForm l = false := by
  unfold LX.numForm
  rw [← hd]
  have : d.all MW.dig = false := by
    rw [Bool.eq_false_iff]
    intro e
    rw [List.all_eq_true.1 e c hc] at h
    cases h
  rw [this, Bool.and_false]

theorem fold_ge : ∀ (r : List UInt8) (n : Nat), n ≤ r.foldl (fun n c => 10 * n + (c.toNat - 48)) n
  | [], n => Nat.le_refl _
  | c :: r, n => Nat.le_trans (by omega) (fold_ge r (10 * n + (c.toNat - 48)))

theorem natOf_pos {l : List UInt8} (h0 : 0 < l.length) (h : l.all MW.dig = true) : l.headD 0 ≠ 48 → 1 ≤ LX.natOf l := by
  intro hh
  match l, h0 with
  | c :: r, _ =>
    rw [List.all_cons, Bool.and_eq_true] at h
    have hd := h.1
    unfold MW.dig at hd
    simp only [Bool.and_eq_true, decide_eq_true_eq] at hd
    have hc : c.toNat ≠ 48 := fun e => hh (UInt8.toNat_inj.1 e)
    have := fold_ge r (10 * 0 + (c.toNat - 48))
    unfold LX.natOf
    rw [List.foldl_cons]
    omega

theorem head_of (s : ByteArray) (h : 0 < s.size) : s.data.toList.headD 0 = s[0] := by
  have := byte_drop s 0 h
  rw [List.drop_zero] at this
  rw [this]
  rfl

set_option maxHeartbeats 8000000 in
set_option maxRecDepth 100000 in
theorem refNumber_any (s : ByteArray) (w : World) : Calls Tryd.prog 48 #[.string s] w (NumPost s.data.toList w) := by
  have hsz : s.data.toList.length = s.size := (Lib.size_eq s).symm
  have HZ := Lib.hid hsz
  by_cases h0 : s.size = 0
  · obtain rfl : s = ⟨#[]⟩ := toList_inj _ _ (by rw [Lib.toList_data, Lib.toList_data]; exact List.eq_nil_of_length_eq_zero (by omega))
    go_enter Tryd.func48, Tryd.ntmps48
    go_wp2_with fail
    go_ret2
    exact NumPost.no rfl _
  have hne' : s.toList.isEmpty = false := by
    rw [Bool.eq_false_iff]
    intro e
    have : s.data.toList = [] := by rw [← Lib.toList_data]; exact List.isEmpty_iff.1 e
    rw [this] at hsz
    exact h0 hsz.symm
  have hp : 0 < s.size := by omega
  have hh := head_of s hp
  obtain ⟨m0, hm0⟩ : ∃ m, s[0].toNat = m := ⟨_, rfl⟩
  have hix0 : ∀ w, (Instr.index 9 (.string s) (.int .i64 0)).run Tryd.prog w = .ok (.int .u8 (m0 : Int)) w := fun w => idx_run s 0 m0 hp hm0 w
  have HM0 : Hid ((s.data.toList.headD 0).toNat = m0) := Lib.hid (by rw [hh]; exact hm0)
  clear hm0 hsz hh
  by_cases h45 : m0 = 45
  · subst h45
    obtain ⟨t, ht⟩ : ∃ t, s.extract 1 s.size = t := ⟨_, rfl⟩
    have HH45 : Hid (s.data.toList.headD 0 = 45) := Lib.hid (UInt8.toNat_inj.1 HM0.out)
    have HTD : Hid (t.data.toList = LX.digs s.data.toList) := Lib.hid (by
      rw [← ht, ext_tail]
      unfold LX.digs
      rw [if_pos HH45.out]
      exact List.drop_one)
    have htz : t.data.toList.length = t.size := (Lib.size_eq t).symm
    have HTZ := Lib.hid htz
    have HTS : Hid (t.size = s.size - 1) := Lib.hid (by rw [← ht]; simp [ByteArray.size_extract])
    have hne1 : (s.toList == [48]) = false := by
      rw [beq_eq_false_iff_ne]
      intro e
      have h := HH45.out
      rw [← Lib.toList_data, e] at h
      exact absurd h (by decide)
    clear htz
    by_cases ht0 : t.size = 0
    · have hte : t.toList.isEmpty = true := by
        rw [List.isEmpty_iff, Lib.toList_data]
        exact List.eq_nil_of_length_eq_zero (by rw [HTZ.out]; exact ht0)
      have HNF : Hid (LX.numForm s.data.toList = false) := Lib.hid (by
        unfold LX.numForm
        rw [← HTD.out]
        have : t.data.toList = [] := List.eq_nil_of_length_eq_zero (by rw [HTZ.out]; exact ht0)
        rw [this]
        rfl)
      go_enter Tryd.func48, Tryd.ntmps48
      go_wp2_with fail
      go_ret2
      exact NumPost.no HNF.out _
    have htp : 0 < t.size := by omega
    have hte : t.toList.isEmpty = false := by
      rw [Bool.eq_false_iff]
      intro e
      have : t.data.toList = [] := by rw [← Lib.toList_data]; exact List.isEmpty_iff.1 e
      have h := HTZ.out
      rw [this] at h
      exact ht0 h.symm
    by_cases h19 : t.size ≤ 19
    · have h19' : decide (19 < (t.size : Int)) = false := by simp; omega
      have hh := head_of t htp
      obtain ⟨m1, hm1⟩ : ∃ m, t[0].toNat = m := ⟨_, rfl⟩
      have hix1 : ∀ w, (Instr.index 9 (.string t) (.int .i64 0)).run Tryd.prog w = .ok (.int .u8 (m1 : Int)) w := fun w => idx_run t 0 m1 htp hm1 w
      have HM1 : Hid ((t.data.toList.headD 0).toNat = m1) := Lib.hid (by rw [hh]; exact hm1)
      clear hm1 hh
      by_cases h48 : m1 = 48
      · subst h48
        have HNF : Hid (LX.numForm s.data.toList = false) := Lib.hid (by
          unfold LX.numForm
          have h1 : t.data.toList.headD 0 = 48 := UInt8.toNat_inj.1 HM1.out
          have h2 : s.data.toList ≠ [48] := fun e => by rw [Lib.toList_data, e] at hne1; exact absurd hne1 (by decide)
          rw [← HTD.out, decide_eq_true h1, decide_eq_false h2]
          simp)
        go_enter Tryd.func48, Tryd.ntmps48
        go_wp2_with fail
        go_ret2
        exact NumPost.no HNF.out _
      · have h48' : ((m1 : Int) == 48) = false := by simp; omega
        have HH : Hid (t.data.toList.headD 0 ≠ 48) := Lib.hid fun e => h48 (by rw [← HM1.out, e]; rfl)
        have HOK : Hid ((!decide (t.data.toList.headD 0 = 48) || decide (s.data.toList = [48])) = true) := Lib.hid (by rw [decide_eq_false HH.out]; rfl)
        go_enter Tryd.func48, Tryd.ntmps48
        go_wp2_with fail
        go_loopw [5, 6] (fun vn vi wr => ∃ k : Nat, vi = .int .i64 k ∧ k ≤ t.size ∧ vn = .int .u64 (LX.natOf (t.data.toList.take k) : Nat) ∧ (t.data.toList.take k).all MW.dig = true ∧ wr = w) (fun _ vi _ => t.size - (intOf vi).toNat)
        case atStart => exact ⟨0, rfl, Nat.zero_le _, rfl, rfl, rfl⟩
        case round =>
          obtain ⟨k, rfl, hk, rfl, hall, rfl⟩ := hrel
          have HALL := Lib.hid hall
          have hN := natOf_lt k _ hall
          clear hall
          by_cases hlt : k < t.size
          · have HD := Lib.hid (byte_drop t k hlt)
            have hN18 : LX.natOf (t.data.toList.take k) < 10 ^ 18 := Nat.lt_of_lt_of_le hN (Nat.pow_le_pow_right (by decide) (by omega))
            have HNT := Lib.hid (natOf_take HD.out)
            have HTK : Hid (t.data.toList.take (k + 1) = t.data.toList.take k ++ [t[k]]) := Lib.hid (by
              have hkl : k < t.data.toList.length := by rw [HTZ.out]; exact hlt
              rw [List.take_succ_eq_append_getElem hkl]
              rfl)
            have HMEM : Hid (t[k] ∈ t.data.toList) := Lib.hid (List.mem_of_mem_drop (i := k) (by rw [HD.out]; exact List.mem_cons_self))
            obtain ⟨c, hc⟩ : ∃ c, c = t[k] := ⟨_, rfl⟩
            obtain ⟨m, hm⟩ : ∃ m, t[k].toNat = m := ⟨_, rfl⟩
            have hix := fun w => idx_run t k m hlt hm w
            rw [← hc] at HD HNT HTK HMEM hm
            have hm256 : m < 256 := hm ▸ c.toNat_lt
            have HC := Lib.hid hm
            clear hc hm hN
            obtain ⟨N, hNN⟩ : ∃ N, N = LX.natOf (t.data.toList.take k) := ⟨_, rfl⟩
            have HNN := Lib.hid hNN
            rw [← hNN] at HNT hN18 ⊢
            clear hNN
            have hN18' : N < 1000000000000000000 := hN18
            by_cases h48 : m < 48
            · have hd48 : decide ((m : Int) < 48) = true := by simp; omega
              have HNF : Hid (LX.numForm s.data.toList = false) := Lib.hid (numForm_no HTD.out HMEM.out (by unfold MW.dig; rw [HC.out]; simp; omega))
              go_wp2_with fail
              go_ret2
              exact NumPost.no HNF.out _
            have hd48 : decide ((m : Int) < 48) = false := by simp; omega
            by_cases h57 : 57 < m
            · have hd57 : decide (57 < (m : Int)) = true := by simp; omega
              have HNF : Hid (LX.numForm s.data.toList = false) := Lib.hid (numForm_no HTD.out HMEM.out (by unfold MW.dig; rw [HC.out]; simp; omega))
              go_wp2_with fail
              go_ret2
              exact NumPost.no HNF.out _
            have hd57 : decide (57 < (m : Int)) = false := by simp; omega
            have hw1 : IntKind.u64.wrap (10 * (N : Int)) = 10 * (N : Int) := by rw [IntKind.wrap_u64]; omega
            have hw2 : IntKind.u8.wrap ((m : Int) - 48) = (m : Int) - 48 := by rw [IntKind.wrap_u8']; omega
            have hw3 : IntKind.u64.wrap ((m : Int) - 48) = (m : Int) - 48 := by rw [IntKind.wrap_u64]; omega
            have hw4 : IntKind.u64.wrap (10 * (N : Int) + ((m : Int) - 48)) = 10 * (N : Int) + ((m : Int) - 48) := by rw [IntKind.wrap_u64]; omega
            go_wp2_with fail
            go_roundw
            case rel =>
              refine ⟨k + 1, by go_num, by omega, ?_, ?_, by trivial⟩
              · rw [HNT.out, HC.out]
                refine congrArg (Value.int IntKind.u64) ?_
                omega
              · rw [HTK.out, List.all_append, HALL.out]
                simp only [List.all_cons, List.all_nil, Bool.and_true, Bool.true_and]
                unfold MW.dig
                rw [HC.out]
                simp
                omega
            case measure => simp [intOf]; omega
          · obtain rfl : k = t.size := by omega
            have e : t.data.toList.take t.size = t.data.toList := List.take_of_length_le (by rw [HTZ.out]; exact Nat.le_refl _)
            have hall := HALL.out
            rw [e] at hN hall ⊢
            have hN19 : LX.natOf t.data.toList < 10 ^ 19 := Nat.lt_of_lt_of_le hN (Nat.pow_le_pow_right (by decide) h19)
            have HNF : Hid (LX.numForm s.data.toList = true) := Lib.hid (by
              unfold LX.numForm
              rw [← HTD.out, HTZ.out, decide_eq_true h19, hall, HOK.out]
              have : t.data.toList.isEmpty = false := by rw [← Lib.toList_data]; exact hte
              rw [this]
              rfl)
            have HPOS := Lib.hid (natOf_pos (l := t.data.toList) (by rw [HTZ.out]; exact htp) hall)
            obtain ⟨N, hNN⟩ : ∃ N, N = LX.natOf t.data.toList := ⟨_, rfl⟩
            have HNN := Lib.hid hNN
            rw [← hNN] at hN19 HPOS ⊢
            clear hNN e hN hall
            have hN19' : N < 10000000000000000000 := hN19
            have h1 : 1 ≤ N := HPOS.out HH.out
            have hneq : (t.toList == s.toList) = false := by
              rw [beq_eq_false_iff_ne]
              intro e
              have := congrArg List.length e
              rw [Lib.toList_data, Lib.toList_data, HTZ.out, HZ.out, HTS.out] at this
              omega
            have hw1 : IntKind.u64.wrap ((N : Int) - 1) = (N : Int) - 1 := by rw [IntKind.wrap_u64]; omega
            have HNUM : Hid (LX.num s.data.toList = if N ≤ 9223372036854775808 then some (-(N : Int)) else none) := Lib.hid (by
              unfold LX.num
              rw [if_pos HNF.out, if_pos HH45.out, ← HTD.out, HNN.out])
            by_cases h63 : N ≤ 9223372036854775808
            · have hd : decide ((N : Int) ≤ 9223372036854775808) = true := by simp; omega
              have hw2 : IntKind.i64.wrap ((N : Int) - 1) = (N : Int) - 1 := by rw [IntKind.wrap_i64]; omega
              have hw3 : IntKind.i64.wrap (-((N : Int) - 1)) = -((N : Int) - 1) := by rw [IntKind.wrap_i64]; omega
              have hw4 : IntKind.i64.wrap (-((N : Int) - 1) - 1) = -((N : Int) - 1) - 1 := by rw [IntKind.wrap_i64]; omega
              go_wp2_with fail
              go_ret2
              refine ⟨_, by rw [HNUM.out, if_pos h63]; rfl, fun n hn => ?_, rfl⟩
              rw [HNUM.out, if_pos h63] at hn
              cases hn
              omega
            · have hd : decide ((N : Int) ≤ 9223372036854775808) = false := by simp; omega
              go_wp2_with fail
              go_ret2
              refine ⟨_, by rw [HNUM.out, if_neg h63]; rfl, fun n hn => ?_, rfl⟩
              rw [HNUM.out, if_neg h63] at hn
              cases hn
    · have h19' : decide (19 < (t.size : Int)) = true := by simp; omega
      have HNF : Hid (LX.numForm s.data.toList = false) := Lib.hid (by
        unfold LX.numForm
        rw [← HTD.out, HTZ.out, decide_eq_false h19]
        simp)
      go_enter Tryd.func48, Tryd.ntmps48
      go_wp2_with fail
      go_ret2
      exact NumPost.no HNF.out _
  · have h45' : ((m0 : Int) == 45) = false := by simp; omega
    have HH45 : Hid (s.data.toList.headD 0 ≠ 45) := Lib.hid fun e => h45 (by rw [← HM0.out, e]; rfl)
    have HTD : Hid (s.data.toList = LX.digs s.data.toList) := Lib.hid (by
      unfold LX.digs
      rw [if_neg HH45.out])
    have HTZ := Lib.hid HZ.out
    have htp := hp
    have hte := hne'
    by_cases h19 : s.size ≤ 19
    · have h19' : decide (19 < (s.size : Int)) = false := by simp; omega
      have hcase : (m0 = 48 ∧ s.data.toList ≠ [48]) ∨ (m0 = 48 ∧ s.data.toList = [48]) ∨ m0 ≠ 48 := by
        by_cases h : m0 = 48
        · by_cases h2 : s.data.toList = [48]
          · exact .inr (.inl ⟨h, h2⟩)
          · exact .inl ⟨h, h2⟩
        · exact .inr (.inr h)
      rcases hcase with ⟨rfl, h2⟩ | ⟨rfl, h2⟩ | h48
      · have hne1 : (s.toList == [48]) = false := by
          rw [beq_eq_false_iff_ne, Lib.toList_data]
          exact h2
        have HNF : Hid (LX.numForm s.data.toList = false) := Lib.hid (by
          unfold LX.numForm
          have h1 : s.data.toList.headD 0 = 48 := UInt8.toNat_inj.1 HM0.out
          rw [← HTD.out, decide_eq_true h1, decide_eq_false h2]
          simp)
        clear h2
        go_enter Tryd.func48, Tryd.ntmps48
        go_wp2_with fail
        go_ret2
        exact NumPost.no HNF.out _
      · have hne1 : (s.toList == [48]) = true := by
          rw [beq_iff_eq, Lib.toList_data]
          exact h2
        have HOK : Hid ((!decide (s.data.toList.headD 0 = 48) || decide (s.data.toList = [48])) = true) := Lib.hid (by rw [decide_eq_true h2]; simp)
        clear h2
        go_enter Tryd.func48, Tryd.ntmps48
        go_wp2_with fail
        go_loopw [5, 6] (fun vn vi wr => ∃ k : Nat, vi = .int .i64 k ∧ k ≤ s.size ∧ vn = .int .u64 (LX.natOf (s.data.toList.take k) : Nat) ∧ (s.data.toList.take k).all MW.dig = true ∧ wr = w) (fun _ vi _ => s.size - (intOf vi).toNat)
        case atStart => exact ⟨0, rfl, Nat.zero_le _, rfl, rfl, rfl⟩
        case round =>
          obtain ⟨k, rfl, hk, rfl, hall, rfl⟩ := hrel
          have HALL := Lib.hid hall
          have hN := natOf_lt k _ hall
          clear hall
          by_cases hlt : k < s.size
          · have HD := Lib.hid (byte_drop s k hlt)
            have hN18 : LX.natOf (s.data.toList.take k) < 10 ^ 18 := Nat.lt_of_lt_of_le hN (Nat.pow_le_pow_right (by decide) (by omega))
            have HNT := Lib.hid (natOf_take HD.out)
            have HTK : Hid (s.data.toList.take (k + 1) = s.data.toList.take k ++ [s[k]]) := Lib.hid (by
              have hkl : k < s.data.toList.length := by rw [HTZ.out]; exact hlt
              rw [List.take_succ_eq_append_getElem hkl]
              rfl)
            have HMEM : Hid (s[k] ∈ s.data.toList) := Lib.hid (List.mem_of_mem_drop (i := k) (by rw [HD.out]; exact List.mem_cons_self))
            obtain ⟨c, hc⟩ : ∃ c, c = s[k] := ⟨_, rfl⟩
            obtain ⟨m, hm⟩ : ∃ m, s[k].toNat = m := ⟨_, rfl⟩
            have hix := fun w => idx_run s k m hlt hm w
            rw [← hc] at HD HNT HTK HMEM hm
            have hm256 : m < 256 := hm ▸ c.toNat_lt
            have HC := Lib.hid hm
            clear hc hm hN
            obtain ⟨N, hNN⟩ : ∃ N, N = LX.natOf (s.data.toList.take k) := ⟨_, rfl⟩
            have HNN := Lib.hid hNN
            rw [← hNN] at HNT hN18 ⊢
            clear hNN
            have hN18' : N < 1000000000000000000 := hN18
            by_cases h48 : m < 48
            · have hd48 : decide ((m : Int) < 48) = true := by simp; omega
              have HNF : Hid (LX.numForm s.data.toList = false) := Lib.hid (numForm_no HTD.out HMEM.out (by unfold MW.dig; rw [HC.out]; simp; omega))
              go_wp2_with fail
              go_ret2
              exact NumPost.no HNF.out _
            have hd48 : decide ((m : Int) < 48) = false := by simp; omega
            by_cases h57 : 57 < m
            · have hd57 : decide (57 < (m : Int)) = true := by simp; omega
              have HNF : Hid (LX.numForm s.data.toList = false) := Lib.hid (numForm_no HTD.out HMEM.out (by unfold MW.dig; rw [HC.out]; simp; omega))
              go_wp2_with fail
              go_ret2
              exact NumPost.no HNF.out _
            have hd57 : decide (57 < (m : Int)) = false := by simp; omega
            have hw1 : IntKind.u64.wrap (10 * (N : Int)) = 10 * (N : Int) := by rw [IntKind.wrap_u64]; omega
            have hw2 : IntKind.u8.wrap ((m : Int) - 48) = (m : Int) - 48 := by rw [IntKind.wrap_u8']; omega
            have hw3 : IntKind.u64.wrap ((m : Int) - 48) = (m : Int) - 48 := by rw [IntKind.wrap_u64]; omega
            have hw4 : IntKind.u64.wrap (10 * (N : Int) + ((m : Int) - 48)) = 10 * (N : Int) + ((m : Int) - 48) := by rw [IntKind.wrap_u64]; omega
            go_wp2_with fail
            go_roundw
            case rel =>
              refine ⟨k + 1, by go_num, by omega, ?_, ?_, by trivial⟩
              · rw [HNT.out, HC.out]
                refine congrArg (Value.int IntKind.u64) ?_
                omega
              · rw [HTK.out, List.all_append, HALL.out]
                simp only [List.all_cons, List.all_nil, Bool.and_true, Bool.true_and]
                unfold MW.dig
                rw [HC.out]
                simp
                omega
            case measure => simp [intOf]; omega
          · obtain rfl : k = s.size := by omega
            have e : s.data.toList.take s.size = s.data.toList := List.take_of_length_le (by rw [HTZ.out]; exact Nat.le_refl _)
            have hall := HALL.out
            rw [e] at hN hall ⊢
            have hN19 : LX.natOf s.data.toList < 10 ^ 19 := Nat.lt_of_lt_of_le hN (Nat.pow_le_pow_right (by decide) h19)
            have HNF : Hid (LX.numForm s.data.toList = true) := Lib.hid (by
              unfold LX.numForm
              rw [← HTD.out, HTZ.out, decide_eq_true h19, hall, HOK.out]
              have : s.data.toList.isEmpty = false := by rw [← Lib.toList_data]; exact hte
              rw [this]
              rfl)
            have HPOS := Lib.hid (natOf_pos (l := s.data.toList) (by rw [HTZ.out]; exact htp) hall)
            obtain ⟨N, hNN⟩ : ∃ N, N = LX.natOf s.data.toList := ⟨_, rfl⟩
            have HNN := Lib.hid hNN
            rw [← hNN] at hN19 HPOS ⊢
            clear hNN e hN hall
            have hN19' : N < 10000000000000000000 := hN19
            have HNUM : Hid (LX.num s.data.toList = if N < 9223372036854775808 then some (N : Int) else none) := Lib.hid (by
              unfold LX.num
              rw [if_pos HNF.out, if_neg HH45.out, ← HTD.out, HNN.out])
            by_cases h63 : N < 9223372036854775808
            · have hd : decide ((N : Int) < 9223372036854775808) = true := by simp; omega
              have hw2 : IntKind.i64.wrap (N : Int) = (N : Int) := by rw [IntKind.wrap_i64]; omega
              go_wp2_with fail
              go_ret2
              refine ⟨_, by rw [HNUM.out, if_pos h63]; rfl, fun n hn => ?_, rfl⟩
              rw [HNUM.out, if_pos h63] at hn
              cases hn
              rfl
            · have hd : decide ((N : Int) < 9223372036854775808) = false := by simp; omega
              go_wp2_with fail
              go_ret2
              refine ⟨_, by rw [HNUM.out, if_neg h63]; rfl, fun n hn => ?_, rfl⟩
              rw [HNUM.out, if_neg h63] at hn
              cases hn
      · have h48' : ((m0 : Int) == 48) = false := by simp; omega
        have HH : Hid (s.data.toList.headD 0 ≠ 48) := Lib.hid fun e => h48 (by rw [← HM0.out, e]; rfl)
        have HOK : Hid ((!decide (s.data.toList.headD 0 = 48) || decide (s.data.toList = [48])) = true) := Lib.hid (by rw [decide_eq_false HH.out]; rfl)
        go_enter Tryd.func48, Tryd.ntmps48
        go_wp2_with fail
        go_loopw [5, 6] (fun vn vi wr => ∃ k : Nat, vi = .int .i64 k ∧ k ≤ s.size ∧ vn = .int .u64 (LX.natOf (s.data.toList.take k) : Nat) ∧ (s.data.toList.take k).all MW.dig = true ∧ wr = w) (fun _ vi _ => s.size - (intOf vi).toNat)
        case atStart => exact ⟨0, rfl, Nat.zero_le _, rfl, rfl, rfl⟩
        case round =>
          obtain ⟨k, rfl, hk, rfl, hall, rfl⟩ := hrel
          have HALL := Lib.hid hall
          have hN := natOf_lt k _ hall
          clear hall
          by_cases hlt : k < s.size
          · have HD := Lib.hid (byte_drop s k hlt)
            have hN18 : LX.natOf (s.data.toList.take k) < 10 ^ 18 := Nat.lt_of_lt_of_le hN (Nat.pow_le_pow_right (by decide) (by omega))
            have HNT := Lib.hid (natOf_take HD.out)
            have HTK : Hid (s.data.toList.take (k + 1) = s.data.toList.take k ++ [s[k]]) := Lib.hid (by
              have hkl : k < s.data.toList.length := by rw [HTZ.out]; exact hlt
              rw [List.take_succ_eq_append_getElem hkl]
              rfl)
            have HMEM : Hid (s[k] ∈ s.data.toList) := Lib.hid (List.mem_of_mem_drop (i := k) (by rw [HD.out]; exact List.mem_cons_self))
            obtain ⟨c, hc⟩ : ∃ c, c = s[k] := ⟨_, rfl⟩
            obtain ⟨m, hm⟩ : ∃ m, s[k].toNat = m := ⟨_, rfl⟩
            have hix := fun w => idx_run s k m hlt hm w
            rw [← hc] at HD HNT HTK HMEM hm
            have hm256 : m < 256 := hm ▸ c.toNat_lt
            have HC := Lib.hid hm
            clear hc hm hN
            obtain ⟨N, hNN⟩ : ∃ N, N = LX.natOf (s.data.toList.take k) := ⟨_, rfl⟩
            have HNN := Lib.hid hNN
            rw [← hNN] at HNT hN18 ⊢
            clear hNN
            have hN18' : N < 1000000000000000000 := hN18
            by_cases h48 : m < 48
            · have hd48 : decide ((m : Int) < 48) = true := by simp; omega
              have HNF : Hid (LX.numForm s.data.toList = false) := Lib.hid (numForm_no HTD.out HMEM.out (by unfold MW.dig; rw [HC.out]; simp; omega))
              go_wp2_with fail
              go_ret2
              exact NumPost.no HNF.out _
            have hd48 : decide ((m : Int) < 48) = false := by simp; omega
            by_cases h57 : 57 < m
            · have hd57 : decide (57 < (m : Int)) = true := by simp; omega
              have HNF : Hid (LX.numForm s.data.toList = false) := Lib.hid (numForm_no HTD.out HMEM.out (by unfold MW.dig; rw [HC.out]; simp; omega))
              go_wp2_with fail
              go_ret2
              exact NumPost.no HNF.out _
            have hd57 : decide (57 < (m : Int)) = false := by simp; omega
            have hw1 : IntKind.u64.wrap (10 * (N : Int)) = 10 * (N : Int) := by rw [IntKind.wrap_u64]; omega
            have hw2 : IntKind.u8.wrap ((m : Int) - 48) = (m : Int) - 48 := by rw [IntKind.wrap_u8']; omega
            have hw3 : IntKind.u64.wrap ((m : Int) - 48) = (m : Int) - 48 := by rw [IntKind.wrap_u64]; omega
            have hw4 : IntKind.u64.wrap (10 * (N : Int) + ((m : Int) - 48)) = 10 * (N : Int) + ((m : Int) - 48) := by rw [IntKind.wrap_u64]; omega
            go_wp2_with fail
            go_roundw
            case rel =>
              refine ⟨k + 1, by go_num, by omega, ?_, ?_, by trivial⟩
              · rw [HNT.out, HC.out]
                refine congrArg (Value.int IntKind.u64) ?_
                omega
              · rw [HTK.out, List.all_append, HALL.out]
                simp only [List.all_cons, List.all_nil, Bool.and_true, Bool.true_and]
                unfold MW.dig
                rw [HC.out]
                simp
                omega
            case measure => simp [intOf]; omega
          · obtain rfl : k = s.size := by omega
            have e : s.data.toList.take s.size = s.data.toList := List.take_of_length_le (by rw [HTZ.out]; exact Nat.le_refl _)
            have hall := HALL.out
            rw [e] at hN hall ⊢
            have hN19 : LX.natOf s.data.toList < 10 ^ 19 := Nat.lt_of_lt_of_le hN (Nat.pow_le_pow_right (by decide) h19)
            have HNF : Hid (LX.numForm s.data.toList = true) := Lib.hid (by
              unfold LX.numForm
              rw [← HTD.out, HTZ.out, decide_eq_true h19, hall, HOK.out]
              have : s.data.toList.isEmpty = false := by rw [← Lib.toList_data]; exact hte
              rw [this]
              rfl)
            have HPOS := Lib.hid (natOf_pos (l := s.data.toList) (by rw [HTZ.out]; exact htp) hall)
            obtain ⟨N, hNN⟩ : ∃ N, N = LX.natOf s.data.toList := ⟨_, rfl⟩
            have HNN := Lib.hid hNN
            rw [← hNN] at hN19 HPOS ⊢
            clear hNN e hN hall
            have hN19' : N < 10000000000000000000 := hN19
            have HNUM : Hid (LX.num s.data.toList = if N < 9223372036854775808 then some (N : Int) else none) := Lib.hid (by
              unfold LX.num
              rw [if_pos HNF.out, if_neg HH45.out, ← HTD.out, HNN.out])
            by_cases h63 : N < 9223372036854775808
            · have hd : decide ((N : Int) < 9223372036854775808) = true := by simp; omega
              have hw2 : IntKind.i64.wrap (N : Int) = (N : Int) := by rw [IntKind.wrap_i64]; omega
              go_wp2_with fail
              go_ret2
              refine ⟨_, by rw [HNUM.out, if_pos h63]; rfl, fun n hn => ?_, rfl⟩
              rw [HNUM.out, if_pos h63] at hn
              cases hn
              rfl
            · have hd : decide ((N : Int) < 9223372036854775808) = false := by simp; omega
              go_wp2_with fail
              go_ret2
              refine ⟨_, by rw [HNUM.out, if_neg h63]; rfl, fun n hn => ?_, rfl⟩
              rw [HNUM.out, if_neg h63] at hn
              cases hn
    · have h19' : decide (19 < (s.size : Int)) = true := by simp; omega
      have HNF : Hid (LX.numForm s.data.toList = false) := Lib.hid (by
        unfold LX.numForm
        rw [← HTD.out, HTZ.out, decide_eq_false h19]
        simp)
      go_enter Tryd.func48, Tryd.ntmps48
      go_wp2_with fail
      go_ret2
      exact NumPost.no HNF.out _

end Go.Proofs.YtmodiemmcdocdaaDoor

namespace Go.Proofs.YtmodiemmcdocdaaDoor
open Go.RowKit Go

set_option maxHeartbeats 16000000 in
set_option maxRecDepth 100000 in
theorem refLex_any (s : ByteArray) (hlen : s.size ≤ 1048576) (w : World) (hT : Lib.Utf8Tabs 0 1 w) : Calls Tryd.prog 28 #[.string s] w (LexPost (LX.lex s.data.toList) w) := by
  obtain ⟨i36, z36, E36⟩ := elem36
  have hsz : s.data.toList.length = s.size := (Lib.size_eq s).symm
  have HZ := Lib.hid hsz
  clear hsz
  have HVA := Lib.hid (valid_any s hlen w hT)
  clear hT
  by_cases h1024 : 1024 < s.size
  · have hd : decide (1024 < (s.size : Int)) = true := by simp; omega
    have HL : Hid (LX.lex s.data.toList = .error (6, 1)) := Lib.hid (by unfold LX.lex; rw [if_pos (by rw [HZ.out]; exact h1024)])
    go_enter Tryd.func28, Tryd.ntmps28
    go_wp2_with fail
    go_ret3
    exact ⟨Below.refl _ _, by rw [HL.out]; rfl⟩
  have hd : decide (1024 < (s.size : Int)) = false := by simp; omega
  by_cases hv : LX.valid s.data.toList < s.size
  · have hdv : decide (((LX.valid s.data.toList : Nat) : Int) < (s.size : Int)) = true := by simp; omega
    have HL : Hid (LX.lex s.data.toList = .error (4, LX.valid s.data.toList + 1)) := Lib.hid (by unfold LX.lex; rw [if_neg (by rw [HZ.out]; exact h1024), if_pos (by rw [HZ.out]; exact hv)])
    go_enter Tryd.func28, Tryd.ntmps28
    go_wp2_with fail
    refine HVA.out.mono ?_
    rintro e w1 ⟨rfl, hb1⟩
    go_wp2_with fail
    go_ret3
    exact ⟨hb1, by rw [HL.out]; rfl⟩
  have hdv : decide (((LX.valid s.data.toList : Nat) : Int) < (s.size : Int)) = false := by simp; omega
  have HU : Hid (LX.U8 s.data.toList) := Lib.hid ((LX.u8_iff _).1 (by
    have := (LX.valid_le _ s.data.toList (Nat.le_refl _)).1
    rw [HZ.out] at this ⊢
    omega))
  go_enter Tryd.func28, Tryd.ntmps28
  go_wp2_with fail
  refine HVA.out.mono ?_
  rintro e w1 ⟨rfl, hb1⟩
  have HB1 := Lib.hid hb1
  clear hb1 HVA
  go_wp2_with fail
  go_loopw [6, 7] (fun vo vi wr => ∃ (k : Nat) (ts : List LX.Tok), vi = .int .i64 k ∧ k ≤ s.size ∧ ts.length ≤ k ∧ Rk 4 (fun b => w.heap.size ≤ b) wr vo ts.length (flatT ts) ∧ Below w.heap.size w wr ∧ LX.toks 0 s.data.toList = (LX.toks k (s.data.toList.drop k)).map (ts ++ ·)) (fun _ vi _ => s.size - (intOf vi).toNat)
  case atStart => exact ⟨0, [], rfl, Nat.zero_le _, Nat.le_refl _, Rk.nil 4 _ _, HB1.out, by rw [List.drop_zero]; cases LX.toks 0 s.data.toList <;> rfl⟩
  case round =>
    obtain ⟨k, ts, rfl, hk, htl, hrk, hb, htk⟩ := hrel
    have HRK := Lib.hid hrk
    have HB := Lib.hid hb
    have HTK := Lib.hid htk
    obtain ⟨ao, co, rfl⟩ := hrk.shape
    have hws := hb.size
    clear hrk hb htk HB1
    by_cases hlt : k < s.size
    · have HD := Lib.hid (byte_drop s k hlt)
      have HE := Lib.hid (ext_one s k hlt)
      obtain ⟨c, hc⟩ : ∃ c, c = s[k] := ⟨_, rfl⟩
      obtain ⟨m, hm⟩ : ∃ m, s[k].toNat = m := ⟨_, rfl⟩
      have hix := fun w => idx_run s k m hlt hm w
      rw [← hc] at HD HE hm
      have HC := Lib.hid hm
      clear hc hm
      by_cases h32 : m = 32
      · subst h32
        have hc32 : c = 32 := UInt8.toNat_inj.1 HC.out
        go_wp2_with fail
        go_roundw
        case rel =>
          refine ⟨k + 1, ts, by go_num, by omega, by omega, HRK.out, HB.out, ?_⟩
          rw [HTK.out, HD.out, hc32, LX.toks_blank]
        case measure => simp [intOf]; omega
      have h32' : ((m : Int) == 32) = false := by simp; omega
      have HC32 : Hid (c ≠ 32) := Lib.hid fun e => h32 (by rw [← HC.out, e]; rfl)
      by_cases h5 : m = 61 ∨ m = 40 ∨ m = 41
      · have HTOK : Hid (LX.tok c (s.data.toList.drop (k + 1)) = some (5, [c], 0, 1)) := Lib.hid (by
          unfold LX.tok
          rw [if_pos]
          rcases h5 with rfl | rfl | rfl
          · exact .inl (UInt8.toNat_inj.1 HC.out)
          · exact .inr (.inl (UInt8.toNat_inj.1 HC.out))
          · exact .inr (.inr (UInt8.toNat_inj.1 HC.out)))
        rcases h5 with rfl | rfl | rfl
        all_goals
          go_wp2_with (at_builtin; refine wpList_append_rk E36 _ rfl _ _ 54 rfl (G := fun b => w.heap.size ≤ b) rfl ((Rk.lay HRK.out ((Keep.refl _ _).alloc _)).alloc _) ?c1 (.slice (some ⟨wr.heap.size + 1, 0, none⟩) 1 1) 1 (flatT [⟨5, [c], 0, k + 1⟩]) rfl (src_tok _ (wr.heap.size + 1) (by simp) _ _ _ _ _ (tok_at (k := k) (kd := 5) (n := 0) HE.out)) ?c2 ?c3 ?_)
          case c1 => exact tok_c1 hws ((Keep.refl _ _).alloc _) _
          case c2 => omega
          case c3 => omega
          intro v' w2 hrk2 hk2
          obtain ⟨hr3, hb3⟩ := tok_app HB.out HRK.out ((Keep.refl _ _).alloc _) hrk2 hk2
          have HR3 := Lib.hid hr3
          have HB3 := Lib.hid hb3
          clear hrk2 hk2 hr3 hb3
          go_wp2_with fail
          go_roundw
          case rel =>
            refine ⟨k + 1, ts ++ [⟨5, [c], 0, k + 1⟩], by go_num, by omega, by rw [List.length_append, List.length_singleton]; omega, HR3.out, HB3.out, toks_at HD.out HTK.out HC32.out HTOK.out⟩
          case measure => simp [intOf]; omega
      have h61 : ((m : Int) == 61) = false := by simp; omega
      have h40 : ((m : Int) == 40) = false := by simp; omega
      have h41 : ((m : Int) == 41) = false := by simp; omega
      have HC5 : Hid (¬ (c = 61 ∨ c = 40 ∨ c = 41)) := Lib.hid (by
        rintro (e | e | e)
        · exact h5 (.inl (by rw [← HC.out, e]; rfl))
        · exact h5 (.inr (.inl (by rw [← HC.out, e]; rfl)))
        · exact h5 (.inr (.inr (by rw [← HC.out, e]; rfl))))
      clear h5
      by_cases h33 : m = 33
      · subst h33
        have hc33 : c = 33 := UInt8.toNat_inj.1 HC.out
        have HERR : Hid ((s.data.toList.drop (k + 1)).head? ≠ some 61 → LX.lex s.data.toList = .error (4, k + 1)) := Lib.hid fun hh => lex_none (by rw [HZ.out]; omega) HU.out HD.out HTK.out HC32.out (by
          unfold LX.tok
          rw [if_neg HC5.out, if_neg (fun e => hh e.2), if_neg (by rw [hc33]; decide), if_neg (by rw [hc33]; decide)])
        have hlet := fun w => refLetter_any c 33 HC.out w
        rw [show MW.ch c = false by rw [hc33]; rfl] at hlet
        by_cases hlt2 : k + 1 < s.size
        · have HD2 := Lib.hid (byte_drop s (k + 1) hlt2)
          by_cases h2 : s[k + 1].toNat = 61
          · have hb1 : ((s[k + 1].toNat : Int) == 61) = true := by simp; omega
            have HTOK : Hid (LX.tok c (s.data.toList.drop (k + 1)) = some (5, [33, 61], 0, 2)) := Lib.hid (by
              unfold LX.tok
              rw [if_neg HC5.out, if_pos]
              refine ⟨hc33, ?_⟩
              rw [HD2.out, List.head?_cons]
              exact congrArg some (UInt8.toNat_inj.1 h2))
            go_wp2_with (at_builtin; refine wpList_append_rk E36 _ rfl _ _ 54 rfl (G := fun b => w.heap.size ≤ b) rfl ((Rk.lay HRK.out ((Keep.refl _ _).alloc _)).alloc _) ?c1 (.slice (some ⟨wr.heap.size + 1, 0, none⟩) 1 1) 1 (flatT [⟨5, [33, 61], 0, k + 1⟩]) rfl (src_tok _ (wr.heap.size + 1) (by simp) _ _ _ _ _ (tok_at (k := k) (kd := 5) (n := 0) (x := ⟨#[33, 61]⟩) rfl)) ?c2 ?c3 ?_)
            case c1 => exact tok_c1 hws ((Keep.refl _ _).alloc _) _
            case c2 => omega
            case c3 => omega
            intro v' w2 hrk2 hk2
            obtain ⟨hr3, hb3⟩ := tok_app HB.out HRK.out ((Keep.refl _ _).alloc _) hrk2 hk2
            have HR3 := Lib.hid hr3
            have HB3 := Lib.hid hb3
            clear hrk2 hk2 hr3 hb3
            go_wp2_with fail
            go_roundw
            case rel =>
              refine ⟨k + 2, ts ++ [⟨5, [33, 61], 0, k + 1⟩], by go_num, by omega, by rw [List.length_append, List.length_singleton]; omega, HR3.out, HB3.out, toks_at HD.out HTK.out HC32.out HTOK.out⟩
            case measure => simp [intOf]; omega
          · have hb1 : ((s[k + 1].toNat : Int) == 61) = false := by simp; omega
            go_wp2_with (go_at_call 47; refine (hlet _).mono ?_; rintro e w' ⟨rfl, rfl⟩)
            go_ret3
            refine ⟨HB.out.alloc hws _, ?_⟩
            rw [HERR.out (by rw [HD2.out, List.head?_cons]; exact fun e => h2 (by rw [Option.some.inj e]; rfl))]
            rfl
        · go_wp2_with (go_at_call 47; refine (hlet _).mono ?_; rintro e w' ⟨rfl, rfl⟩)
          go_ret3
          refine ⟨HB.out.alloc hws _, ?_⟩
          rw [HERR.out (by rw [List.drop_of_length_le (by rw [HZ.out]; omega)]; simp)]
          rfl
      have h33' : ((m : Int) == 33) = false := by simp; omega
      have HC33 : Hid (c ≠ 33) := Lib.hid fun e => h33 (by rw [← HC.out, e]; rfl)
      by_cases h34 : m = 34
      · subst h34
        have hc34 : c = 34 := UInt8.toNat_inj.1 HC.out
        have CT := refText_any s hlen k hlt
        cases hT : LX.text (s.data.toList.drop (k + 1)) with
        | none =>
          have HERR : Hid (LX.lex s.data.toList = .error (4, k + 1)) := Lib.hid (lex_none (by rw [HZ.out]; omega) HU.out HD.out HTK.out HC32.out (by
            unfold LX.tok
            rw [if_neg HC5.out, if_neg (fun e => HC33.out e.1), if_pos hc34, hT]
            rfl))
          rw [hT] at CT
          simp only [Option.map_none, textOf] at CT
          clear hT
          go_wp2_with (go_at_call 46; refine (CT _).mono ?_; rintro e w' ⟨rfl, rfl⟩)
          go_ret3
          refine ⟨HB.out.alloc hws _, ?_⟩
          rw [HERR.out]
          rfl
        | some q =>
          obtain ⟨says, mm⟩ := q
          have hbk := LX.text_back _ _ _ _ (Nat.le_refl _) hT
          rw [List.length_drop, HZ.out] at hbk
          have hm1 := hbk.2.1
          have hm2 := hbk.2.2.1
          have HTOK : Hid (LX.tok c (s.data.toList.drop (k + 1)) = some (4, says, 0, mm + 1)) := Lib.hid (by
            unfold LX.tok
            rw [if_neg HC5.out, if_neg (fun e => HC33.out e.1), if_pos hc34, hT]
            rfl)
          rw [hT] at CT
          simp only [Option.map_some, textOf] at CT
          obtain ⟨E, hE⟩ : ∃ E, E = k + 1 + mm := ⟨_, rfl⟩
          obtain ⟨x, hx⟩ : ∃ x : ByteArray, x = ⟨says.toArray⟩ := ⟨_, rfl⟩
          rw [← hE, ← hx] at CT
          have HX : Hid (x.data.toList = says) := Lib.hid (by rw [hx])
          have hge : decide ((E : Int) < 0) = false := by simp
          clear hT hx hbk
          go_wp2_with (first | (go_at_call 46; refine (CT _).mono ?_; rintro e w' ⟨rfl, rfl⟩) | (at_builtin; refine wpList_append_rk E36 _ rfl _ _ 54 rfl (G := fun b => w.heap.size ≤ b) rfl ((Rk.lay HRK.out ((Keep.refl _ _).alloc _)).alloc _) ?c1 (.slice (some ⟨wr.heap.size + 1, 0, none⟩) 1 1) 1 (flatT [⟨4, says, 0, k + 1⟩]) rfl (src_tok _ (wr.heap.size + 1) (by simp) _ _ _ _ _ (tok_at (k := k) (kd := 4) (n := 0) HX.out)) ?c2 ?c3 ?_))
          case c1 => exact tok_c1 hws ((Keep.refl _ _).alloc _) _
          case c2 => omega
          case c3 => omega
          intro v' w2 hrk2 hk2
          obtain ⟨hr3, hb3⟩ := tok_app HB.out HRK.out ((Keep.refl _ _).alloc _) hrk2 hk2
          have HR3 := Lib.hid hr3
          have HB3 := Lib.hid hb3
          clear hrk2 hk2 hr3 hb3
          go_wp2_with fail
          go_roundw
          case rel =>
            refine ⟨k + (mm + 1), ts ++ [⟨4, says, 0, k + 1⟩], by subst hE; go_num, by omega, by rw [List.length_append, List.length_singleton]; omega, HR3.out, HB3.out, toks_at HD.out HTK.out HC32.out HTOK.out⟩
          case measure => simp [intOf]; omega
      have h34' : ((m : Int) == 34) = false := by simp; omega
      have HC34 : Hid (c ≠ 34) := Lib.hid fun e => h34 (by rw [← HC.out, e]; rfl)
      have hcase : (m = 45 ∨ (m ≠ 45 ∧ MW.ch c = true)) ∨ (m ≠ 45 ∧ MW.ch c = false) := by
        by_cases h : m = 45
        · exact .inl (.inl h)
        · cases hch : MW.ch c with
          | true => exact .inl (.inr ⟨h, rfl⟩)
          | false => exact .inr ⟨h, rfl⟩
      rcases hcase with hcase | ⟨h45, hch⟩
      · have HTOKA : Hid (LX.tok c (s.data.toList.drop (k + 1)) = (LX.kindOf (c :: LX.run (s.data.toList.drop (k + 1)))).map fun q => (q.1, c :: LX.run (s.data.toList.drop (k + 1)), q.2, (LX.run (s.data.toList.drop (k + 1))).length + 1)) := Lib.hid (by
          unfold LX.tok
          rw [if_neg HC5.out, if_neg (fun e => HC33.out e.1), if_neg HC34.out, if_pos]
          rcases hcase with rfl | ⟨_, h⟩
          · exact .inl (UInt8.toNat_inj.1 HC.out)
          · exact .inr h)
        have hlet : m ≠ 45 → ∀ w, Calls Tryd.prog 47 #[.int .u8 (m : Int)] w fun e w' => e = .returned (.bool true) ∧ w' = w := fun h w => by
          have h2 := refLetter_any c m HC.out w
          rcases hcase with h3 | ⟨_, h3⟩
          · exact absurd h3 h
          · rw [h3] at h2; exact h2
        have hcase2 : m = 45 ∨ ((m : Int) == 45) = false := by
          by_cases h : m = 45
          · exact .inl h
          · exact .inr (by simp; omega)
        have HWS := Lib.hid hws
        obtain ⟨W0, g, hW0, hg, hl0, hbox0⟩ := Box.new wr (.int .i64 0) (.string ⟨#[]⟩) (.int .i64 0) (.int .i64 ((k : Int) + 1))
        have HL0 := Lib.hid hl0
        have HBOX := Lib.hid hbox0
        have HG : Hid (wr.heap.size ≤ g) := Lib.hid (Nat.le_of_eq hg.symm)
        clear hl0 hbox0 hcase
        have hlet : ((m : Int) == 45) = false → ∀ w, Calls Tryd.prog 47 #[.int .u8 (m : Int)] w fun e w' => e = .returned (.bool true) ∧ w' = w := fun h => hlet (by intro e; subst e; simp at h)
        rcases hcase2 with rfl | h45
        · clear hlet
          go_wp2_with fail
          rw [← hW0, ← hg]
          clear hW0 hg
          go_loopw [10] (fun vj wq => ∃ p : Nat, vj = .int .i64 p ∧ k + 1 ≤ p ∧ p ≤ s.size ∧ wq = W0 ∧ LX.run (s.data.toList.drop (k + 1)) = (s.data.toList.drop (k + 1)).take (p - (k + 1)) ++ LX.run (s.data.toList.drop p)) (fun vj _ => s.size - (intOf vj).toNat)
          case atStart => exact ⟨k + 1, by go_num, Nat.le_refl _, hlt, rfl, by rw [Nat.sub_self]; rfl⟩
          case round =>
            obtain ⟨p, rfl, hp1, hp2, rfl, hrun⟩ := hrel
            have HRUN := Lib.hid hrun
            clear hrun
            by_cases hin : ∃ h : p < s.size, MW.ch s[p] = true
            · obtain ⟨hlp, hch⟩ := hin
              have HDP := Lib.hid (byte_drop s p hlp)
              obtain ⟨b, hb⟩ : ∃ b, b = s[p] := ⟨_, rfl⟩
              obtain ⟨mp, hmp⟩ : ∃ mp, s[p].toNat = mp := ⟨_, rfl⟩
              have hixp := fun w => idx_run s p mp hlp hmp w
              rw [← hb] at HDP hmp hch
              have hlet2 := fun w => refLetter_any b mp hmp w
              rw [hch] at hlet2
              have HCH := Lib.hid hch
              clear hb hmp hch
              go_wp2_with (go_at_call 47; refine (hlet2 _).mono ?_; rintro e w' ⟨rfl, rfl⟩)
              go_roundw
              case rel => exact ⟨p + 1, by go_num, by omega, by omega, by trivial, HRUN.out.trans (run_next hp1 HDP.out HCH.out)⟩
              case measure => simp [intOf]; omega
            · have HEND : Hid (LX.run (s.data.toList.drop (k + 1)) = (s.data.toList.drop (k + 1)).take (p - (k + 1))) := Lib.hid (by
                rw [HRUN.out, run_end s p fun h e => hin ⟨h, e⟩, List.append_nil])
              obtain ⟨x, hx⟩ : ∃ x, s.extract k p = x := ⟨_, rfl⟩
              obtain ⟨RUN, hRUN⟩ : ∃ RUN, RUN = LX.run (s.data.toList.drop (k + 1)) := ⟨_, rfl⟩
              have HX : Hid (x.data.toList = c :: RUN) := Lib.hid (by
                rw [← hx, Lib.extract_data, HD.out, hRUN, HEND.out]
                obtain ⟨q, rfl⟩ : ∃ q, p = k + 1 + q := ⟨p - (k + 1), by omega⟩
                rw [show k + 1 + q - k = q + 1 by omega, List.take_succ_cons, Nat.add_sub_cancel_left])
              have HLEN : Hid (p = k + (RUN.length + 1)) := Lib.hid (by
                rw [hRUN, HEND.out, List.length_take, List.length_drop, HZ.out]
                omega)
              have CN := fun w => refNumber_any x w
              have CW := fun w => isWord_any x w
              have CM : ∀ w, Calls Tryd.prog 50 #[.string x] w fun e w' => e = .returned (.bool (MW.name x.data.toList)) ∧ w = w' := fun w => (refName_any x w).mono fun _ _ h => ⟨h.1, h.2.symm⟩
              have HTOKW := Lib.hid HTOKA.out
              rw [HX.out] at CW CM CN
              rw [← hRUN] at HTOKW
              clear hRUN HRUN HEND
              obtain ⟨_, c0, c1, c2, c3, cf⟩ := HBOX.out
              have hstop : (¬ p < s.size ∧ True) ∨ ∃ (h : p < s.size) (mp : Nat), s[p].toNat = mp ∧ ∀ w, Calls Tryd.prog 47 #[.int .u8 (mp : Int)] w fun e w' => e = .returned (.bool false) ∧ w' = w := by
                by_cases h : p < s.size
                · refine .inr ⟨h, _, rfl, fun w => ?_⟩
                  have h2 := refLetter_any s[p] _ rfl w
                  rw [Bool.eq_false_iff.2 fun e => hin ⟨h, e⟩] at h2
                  exact h2
                · exact .inl ⟨h, trivial⟩
              clear hin
              cases hw : LX.isWord (c :: RUN) with
              | true =>
                rw [hw] at CW
                have HTOK : Hid (LX.tok c (s.data.toList.drop (k + 1)) = some (2, c :: RUN, 0, RUN.length + 1)) := Lib.hid (by
                  rw [HTOKW.out]; unfold LX.kindOf; rw [if_pos hw]; rfl)
                clear hw HTOKW
                rcases hstop with ⟨hlp, _⟩ | ⟨hlp, mp, hmp, hlet2⟩
                · go_wp2_with (first | (go_at_call 47; refine (hlet2 _).mono ?_; rintro e w' ⟨rfl, rfl⟩) | (go_at_call 48; refine (CN _).mono ?_; rintro e w' ⟨nv, rfl, hnv, rfl⟩; skip) | (go_at_call 49; refine (CW _).mono ?_; rintro e w4 ⟨rfl, hl4⟩; obtain ⟨_, z0, z1, z2, z3, zf⟩ := ((HBOX.out.set1 (.string x)).lay hl4)) | (go_at_call 50; refine (CM _).mono ?_; rintro e w' ⟨rfl, rfl⟩) | (at_builtin; refine wpList_append_rk E36 _ rfl _ _ 54 rfl (G := fun b => w.heap.size ≤ b) rfl ((Rk.lay HRK.out (Lay.set (Keep.trans (Lay.set HL0.out (p := ⟨g, 1, none⟩) HG.out (.string x)) hl4) (p := ⟨g, 0, none⟩) HG.out _)).alloc _) ?c1 (.slice (some ⟨w4.heap.size, 0, none⟩) 1 1) 1 (flatT [⟨2, c :: RUN, 0, k + 1⟩]) rfl (src_tok _ (w4.heap.size) (by simp) _ _ _ _ _ (tok_at (k := k) (kd := 2) (n := 0) HX.out)) ?c2 ?c3 ?_))
                  case c1 => exact tok_c1 HWS.out (Lay.set (Keep.trans (Lay.set HL0.out (p := ⟨g, 1, none⟩) HG.out (.string x)) hl4) (p := ⟨g, 0, none⟩) HG.out _) _
                  case c2 => omega
                  case c3 => omega
                  intro v' w2 hrk2 hk2
                  obtain ⟨hr3, hb3⟩ := tok_app HB.out HRK.out (Lay.set (Keep.trans (Lay.set HL0.out (p := ⟨g, 1, none⟩) HG.out (.string x)) hl4) (p := ⟨g, 0, none⟩) HG.out _) hrk2 hk2
                  have HR3 := Lib.hid hr3
                  have HB3 := Lib.hid hb3
                  clear hrk2 hk2 hr3 hb3
                  go_wp2_with fail
                  go_roundw
                  case rel =>
                    refine ⟨k + (RUN.length + 1), ts ++ [⟨2, c :: RUN, 0, k + 1⟩], by rw [← HLEN.out], by have := HLEN.out; omega, by rw [List.length_append, List.length_singleton]; omega, HR3.out, HB3.out, toks_at HD.out HTK.out HC32.out HTOK.out⟩
                  case measure => simp [intOf]; omega
                · have hixp := fun w => idx_run s p mp hlp hmp w
                  go_wp2_with (first | (go_at_call 47; refine (hlet2 _).mono ?_; rintro e w' ⟨rfl, rfl⟩) | (go_at_call 48; refine (CN _).mono ?_; rintro e w' ⟨nv, rfl, hnv, rfl⟩; skip) | (go_at_call 49; refine (CW _).mono ?_; rintro e w4 ⟨rfl, hl4⟩; obtain ⟨_, z0, z1, z2, z3, zf⟩ := ((HBOX.out.set1 (.string x)).lay hl4)) | (go_at_call 50; refine (CM _).mono ?_; rintro e w' ⟨rfl, rfl⟩) | (at_builtin; refine wpList_append_rk E36 _ rfl _ _ 54 rfl (G := fun b => w.heap.size ≤ b) rfl ((Rk.lay HRK.out (Lay.set (Keep.trans (Lay.set HL0.out (p := ⟨g, 1, none⟩) HG.out (.string x)) hl4) (p := ⟨g, 0, none⟩) HG.out _)).alloc _) ?c1 (.slice (some ⟨w4.heap.size, 0, none⟩) 1 1) 1 (flatT [⟨2, c :: RUN, 0, k + 1⟩]) rfl (src_tok _ (w4.heap.size) (by simp) _ _ _ _ _ (tok_at (k := k) (kd := 2) (n := 0) HX.out)) ?c2 ?c3 ?_))
                  case c1 => exact tok_c1 HWS.out (Lay.set (Keep.trans (Lay.set HL0.out (p := ⟨g, 1, none⟩) HG.out (.string x)) hl4) (p := ⟨g, 0, none⟩) HG.out _) _
                  case c2 => omega
                  case c3 => omega
                  intro v' w2 hrk2 hk2
                  obtain ⟨hr3, hb3⟩ := tok_app HB.out HRK.out (Lay.set (Keep.trans (Lay.set HL0.out (p := ⟨g, 1, none⟩) HG.out (.string x)) hl4) (p := ⟨g, 0, none⟩) HG.out _) hrk2 hk2
                  have HR3 := Lib.hid hr3
                  have HB3 := Lib.hid hb3
                  clear hrk2 hk2 hr3 hb3
                  go_wp2_with fail
                  go_roundw
                  case rel =>
                    refine ⟨k + (RUN.length + 1), ts ++ [⟨2, c :: RUN, 0, k + 1⟩], by rw [← HLEN.out], by have := HLEN.out; omega, by rw [List.length_append, List.length_singleton]; omega, HR3.out, HB3.out, toks_at HD.out HTK.out HC32.out HTOK.out⟩
                  case measure => simp [intOf]; omega
              | false =>
                rw [hw] at CW
                cases hnm : MW.name (c :: RUN) with
                | true =>
                  rw [hnm] at CM
                  have HTOK : Hid (LX.tok c (s.data.toList.drop (k + 1)) = some (1, c :: RUN, 0, RUN.length + 1)) := Lib.hid (by
                    rw [HTOKW.out]; unfold LX.kindOf; rw [if_neg (by simp [hw]), if_pos hnm]; rfl)
                  clear hw hnm HTOKW
                  rcases hstop with ⟨hlp, _⟩ | ⟨hlp, mp, hmp, hlet2⟩
                  · go_wp2_with (first | (go_at_call 47; refine (hlet2 _).mono ?_; rintro e w' ⟨rfl, rfl⟩) | (go_at_call 48; refine (CN _).mono ?_; rintro e w' ⟨nv, rfl, hnv, rfl⟩; skip) | (go_at_call 49; refine (CW _).mono ?_; rintro e w4 ⟨rfl, hl4⟩; obtain ⟨_, z0, z1, z2, z3, zf⟩ := ((HBOX.out.set1 (.string x)).lay hl4)) | (go_at_call 50; refine (CM _).mono ?_; rintro e w' ⟨rfl, rfl⟩) | (at_builtin; refine wpList_append_rk E36 _ rfl _ _ 54 rfl (G := fun b => w.heap.size ≤ b) rfl ((Rk.lay HRK.out (Lay.set (Keep.trans (Lay.set HL0.out (p := ⟨g, 1, none⟩) HG.out (.string x)) hl4) (p := ⟨g, 0, none⟩) HG.out _)).alloc _) ?c1 (.slice (some ⟨w4.heap.size, 0, none⟩) 1 1) 1 (flatT [⟨1, c :: RUN, 0, k + 1⟩]) rfl (src_tok _ (w4.heap.size) (by simp) _ _ _ _ _ (tok_at (k := k) (kd := 1) (n := 0) HX.out)) ?c2 ?c3 ?_))
                    case c1 => exact tok_c1 HWS.out (Lay.set (Keep.trans (Lay.set HL0.out (p := ⟨g, 1, none⟩) HG.out (.string x)) hl4) (p := ⟨g, 0, none⟩) HG.out _) _
                    case c2 => omega
                    case c3 => omega
                    intro v' w2 hrk2 hk2
                    obtain ⟨hr3, hb3⟩ := tok_app HB.out HRK.out (Lay.set (Keep.trans (Lay.set HL0.out (p := ⟨g, 1, none⟩) HG.out (.string x)) hl4) (p := ⟨g, 0, none⟩) HG.out _) hrk2 hk2
                    have HR3 := Lib.hid hr3
                    have HB3 := Lib.hid hb3
                    clear hrk2 hk2 hr3 hb3
                    go_wp2_with fail
                    go_roundw
                    case rel =>
                      refine ⟨k + (RUN.length + 1), ts ++ [⟨1, c :: RUN, 0, k + 1⟩], by rw [← HLEN.out], by have := HLEN.out; omega, by rw [List.length_append, List.length_singleton]; omega, HR3.out, HB3.out, toks_at HD.out HTK.out HC32.out HTOK.out⟩
                    case measure => simp [intOf]; omega
                  · have hixp := fun w => idx_run s p mp hlp hmp w
                    go_wp2_with (first | (go_at_call 47; refine (hlet2 _).mono ?_; rintro e w' ⟨rfl, rfl⟩) | (go_at_call 48; refine (CN _).mono ?_; rintro e w' ⟨nv, rfl, hnv, rfl⟩; skip) | (go_at_call 49; refine (CW _).mono ?_; rintro e w4 ⟨rfl, hl4⟩; obtain ⟨_, z0, z1, z2, z3, zf⟩ := ((HBOX.out.set1 (.string x)).lay hl4)) | (go_at_call 50; refine (CM _).mono ?_; rintro e w' ⟨rfl, rfl⟩) | (at_builtin; refine wpList_append_rk E36 _ rfl _ _ 54 rfl (G := fun b => w.heap.size ≤ b) rfl ((Rk.lay HRK.out (Lay.set (Keep.trans (Lay.set HL0.out (p := ⟨g, 1, none⟩) HG.out (.string x)) hl4) (p := ⟨g, 0, none⟩) HG.out _)).alloc _) ?c1 (.slice (some ⟨w4.heap.size, 0, none⟩) 1 1) 1 (flatT [⟨1, c :: RUN, 0, k + 1⟩]) rfl (src_tok _ (w4.heap.size) (by simp) _ _ _ _ _ (tok_at (k := k) (kd := 1) (n := 0) HX.out)) ?c2 ?c3 ?_))
                    case c1 => exact tok_c1 HWS.out (Lay.set (Keep.trans (Lay.set HL0.out (p := ⟨g, 1, none⟩) HG.out (.string x)) hl4) (p := ⟨g, 0, none⟩) HG.out _) _
                    case c2 => omega
                    case c3 => omega
                    intro v' w2 hrk2 hk2
                    obtain ⟨hr3, hb3⟩ := tok_app HB.out HRK.out (Lay.set (Keep.trans (Lay.set HL0.out (p := ⟨g, 1, none⟩) HG.out (.string x)) hl4) (p := ⟨g, 0, none⟩) HG.out _) hrk2 hk2
                    have HR3 := Lib.hid hr3
                    have HB3 := Lib.hid hb3
                    clear hrk2 hk2 hr3 hb3
                    go_wp2_with fail
                    go_roundw
                    case rel =>
                      refine ⟨k + (RUN.length + 1), ts ++ [⟨1, c :: RUN, 0, k + 1⟩], by rw [← HLEN.out], by have := HLEN.out; omega, by rw [List.length_append, List.length_singleton]; omega, HR3.out, HB3.out, toks_at HD.out HTK.out HC32.out HTOK.out⟩
                    case measure => simp [intOf]; omega
                | false =>
                  rw [hnm] at CM
                  cases hnu : LX.num (c :: RUN) with
                  | none =>
                    have HERR : Hid (LX.lex s.data.toList = .error (4, k + 1)) := Lib.hid (lex_none (by rw [HZ.out]; omega) HU.out HD.out HTK.out HC32.out (by
                      rw [HTOKW.out]; unfold LX.kindOf; rw [if_neg (by simp [hw]), if_neg (by simp [hnm]), hnu]; rfl))
                    have hns : (LX.num (c :: RUN)).isSome = false := by rw [hnu]; rfl
                    clear hw hnm hnu HTOKW
                    rcases hstop with ⟨hlp, _⟩ | ⟨hlp, mp, hmp, hlet2⟩
                    · go_wp2_with (first | (go_at_call 47; refine (hlet2 _).mono ?_; rintro e w' ⟨rfl, rfl⟩) | (go_at_call 48; refine (CN _).mono ?_; rintro e w' ⟨nv, rfl, hnv, rfl⟩; skip) | (go_at_call 49; refine (CW _).mono ?_; rintro e w4 ⟨rfl, hl4⟩; obtain ⟨_, z0, z1, z2, z3, zf⟩ := ((HBOX.out.set1 (.string x)).lay hl4)) | (go_at_call 50; refine (CM _).mono ?_; rintro e w' ⟨rfl, rfl⟩))
                      go_ret3
                      refine ⟨HB.out.trans ((Lay.below (Keep.trans (Lay.set HL0.out (p := ⟨g, 1, none⟩) HG.out (.string x)) hl4)).mono HWS.out), ?_⟩
                      rw [HERR.out]
                      rfl
                    · have hixp := fun w => idx_run s p mp hlp hmp w
                      go_wp2_with (first | (go_at_call 47; refine (hlet2 _).mono ?_; rintro e w' ⟨rfl, rfl⟩) | (go_at_call 48; refine (CN _).mono ?_; rintro e w' ⟨nv, rfl, hnv, rfl⟩; skip) | (go_at_call 49; refine (CW _).mono ?_; rintro e w4 ⟨rfl, hl4⟩; obtain ⟨_, z0, z1, z2, z3, zf⟩ := ((HBOX.out.set1 (.string x)).lay hl4)) | (go_at_call 50; refine (CM _).mono ?_; rintro e w' ⟨rfl, rfl⟩))
                      go_ret3
                      refine ⟨HB.out.trans ((Lay.below (Keep.trans (Lay.set HL0.out (p := ⟨g, 1, none⟩) HG.out (.string x)) hl4)).mono HWS.out), ?_⟩
                      rw [HERR.out]
                      rfl
                  | some nn =>
                    have HTOK : Hid (LX.tok c (s.data.toList.drop (k + 1)) = some (3, c :: RUN, nn, RUN.length + 1)) := Lib.hid (by
                      rw [HTOKW.out]; unfold LX.kindOf; rw [if_neg (by simp [hw]), if_neg (by simp [hnm]), hnu]; rfl)
                    have hns : (LX.num (c :: RUN)).isSome = true := by rw [hnu]; rfl
                    have HNU := Lib.hid hnu
                    clear hw hnm hnu HTOKW
                    rcases hstop with ⟨hlp, _⟩ | ⟨hlp, mp, hmp, hlet2⟩
                    · go_wp2_with (first | (go_at_call 47; refine (hlet2 _).mono ?_; rintro e w' ⟨rfl, rfl⟩) | (go_at_call 48; refine (CN _).mono ?_; rintro e w' ⟨nv, rfl, hnv, rfl⟩; obtain rfl := (hnv _ HNU.out).symm) | (go_at_call 49; refine (CW _).mono ?_; rintro e w4 ⟨rfl, hl4⟩; obtain ⟨_, z0, z1, z2, z3, zf⟩ := ((HBOX.out.set1 (.string x)).lay hl4)) | (go_at_call 50; refine (CM _).mono ?_; rintro e w' ⟨rfl, rfl⟩) | (at_builtin; refine wpList_append_rk E36 _ rfl _ _ 54 rfl (G := fun b => w.heap.size ≤ b) rfl ((Rk.lay HRK.out (Lay.set (Lay.set (Keep.trans (Lay.set HL0.out (p := ⟨g, 1, none⟩) HG.out (.string x)) hl4) (p := ⟨g, 0, none⟩) HG.out _) (p := ⟨g, 2, none⟩) HG.out _)).alloc _) ?c1 (.slice (some ⟨w4.heap.size, 0, none⟩) 1 1) 1 (flatT [⟨3, c :: RUN, nn, k + 1⟩]) rfl (src_tok _ (w4.heap.size) (by simp) _ _ _ _ _ (tok_at (k := k) (kd := 3) (n := nn) HX.out)) ?c2 ?c3 ?_))
                      case c1 => exact tok_c1 HWS.out (Lay.set (Lay.set (Keep.trans (Lay.set HL0.out (p := ⟨g, 1, none⟩) HG.out (.string x)) hl4) (p := ⟨g, 0, none⟩) HG.out _) (p := ⟨g, 2, none⟩) HG.out _) _
                      case c2 => omega
                      case c3 => omega
                      intro v' w2 hrk2 hk2
                      obtain ⟨hr3, hb3⟩ := tok_app HB.out HRK.out (Lay.set (Lay.set (Keep.trans (Lay.set HL0.out (p := ⟨g, 1, none⟩) HG.out (.string x)) hl4) (p := ⟨g, 0, none⟩) HG.out _) (p := ⟨g, 2, none⟩) HG.out _) hrk2 hk2
                      have HR3 := Lib.hid hr3
                      have HB3 := Lib.hid hb3
                      clear hrk2 hk2 hr3 hb3
                      go_wp2_with fail
                      go_roundw
                      case rel =>
                        refine ⟨k + (RUN.length + 1), ts ++ [⟨3, c :: RUN, nn, k + 1⟩], by rw [← HLEN.out], by have := HLEN.out; omega, by rw [List.length_append, List.length_singleton]; omega, HR3.out, HB3.out, toks_at HD.out HTK.out HC32.out HTOK.out⟩
                      case measure => simp [intOf]; omega
                    · have hixp := fun w => idx_run s p mp hlp hmp w
                      go_wp2_with (first | (go_at_call 47; refine (hlet2 _).mono ?_; rintro e w' ⟨rfl, rfl⟩) | (go_at_call 48; refine (CN _).mono ?_; rintro e w' ⟨nv, rfl, hnv, rfl⟩; obtain rfl := (hnv _ HNU.out).symm) | (go_at_call 49; refine (CW _).mono ?_; rintro e w4 ⟨rfl, hl4⟩; obtain ⟨_, z0, z1, z2, z3, zf⟩ := ((HBOX.out.set1 (.string x)).lay hl4)) | (go_at_call 50; refine (CM _).mono ?_; rintro e w' ⟨rfl, rfl⟩) | (at_builtin; refine wpList_append_rk E36 _ rfl _ _ 54 rfl (G := fun b => w.heap.size ≤ b) rfl ((Rk.lay HRK.out (Lay.set (Lay.set (Keep.trans (Lay.set HL0.out (p := ⟨g, 1, none⟩) HG.out (.string x)) hl4) (p := ⟨g, 0, none⟩) HG.out _) (p := ⟨g, 2, none⟩) HG.out _)).alloc _) ?c1 (.slice (some ⟨w4.heap.size, 0, none⟩) 1 1) 1 (flatT [⟨3, c :: RUN, nn, k + 1⟩]) rfl (src_tok _ (w4.heap.size) (by simp) _ _ _ _ _ (tok_at (k := k) (kd := 3) (n := nn) HX.out)) ?c2 ?c3 ?_))
                      case c1 => exact tok_c1 HWS.out (Lay.set (Lay.set (Keep.trans (Lay.set HL0.out (p := ⟨g, 1, none⟩) HG.out (.string x)) hl4) (p := ⟨g, 0, none⟩) HG.out _) (p := ⟨g, 2, none⟩) HG.out _) _
                      case c2 => omega
                      case c3 => omega
                      intro v' w2 hrk2 hk2
                      obtain ⟨hr3, hb3⟩ := tok_app HB.out HRK.out (Lay.set (Lay.set (Keep.trans (Lay.set HL0.out (p := ⟨g, 1, none⟩) HG.out (.string x)) hl4) (p := ⟨g, 0, none⟩) HG.out _) (p := ⟨g, 2, none⟩) HG.out _) hrk2 hk2
                      have HR3 := Lib.hid hr3
                      have HB3 := Lib.hid hb3
                      clear hrk2 hk2 hr3 hb3
                      go_wp2_with fail
                      go_roundw
                      case rel =>
                        refine ⟨k + (RUN.length + 1), ts ++ [⟨3, c :: RUN, nn, k + 1⟩], by rw [← HLEN.out], by have := HLEN.out; omega, by rw [List.length_append, List.length_singleton]; omega, HR3.out, HB3.out, toks_at HD.out HTK.out HC32.out HTOK.out⟩
                      case measure => simp [intOf]; omega
        · replace hlet := hlet h45
          go_wp2_with (go_at_call 47; refine (hlet _).mono ?_; rintro e w' ⟨rfl, rfl⟩)
          rw [← hW0, ← hg]
          clear hW0 hg
          go_loopw [10] (fun vj wq => ∃ p : Nat, vj = .int .i64 p ∧ k + 1 ≤ p ∧ p ≤ s.size ∧ wq = W0 ∧ LX.run (s.data.toList.drop (k + 1)) = (s.data.toList.drop (k + 1)).take (p - (k + 1)) ++ LX.run (s.data.toList.drop p)) (fun vj _ => s.size - (intOf vj).toNat)
          case atStart => exact ⟨k + 1, by go_num, Nat.le_refl _, hlt, rfl, by rw [Nat.sub_self]; rfl⟩
          case round =>
            obtain ⟨p, rfl, hp1, hp2, rfl, hrun⟩ := hrel
            have HRUN := Lib.hid hrun
            clear hrun
            by_cases hin : ∃ h : p < s.size, MW.ch s[p] = true
            · obtain ⟨hlp, hch⟩ := hin
              have HDP := Lib.hid (byte_drop s p hlp)
              obtain ⟨b, hb⟩ : ∃ b, b = s[p] := ⟨_, rfl⟩
              obtain ⟨mp, hmp⟩ : ∃ mp, s[p].toNat = mp := ⟨_, rfl⟩
              have hixp := fun w => idx_run s p mp hlp hmp w
              rw [← hb] at HDP hmp hch
              have hlet2 := fun w => refLetter_any b mp hmp w
              rw [hch] at hlet2
              have HCH := Lib.hid hch
              clear hb hmp hch
              go_wp2_with (go_at_call 47; refine (hlet2 _).mono ?_; rintro e w' ⟨rfl, rfl⟩)
              go_roundw
              case rel => exact ⟨p + 1, by go_num, by omega, by omega, by trivial, HRUN.out.trans (run_next hp1 HDP.out HCH.out)⟩
              case measure => simp [intOf]; omega
            · have HEND : Hid (LX.run (s.data.toList.drop (k + 1)) = (s.data.toList.drop (k + 1)).take (p - (k + 1))) := Lib.hid (by
                rw [HRUN.out, run_end s p fun h e => hin ⟨h, e⟩, List.append_nil])
              obtain ⟨x, hx⟩ : ∃ x, s.extract k p = x := ⟨_, rfl⟩
              obtain ⟨RUN, hRUN⟩ : ∃ RUN, RUN = LX.run (s.data.toList.drop (k + 1)) := ⟨_, rfl⟩
              have HX : Hid (x.data.toList = c :: RUN) := Lib.hid (by
                rw [← hx, Lib.extract_data, HD.out, hRUN, HEND.out]
                obtain ⟨q, rfl⟩ : ∃ q, p = k + 1 + q := ⟨p - (k + 1), by omega⟩
                rw [show k + 1 + q - k = q + 1 by omega, List.take_succ_cons, Nat.add_sub_cancel_left])
              have HLEN : Hid (p = k + (RUN.length + 1)) := Lib.hid (by
                rw [hRUN, HEND.out, List.length_take, List.length_drop, HZ.out]
                omega)
              have CN := fun w => refNumber_any x w
              have CW := fun w => isWord_any x w
              have CM : ∀ w, Calls Tryd.prog 50 #[.string x] w fun e w' => e = .returned (.bool (MW.name x.data.toList)) ∧ w = w' := fun w => (refName_any x w).mono fun _ _ h => ⟨h.1, h.2.symm⟩
              have HTOKW := Lib.hid HTOKA.out
              rw [HX.out] at CW CM CN
              rw [← hRUN] at HTOKW
              clear hRUN HRUN HEND
              obtain ⟨_, c0, c1, c2, c3, cf⟩ := HBOX.out
              have hstop : (¬ p < s.size ∧ True) ∨ ∃ (h : p < s.size) (mp : Nat), s[p].toNat = mp ∧ ∀ w, Calls Tryd.prog 47 #[.int .u8 (mp : Int)] w fun e w' => e = .returned (.bool false) ∧ w' = w := by
                by_cases h : p < s.size
                · refine .inr ⟨h, _, rfl, fun w => ?_⟩
                  have h2 := refLetter_any s[p] _ rfl w
                  rw [Bool.eq_false_iff.2 fun e => hin ⟨h, e⟩] at h2
                  exact h2
                · exact .inl ⟨h, trivial⟩
              clear hin
              cases hw : LX.isWord (c :: RUN) with
              | true =>
                rw [hw] at CW
                have HTOK : Hid (LX.tok c (s.data.toList.drop (k + 1)) = some (2, c :: RUN, 0, RUN.length + 1)) := Lib.hid (by
                  rw [HTOKW.out]; unfold LX.kindOf; rw [if_pos hw]; rfl)
                clear hw HTOKW
                rcases hstop with ⟨hlp, _⟩ | ⟨hlp, mp, hmp, hlet2⟩
                · go_wp2_with (first | (go_at_call 47; refine (hlet2 _).mono ?_; rintro e w' ⟨rfl, rfl⟩) | (go_at_call 48; refine (CN _).mono ?_; rintro e w' ⟨nv, rfl, hnv, rfl⟩; skip) | (go_at_call 49; refine (CW _).mono ?_; rintro e w4 ⟨rfl, hl4⟩; obtain ⟨_, z0, z1, z2, z3, zf⟩ := ((HBOX.out.set1 (.string x)).lay hl4)) | (go_at_call 50; refine (CM _).mono ?_; rintro e w' ⟨rfl, rfl⟩) | (at_builtin; refine wpList_append_rk E36 _ rfl _ _ 54 rfl (G := fun b => w.heap.size ≤ b) rfl ((Rk.lay HRK.out (Lay.set (Keep.trans (Lay.set HL0.out (p := ⟨g, 1, none⟩) HG.out (.string x)) hl4) (p := ⟨g, 0, none⟩) HG.out _)).alloc _) ?c1 (.slice (some ⟨w4.heap.size, 0, none⟩) 1 1) 1 (flatT [⟨2, c :: RUN, 0, k + 1⟩]) rfl (src_tok _ (w4.heap.size) (by simp) _ _ _ _ _ (tok_at (k := k) (kd := 2) (n := 0) HX.out)) ?c2 ?c3 ?_))
                  case c1 => exact tok_c1 HWS.out (Lay.set (Keep.trans (Lay.set HL0.out (p := ⟨g, 1, none⟩) HG.out (.string x)) hl4) (p := ⟨g, 0, none⟩) HG.out _) _
                  case c2 => omega
                  case c3 => omega
                  intro v' w2 hrk2 hk2
                  obtain ⟨hr3, hb3⟩ := tok_app HB.out HRK.out (Lay.set (Keep.trans (Lay.set HL0.out (p := ⟨g, 1, none⟩) HG.out (.string x)) hl4) (p := ⟨g, 0, none⟩) HG.out _) hrk2 hk2
                  have HR3 := Lib.hid hr3
                  have HB3 := Lib.hid hb3
                  clear hrk2 hk2 hr3 hb3
                  go_wp2_with fail
                  go_roundw
                  case rel =>
                    refine ⟨k + (RUN.length + 1), ts ++ [⟨2, c :: RUN, 0, k + 1⟩], by rw [← HLEN.out], by have := HLEN.out; omega, by rw [List.length_append, List.length_singleton]; omega, HR3.out, HB3.out, toks_at HD.out HTK.out HC32.out HTOK.out⟩
                  case measure => simp [intOf]; omega
                · have hixp := fun w => idx_run s p mp hlp hmp w
                  go_wp2_with (first | (go_at_call 47; refine (hlet2 _).mono ?_; rintro e w' ⟨rfl, rfl⟩) | (go_at_call 48; refine (CN _).mono ?_; rintro e w' ⟨nv, rfl, hnv, rfl⟩; skip) | (go_at_call 49; refine (CW _).mono ?_; rintro e w4 ⟨rfl, hl4⟩; obtain ⟨_, z0, z1, z2, z3, zf⟩ := ((HBOX.out.set1 (.string x)).lay hl4)) | (go_at_call 50; refine (CM _).mono ?_; rintro e w' ⟨rfl, rfl⟩) | (at_builtin; refine wpList_append_rk E36 _ rfl _ _ 54 rfl (G := fun b => w.heap.size ≤ b) rfl ((Rk.lay HRK.out (Lay.set (Keep.trans (Lay.set HL0.out (p := ⟨g, 1, none⟩) HG.out (.string x)) hl4) (p := ⟨g, 0, none⟩) HG.out _)).alloc _) ?c1 (.slice (some ⟨w4.heap.size, 0, none⟩) 1 1) 1 (flatT [⟨2, c :: RUN, 0, k + 1⟩]) rfl (src_tok _ (w4.heap.size) (by simp) _ _ _ _ _ (tok_at (k := k) (kd := 2) (n := 0) HX.out)) ?c2 ?c3 ?_))
                  case c1 => exact tok_c1 HWS.out (Lay.set (Keep.trans (Lay.set HL0.out (p := ⟨g, 1, none⟩) HG.out (.string x)) hl4) (p := ⟨g, 0, none⟩) HG.out _) _
                  case c2 => omega
                  case c3 => omega
                  intro v' w2 hrk2 hk2
                  obtain ⟨hr3, hb3⟩ := tok_app HB.out HRK.out (Lay.set (Keep.trans (Lay.set HL0.out (p := ⟨g, 1, none⟩) HG.out (.string x)) hl4) (p := ⟨g, 0, none⟩) HG.out _) hrk2 hk2
                  have HR3 := Lib.hid hr3
                  have HB3 := Lib.hid hb3
                  clear hrk2 hk2 hr3 hb3
                  go_wp2_with fail
                  go_roundw
                  case rel =>
                    refine ⟨k + (RUN.length + 1), ts ++ [⟨2, c :: RUN, 0, k + 1⟩], by rw [← HLEN.out], by have := HLEN.out; omega, by rw [List.length_append, List.length_singleton]; omega, HR3.out, HB3.out, toks_at HD.out HTK.out HC32.out HTOK.out⟩
                  case measure => simp [intOf]; omega
              | false =>
                rw [hw] at CW
                cases hnm : MW.name (c :: RUN) with
                | true =>
                  rw [hnm] at CM
                  have HTOK : Hid (LX.tok c (s.data.toList.drop (k + 1)) = some (1, c :: RUN, 0, RUN.length + 1)) := Lib.hid (by
                    rw [HTOKW.out]; unfold LX.kindOf; rw [if_neg (by simp [hw]), if_pos hnm]; rfl)
                  clear hw hnm HTOKW
                  rcases hstop with ⟨hlp, _⟩ | ⟨hlp, mp, hmp, hlet2⟩
                  · go_wp2_with (first | (go_at_call 47; refine (hlet2 _).mono ?_; rintro e w' ⟨rfl, rfl⟩) | (go_at_call 48; refine (CN _).mono ?_; rintro e w' ⟨nv, rfl, hnv, rfl⟩; skip) | (go_at_call 49; refine (CW _).mono ?_; rintro e w4 ⟨rfl, hl4⟩; obtain ⟨_, z0, z1, z2, z3, zf⟩ := ((HBOX.out.set1 (.string x)).lay hl4)) | (go_at_call 50; refine (CM _).mono ?_; rintro e w' ⟨rfl, rfl⟩) | (at_builtin; refine wpList_append_rk E36 _ rfl _ _ 54 rfl (G := fun b => w.heap.size ≤ b) rfl ((Rk.lay HRK.out (Lay.set (Keep.trans (Lay.set HL0.out (p := ⟨g, 1, none⟩) HG.out (.string x)) hl4) (p := ⟨g, 0, none⟩) HG.out _)).alloc _) ?c1 (.slice (some ⟨w4.heap.size, 0, none⟩) 1 1) 1 (flatT [⟨1, c :: RUN, 0, k + 1⟩]) rfl (src_tok _ (w4.heap.size) (by simp) _ _ _ _ _ (tok_at (k := k) (kd := 1) (n := 0) HX.out)) ?c2 ?c3 ?_))
                    case c1 => exact tok_c1 HWS.out (Lay.set (Keep.trans (Lay.set HL0.out (p := ⟨g, 1, none⟩) HG.out (.string x)) hl4) (p := ⟨g, 0, none⟩) HG.out _) _
                    case c2 => omega
                    case c3 => omega
                    intro v' w2 hrk2 hk2
                    obtain ⟨hr3, hb3⟩ := tok_app HB.out HRK.out (Lay.set (Keep.trans (Lay.set HL0.out (p := ⟨g, 1, none⟩) HG.out (.string x)) hl4) (p := ⟨g, 0, none⟩) HG.out _) hrk2 hk2
                    have HR3 := Lib.hid hr3
                    have HB3 := Lib.hid hb3
                    clear hrk2 hk2 hr3 hb3
                    go_wp2_with fail
                    go_roundw
                    case rel =>
                      refine ⟨k + (RUN.length + 1), ts ++ [⟨1, c :: RUN, 0, k + 1⟩], by rw [← HLEN.out], by have := HLEN.out; omega, by rw [List.length_append, List.length_singleton]; omega, HR3.out, HB3.out, toks_at HD.out HTK.out HC32.out HTOK.out⟩
                    case measure => simp [intOf]; omega
                  · have hixp := fun w => idx_run s p mp hlp hmp w
                    go_wp2_with (first | (go_at_call 47; refine (hlet2 _).mono ?_; rintro e w' ⟨rfl, rfl⟩) | (go_at_call 48; refine (CN _).mono ?_; rintro e w' ⟨nv, rfl, hnv, rfl⟩; skip) | (go_at_call 49; refine (CW _).mono ?_; rintro e w4 ⟨rfl, hl4⟩; obtain ⟨_, z0, z1, z2, z3, zf⟩ := ((HBOX.out.set1 (.string x)).lay hl4)) | (go_at_call 50; refine (CM _).mono ?_; rintro e w' ⟨rfl, rfl⟩) | (at_builtin; refine wpList_append_rk E36 _ rfl _ _ 54 rfl (G := fun b => w.heap.size ≤ b) rfl ((Rk.lay HRK.out (Lay.set (Keep.trans (Lay.set HL0.out (p := ⟨g, 1, none⟩) HG.out (.string x)) hl4) (p := ⟨g, 0, none⟩) HG.out _)).alloc _) ?c1 (.slice (some ⟨w4.heap.size, 0, none⟩) 1 1) 1 (flatT [⟨1, c :: RUN, 0, k + 1⟩]) rfl (src_tok _ (w4.heap.size) (by simp) _ _ _ _ _ (tok_at (k := k) (kd := 1) (n := 0) HX.out)) ?c2 ?c3 ?_))
                    case c1 => exact tok_c1 HWS.out (Lay.set (Keep.trans (Lay.set HL0.out (p := ⟨g, 1, none⟩) HG.out (.string x)) hl4) (p := ⟨g, 0, none⟩) HG.out _) _
                    case c2 => omega
                    case c3 => omega
                    intro v' w2 hrk2 hk2
                    obtain ⟨hr3, hb3⟩ := tok_app HB.out HRK.out (Lay.set (Keep.trans (Lay.set HL0.out (p := ⟨g, 1, none⟩) HG.out (.string x)) hl4) (p := ⟨g, 0, none⟩) HG.out _) hrk2 hk2
                    have HR3 := Lib.hid hr3
                    have HB3 := Lib.hid hb3
                    clear hrk2 hk2 hr3 hb3
                    go_wp2_with fail
                    go_roundw
                    case rel =>
                      refine ⟨k + (RUN.length + 1), ts ++ [⟨1, c :: RUN, 0, k + 1⟩], by rw [← HLEN.out], by have := HLEN.out; omega, by rw [List.length_append, List.length_singleton]; omega, HR3.out, HB3.out, toks_at HD.out HTK.out HC32.out HTOK.out⟩
                    case measure => simp [intOf]; omega
                | false =>
                  rw [hnm] at CM
                  cases hnu : LX.num (c :: RUN) with
                  | none =>
                    have HERR : Hid (LX.lex s.data.toList = .error (4, k + 1)) := Lib.hid (lex_none (by rw [HZ.out]; omega) HU.out HD.out HTK.out HC32.out (by
                      rw [HTOKW.out]; unfold LX.kindOf; rw [if_neg (by simp [hw]), if_neg (by simp [hnm]), hnu]; rfl))
                    have hns : (LX.num (c :: RUN)).isSome = false := by rw [hnu]; rfl
                    clear hw hnm hnu HTOKW
                    rcases hstop with ⟨hlp, _⟩ | ⟨hlp, mp, hmp, hlet2⟩
                    · go_wp2_with (first | (go_at_call 47; refine (hlet2 _).mono ?_; rintro e w' ⟨rfl, rfl⟩) | (go_at_call 48; refine (CN _).mono ?_; rintro e w' ⟨nv, rfl, hnv, rfl⟩; skip) | (go_at_call 49; refine (CW _).mono ?_; rintro e w4 ⟨rfl, hl4⟩; obtain ⟨_, z0, z1, z2, z3, zf⟩ := ((HBOX.out.set1 (.string x)).lay hl4)) | (go_at_call 50; refine (CM _).mono ?_; rintro e w' ⟨rfl, rfl⟩))
                      go_ret3
                      refine ⟨HB.out.trans ((Lay.below (Keep.trans (Lay.set HL0.out (p := ⟨g, 1, none⟩) HG.out (.string x)) hl4)).mono HWS.out), ?_⟩
                      rw [HERR.out]
                      rfl
                    · have hixp := fun w => idx_run s p mp hlp hmp w
                      go_wp2_with (first | (go_at_call 47; refine (hlet2 _).mono ?_; rintro e w' ⟨rfl, rfl⟩) | (go_at_call 48; refine (CN _).mono ?_; rintro e w' ⟨nv, rfl, hnv, rfl⟩; skip) | (go_at_call 49; refine (CW _).mono ?_; rintro e w4 ⟨rfl, hl4⟩; obtain ⟨_, z0, z1, z2, z3, zf⟩ := ((HBOX.out.set1 (.string x)).lay hl4)) | (go_at_call 50; refine (CM _).mono ?_; rintro e w' ⟨rfl, rfl⟩))
                      go_ret3
                      refine ⟨HB.out.trans ((Lay.below (Keep.trans (Lay.set HL0.out (p := ⟨g, 1, none⟩) HG.out (.string x)) hl4)).mono HWS.out), ?_⟩
                      rw [HERR.out]
                      rfl
                  | some nn =>
                    have HTOK : Hid (LX.tok c (s.data.toList.drop (k + 1)) = some (3, c :: RUN, nn, RUN.length + 1)) := Lib.hid (by
                      rw [HTOKW.out]; unfold LX.kindOf; rw [if_neg (by simp [hw]), if_neg (by simp [hnm]), hnu]; rfl)
                    have hns : (LX.num (c :: RUN)).isSome = true := by rw [hnu]; rfl
                    have HNU := Lib.hid hnu
                    clear hw hnm hnu HTOKW
                    rcases hstop with ⟨hlp, _⟩ | ⟨hlp, mp, hmp, hlet2⟩
                    · go_wp2_with (first | (go_at_call 47; refine (hlet2 _).mono ?_; rintro e w' ⟨rfl, rfl⟩) | (go_at_call 48; refine (CN _).mono ?_; rintro e w' ⟨nv, rfl, hnv, rfl⟩; obtain rfl := (hnv _ HNU.out).symm) | (go_at_call 49; refine (CW _).mono ?_; rintro e w4 ⟨rfl, hl4⟩; obtain ⟨_, z0, z1, z2, z3, zf⟩ := ((HBOX.out.set1 (.string x)).lay hl4)) | (go_at_call 50; refine (CM _).mono ?_; rintro e w' ⟨rfl, rfl⟩) | (at_builtin; refine wpList_append_rk E36 _ rfl _ _ 54 rfl (G := fun b => w.heap.size ≤ b) rfl ((Rk.lay HRK.out (Lay.set (Lay.set (Keep.trans (Lay.set HL0.out (p := ⟨g, 1, none⟩) HG.out (.string x)) hl4) (p := ⟨g, 0, none⟩) HG.out _) (p := ⟨g, 2, none⟩) HG.out _)).alloc _) ?c1 (.slice (some ⟨w4.heap.size, 0, none⟩) 1 1) 1 (flatT [⟨3, c :: RUN, nn, k + 1⟩]) rfl (src_tok _ (w4.heap.size) (by simp) _ _ _ _ _ (tok_at (k := k) (kd := 3) (n := nn) HX.out)) ?c2 ?c3 ?_))
                      case c1 => exact tok_c1 HWS.out (Lay.set (Lay.set (Keep.trans (Lay.set HL0.out (p := ⟨g, 1, none⟩) HG.out (.string x)) hl4) (p := ⟨g, 0, none⟩) HG.out _) (p := ⟨g, 2, none⟩) HG.out _) _
                      case c2 => omega
                      case c3 => omega
                      intro v' w2 hrk2 hk2
                      obtain ⟨hr3, hb3⟩ := tok_app HB.out HRK.out (Lay.set (Lay.set (Keep.trans (Lay.set HL0.out (p := ⟨g, 1, none⟩) HG.out (.string x)) hl4) (p := ⟨g, 0, none⟩) HG.out _) (p := ⟨g, 2, none⟩) HG.out _) hrk2 hk2
                      have HR3 := Lib.hid hr3
                      have HB3 := Lib.hid hb3
                      clear hrk2 hk2 hr3 hb3
                      go_wp2_with fail
                      go_roundw
                      case rel =>
                        refine ⟨k + (RUN.length + 1), ts ++ [⟨3, c :: RUN, nn, k + 1⟩], by rw [← HLEN.out], by have := HLEN.out; omega, by rw [List.length_append, List.length_singleton]; omega, HR3.out, HB3.out, toks_at HD.out HTK.out HC32.out HTOK.out⟩
                      case measure => simp [intOf]; omega
                    · have hixp := fun w => idx_run s p mp hlp hmp w
                      go_wp2_with (first | (go_at_call 47; refine (hlet2 _).mono ?_; rintro e w' ⟨rfl, rfl⟩) | (go_at_call 48; refine (CN _).mono ?_; rintro e w' ⟨nv, rfl, hnv, rfl⟩; obtain rfl := (hnv _ HNU.out).symm) | (go_at_call 49; refine (CW _).mono ?_; rintro e w4 ⟨rfl, hl4⟩; obtain ⟨_, z0, z1, z2, z3, zf⟩ := ((HBOX.out.set1 (.string x)).lay hl4)) | (go_at_call 50; refine (CM _).mono ?_; rintro e w' ⟨rfl, rfl⟩) | (at_builtin; refine wpList_append_rk E36 _ rfl _ _ 54 rfl (G := fun b => w.heap.size ≤ b) rfl ((Rk.lay HRK.out (Lay.set (Lay.set (Keep.trans (Lay.set HL0.out (p := ⟨g, 1, none⟩) HG.out (.string x)) hl4) (p := ⟨g, 0, none⟩) HG.out _) (p := ⟨g, 2, none⟩) HG.out _)).alloc _) ?c1 (.slice (some ⟨w4.heap.size, 0, none⟩) 1 1) 1 (flatT [⟨3, c :: RUN, nn, k + 1⟩]) rfl (src_tok _ (w4.heap.size) (by simp) _ _ _ _ _ (tok_at (k := k) (kd := 3) (n := nn) HX.out)) ?c2 ?c3 ?_))
                      case c1 => exact tok_c1 HWS.out (Lay.set (Lay.set (Keep.trans (Lay.set HL0.out (p := ⟨g, 1, none⟩) HG.out (.string x)) hl4) (p := ⟨g, 0, none⟩) HG.out _) (p := ⟨g, 2, none⟩) HG.out _) _
                      case c2 => omega
                      case c3 => omega
                      intro v' w2 hrk2 hk2
                      obtain ⟨hr3, hb3⟩ := tok_app HB.out HRK.out (Lay.set (Lay.set (Keep.trans (Lay.set HL0.out (p := ⟨g, 1, none⟩) HG.out (.string x)) hl4) (p := ⟨g, 0, none⟩) HG.out _) (p := ⟨g, 2, none⟩) HG.out _) hrk2 hk2
                      have HR3 := Lib.hid hr3
                      have HB3 := Lib.hid hb3
                      clear hrk2 hk2 hr3 hb3
                      go_wp2_with fail
                      go_roundw
                      case rel =>
                        refine ⟨k + (RUN.length + 1), ts ++ [⟨3, c :: RUN, nn, k + 1⟩], by rw [← HLEN.out], by have := HLEN.out; omega, by rw [List.length_append, List.length_singleton]; omega, HR3.out, HB3.out, toks_at HD.out HTK.out HC32.out HTOK.out⟩
                      case measure => simp [intOf]; omega
      · have h45' : ((m : Int) == 45) = false := by simp; omega
        have HERR : Hid (LX.lex s.data.toList = .error (4, k + 1)) := Lib.hid (lex_none (by rw [HZ.out]; omega) HU.out HD.out HTK.out HC32.out (by
          unfold LX.tok
          rw [if_neg HC5.out, if_neg (fun e => HC33.out e.1), if_neg HC34.out, if_neg]
          rintro (e | e)
          · exact h45 (by rw [← HC.out, e]; rfl)
          · rw [hch] at e; cases e))
        have hlet := fun w => refLetter_any c m HC.out w
        rw [hch] at hlet
        clear hch
        go_wp2_with (go_at_call 47; refine (hlet _).mono ?_; rintro e w' ⟨rfl, rfl⟩)
        go_ret3
        refine ⟨HB.out.alloc hws _, ?_⟩
        rw [HERR.out]
        rfl
    · obtain rfl : k = s.size := by omega
      have HFIN : Hid (LX.lex s.data.toList = .ok (ts ++ [⟨0, [], 0, s.size + 1⟩])) := Lib.hid (by
        rw [LX.lex_u8 (by rw [HZ.out]; omega) HU.out, HTK.out, List.drop_of_length_le (by rw [HZ.out]; exact Nat.le_refl _), LX.toks_nil, HZ.out]
        simp [Except.map])
      go_wp2_with (at_builtin; refine wpList_append_rk E36 _ rfl _ _ 54 rfl (G := fun b => w.heap.size ≤ b) rfl (HRK.out.alloc _) ?c1 (.slice (some ⟨wr.heap.size, 0, none⟩) 1 1) 1 (flatT [⟨0, [], 0, s.size + 1⟩]) rfl (src_tok _ (wr.heap.size) rfl _ _ _ _ _ (tok_at (k := s.size) (kd := 0) (n := 0) (x := ⟨#[]⟩) rfl)) ?c2 ?c3 ?_)
      case c1 => exact tok_c1 hws (Keep.refl _ _) _
      case c2 => omega
      case c3 => omega
      intro v' w2 hrk2 hk2
      obtain ⟨hr3, hb3⟩ := tok_app HB.out HRK.out (Keep.refl _ _) hrk2 hk2
      have HR3 := Lib.hid hr3
      have HB3 := Lib.hid hb3
      clear hrk2 hk2 hr3 hb3
      go_wp2_with fail
      go_ret3
      refine ⟨HB3.out, ?_⟩
      rw [HFIN.out]
      exact ⟨_, rfl, HR3.out⟩

end Go.Proofs.YtmodiemmcdocdaaDoor

namespace Go.Proofs.YtmodiemmcdocdaaDoor
open Go.RowKit Go

theorem ref_err {s : ByteArray} {l : List UInt8} (hs : s.data.toList = l) (h : s.size ≤ 1048576) {p : Nat × Nat} (hl : LX.lex l = .error p) (w : World) (hT : Lib.Utf8Tabs 0 1 w) :
    Calls Tryd.prog 28 #[.string s] w fun e w' => e = .returned (.tuple #[.slice none 0 0, .int .i64 (p.1 : Nat), .int .i64 (p.2 : Nat)]) ∧ Below w.heap.size w w' := by
  have := refLex_any s h w hT
  rw [hs, hl] at this
  exact this.mono fun e w' ⟨a, b⟩ => ⟨b, a⟩

theorem ref_ok {s : ByteArray} {l : List UInt8} (hs : s.data.toList = l) (h : s.size ≤ 1048576) {ts : List LX.Tok} (hl : LX.lex l = .ok ts) (w : World) (hT : Lib.Utf8Tabs 0 1 w) :
    Calls Tryd.prog 28 #[.string s] w fun e w' => ∃ v, e = .returned (.tuple #[v, .int .i64 0, .int .i64 0]) ∧ Rk 4 (fun b => w.heap.size ≤ b) w' v ts.length (flatT ts) ∧ Below w.heap.size w w' := by
  have := refLex_any s h w hT
  rw [hs, hl] at this
  exact this.mono fun e w' ⟨a, b, c, d⟩ => ⟨b, c, d, a⟩

end Go.Proofs.YtmodiemmcdocdaaDoor
