/-
  THE DOCUMENT'S OWN: Quote, text.
-/
import Derived.Test.YtpchlnikcdhklaaDoorRefValid
import Derived.Laws.Concat
namespace Go.Proofs.YtpchlnikcdhklaaDoor
open Go.RowKit Go

theorem ext_one (s : ByteArray) (k : Nat) (h : k < s.size) : (s.extract k (k + 1)).data.toList = [s[k]] := by
  rw [Lib.extract_data, byte_drop s k h, Nat.add_sub_cancel_left]
  rfl

theorem add_data (a b : ByteArray) : (a ++ b).data.toList = a.data.toList ++ b.data.toList := by
  rw [ByteArray.data_append]
  simp

theorem str_of {a : ByteArray} {l : List UInt8} (h : a.data.toList = l) : a = ⟨l.toArray⟩ := by
  subst h
  cases a
  rfl

set_option maxHeartbeats 4000000 in
set_option maxRecDepth 100000 in
theorem quote_any (s : ByteArray) (hlen : s.size ≤ 1048576) (w : World) (hT : Lib.Utf8Tabs 1 2 w) :
    Calls Tryd.prog 16 #[.string s] w fun e w' => e = .returned (.string ⟨(LX.quote s.data.toList).toArray⟩) ∧ Below w.heap.size w w' := by
  have hsz : s.data.toList.length = s.size := (Lib.size_eq s).symm
  have HZ := Lib.hid hsz
  clear hsz
  have HIT := Lib.hid (isText_any s hlen w hT)
  clear hT
  cases hb : LX.isText s.data.toList with
  | false =>
    have HQ : Hid (LX.quote s.data.toList = []) := Lib.hid (by unfold LX.quote; rw [hb]; rfl)
    rw [hb] at HIT
    clear hb
    go_enter Tryd.func16, Tryd.ntmps16
    go_wp2_with fail
    refine HIT.out.mono ?_
    rintro e w1 ⟨rfl, hb1⟩
    go_wp2_with fail
    go_ret
    exact ⟨by rw [HQ.out]; rfl, hb1⟩
  | true =>
    have HQ := Lib.hid (LX.quote_of hb)
    rw [hb] at HIT
    clear hb
    go_enter Tryd.func16, Tryd.ntmps16
    go_wp2_with fail
    refine HIT.out.mono ?_
    rintro e w1 ⟨rfl, hb1⟩
    have HB1 := Lib.hid hb1
    clear hb1 HIT
    go_wp2_with fail
    go_loopw [3, 4] (fun vo vi wr => ∃ (k : Nat) (o : ByteArray), vi = .int .i64 k ∧ vo = .string o ∧ k ≤ s.size ∧ wr = w1 ∧ o.data.toList = 34 :: LX.esc (s.data.toList.take k)) (fun _ vi _ => s.size - (intOf vi).toNat)
    case atStart => exact ⟨0, _, rfl, rfl, Nat.zero_le _, rfl, rfl⟩
    case round =>
      obtain ⟨k, o, rfl, rfl, hk, rfl, ho⟩ := hrel
      have hos : o.size ≤ 2097153 := by
        have h1 := (LX.esc_len (s.data.toList.take k)).2
        have h2 : (s.data.toList.take k).length ≤ s.size := by rw [List.length_take, HZ.out]; omega
        rw [Lib.size_eq, ho, List.length_cons]
        omega
      have HO := Lib.hid ho
      clear ho
      by_cases hlt : k < s.size
      · have HD := Lib.hid (byte_drop s k hlt)
        have HE := Lib.hid (ext_one s k hlt)
        have hes : (s.extract k (k + 1)).size = 1 := by rw [Lib.size_eq, HE.out]; rfl
        have HTK : Hid (s.data.toList.take (k + 1) = s.data.toList.take k ++ [s[k]]) := Lib.hid (by
          have hkl : k < s.data.toList.length := by rw [HZ.out]; exact hlt
          rw [List.take_succ_eq_append_getElem hkl]
          rfl)
        obtain ⟨c, hc⟩ : ∃ c, c = s[k] := ⟨_, rfl⟩
        obtain ⟨m, hm⟩ : ∃ m, s[k].toNat = m := ⟨_, rfl⟩
        have hix := fun w => idx_run s k m hlt hm w
        rw [← hc] at HD HE HTK hm
        have HC := Lib.hid hm
        clear hc hm
        by_cases h34 : m = 34
        · subst h34
          go_wp2_with fail
          go_roundw
          case rel =>
            refine ⟨k + 1, _, by go_num, rfl, by omega, by trivial, ?_⟩
            have hc : c = 34 := UInt8.toNat_inj.1 HC.out
            rw [add_data, add_data, HE.out, HO.out, HTK.out, LX.esc_append, hc]
            simp [LX.esc]
          case measure => simp [intOf]; omega
        · have h34' : ((m : Int) == 34) = false := by simp; omega
          by_cases h92 : m = 92
          · subst h92
            go_wp2_with fail
            go_roundw
            case rel =>
              refine ⟨k + 1, _, by go_num, rfl, by omega, by trivial, ?_⟩
              have hc : c = 92 := UInt8.toNat_inj.1 HC.out
              rw [add_data, add_data, HE.out, HO.out, HTK.out, LX.esc_append, hc]
              simp [LX.esc]
            case measure => simp [intOf]; omega
          · have h92' : ((m : Int) == 92) = false := by simp; omega
            go_wp2_with fail
            go_roundw
            case rel =>
              refine ⟨k + 1, _, by go_num, rfl, by omega, by trivial, ?_⟩
              have hc1 : c ≠ 34 := fun e => h34 (by rw [← HC.out, e]; rfl)
              have hc2 : c ≠ 92 := fun e => h92 (by rw [← HC.out, e]; rfl)
              rw [add_data, HE.out, HO.out, HTK.out, LX.esc_append]
              simp [LX.esc, hc1, hc2]
            case measure => simp [intOf]; omega
      · obtain rfl : k = s.size := by omega
        go_wp2_with fail
        go_ret
        refine ⟨?_, HB1.out⟩
        refine congrArg (fun b => Ending.returned (Value.string b)) (str_of ?_)
        rw [add_data, HO.out, HQ.out, List.take_of_length_le (by rw [HZ.out]; exact Nat.le_refl _)]
        rfl

/-- What text answers. -/
def textOf : Option (List UInt8 × Nat) → Value
  | some q => .tuple #[.string ⟨q.1.toArray⟩, .int .i64 (q.2 : Nat)]
  | none => .tuple #[.string ⟨#[]⟩, .int .i64 (-1)]

set_option maxHeartbeats 4000000 in
set_option maxRecDepth 100000 in
theorem refText_any (s : ByteArray) (hlen : s.size ≤ 1048576) (p : Nat) (hp : p < s.size) (w : World) :
    Calls Tryd.prog 23 #[.string s, .int .i64 (p : Nat)] w fun e w' => e = .returned (textOf ((LX.text (s.data.toList.drop (p + 1))).map fun q => (q.1, p + 1 + q.2))) ∧ w' = w := by
  have hsz : s.data.toList.length = s.size := (Lib.size_eq s).symm
  have HZ := Lib.hid hsz
  clear hsz
  obtain ⟨T, hT⟩ : ∃ T, T = (LX.text (s.data.toList.drop (p + 1))).map fun q => (q.1, p + 1 + q.2) := ⟨_, rfl⟩
  rw [← hT]
  have HT := Lib.hid hT
  clear hT
  go_enter Tryd.func23, Tryd.ntmps23
  go_wp2_with fail
  go_loopw [6, 7] (fun vo vi wr => ∃ (k : Nat) (o : ByteArray), vi = .int .i64 k ∧ vo = .string o ∧ k ≤ s.size ∧ o.size ≤ k ∧ wr = w ∧ T = (LX.text (s.data.toList.drop k)).map fun q => (o.data.toList ++ q.1, k + q.2)) (fun _ vi _ => s.size - (intOf vi).toNat)
  case atStart => exact ⟨p + 1, ⟨#[]⟩, by go_num, rfl, by omega, Nat.zero_le _, rfl, HT.out⟩
  case round =>
    obtain ⟨k, o, rfl, rfl, hk, hok, rfl, ho⟩ := hrel
    have HO := Lib.hid ho
    clear ho HT
    by_cases hlt : k < s.size
    · have HD := Lib.hid (byte_drop s k hlt)
      have HE := Lib.hid (ext_one s k hlt)
      have hes : (s.extract k (k + 1)).size = 1 := by rw [Lib.size_eq, HE.out]; rfl
      obtain ⟨c, hc⟩ : ∃ c, c = s[k] := ⟨_, rfl⟩
      obtain ⟨m, hm⟩ : ∃ m, s[k].toNat = m := ⟨_, rfl⟩
      have hix := fun w => idx_run s k m hlt hm w
      rw [← hc] at HD HE hm
      have HC := Lib.hid hm
      clear hc hm
      by_cases h10 : m = 10
      · subst h10
        go_wp2_with fail
        go_ret2
        refine ⟨?_, rfl⟩
        have hc : c = 10 := UInt8.toNat_inj.1 HC.out
        rw [HO.out, HD.out, hc, LX.text_lf]
        rfl
      have h10' : ((m : Int) == 10) = false := by simp; omega
      by_cases h34 : m = 34
      · subst h34
        go_wp2_with fail
        go_ret2
        refine ⟨?_, rfl⟩
        have hc : c = 34 := UInt8.toNat_inj.1 HC.out
        rw [HO.out, HD.out, hc, LX.text_end]
        simp only [Option.map_some, textOf, List.append_nil]
        refine congrArg Ending.returned ?_
        exact rfl
      have h34' : ((m : Int) == 34) = false := by simp; omega
      by_cases h92 : m = 92
      · subst h92
        have hc : c = 92 := UInt8.toNat_inj.1 HC.out
        by_cases hlt2 : k + 1 < s.size
        · have HD2 := Lib.hid (byte_drop s (k + 1) hlt2)
          have HE2 := Lib.hid (ext_one s (k + 1) hlt2)
          have hes2 : (s.extract (k + 1) (k + 1 + 1)).size = 1 := by rw [Lib.size_eq, HE2.out]; rfl
          have HD3 : Hid (LX.text (s.data.toList.drop k) = if s[k + 1] = 34 ∨ s[k + 1] = 92 then (LX.text (s.data.toList.drop (k + 1 + 1))).map fun p => (s[k + 1] :: p.1, p.2 + 2) else none) := Lib.hid (by
            rw [HD.out, hc, HD2.out, LX.text_esc])
          have fin : Hid (s[k + 1] = 34 ∨ s[k + 1] = 92 → T = (LX.text (s.data.toList.drop (k + 1 + 1))).map fun q => ((o ++ s.extract (k + 1) (k + 1 + 1)).data.toList ++ q.1, k + 1 + 1 + q.2)) := Lib.hid fun hd => by
            rw [HO.out, HD3.out, if_pos hd, Option.map_map, add_data, HE2.out]
            congr 1
            funext q
            simp
            omega
          have fsz : Hid ((o ++ s.extract (k + 1) (k + 1 + 1)).size ≤ k + 1 + 1) := Lib.hid (by rw [Lib.size_eq, add_data, List.length_append, ← Lib.size_eq, ← Lib.size_eq, hes2]; omega)
          by_cases hd34 : s[k + 1].toNat = 34
          · have hb1 : ((s[k + 1].toNat : Int) != 34) = false := by simp; omega
            go_wp2_with fail
            go_roundw
            case rel => exact ⟨k + 1 + 1, _, by go_num, rfl, by omega, fsz.out, by trivial, fin.out (.inl (UInt8.toNat_inj.1 hd34))⟩
            case measure => simp [intOf]; omega
          · have hb1 : ((s[k + 1].toNat : Int) != 34) = true := by simp; omega
            by_cases hd92 : s[k + 1].toNat = 92
            · have hb2 : ((s[k + 1].toNat : Int) != 92) = false := by simp; omega
              go_wp2_with fail
              go_roundw
              case rel => exact ⟨k + 1 + 1, _, by go_num, rfl, by omega, fsz.out, by trivial, fin.out (.inr (UInt8.toNat_inj.1 hd92))⟩
              case measure => simp [intOf]; omega
            · have hb2 : ((s[k + 1].toNat : Int) != 92) = true := by simp; omega
              go_wp2_with fail
              go_ret2
              refine ⟨?_, rfl⟩
              rw [HO.out, HD3.out, if_neg]
              · rfl
              · rintro (h | h)
                · exact hd34 (by rw [h]; rfl)
                · exact hd92 (by rw [h]; rfl)
        · go_wp2_with fail
          go_ret2
          refine ⟨?_, rfl⟩
          have : s.data.toList.drop (k + 1) = [] := List.drop_of_length_le (by rw [HZ.out]; omega)
          rw [HO.out, HD.out, hc, this, LX.text_esc0]
          rfl
      · have h92' : ((m : Int) == 92) = false := by simp; omega
        go_wp2_with fail
        go_roundw
        case rel =>
          refine ⟨k + 1, _, by go_num, rfl, by omega, ?_, by trivial, ?_⟩
          · rw [Lib.size_eq, add_data, List.length_append, ← Lib.size_eq, ← Lib.size_eq, hes]; omega
          · rw [HO.out, HD.out, LX.text_other c _ (fun e => h10 (by rw [← HC.out, e]; rfl)) (fun e => h34 (by rw [← HC.out, e]; rfl)) (fun e => h92 (by rw [← HC.out, e]; rfl)), Option.map_map, add_data, HE.out]
            congr 1
            funext q
            simp
            omega
        case measure => simp [intOf]; omega
    · obtain rfl : k = s.size := by omega
      go_wp2_with fail
      go_ret2
      refine ⟨?_, rfl⟩
      rw [HO.out, List.drop_of_length_le (by rw [HZ.out]; exact Nat.le_refl _)]
      rfl

end Go.Proofs.YtpchlnikcdhklaaDoor
