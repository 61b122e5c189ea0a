/-
  THE DOCUMENT'S OWN: Quote, text.
  THE DOCUMENT'S OWN Number.
  THE DOCUMENT'S OWN Lex.
  What the document's own Lex answers, in two lemmas.
-/
import Derived.Test.YtkckgjanfiiieaaGreatDoorLxA
import Derived.Test.YtkckgjanfiiieaaGreatDoorLxS
import Derived.Laws.Concat
import Derived.OwnWalk
import Derived.Test.YtkckgjanfiiieaaGreatDoorOwB
namespace Go.Proofs.YtkckgjanfiiieaaGreatDoor
open Go.RowKit Go

theorem ext_one (s : ByteArray) (k : Nat) (h : k < s.size) : (s.extract k (k + 1)).data.toList = [s[k]] := by
  rw [Lib.extract_data, byte_drop s k h, Nat.add_sub_cancel_left]
  rfl

theorem add_data (a b : ByteArray) : (a ++ b).data.toList = a.data.toList ++ b.data.toList := by
  rw [ByteArray.data_append]
  simp

set_option maxHeartbeats 4000000 in
set_option maxRecDepth 100000 in
theorem quote_any (s : ByteArray) (hlen : s.size ≤ 1048576) (w : World) (hT : Lib.Utf8Tabs 4 5 w) :
    Calls Tryz.prog 51 #[.string s] w fun e w' => e = .returned (.string ⟨(LX.quote s.data.toList).toArray⟩) ∧ Below w.heap.size w w' := by
  have hsz : s.data.toList.length = s.size := (Lib.size_eq s).symm
  have HZ := Lib.hid hsz
  clear hsz
  have HIT := Lib.hid (isText_any s hlen w hT)
  clear hT
  cases hb : LX.isText s.data.toList with
  | false =>
    have HQ : Hid (LX.quote s.data.toList = []) := Lib.hid (by unfold LX.quote; rw [hb]; rfl)
    rw [hb] at HIT
    clear hb
    go_enter Tryz.func51, Tryz.ntmps51
    go_wp2_with fail
    refine HIT.out.mono ?_
    rintro e w1 ⟨rfl, hb1⟩
    go_wp2_with fail
    go_ret
    exact ⟨by rw [HQ.out]; rfl, hb1⟩
  | true =>
    have HQ := Lib.hid (LX.quote_of hb)
    rw [hb] at HIT
    clear hb
    go_enter Tryz.func51, Tryz.ntmps51
    go_wp2_with fail
    refine HIT.out.mono ?_
    rintro e w1 ⟨rfl, hb1⟩
    have HB1 := Lib.hid hb1
    clear hb1 HIT
    go_wp2_with fail
    go_loopw [3, 4] (fun vo vi wr => ∃ (k : Nat) (o : ByteArray), vi = .int .i64 k ∧ vo = .string o ∧ k ≤ s.size ∧ wr = w1 ∧ o.data.toList = 34 :: LX.esc (s.data.toList.take k)) (fun _ vi _ => s.size - (intOf vi).toNat)
    case atStart => exact ⟨0, _, rfl, rfl, Nat.zero_le _, rfl, rfl⟩
    case round =>
      obtain ⟨k, o, rfl, rfl, hk, rfl, ho⟩ := hrel
      have hos : o.size ≤ 2097153 := by
        have h1 := (LX.esc_len (s.data.toList.take k)).2
        have h2 : (s.data.toList.take k).length ≤ s.size := by rw [List.length_take, HZ.out]; omega
        rw [Lib.size_eq, ho, List.length_cons]
        omega
      have HO := Lib.hid ho
      clear ho
      by_cases hlt : k < s.size
      · have HD := Lib.hid (byte_drop s k hlt)
        have HE := Lib.hid (ext_one s k hlt)
        have hes : (s.extract k (k + 1)).size = 1 := by rw [Lib.size_eq, HE.out]; rfl
        have HTK : Hid (s.data.toList.take (k + 1) = s.data.toList.take k ++ [s[k]]) := Lib.hid (by
          have hkl : k < s.data.toList.length := by rw [HZ.out]; exact hlt
          rw [List.take_succ_eq_append_getElem hkl]
          rfl)
        obtain ⟨c, hc⟩ : ∃ c, c = s[k] := ⟨_, rfl⟩
        obtain ⟨m, hm⟩ : ∃ m, s[k].toNat = m := ⟨_, rfl⟩
        have hix := fun w => idx_run s k m hlt hm w
        rw [← hc] at HD HE HTK hm
        have HC := Lib.hid hm
        clear hc hm
        by_cases h34 : m = 34
        · subst h34
          go_wp2_with fail
          go_roundw
          case rel =>
            refine ⟨k + 1, _, by go_num, rfl, by omega, by trivial, ?_⟩
            have hc : c = 34 := UInt8.toNat_inj.1 HC.out
            rw [add_data, add_data, HE.out, HO.out, HTK.out, LX.esc_append, hc]
            simp [LX.esc]
          case measure => simp [intOf]; omega
        · have h34' : ((m : Int) == 34) = false := by simp; omega
          by_cases h92 : m = 92
          · subst h92
            go_wp2_with fail
            go_roundw
            case rel =>
              refine ⟨k + 1, _, by go_num, rfl, by omega, by trivial, ?_⟩
              have hc : c = 92 := UInt8.toNat_inj.1 HC.out
              rw [add_data, add_data, HE.out, HO.out, HTK.out, LX.esc_append, hc]
              simp [LX.esc]
            case measure => simp [intOf]; omega
          · have h92' : ((m : Int) == 92) = false := by simp; omega
            go_wp2_with fail
            go_roundw
            case rel =>
              refine ⟨k + 1, _, by go_num, rfl, by omega, by trivial, ?_⟩
              have hc1 : c ≠ 34 := fun e => h34 (by rw [← HC.out, e]; rfl)
              have hc2 : c ≠ 92 := fun e => h92 (by rw [← HC.out, e]; rfl)
              rw [add_data, HE.out, HO.out, HTK.out, LX.esc_append]
              simp [LX.esc, hc1, hc2]
            case measure => simp [intOf]; omega
      · obtain rfl : k = s.size := by omega
        go_wp2_with fail
        go_ret
        refine ⟨?_, HB1.out⟩
        refine congrArg (fun b => Ending.returned (Value.string b)) (str_of ?_)
        rw [add_data, HO.out, HQ.out, List.take_of_length_le (by rw [HZ.out]; exact Nat.le_refl _)]
        rfl

/-- What text answers. -/
def textOf : Option (List UInt8 × Nat) → Value
  | some q => .tuple #[.string ⟨q.1.toArray⟩, .int .i64 (q.2 : Nat)]
  | none => .tuple #[.string ⟨#[]⟩, .int .i64 (-1)]

end Go.Proofs.YtkckgjanfiiieaaGreatDoor

namespace Go.Proofs.YtkckgjanfiiieaaGreatDoor
open Go.RowKit Go

end Go.Proofs.YtkckgjanfiiieaaGreatDoor

namespace Go.Proofs.YtkckgjanfiiieaaGreatDoor
open Go.RowKit Go

end Go.Proofs.YtkckgjanfiiieaaGreatDoor

namespace Go.Proofs.YtkckgjanfiiieaaGreatDoor
open Go.RowKit Go

end Go.Proofs.YtkckgjanfiiieaaGreatDoor
