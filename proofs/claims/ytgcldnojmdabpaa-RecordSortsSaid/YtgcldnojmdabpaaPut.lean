/-
  WHAT THE CALLS THAT PUT DO: Uint, Size, Int, Text, Bool of package num.
-/
import Derived.Test.YtgcldnojmdabpaaBytes
import Derived.Lib.BitFns
namespace Go.Proofs.Ytgcldnojmdabpaa
open Go.RowKit Go

set_option maxHeartbeats 1000000 in
set_option maxRecDepth 100000 in
/-- num.Uint: the number's bytes, behind b. -/
theorem uint_any (B x : Nat) (hx : x < 18446744073709551616) (sv : Value) (l : List UInt8) (w : World) (hown : Bs B w sv l) (hBw : B ≤ w.heap.size) (hlim : l.length ≤ 70368744177664) :
    Calls Try.prog 67 #[sv, .int .u64 x] w fun e w' => ∃ v', e = .returned v' ∧ Bs B w' v' (l ++ Lib.uvarint x) ∧ Below B w w' := by
  have hlen := Lib.uvarint_length64 hx
  go_enter Try.func67, Try.ntmps67
  go_wp2
  go_loopw [0, 1] (fun vb vx wr => ∃ (y : Nat) (pre : List UInt8), vx = .int .u64 y ∧ y ≤ x ∧ Lib.uvarint x = pre ++ Lib.uvarint y ∧ Bs B wr vb (l ++ pre) ∧ Below B w wr)
    (fun _ vx _ => (intOf vx).toNat)
  case atStart => exact ⟨x, [], rfl, Nat.le_refl _, rfl, by simpa using hown, Below.refl _ _⟩
  case round =>
    obtain ⟨y, pre, rfl, hy, hsplit, hown1, hnx⟩ := hrel
    have hpl : pre.length + (Lib.uvarint y).length ≤ 10 := by
      have h2 := congrArg List.length hsplit
      rw [List.length_append] at h2
      omega
    have hyp := Lib.uvarint_pos y
    have hsz := hnx.size
    by_cases h128 : 128 ≤ y
    · have hor : bits .or .u8 ((y : Int) % 256) 128 = (y : Int) % 128 + 128 := by
        rw [Lib.u8_or128_any _ (by omega) (by omega)]
        omega
      have hc : ((y : Int) % 128 + 128) = (((y % 128 + 128).toUInt8.toNat : Nat) : Int) := by
        rw [Lib.toUInt8_toNat (by omega)]
        omega
      have HC := Lib.hid hc
      clear hc
      go_wp2_with (at_builtin; refine wpList_append_bs _ rfl _ _ 32 rfl rfl (hown1.alloc _) ?c1 (.slice (some ⟨wr.heap.size, 0, none⟩) 1 1) [(y % 128 + 128).toUInt8] rfl (src_one wr _ _ ?c2) ?c3 ?_)
      case c1 => simp; omega
      case c2 => exact HC.out
      case c3 => simp; omega
      intro v' w1 hown' hbel
      have hnx1 : Below B w w1 := (hnx.alloc (by omega) _).trans hbel
      go_wp2
      go_roundw
      case rel =>
        refine ⟨y / 128, pre ++ [(y % 128 + 128).toUInt8], by go_num, by omega, by rw [hsplit, Lib.uvarint_big h128]; simp, ?_, hnx1⟩
        simpa using hown'
      case measure => simp [intOf]; omega
    · have hsm : Lib.uvarint y = [y.toUInt8] := Lib.uvarint_small (by omega)
      have hc : (y : Int) = ((y.toUInt8.toNat : Nat) : Int) := by
        rw [Lib.toUInt8_toNat (by omega)]
      have HC := Lib.hid hc
      clear hc
      have HS := Lib.hid hsm
      clear hsm
      go_wp2_with (at_builtin; refine wpList_append_bs _ rfl _ _ 32 rfl rfl (hown1.alloc _) ?c1 (.slice (some ⟨wr.heap.size, 0, none⟩) 1 1) [y.toUInt8] rfl (src_one wr _ _ ?c2) ?c3 ?_)
      case c1 => simp; omega
      case c2 => exact HC.out
      case c3 => simp; omega
      intro v' w1 hown' hbel
      have hnx1 : Below B w w1 := (hnx.alloc (by omega) _).trans hbel
      go_wp2
      go_ret
      refine ⟨v', rfl, ?_, hnx1⟩
      rw [hsplit, HS.out]
      simpa using hown'

set_option maxHeartbeats 1000000 in
/-- num.Int. -/
theorem int_any (B : Nat) (x : Int) (h0 : -9223372036854775808 ≤ x) (h1 : x ≤ 9223372036854775807) (sv : Value) (l : List UInt8) (w : World) (hown : Bs B w sv l) (hBw : B ≤ w.heap.size) (hlim : l.length ≤ 70368744177664) :
    Calls Try.prog 44 #[sv, .int .i64 x] w fun e w' => ∃ v', e = .returned v' ∧ Bs B w' v' (l ++ Lib.uvarint (Lib.zigzag x)) ∧ Below B w w' := by
  have hU := uint_any B (Lib.zigzag x) (Lib.zigzag_lt h0 h1) sv l w hown hBw hlim
  by_cases hneg : x < 0
  · rw [← Lib.zigzag_neg h0 hneg] at hU
    have HU := Lib.hid hU
    clear hU
    go_enter Try.func44, Try.ntmps44
    go_wp2_with (go_at_call 67; refine HU.out.mono ?_; rintro e w1 ⟨v', rfl, ho, hb⟩)
    go_ret
    exact ⟨v', rfl, ho, hb⟩
  · rw [Lib.zigzag_nonneg (by omega)] at hU
    have HU := Lib.hid hU
    clear hU
    go_enter Try.func44, Try.ntmps44
    go_wp2_with (go_at_call 67; refine HU.out.mono ?_; rintro e w1 ⟨v', rfl, ho, hb⟩)
    go_ret
    exact ⟨v', rfl, ho, hb⟩

/-- A text's bytes. -/
def textB (s : List UInt8) : List UInt8 := Lib.uvarint s.length ++ s

set_option maxHeartbeats 1000000 in
/-- num.Text. -/
theorem text_any (B : Nat) (s : ByteArray) (hs : s.size ≤ 35184372088832) (sv : Value) (l : List UInt8) (w : World) (hown : Bs B w sv l) (hBw : B ≤ w.heap.size) (hlim : l.length ≤ 35184372088832) :
    Calls Try.prog 45 #[sv, .string s] w fun e w' => ∃ v', e = .returned v' ∧ Bs B w' v' (l ++ textB s.data.toList) ∧ Below B w w' := by
  have hU := uint_any B s.size (by omega) sv l w hown hBw (by omega)
  have hul := Lib.uvarint_length64 (x := s.size) (by omega)
  have hsl : s.data.toList.length = s.size := Array.length_toList
  have HU := Lib.hid hU
  have HL := Lib.hid hsl
  clear hU hsl
  go_enter Try.func45, Try.ntmps45
  go_wp2_with (first | (go_at_call 67; refine HU.out.mono ?_; rintro e w1 ⟨v', rfl, ho, hb⟩; have hsz := hb.size) | (at_builtin; refine wpList_append_bs _ rfl _ _ 9 rfl rfl ho ?c1 (.string s) s.data.toList rfl (src_string _ s) ?c3 ?_))
  case c1 => omega
  case c3 => have := HL.out; simp only [List.length_append]; omega
  intro v2 w2 ho2 hb2
  go_wp2
  go_ret
  refine ⟨v2, rfl, ?_, hb.trans hb2⟩
  unfold textB
  rw [HL.out]
  exact ho2

end Go.Proofs.Ytgcldnojmdabpaa
