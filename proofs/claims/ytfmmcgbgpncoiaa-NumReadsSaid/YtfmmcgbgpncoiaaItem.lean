/-
  magpielaw01.put AND magpielaw01.back: an item put, and read again.
-/
import Derived.Test.YtfmmcgbgpncoiaaJoinsWalk
import Derived.Deep.RegionWith
namespace Go.Proofs.Ytfmmcgbgpncoiaa
open Go.RowKit Go

/-- An item. -/
structure It where
  kind : Int
  n : Nat
  s : ByteArray

/-- Its values fit. -/
structure It.Fits (x : It) : Prop where
  lo : -9223372036854775808 ≤ x.kind
  hi : x.kind ≤ 9223372036854775807
  num : x.n < 18446744073709551616
  txt : x.s.size ≤ 100

/-- As a value. -/
def It.val (x : It) : Value := .agg #[.int .i64 x.kind, .int .u64 x.n, .string x.s]

/-- Its bytes. -/
def It.enc (x : It) : List UInt8 :=
  if x.kind = 0 then Lib.uvarint x.n
  else if x.kind = 1 then Lib.uvarint (Lib.zigzag (wrap64 x.n))
  else if x.kind = 2 then textB x.s.data.toList
  else [if x.n % 2 == 1 then 1 else 0]

theorem wrap_bounds (n : Int) : -9223372036854775808 ≤ wrap64 n ∧ wrap64 n ≤ 9223372036854775807 := by
  unfold wrap64; omega

set_option maxHeartbeats 1000000 in
theorem put_any (B : Nat) (x : It) (hx : x.Fits) (sv : Value) (l : List UInt8) (w : World) (hown : Bs B w sv l) (hBw : B ≤ w.heap.size) (hlim : l.length ≤ 35184372088832) :
    Calls Try.prog 28 #[sv, x.val] w fun e w' => ∃ v', e = .returned v' ∧ Bs B w' v' (l ++ x.enc) ∧ Below B w w' := by
  obtain ⟨kd, n, s⟩ := x
  obtain ⟨lo, hi, hn, hs⟩ := hx
  simp only [] at lo hi hn hs
  have hwb := wrap_bounds n
  have hB1 : Below B w (w.alloc (.cells #[.int .i64 kd, .int .u64 n, .string s] 49)) := (Below.refl _ _).alloc hBw _
  have hBs := hown.alloc (.cells #[.int .i64 kd, .int .u64 n, .string s] 49)
  have hsz : B ≤ (w.alloc (.cells #[.int .i64 kd, .int .u64 n, .string s] 49)).heap.size := Nat.le_trans hBw hB1.size
  have C0 := Lib.hid (uint_any B n hn sv l _ hBs hsz (by omega))
  have C1 := Lib.hid (int_any B _ hwb.1 hwb.2 sv l _ hBs hsz (by omega))
  have C2 := Lib.hid (text_any B s (by omega) sv l _ hBs hsz (by omega))
  have C3 := Lib.hid (bool_any B (n % 2 == 1) sv l _ hBs hsz (by omega))
  unfold It.val
  have HB1 := Lib.hid hB1
  clear hB1 hBs hsz hwb
  by_cases h0 : kd = 0
  · subst h0
    have HE := Lib.hid (show It.enc ⟨0, n, s⟩ = Lib.uvarint n by simp [It.enc])
    go_enter Try.func28, Try.ntmps28
    go_wp2_with (go_at_call 10; refine C0.out.mono ?_; rintro e w1 ⟨v', rfl, ho, hb⟩)
    go_ret
    refine ⟨v', rfl, ?_, HB1.out.trans hb⟩
    rw [HE.out]
    exact ho
  have e0 : (kd == 0) = false := by simp; omega
  by_cases h1 : kd = 1
  · subst h1
    have HE := Lib.hid (show It.enc ⟨1, n, s⟩ = Lib.uvarint (Lib.zigzag (wrap64 n)) by simp [It.enc])
    go_enter Try.func28, Try.ntmps28
    go_wp2_with (go_at_call 13; refine C1.out.mono ?_; rintro e w1 ⟨v', rfl, ho, hb⟩)
    go_ret
    refine ⟨v', rfl, ?_, HB1.out.trans hb⟩
    rw [HE.out]
    exact ho
  have e1 : (kd == 1) = false := by simp; omega
  by_cases h2 : kd = 2
  · subst h2
    have HE := Lib.hid (show It.enc ⟨2, n, s⟩ = textB s.data.toList by simp [It.enc])
    go_enter Try.func28, Try.ntmps28
    go_wp2_with (go_at_call 15; refine C2.out.mono ?_; rintro e w1 ⟨v', rfl, ho, hb⟩)
    go_ret
    refine ⟨v', rfl, ?_, HB1.out.trans hb⟩
    rw [HE.out]
    exact ho
  have e2 : (kd == 2) = false := by simp; omega
  have henc : It.enc ⟨kd, n, s⟩ = [if n % 2 == 1 then 1 else 0] := by simp [It.enc, h0, h1, h2]
  have HE := Lib.hid henc
  clear henc h0 h1 h2
  by_cases hp : n % 2 = 1
  · have e3 : (n % 2 == 1) = true := by simp [hp]
    have e4 : ((n : Int) % 2 == 1) = true := by simp; omega
    rw [e3] at C3
    have HE3 := Lib.hid e3
    clear hp e3
    go_enter Try.func28, Try.ntmps28
    go_wp2_with (go_at_call 17; refine C3.out.mono ?_; rintro e w1 ⟨v', rfl, ho, hb⟩)
    go_ret
    refine ⟨v', rfl, ?_, HB1.out.trans hb⟩
    rw [HE.out, HE3.out]
    exact ho
  · have e3 : (n % 2 == 1) = false := by simp; omega
    have e4 : ((n : Int) % 2 == 1) = false := by simp; omega
    rw [e3] at C3
    have HE3 := Lib.hid e3
    clear hp e3
    go_enter Try.func28, Try.ntmps28
    go_wp2_with (go_at_call 17; refine C3.out.mono ?_; rintro e w1 ⟨v', rfl, ho, hb⟩)
    go_ret
    refine ⟨v', rfl, ?_, HB1.out.trans hb⟩
    rw [HE.out, HE3.out]
    exact ho

end Go.Proofs.Ytfmmcgbgpncoiaa
