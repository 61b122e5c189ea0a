/-
  WHAT THE CALLS THAT PUT DO, told by the slice's own block ('Rk'): Uint, Int, Text of package num.
-/
import Derived.Test.YtgcldnojmdabpaaWays
import Derived.Test.YtgcldnojmdabpaaRow
import Derived.Lib.BitFns
namespace Go.Proofs.Ytgcldnojmdabpaa
open Go.RowKit Go

theorem elem5 : ∃ i, Elem Try.prog 32 5 i (.int .u8 0) 1 1 := by
  obtain ⟨i, hi, hz, hs, hb⟩ := info_parts info5
  exact ⟨i, Try.underlying32, hi, hz, hs, hb, by kernel_rfl⟩

theorem cellsOf_append (l m : List UInt8) : cellsOf (l ++ m) = cellsOf l ++ cellsOf m := by simp [cellsOf]

/-- A slice of bytes. -/
abbrev By (G : Nat → Prop) (w : World) (v : Value) (l : List UInt8) : Prop := Rk 1 G w v l.length (cellsOf l)

theorem By.bs {G : Nat → Prop} {w : World} {v : Value} {l : List UInt8} (h : By G w v l) : Bs 0 w v l := by
  obtain ⟨_, ⟨h1, h2⟩ | ⟨g, cap, h1, _, h2, h3, h4, h5, h6⟩⟩ := h
  · exact .inl ⟨h1, List.eq_nil_of_length_eq_zero h2⟩
  · exact .inr ⟨g, cap, h1, Nat.zero_le _, h2, h3, h4, fun j hj => h5 j (by rw [cellsOf_length]; exact hj), fun j hj => h6 j (by omega)⟩

theorem Bs.by {B : Nat} {w : World} {v : Value} {l : List UInt8} (h : Bs B w v l) : By (fun b => B ≤ b) w v l := by
  refine ⟨by rw [cellsOf_length]; omega, ?_⟩
  rcases h with ⟨h1, h2⟩ | ⟨g, cap, h1, h2, h3, h4, h5, h6, h7⟩
  · exact .inl ⟨h1, by rw [h2]; rfl⟩
  · exact .inr ⟨g, cap, h1, h2, h3, h4, h5, fun j hj => h6 j (by rw [cellsOf_length] at hj; exact hj), fun j hj => h7 j (by omega)⟩

theorem By.of {G : Nat → Prop} {w : World} {v : Value} {n : Nat} {m : List UInt8} (h : Rk 1 G w v n (cellsOf m)) : By G w v m := by
  have hn := h.1
  rw [cellsOf_length] at hn
  obtain rfl : n = m.length := by omega
  exact h

/-- What a call that puts leaves: the bytes, in the old block or a new one; of the old blocks only the slice's own has turned. -/
def PutPost (sv : Value) (l : List UInt8) (w : World) (e : Ending) (w' : World) : Prop :=
  ∃ v', e = .returned v' ∧ By (fun b => At sv b ∨ w.heap.size ≤ b) w' v' l ∧ Keep (At sv) w w'

theorem Keep.step {sv vb : Value} {w wr w1 : World} (h : Keep (At sv) w wr) (k : Keep (At vb) wr w1) (ha : ∀ b, At vb b → At sv b ∨ w.heap.size ≤ b) : Keep (At sv) w w1 :=
  ⟨k.os.trans h.os, k.tape.trans h.tape, k.output.trans h.output, Nat.le_trans h.size k.size, Nat.le_trans h.drawn k.drawn, fun b hb hn =>
    (k.block b (Nat.lt_of_lt_of_le hb h.size) (fun hv => (ha b hv).elim hn (fun hle => by omega))).trans (h.block b hb hn)⟩

theorem PutPost.then {sv v1 : Value} {l l2 : List UInt8} {w w1 w2 : World} {e : Ending} (h1 : By (fun b => At sv b ∨ w.heap.size ≤ b) w1 v1 l) (k1 : Keep (At sv) w w1) {wx : World} (kx : Keep (At v1) w1 wx) (h2 : PutPost v1 l2 wx e w2) : PutPost sv l2 w e w2 := by
  obtain ⟨v', he, hb, hk⟩ := h2
  have hat : ∀ b, At v1 b → At sv b ∨ w.heap.size ≤ b := fun b hb => (h1.at hb).1
  refine ⟨v', he, hb.mono fun b hb _ => ?_, k1.step (kx.trans hk) hat⟩
  rcases hb with hb | hb
  · exact hat b hb
  · exact .inr (Nat.le_trans (Nat.le_trans k1.size kx.size) hb)

set_option maxHeartbeats 2000000 in
set_option maxRecDepth 100000 in
/-- num.Uint. -/
theorem uint_put {G : Nat → Prop} (x : Nat) (hx : x < 18446744073709551616) (sv : Value) (l : List UInt8) (w : World) (hown : By G w sv l) (hlim : l.length ≤ 70368744177664) :
    Calls Try.prog 67 #[sv, .int .u64 x] w (PutPost sv (l ++ Lib.uvarint x) w) := by
  obtain ⟨i5, E5⟩ := elem5
  have hlen := Lib.uvarint_length64 hx
  have hown0 : By (fun b => At sv b ∨ w.heap.size ≤ b) w sv l := hown.mono fun b _ ha => .inl ha
  clear hown
  go_enter Try.func67, Try.ntmps67
  go_wp2
  go_loopw [0, 1] (fun vb vx wr => ∃ (y : Nat) (pre : List UInt8), vx = .int .u64 y ∧ y ≤ x ∧ Lib.uvarint x = pre ++ Lib.uvarint y ∧ By (fun b => At sv b ∨ w.heap.size ≤ b) wr vb (l ++ pre) ∧ Keep (At sv) w wr)
    (fun _ vx _ => (intOf vx).toNat)
  case atStart => exact ⟨x, [], rfl, Nat.le_refl _, rfl, by simpa using hown0, Keep.refl _ _⟩
  case round =>
    obtain ⟨y, pre, rfl, hy, hsplit, hown1, hnx⟩ := hrel
    have hpl : pre.length + (Lib.uvarint y).length ≤ 10 := by
      have h2 := congrArg List.length hsplit
      rw [List.length_append] at h2
      omega
    have hyp := Lib.uvarint_pos y
    have hsz := hnx.size
    have HAT := Lib.hid (fun b hb => (hown1.at (b := b) hb).1)
    have HO := Lib.hid hown1
    have HK := Lib.hid hnx
    clear hown1 hnx hown0
    by_cases h128 : 128 ≤ y
    · have hor : bits .or .u8 ((y : Int) % 256) 128 = (y : Int) % 128 + 128 := by
        rw [Lib.u8_or128_any _ (by omega) (by omega)]
        omega
      have hc : ((y : Int) % 128 + 128) = (((y % 128 + 128).toUInt8.toNat : Nat) : Int) := by
        rw [Lib.toUInt8_toNat (by omega)]
        omega
      have HC := Lib.hid hc
      clear hc
      go_wp2_with (at_builtin; refine wpList_append_rk E5 _ rfl _ _ 32 rfl (G := fun b => At sv b ∨ w.heap.size ≤ b) rfl (HO.out.alloc _) ?c1 (.slice (some ⟨wr.heap.size, 0, none⟩) 1 1) 1 (cellsOf [(y % 128 + 128).toUInt8]) rfl (src_one wr _ _ ?c2) ?c3 ?c4 ?_)
      case c1 => intro b hb; simp at hb; right; omega
      case c2 => exact HC.out
      case c3 => simp; omega
      case c4 => simp; omega
      intro v' w1 hown' hbel
      have hk1 := HK.out.step (((Keep.refl _ wr).alloc _).trans hbel) HAT.out
      have HK1 := Lib.hid hk1
      have ho' : By (fun b => At sv b ∨ w.heap.size ≤ b) w1 v' (l ++ (pre ++ [(y % 128 + 128).toUInt8])) := by
        have := hown'.mono (G' := fun b => At sv b ∨ w.heap.size ≤ b) fun b hb _ => hb.1
        rw [← cellsOf_append, List.append_assoc] at this
        have h2 : Rk 1 (fun b => At sv b ∨ w.heap.size ≤ b) w1 v' (l.length + pre.length + 1) (cellsOf (l ++ (pre ++ [(y % 128 + 128).toUInt8]))) := by simpa using this
        exact By.of h2
      have HO' := Lib.hid ho'
      clear hown' hbel hk1 ho'
      go_wp2
      go_roundw
      case rel => exact ⟨y / 128, pre ++ [(y % 128 + 128).toUInt8], by go_num, by omega, by rw [hsplit, Lib.uvarint_big h128]; simp, HO'.out, HK1.out⟩
      case measure => simp [intOf]; omega
    · have hsm : Lib.uvarint y = [y.toUInt8] := Lib.uvarint_small (by omega)
      have hc : (y : Int) = ((y.toUInt8.toNat : Nat) : Int) := by
        rw [Lib.toUInt8_toNat (by omega)]
      have HC := Lib.hid hc
      clear hc
      have HS := Lib.hid hsm
      clear hsm
      go_wp2_with (at_builtin; refine wpList_append_rk E5 _ rfl _ _ 32 rfl (G := fun b => At sv b ∨ w.heap.size ≤ b) rfl (HO.out.alloc _) ?c1 (.slice (some ⟨wr.heap.size, 0, none⟩) 1 1) 1 (cellsOf [y.toUInt8]) rfl (src_one wr _ _ ?c2) ?c3 ?c4 ?_)
      case c1 => intro b hb; simp at hb; right; omega
      case c2 => exact HC.out
      case c3 => simp; omega
      case c4 => simp; omega
      intro v' w1 hown' hbel
      have HK1 := Lib.hid (HK.out.step (((Keep.refl _ wr).alloc _).trans hbel) HAT.out)
      have ho' : By (fun b => At sv b ∨ w.heap.size ≤ b) w1 v' (l ++ (pre ++ [y.toUInt8])) := by
        have := hown'.mono (G' := fun b => At sv b ∨ w.heap.size ≤ b) fun b hb _ => hb.1
        rw [← cellsOf_append, List.append_assoc] at this
        have h2 : Rk 1 (fun b => At sv b ∨ w.heap.size ≤ b) w1 v' (l.length + pre.length + 1) (cellsOf (l ++ (pre ++ [y.toUInt8]))) := by simpa using this
        exact By.of h2
      have HO' := Lib.hid ho'
      clear hown' hbel ho'
      go_wp2
      go_ret
      refine ⟨v', rfl, ?_, HK1.out⟩
      rw [hsplit, HS.out]
      exact HO'.out

set_option maxHeartbeats 1000000 in
/-- num.Int. -/
theorem int_put {G : Nat → Prop} (x : Int) (h0 : -9223372036854775808 ≤ x) (h1 : x ≤ 9223372036854775807) (sv : Value) (l : List UInt8) (w : World) (hown : By G w sv l) (hlim : l.length ≤ 70368744177664) :
    Calls Try.prog 44 #[sv, .int .i64 x] w (PutPost sv (l ++ Lib.uvarint (Lib.zigzag x)) w) := by
  have hU := uint_put (Lib.zigzag x) (Lib.zigzag_lt h0 h1) sv l w hown hlim
  by_cases hneg : x < 0
  · rw [← Lib.zigzag_neg h0 hneg] at hU
    have HU := Lib.hid hU
    clear hU hown
    go_enter Try.func44, Try.ntmps44
    go_wp2_with (go_at_call 67; refine HU.out.mono ?_; rintro e w1 ⟨v', rfl, ho, hb⟩)
    go_ret
    exact ⟨v', rfl, ho, hb⟩
  · rw [Lib.zigzag_nonneg (by omega)] at hU
    have HU := Lib.hid hU
    clear hU hown
    go_enter Try.func44, Try.ntmps44
    go_wp2_with (go_at_call 67; refine HU.out.mono ?_; rintro e w1 ⟨v', rfl, ho, hb⟩)
    go_ret
    exact ⟨v', rfl, ho, hb⟩

set_option maxHeartbeats 1000000 in
/-- num.Text. -/
theorem text_put {G : Nat → Prop} (s : ByteArray) (hs : s.size ≤ 35184372088832) (sv : Value) (l : List UInt8) (w : World) (hown : By G w sv l) (hlim : l.length ≤ 35184372088832) :
    Calls Try.prog 45 #[sv, .string s] w (PutPost sv (l ++ textB s.data.toList) w) := by
  obtain ⟨i5, E5⟩ := elem5
  have hU := uint_put s.size (by omega) sv l w hown (by omega)
  have hul := Lib.uvarint_length64 (x := s.size) (by omega)
  have hsl : s.data.toList.length = s.size := Array.length_toList
  have HU := Lib.hid hU
  have HL := Lib.hid hsl
  clear hU hsl hown
  go_enter Try.func45, Try.ntmps45
  go_wp2_with fail
  refine HU.out.mono ?_
  rintro e w1 ⟨v', rfl, ho, hb⟩
  have HAT := Lib.hid (fun b hb => (ho.at hb).1 : ∀ b, At v' b → At sv b ∨ w.heap.size ≤ b)
  have HO := Lib.hid ho
  have HB := Lib.hid hb
  have hsz := hb.size
  clear ho hb HU
  go_wp2_with (at_builtin; refine wpList_append_rk E5 _ rfl _ _ 9 rfl (G := fun b => At sv b ∨ w.heap.size ≤ b) rfl HO.out ?c1 (.string s) s.data.toList.length (cellsOf s.data.toList) rfl (src_string _ s) ?c3 ?c4 ?_)
  case c1 => intro b hb; right; omega
  case c3 => have := HL.out; simp only [List.length_append]; omega
  case c4 => have := HL.out; simp only [List.length_append]; omega
  intro v2 w2 ho2 hb2
  have HK1 := Lib.hid (HB.out.step hb2 HAT.out)
  have ho' : By (fun b => At sv b ∨ w.heap.size ≤ b) w2 v2 (l ++ textB s.data.toList) := by
    have := ho2.mono (G' := fun b => At sv b ∨ w.heap.size ≤ b) fun b hb _ => hb.1
    rw [← cellsOf_append, List.append_assoc] at this
    unfold textB
    rw [HL.out]
    exact By.of this
  have HO' := Lib.hid ho'
  clear ho2 hb2 ho'
  go_wp2
  go_ret
  exact ⟨v2, rfl, HO'.out, HK1.out⟩

end Go.Proofs.Ytgcldnojmdabpaa
