/-
  ENTRIES: as data, and as they lie; bytes; names (the texts of stage 4, joined).
-/
import Derived.Lib.Varint
import Derived.Lib.VarintBits
import Derived.Lib.VarintMem
import Derived.Lib.Zigzag
import Derived.Test.YtdjddlebjbngfaaGreatDoorNb
import Derived.WalkKit
import Derived.WalkSpells
import Derived.WalkLawsBesides
import Derived.Deep.Upon
import Derived.Lib.ConvBytes
import Derived.Lib.Hide
import Derived.Lib.Small
import Derived.Lib.Bytes
import Derived.Sort.Grow
import Derived.WalkSmall
import Derived.Lib.DecodeN
import Derived.Lib.Strings
import Derived.Deep.QuietTactic
import Derived.BigQuiet
import Derived.Lib.OthersKept
import Derived.Lib.Walk
import Derived.Outline
namespace Go.Proofs.YtdjddlebjbngfaaGreatDoor.E4.M
open Go

theorem eq_u8 {a b : UInt8} (h : a.toNat = b.toNat) : a = b := UInt8.toNat_inj.1 h

theorem put_of (l0 : List UInt8) (c : UInt8) (h0 : Cont l0) (hc : c.toNat < 128) (hz : c.toNat ≠ 0 ∨ l0 = []) : Lib.uvarint (low (l0 ++ [c])) = l0 ++ [c] := by
  induction l0 with
  | nil =>
    rw [List.nil_append, low_one c hc, Lib.uvarint_small hc]
    congr 1
    apply eq_u8
    rw [Lib.toUInt8_toNat (by omega)]
  | cons d r ih =>
    have hz' : c.toNat ≠ 0 := by simpa using hz
    have hd : 128 ≤ d.toNat := h0 d (by simp)
    have hd2 : d.toNat < 256 := d.toNat_lt
    have hr : Cont r := fun x hx => h0 x (by simp [hx])
    have ih' := ih hr (.inl hz')
    have hpos : 0 < low (r ++ [c]) := by
      rw [low_append, low_one c hc]
      have : 0 < 128 ^ r.length * c.toNat := Nat.mul_pos (Nat.pow_pos (by decide)) (by omega)
      omega
    have e : low (d :: r ++ [c]) = d.toNat % 128 + 128 * low (r ++ [c]) := rfl
    rw [e, Lib.uvarint_big (by omega)]
    have e1 : (d.toNat % 128 + 128 * low (r ++ [c])) / 128 = low (r ++ [c]) := by omega
    have e2 : (d.toNat % 128 + 128 * low (r ++ [c])) % 128 + 128 = d.toNat := by omega
    rw [e1, e2, ih', List.cons_append]
    congr 1
    apply eq_u8
    rw [Lib.toUInt8_toNat hd2]

theorem IsNum.put {l0 : List UInt8} {c : UInt8} (h : IsNum l0 c) : Lib.uvarint (low (l0 ++ [c])) = l0 ++ [c] := put_of l0 c h.cont h.last h.short
/-- A text begins with bytes that go on; behind them it ends, or one stands that does not. -/
theorem parts (l : List UInt8) : Cont l ∨ ∃ l0 c r, l = l0 ++ c :: r ∧ Cont l0 ∧ c.toNat < 128 := by
  induction l with
  | nil => exact .inl (fun _ h => by cases h)
  | cons d t ih =>
    by_cases hd : d.toNat < 128
    · exact .inr ⟨[], d, t, rfl, (fun _ h => by cases h), hd⟩
    · rcases ih with ih | ⟨l0, c, r, rfl, h0, hc⟩
      · refine .inl fun x hx => ?_
        rcases List.mem_cons.1 hx with rfl | hx
        · omega
        · exact ih x hx
      · refine .inr ⟨d :: l0, c, r, rfl, fun x hx => ?_, hc⟩
        rcases List.mem_cons.1 hx with rfl | hx
        · omega
        · exact h0 x hx

/-- No number stands at a text's beginning. -/
def NoNum (l : List UInt8) : Prop := ∀ l0 c r, IsNum l0 c → l ≠ l0 ++ c :: r

/-- Either a number stands there, just one; or none, and then we know why. -/
theorem num_or (l : List UInt8) : (∃ l0 c r, l = l0 ++ c :: r ∧ IsNum l0 c) ∨ NoNum l := by
  rcases parts l with h | ⟨l0, c, r, rfl, h0, hc⟩
  · refine .inr fun l0 c r hn e => ?_
    have := h c (by rw [e]; simp)
    have := hn.last
    omega
  · by_cases hn : IsNum l0 c
    · exact .inl ⟨l0, c, r, rfl, hn⟩
    · refine .inr fun m0 d t hm e => hn ?_
      obtain ⟨rfl, rfl, rfl⟩ := parts_unique h0 hc hm.cont hm.last e
      exact hm

end Go.Proofs.YtdjddlebjbngfaaGreatDoor.E4.M

namespace Go.Proofs.YtdjddlebjbngfaaGreatDoor.E4
open Go.RowKit Go

end Go.Proofs.YtdjddlebjbngfaaGreatDoor.E4

namespace Go.Proofs.YtdjddlebjbngfaaGreatDoor.E4
open Go.RowKit Go

end Go.Proofs.YtdjddlebjbngfaaGreatDoor.E4

namespace Go.Proofs.YtdjddlebjbngfaaGreatDoor.E4
open Go.RowKit Go

end Go.Proofs.YtdjddlebjbngfaaGreatDoor.E4

namespace Go.Proofs.YtdjddlebjbngfaaGreatDoor.E4
open Go.RowKit Go

end Go.Proofs.YtdjddlebjbngfaaGreatDoor.E4

namespace Go.Proofs.YtdjddlebjbngfaaGreatDoor.E4.MW
open Go

end Go.Proofs.YtdjddlebjbngfaaGreatDoor.E4.MW

namespace Go.Proofs.YtdjddlebjbngfaaGreatDoor.E4
open Go.RowKit Go

end Go.Proofs.YtdjddlebjbngfaaGreatDoor.E4

namespace Go.Proofs.YtdjddlebjbngfaaGreatDoor.E4
open Go.RowKit Go

end Go.Proofs.YtdjddlebjbngfaaGreatDoor.E4
