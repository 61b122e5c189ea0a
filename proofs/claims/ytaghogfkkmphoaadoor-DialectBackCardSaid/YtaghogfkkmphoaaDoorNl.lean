/-
  THE DOCUMENT'S OWN WRITING, laid (the texts of stage 4, joined).
-/
import Derived.Test.YtaghogfkkmphoaaDoorNb
import Derived.Test.YtaghogfkkmphoaaDoorEt
import Derived.Shelf.SlSortCmp.QuietGrown
import Derived.Test.YtaghogfkkmphoaaDoorNr
import Derived.Laws.Concat
namespace Go.Proofs.YtaghogfkkmphoaaDoor.E4
open Go.RowKit Go

/-- A callee's contract, met in a world of the class. -/
theorem grown_of_lay {f : Nat} {args : Array Value} {w : World} {n : Nat} {os : Array Obj} {v : Value} (h : Calls Tryd.prog f args (Sort.grow (w.drewN n) os) fun e w' => e = .returned v ∧ Lay (Sort.grow (w.drewN n) os) w') :
    Calls Tryd.prog f args (Sort.grow (w.drewN n) os) fun e w'' => e = .returned v ∧ ∃ p : GrownBy, w'' = Sort.grow (w.drewN p.n) p.os :=
  Calls.grown_of (h.mono fun _ _ ⟨he, hl⟩ => ⟨he, hl.grown⟩)

end Go.Proofs.YtaghogfkkmphoaaDoor.E4

namespace Go.Proofs.YtaghogfkkmphoaaDoor.E4
open Go.RowKit Go

set_option maxHeartbeats 1000000 in
set_option maxRecDepth 100000 in
theorem refL_uint : ∀ (x : Nat) (_ : x < 18446744073709551616) (w : World),
    Calls Tryd.prog 41 #[.int .u64 x] w fun e w' => e = .returned (.string ⟨(Lib.uvarint x).toArray⟩) ∧ Lay w w' := by
  intro x
  induction x using Nat.strongRecOn with
  | _ x ih =>
    intro hx w
    by_cases h : x < 128
    · have hs := Lib.uvarint_small h
      have hcv := one_string w.heap.size x (w.alloc (.cells #[.int .u8 x] 5)) (by simp)
      have HS := Lib.hid hs
      clear hs
      go_enter Tryd.func41, Tryd.ntmps41
      go_wp2_with fail
      go_ret
      exact ⟨by rw [HS.out]; rfl, (Keep.refl _ _).alloc _⟩
    · have hb := Lib.uvarint_big (x := x) (by omega)
      have hI := fun w => ih (x / 128) (by omega) (by omega) w
      have e : ((x / 128 : Nat) : Int) = (x : Int) / 128 := by omega
      rw [e] at hI
      obtain ⟨p, hp, hps⟩ : ∃ p : ByteArray, p = ⟨(Lib.uvarint (x / 128)).toArray⟩ ∧ p.size ≤ 10 := ⟨_, rfl, by rw [Lib.size_eq]; exact Lib.uvarint_length64 (by omega)⟩
      rw [← hp] at hI
      have hcv := fun (g : Nat) => one_string g ((x : Int) % 128 + 128)
      have hw1 : IntKind.u8.wrap ((x : Int).tmod 128) = (x : Int) % 128 := by rw [Int.tmod_eq_emod_of_nonneg (by omega), IntKind.wrap_u8']; omega
      have hw2 : IntKind.u8.wrap ((x : Int) % 128 + 128) = (x : Int) % 128 + 128 := by rw [IntKind.wrap_u8']; omega
      have hw3 : IntKind.u64.wrap ((x : Int) / 128) = (x : Int) / 128 := by rw [IntKind.wrap_u64]; omega
      have HB := Lib.hid hb
      have HI := Lib.hid hI
      have HP := Lib.hid hp
      clear hb ih hI hp e
      go_enter Tryd.func41, Tryd.ntmps41
      go_wp2_with fail
      go_region_with (go_at_call 41; refine (HI.out _).mono ?_; rintro e w' ⟨rfl, hb⟩; have hc := bcell (Lay.below hb))
      all_goals
        go_wp2
        go_ret
        refine ⟨?_, ?_⟩
        · rw [HB.out, HP.out]
          refine congrArg (fun b => Ending.returned (Value.string b)) ?_
          have e : UInt8.ofNat (x % 128) + 128 = (x % 128 + 128).toUInt8 := (UInt8.ofNat_add _ _).symm
          show ByteArray.mk [UInt8.ofNat (x % 128) + 128].toArray ++ ByteArray.mk (Lib.uvarint (x / 128)).toArray = _
          rw [ByteArray.mk_append_mk, e]
          rfl
        · first
            | exact (((Keep.refl _ _).drew).alloc _).trans hb
            | exact (((Keep.refl _ _).alloc _).drew).trans hb
            | exact ((Keep.refl _ w).drew.trans hb).alloc _

set_option maxHeartbeats 400000 in
set_option maxRecDepth 100000 in
theorem refL_int (x : Int) (h0 : -9223372036854775808 ≤ x) (h1 : x ≤ 9223372036854775807) (w : World) :
    Calls Tryd.prog 42 #[.int .i64 x] w fun e w' => e = .returned (.string ⟨(Lib.uvarint (Lib.zigzag x)).toArray⟩) ∧ Lay w w' := by
  have hz := Lib.zigzag_lt h0 h1
  by_cases hneg : x < 0
  · have e : ((Lib.zigzag x : Nat) : Int) = 2 * (-(x + 1)) + 1 := by unfold Lib.zigzag; rw [if_neg (by omega)]; omega
    have hU := fun w => refL_uint (Lib.zigzag x) hz w
    rw [e] at hU
    have HU := Lib.hid hU
    clear hU e
    go_enter Tryd.func42, Tryd.ntmps42
    go_wp2_with fail
    refine (HU.out _).mono ?_
    rintro e w' ⟨rfl, hb⟩
    go_wp2
    go_ret
    exact ⟨rfl, hb⟩
  · have e : ((Lib.zigzag x : Nat) : Int) = 2 * x := by unfold Lib.zigzag; rw [if_pos (by omega)]; omega
    have hU := fun w => refL_uint (Lib.zigzag x) hz w
    rw [e] at hU
    have HU := Lib.hid hU
    clear hU e
    go_enter Tryd.func42, Tryd.ntmps42
    go_wp2_with fail
    refine (HU.out _).mono ?_
    rintro e w' ⟨rfl, hb⟩
    go_wp2
    go_ret
    exact ⟨rfl, hb⟩

set_option maxHeartbeats 400000 in
theorem refL_text (s : ByteArray) (hs : s.size ≤ 70368744177664) (w : World) :
    Calls Tryd.prog 43 #[.string s] w fun e w' => e = .returned (.string ⟨(textB s.data.toList).toArray⟩) ∧ Lay w w' := by
  have hU := fun w => refL_uint s.size (by omega) w
  obtain ⟨p, hp, hps⟩ : ∃ p : ByteArray, p = ⟨(Lib.uvarint s.size).toArray⟩ ∧ p.size ≤ 10 := ⟨_, rfl, by rw [Lib.size_eq]; exact Lib.uvarint_length64 (by omega)⟩
  rw [← hp] at hU
  have HU := Lib.hid hU
  have HP := Lib.hid hp
  clear hU hp
  go_enter Tryd.func43, Tryd.ntmps43
  go_wp2_with (go_at_call 41; refine (HU.out _).mono ?_; rintro e w' ⟨rfl, hb⟩)
  go_ret
  refine ⟨?_, hb⟩
  refine congrArg (fun b => Ending.returned (Value.string b)) ?_
  rw [HP.out]
  show ByteArray.mk (Lib.uvarint s.size).toArray ++ s = _
  have e : s = ByteArray.mk s.data.toList.toArray := (Lib.mk_data s).symm
  unfold textB
  rw [← Lib.size_eq]
  conv => lhs; rw [e]
  rw [ByteArray.mk_append_mk]

end Go.Proofs.YtaghogfkkmphoaaDoor.E4

namespace Go.Proofs.YtaghogfkkmphoaaDoor.E4
open Go.RowKit Go

theorem grown_layR {f : Nat} {args : Array Value} {v : Value} (hc : ∀ W, Calls Tryd.prog f args W fun e w' => e = .returned v ∧ Lay W w') (w : World) (n : Nat) (os : Array Obj) :
    Calls Tryd.prog f args (Sort.grow (w.drewN n) os) fun e w'' => e = .returned v ∧ ∃ p : GrownBy, w'' = Sort.grow (w.drewN p.n) p.os :=
  grown_of_lay (hc _)

theorem mk_size (l : List UInt8) : (⟨l.toArray⟩ : ByteArray).size = l.length := by rw [Lib.size_eq]

/-- Strings add up as their bytes do. -/
theorem add_run (a b : List UInt8) (h : a.length + b.length ≤ 9223372036854775807) (w : World) : (Op.stringOp .add ⟨a.toArray⟩ ⟨b.toArray⟩).run Tryd.prog w = .ok (.string ⟨(a ++ b).toArray⟩) w := by
  rw [run_string_add_sum w _ _ (by rw [mk_size, mk_size]; exact h), ByteArray.mk_append_mk]

end Go.Proofs.YtaghogfkkmphoaaDoor.E4
