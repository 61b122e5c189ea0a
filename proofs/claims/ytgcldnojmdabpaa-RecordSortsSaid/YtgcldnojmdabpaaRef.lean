/-
  THE DOCUMENT'S OWN ANSWERS (package magpieref01): Uint, Int, Text, Bool.
-/
import Derived.Test.YtgcldnojmdabpaaWays
import Derived.Deep.RegionWith
namespace Go.Proofs.Ytgcldnojmdabpaa
open Go.RowKit Go

/-- A string of one byte, made by a slice. -/
theorem one_string (g : Nat) (c : Int) (w' : World) (hcell : w'.cell? ⟨g, 0, none⟩ = some (.int .u8 c)) :
    (convert 32 9 (.slice (some ⟨g, 0, none⟩) 1 1)).run Try.prog w' = .ok (.string ⟨#[c.toNat.toUInt8]⟩) w' := by
  rw [run_convert_bytes_string (P := Try.prog) w' 32 9 5 _ _ _ Try.underlying32 Try.underlying5 Try.underlying9, run_bytesToString (P := Try.prog) w' ⟨g, 0, none⟩ 1 1 [c]]
  · simp only [List.foldl_cons, List.foldl_nil]
    rfl
  · have := run_firstCells_some (P := Try.prog) w' 1 1 ⟨g, 0, none⟩ 1 1 [Value.int .u8 c] (by simp) (fun j u hu => by
      match j, hu with
      | 0, hu => simp at hu; subst hu; simpa [Addr.add] using hcell)
    simpa [Builtin.firstCells] using this

/-- All old cells read as before. -/
theorem bcell {W w1 : World} (hb : Below W.heap.size W w1) : ∀ b o, b < W.heap.size → w1.cell? ⟨b, o, none⟩ = W.cell? ⟨b, o, none⟩ :=
  fun b o h => hb.cell (p := ⟨b, o, none⟩) h

set_option maxHeartbeats 1000000 in
set_option maxRecDepth 100000 in
theorem ref_uint : ∀ (x : Nat) (_ : x < 18446744073709551616) (w : World),
    Calls Try.prog 42 #[.int .u64 x] w fun e w' => e = .returned (.string ⟨(Lib.uvarint x).toArray⟩) ∧ Below w.heap.size w w' := by
  intro x
  induction x using Nat.strongRecOn with
  | _ x ih =>
    intro hx w
    by_cases h : x < 128
    · have hs := Lib.uvarint_small h
      have hcv := one_string w.heap.size x (w.alloc (.cells #[.int .u8 x] 5)) (by simp)
      have HS := Lib.hid hs
      clear hs
      go_enter Try.func42, Try.ntmps42
      go_wp2_with fail
      go_ret
      exact ⟨by rw [HS.out]; rfl, (Below.refl _ _).alloc (Nat.le_refl _) _⟩
    · have hb := Lib.uvarint_big (x := x) (by omega)
      have hI := fun w => ih (x / 128) (by omega) (by omega) w
      have e : ((x / 128 : Nat) : Int) = (x : Int) / 128 := by omega
      rw [e] at hI
      obtain ⟨p, hp, hps⟩ : ∃ p : ByteArray, p = ⟨(Lib.uvarint (x / 128)).toArray⟩ ∧ p.size ≤ 10 := ⟨_, rfl, by rw [Lib.size_eq]; exact Lib.uvarint_length64 (by omega)⟩
      rw [← hp] at hI
      have hcv := fun (g : Nat) => one_string g ((x : Int) % 128 + 128)
      have hw1 : IntKind.u8.wrap ((x : Int).tmod 128) = (x : Int) % 128 := by rw [Int.tmod_eq_emod_of_nonneg (by omega), IntKind.wrap_u8']; omega
      have hw2 : IntKind.u8.wrap ((x : Int) % 128 + 128) = (x : Int) % 128 + 128 := by rw [IntKind.wrap_u8']; omega
      have hw3 : IntKind.u64.wrap ((x : Int) / 128) = (x : Int) / 128 := by rw [IntKind.wrap_u64]; omega
      have HB := Lib.hid hb
      have HI := Lib.hid hI
      have HP := Lib.hid hp
      clear hb ih hI hp e
      go_enter Try.func42, Try.ntmps42
      go_wp2_with fail
      go_region_with (go_at_call 42; refine (HI.out _).mono ?_; rintro e w' ⟨rfl, hb⟩; have hc := bcell hb)
      all_goals
        go_wp2
        go_ret
        refine ⟨?_, ?_⟩
        · rw [HB.out, HP.out]
          refine congrArg (fun b => Ending.returned (Value.string b)) ?_
          have e : UInt8.ofNat (x % 128) + 128 = (x % 128 + 128).toUInt8 := (UInt8.ofNat_add _ _).symm
          show ByteArray.mk [UInt8.ofNat (x % 128) + 128].toArray ++ ByteArray.mk (Lib.uvarint (x / 128)).toArray = _
          rw [ByteArray.mk_append_mk, e]
          rfl
        · first
            | exact (((Below.refl _ _).alloc (Nat.le_refl _) _).drew).trans (hb.mono (by simp))
            | exact ((Below.refl _ w).drew.trans hb).alloc hb.size _

set_option maxHeartbeats 400000 in
set_option maxRecDepth 100000 in
theorem ref_int (x : Int) (h0 : -9223372036854775808 ≤ x) (h1 : x ≤ 9223372036854775807) (w : World) :
    Calls Try.prog 46 #[.int .i64 x] w fun e w' => e = .returned (.string ⟨(Lib.uvarint (Lib.zigzag x)).toArray⟩) ∧ Below w.heap.size w w' := by
  have hz := Lib.zigzag_lt h0 h1
  by_cases hneg : x < 0
  · have e : ((Lib.zigzag x : Nat) : Int) = 2 * (-(x + 1)) + 1 := by unfold Lib.zigzag; rw [if_neg (by omega)]; omega
    have hU := fun w => ref_uint (Lib.zigzag x) hz w
    rw [e] at hU
    have HU := Lib.hid hU
    clear hU e
    go_enter Try.func46, Try.ntmps46
    go_wp2_with fail
    refine (HU.out _).mono ?_
    rintro e w' ⟨rfl, hb⟩
    go_wp2
    go_ret
    exact ⟨rfl, hb⟩
  · have e : ((Lib.zigzag x : Nat) : Int) = 2 * x := by unfold Lib.zigzag; rw [if_pos (by omega)]; omega
    have hU := fun w => ref_uint (Lib.zigzag x) hz w
    rw [e] at hU
    have HU := Lib.hid hU
    clear hU e
    go_enter Try.func46, Try.ntmps46
    go_wp2_with fail
    refine (HU.out _).mono ?_
    rintro e w' ⟨rfl, hb⟩
    go_wp2
    go_ret
    exact ⟨rfl, hb⟩

set_option maxHeartbeats 400000 in
theorem ref_text (s : ByteArray) (hs : s.size ≤ 70368744177664) (w : World) :
    Calls Try.prog 43 #[.string s] w fun e w' => e = .returned (.string ⟨(textB s.data.toList).toArray⟩) ∧ Below w.heap.size w w' := by
  have hU := fun w => ref_uint s.size (by omega) w
  obtain ⟨p, hp, hps⟩ : ∃ p : ByteArray, p = ⟨(Lib.uvarint s.size).toArray⟩ ∧ p.size ≤ 10 := ⟨_, rfl, by rw [Lib.size_eq]; exact Lib.uvarint_length64 (by omega)⟩
  rw [← hp] at hU
  have HU := Lib.hid hU
  have HP := Lib.hid hp
  clear hU hp
  go_enter Try.func43, Try.ntmps43
  go_wp2_with (go_at_call 42; refine (HU.out _).mono ?_; rintro e w' ⟨rfl, hb⟩)
  go_ret
  refine ⟨?_, hb⟩
  refine congrArg (fun b => Ending.returned (Value.string b)) ?_
  rw [HP.out]
  show ByteArray.mk (Lib.uvarint s.size).toArray ++ s = _
  have e : s = ByteArray.mk s.data.toList.toArray := (Lib.mk_data s).symm
  unfold textB
  rw [← Lib.size_eq]
  conv => lhs; rw [e]
  rw [ByteArray.mk_append_mk]

end Go.Proofs.Ytgcldnojmdabpaa
