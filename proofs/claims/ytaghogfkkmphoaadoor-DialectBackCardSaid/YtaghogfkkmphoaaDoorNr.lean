/-
  THE DOCUMENT'S OWN WRITING AND READING (the texts of stage 4, joined).
-/
import Derived.Test.YtaghogfkkmphoaaDoorNa
import Derived.Deep.RegionWith
import Derived.Test.YtaghogfkkmphoaaDoorNb
import Derived.Deep.QuietTactic
import Derived.BigQuiet
import Derived.Deep.DeepCutAuto
namespace Go.Proofs.YtaghogfkkmphoaaDoor.E4
open Go.RowKit Go

/-- A string of one byte, made by a slice. -/
theorem one_string (g : Nat) (c : Int) (w' : World) (hcell : w'.cell? ⟨g, 0, none⟩ = some (.int .u8 c)) :
    (convert 37 9 (.slice (some ⟨g, 0, none⟩) 1 1)).run Tryd.prog w' = .ok (.string ⟨#[c.toNat.toUInt8]⟩) w' := by
  rw [run_convert_bytes_string (P := Tryd.prog) w' 37 9 5 _ _ _ Tryd.underlying37 Tryd.underlying5 Tryd.underlying9, run_bytesToString (P := Tryd.prog) w' ⟨g, 0, none⟩ 1 1 [c]]
  · simp only [List.foldl_cons, List.foldl_nil]
    rfl
  · have := run_firstCells_some (P := Tryd.prog) w' 1 1 ⟨g, 0, none⟩ 1 1 [Value.int .u8 c] (by simp) (fun j u hu => by
      match j, hu with
      | 0, hu => simp at hu; subst hu; simpa [Addr.add] using hcell)
    simpa [Builtin.firstCells] using this

/-- All old cells read as before. -/
theorem bcell {W w1 : World} (hb : Below W.heap.size W w1) : ∀ b o, b < W.heap.size → w1.cell? ⟨b, o, none⟩ = W.cell? ⟨b, o, none⟩ :=
  fun b o h => hb.cell (p := ⟨b, o, none⟩) h

set_option maxHeartbeats 1000000 in
set_option maxRecDepth 100000 in
theorem ref_uint : ∀ (x : Nat) (_ : x < 18446744073709551616) (w : World),
    Calls Tryd.prog 41 #[.int .u64 x] w fun e w' => e = .returned (.string ⟨(Lib.uvarint x).toArray⟩) ∧ Below w.heap.size w w' := by
  intro x
  induction x using Nat.strongRecOn with
  | _ x ih =>
    intro hx w
    by_cases h : x < 128
    · have hs := Lib.uvarint_small h
      have hcv := one_string w.heap.size x (w.alloc (.cells #[.int .u8 x] 5)) (by simp)
      have HS := Lib.hid hs
      clear hs
      go_enter Tryd.func41, Tryd.ntmps41
      go_wp2_with fail
      go_ret
      exact ⟨by rw [HS.out]; rfl, (Below.refl _ _).alloc (Nat.le_refl _) _⟩
    · have hb := Lib.uvarint_big (x := x) (by omega)
      have hI := fun w => ih (x / 128) (by omega) (by omega) w
      have e : ((x / 128 : Nat) : Int) = (x : Int) / 128 := by omega
      rw [e] at hI
      obtain ⟨p, hp, hps⟩ : ∃ p : ByteArray, p = ⟨(Lib.uvarint (x / 128)).toArray⟩ ∧ p.size ≤ 10 := ⟨_, rfl, by rw [Lib.size_eq]; exact Lib.uvarint_length64 (by omega)⟩
      rw [← hp] at hI
      have hcv := fun (g : Nat) => one_string g ((x : Int) % 128 + 128)
      have hw1 : IntKind.u8.wrap ((x : Int).tmod 128) = (x : Int) % 128 := by rw [Int.tmod_eq_emod_of_nonneg (by omega), IntKind.wrap_u8']; omega
      have hw2 : IntKind.u8.wrap ((x : Int) % 128 + 128) = (x : Int) % 128 + 128 := by rw [IntKind.wrap_u8']; omega
      have hw3 : IntKind.u64.wrap ((x : Int) / 128) = (x : Int) / 128 := by rw [IntKind.wrap_u64]; omega
      have HB := Lib.hid hb
      have HI := Lib.hid hI
      have HP := Lib.hid hp
      clear hb ih hI hp e
      go_enter Tryd.func41, Tryd.ntmps41
      go_wp2_with fail
      go_region_with (go_at_call 41; refine (HI.out _).mono ?_; rintro e w' ⟨rfl, hb⟩; have hc := bcell hb)
      all_goals
        go_wp2
        go_ret
        refine ⟨?_, ?_⟩
        · rw [HB.out, HP.out]
          refine congrArg (fun b => Ending.returned (Value.string b)) ?_
          have e : UInt8.ofNat (x % 128) + 128 = (x % 128 + 128).toUInt8 := (UInt8.ofNat_add _ _).symm
          show ByteArray.mk [UInt8.ofNat (x % 128) + 128].toArray ++ ByteArray.mk (Lib.uvarint (x / 128)).toArray = _
          rw [ByteArray.mk_append_mk, e]
          rfl
        · first
            | exact (((Below.refl _ _).alloc (Nat.le_refl _) _).drew).trans (hb.mono (by simp))
            | exact ((Below.refl _ w).drew.trans hb).alloc hb.size _

set_option maxHeartbeats 400000 in
set_option maxRecDepth 100000 in
theorem ref_int (x : Int) (h0 : -9223372036854775808 ≤ x) (h1 : x ≤ 9223372036854775807) (w : World) :
    Calls Tryd.prog 42 #[.int .i64 x] w fun e w' => e = .returned (.string ⟨(Lib.uvarint (Lib.zigzag x)).toArray⟩) ∧ Below w.heap.size w w' := by
  have hz := Lib.zigzag_lt h0 h1
  by_cases hneg : x < 0
  · have e : ((Lib.zigzag x : Nat) : Int) = 2 * (-(x + 1)) + 1 := by unfold Lib.zigzag; rw [if_neg (by omega)]; omega
    have hU := fun w => ref_uint (Lib.zigzag x) hz w
    rw [e] at hU
    have HU := Lib.hid hU
    clear hU e
    go_enter Tryd.func42, Tryd.ntmps42
    go_wp2_with fail
    refine (HU.out _).mono ?_
    rintro e w' ⟨rfl, hb⟩
    go_wp2
    go_ret
    exact ⟨rfl, hb⟩
  · have e : ((Lib.zigzag x : Nat) : Int) = 2 * x := by unfold Lib.zigzag; rw [if_pos (by omega)]; omega
    have hU := fun w => ref_uint (Lib.zigzag x) hz w
    rw [e] at hU
    have HU := Lib.hid hU
    clear hU e
    go_enter Tryd.func42, Tryd.ntmps42
    go_wp2_with fail
    refine (HU.out _).mono ?_
    rintro e w' ⟨rfl, hb⟩
    go_wp2
    go_ret
    exact ⟨rfl, hb⟩

set_option maxHeartbeats 400000 in
theorem ref_text (s : ByteArray) (hs : s.size ≤ 70368744177664) (w : World) :
    Calls Tryd.prog 43 #[.string s] w fun e w' => e = .returned (.string ⟨(textB s.data.toList).toArray⟩) ∧ Below w.heap.size w w' := by
  have hU := fun w => ref_uint s.size (by omega) w
  obtain ⟨p, hp, hps⟩ : ∃ p : ByteArray, p = ⟨(Lib.uvarint s.size).toArray⟩ ∧ p.size ≤ 10 := ⟨_, rfl, by rw [Lib.size_eq]; exact Lib.uvarint_length64 (by omega)⟩
  rw [← hp] at hU
  have HU := Lib.hid hU
  have HP := Lib.hid hp
  clear hU hp
  go_enter Tryd.func43, Tryd.ntmps43
  go_wp2_with (go_at_call 41; refine (HU.out _).mono ?_; rintro e w' ⟨rfl, hb⟩)
  go_ret
  refine ⟨?_, hb⟩
  refine congrArg (fun b => Ending.returned (Value.string b)) ?_
  rw [HP.out]
  show ByteArray.mk (Lib.uvarint s.size).toArray ++ s = _
  have e : s = ByteArray.mk s.data.toList.toArray := (Lib.mk_data s).symm
  unfold textB
  rw [← Lib.size_eq]
  conv => lhs; rw [e]
  rw [ByteArray.mk_append_mk]

end Go.Proofs.YtaghogfkkmphoaaDoor.E4

namespace Go.Proofs.YtaghogfkkmphoaaDoor.E4
open Go.RowKit Go

/-- Block g is the document's reader of S, at 'at'. -/
structure Rf (w : World) (g : Nat) (S : ByteArray) (pos : Nat) (bad : Bool) : Prop where
  str : w.cell? ⟨g, 0, none⟩ = some (.string S)
  posn : w.cell? ⟨g, 1, none⟩ = some (.int .i64 pos)
  isBad : w.cell? ⟨g, 2, none⟩ = some (.bool bad)
  f0 : w.frozen? ⟨g, 0, none⟩ = false
  f1 : w.frozen? ⟨g, 1, none⟩ = false
  f2 : w.frozen? ⟨g, 2, none⟩ = false

theorem Rf.carry {w w' : World} {g : Nat} {S : ByteArray} {pos : Nat} {bad : Bool} (h : Rf w g S pos bad) (hb : w'.heap[g]? = w.heap[g]?) : Rf w' g S pos bad := by
  have hc : ∀ o, w'.cell? ⟨g, o, none⟩ = w.cell? ⟨g, o, none⟩ := fun o => World.cell?_of_block (a := ⟨g, o, none⟩) hb
  have hf : ∀ o, w'.frozen? ⟨g, o, none⟩ = w.frozen? ⟨g, o, none⟩ := fun o => World.frozen?_of_block (a := ⟨g, o, none⟩) hb
  exact ⟨by rw [hc]; exact h.str, by rw [hc]; exact h.posn, by rw [hc]; exact h.isBad, by rw [hf]; exact h.f0, by rw [hf]; exact h.f1, by rw [hf]; exact h.f2⟩
theorem Rf.lt {w : World} {g : Nat} {S : ByteArray} {pos : Nat} {bad : Bool} (h : Rf w g S pos bad) : g < w.heap.size := World.block_lt_of_cell? w ⟨g, 0, none⟩ h.str
theorem Rf.chg {w w' : World} {g k : Nat} {S : ByteArray} {pos : Nat} {bad : Bool} (h : Rf w g S pos bad) (hk : Chg k w w') (hne : g ≠ k) : Rf w' g S pos bad := h.carry (hk.block g h.lt hne)
theorem Rf.below {w w' : World} {g B : Nat} {S : ByteArray} {pos : Nat} {bad : Bool} (h : Rf w g S pos bad) (hk : Below B w w') (hne : g < B) : Rf w' g S pos bad := h.carry (hk.block g hne)
theorem Rd.chg {w w' : World} {g k : Nat} {l : List UInt8} {bad : Bool} (h : Rd w g l bad) (hk : Chg k w w') (hne : g ≠ k) : Rd w' g l bad := h.carry (hk.block g h.lt hne)
theorem Below.chg {g : Nat} {w w' : World} (h : Below w.heap.size w w') : Chg g w w' := ⟨h.os, h.tape, h.output, h.size, fun k hk _ => h.block k hk⟩
theorem Chg.drewN {g : Nat} {a w : World} (h : Chg g a w) (n : Nat) : Chg g a (w.drewN n) := ⟨h.os, h.tape, h.output, h.size, h.block⟩
theorem Rf.drewN {w : World} {g : Nat} {S : ByteArray} {pos : Nat} {bad : Bool} (h : Rf w g S pos bad) (n : Nat) : Rf (w.drewN n) g S pos bad := h.carry rfl

theorem Chg.setCell (g o : Nat) (w : World) (v : Value) : Chg g w (w.setCell ⟨g, o, none⟩ v) := (Only.setCell g o w v).chg
theorem Rf.setBad {w : World} {g : Nat} {S : ByteArray} {pos : Nat} {bad : Bool} (h : Rf w g S pos bad) (b : Bool) : Rf (w.setCell ⟨g, 2, none⟩ (.bool b)) g S pos b := by
  obtain ⟨h0, h1, h2, h3, h4, h5⟩ := h
  exact ⟨by go_simp, by go_simp, by go_simp, by simpa using h3, by simpa using h4, by simpa using h5⟩
theorem Rf.setPos {w : World} {g : Nat} {S : ByteArray} {pos : Nat} {bad : Bool} (h : Rf w g S pos bad) (p : Nat) : Rf (w.setCell ⟨g, 1, none⟩ (.int .i64 p)) g S p bad := by
  obtain ⟨h0, h1, h2, h3, h4, h5⟩ := h
  exact ⟨by go_simp, by go_simp, by go_simp, by simpa using h3, by simpa using h4, by simpa using h5⟩

set_option maxHeartbeats 2000000 in
set_option maxRecDepth 100000 in
theorem rf_loop (g : Nat) (S : ByteArray) (pos t : Nat) (most : Nat) (hS : S.size ≤ 2000) (ht : pos + t ≤ S.size) (w : World) (h : Rf w g S pos false)
    (hc : ∀ j (h : j < t), 128 ≤ (S[pos + j]'(by omega)).toNat) (hend : pos + t = S.size ∨ 10 ≤ t) :
    Calls Tryd.prog 47 #[.pointer (some ⟨g, 0, none⟩), .int .u64 most] w fun e w' => e = .returned (.int .u64 0) ∧ (∃ pos', Rf w' g S pos' true) ∧ Chg g w w' := by
  have HC := Lib.hid hc
  have HE := Lib.hid hend
  have hb := h.isBad
  have H := Lib.hid h
  clear hc hend h
  go_enter Tryd.func47, Tryd.ntmps47
  go_wp2_with fail
  go_loopw [5, 6, 7] (fun vk _ _ wr => ∃ k : Nat, vk = .int .i64 k ∧ 1 ≤ k ∧ k ≤ 11 ∧ k ≤ t + 1 ∧ Rf wr g S pos false ∧ Chg g w wr) (fun vk _ _ _ => 12 - (intOf vk).toNat)
  case atStart => exact ⟨1, rfl, by omega, by omega, by omega, H.out, Chg.refl _ _⟩
  case round =>
    obtain ⟨k, rfl, hk1, hk11, hkt, hrf, hch⟩ := hrel
    have hs0 := hrf.str
    have hs1 := hrf.posn
    by_cases hk10 : k ≤ 10
    · by_cases hkS : pos + k ≤ S.size
      · have hkt2 : k ≤ t := by rcases HE.out with h | h <;> omega
        have e1 : decide ((k : Int) ≤ 10) = true := by simp; omega
        have e2 : IntKind.i64.wrap ((pos : Int) + k) = (pos : Int) + k := by rw [IntKind.wrap_i64]; omega
        obtain ⟨i, hi⟩ : ∃ i, i = pos + (k - 1) := ⟨_, rfl⟩
        have e3 : IntKind.i64.wrap ((pos : Int) + k - 1) = (i : Int) := by rw [IntKind.wrap_i64]; omega
        have hlt : i < S.size := by omega
        have hlt2 : (i : Int) < (S.size : Int) := by omega
        have HIX := Lib.hid hi
        clear hi
        go_wp2_with fail
        go_quiet (fail)
        go_wp2_with fail
        go_quiet (fail)
        go_wp2_with fail
        · go_roundw
          case rel => exact ⟨k + 1, by go_num, by omega, by omega, by omega, hrf.drewN _, hch.drewN _⟩
          case measure => simp [intOf]; omega
        · exfalso
          have hbyte : ((S[i].toNat : Nat) : Int) < 128 := by assumption
          have hc := HC.out (k - 1) (by omega)
          have hi := HIX.out
          subst hi
          omega
      · have e1 : decide ((k : Int) ≤ 10) = true := by simp; omega
        have e2 : IntKind.i64.wrap ((pos : Int) + k) = (pos : Int) + k := by rw [IntKind.wrap_i64]; omega
        have hf := hrf.f2
        have hb2 := hrf.isBad
        go_wp2_with fail
        go_quiet (fail)
        go_wp2_with fail
        go_ret
        exact ⟨rfl, ⟨pos, (hrf.drewN _).setBad true⟩, (hch.drewN _).trans (Chg.setCell g 2 _ _)⟩
    · have e1 : decide ((k : Int) ≤ 10) = false := by simp; omega
      have hf := hrf.f2
      have hb2 := hrf.isBad
      go_wp2_with fail
      go_quiet (fail)
      go_wp2_with fail
      go_ret
      exact ⟨rfl, ⟨pos, (hrf.drewN _).setBad true⟩, (hch.drewN _).trans (Chg.setCell g 2 _ _)⟩

end Go.Proofs.YtaghogfkkmphoaaDoor.E4

namespace Go.Proofs.YtaghogfkkmphoaaDoor.E4
open Go.RowKit Go

theorem take_one_more {α : Type} (l0 : List α) (c : α) (r : List α) : (l0 ++ c :: r).take (l0.length + 1) = l0 ++ [c] := by
  have e : l0 ++ c :: r = (l0 ++ [c]) ++ r := by simp
  rw [e]
  exact List.take_left' (by simp)

theorem low_drop (l : List UInt8) (i : Nat) (h : i < l.length) : M.low (l.drop i) = l[i].toNat % 128 + 128 * M.low (l.drop (i + 1)) := by
  rw [List.drop_eq_getElem_cons h]; rfl

/-- 64 bits of a number. -/
def w64 (n : Nat) : Nat := n % 18446744073709551616
theorem w64_lt (n : Nat) : w64 n < 18446744073709551616 := Nat.mod_lt _ (by decide)

theorem index_run (S : ByteArray) (ix bv : Nat) (hx : ix < S.size) (hb : S[ix].toNat = bv) (w : World) : (Instr.index 9 (.string S) (.int .i64 (ix : Int))).run Tryd.prog w = .ok (.int .u8 (bv : Int)) w := by
  rw [run_index_string (P := Tryd.prog) (w := w) 9 S .i64 ix Tryd.underlying9]
  simp [hx, hb]

/-- One byte more, in 64 bits. -/
theorem w64_step (n b : Nat) : IntKind.u64.wrap (IntKind.u64.wrap ((w64 n : Int) * 128) + ((b % 128 : Nat) : Int)) = ((w64 (b % 128 + 128 * n) : Nat) : Int) := by
  unfold w64
  rw [IntKind.wrap_u64, IntKind.wrap_u64]
  omega

/-- What the operations of the comparison leave. -/
def V12 (g N pos k most : Nat) (S pN : ByteArray) : Nat → Value → Prop
  | 0, v => v = .int .u64 N
  | 1, v => v = .string pN
  | 2, v | 3, v | 4, v | 6, v | 7, v | 10, v | 11, v => v = .pointer (some ⟨g, 0, none⟩)
  | 5, v => v = .string S
  | 8, v | 12, v => v = .pointer (some ⟨g, 1, none⟩)
  | 9, v | 13, v => v = .int .i64 pos
  | 14, v => v = .int .i64 k
  | 15, v => v = .int .i64 ((pos : Int) + k)
  | 16, v => v = .string (S.extract pos (pos + k))
  | 17, v | 18, v => v = .bool true
  | 19, v => v = .int .u64 N
  | 20, v => v = .int .u64 most
  | _, v => v = .bool (decide (N ≤ most))
def V12n (g N pos k : Nat) (S pN : ByteArray) : Nat → Value → Prop
  | 0, v => v = .int .u64 N
  | 1, v => v = .string pN
  | 2, v | 3, v | 4, v | 6, v | 7, v | 10, v | 11, v => v = .pointer (some ⟨g, 0, none⟩)
  | 5, v => v = .string S
  | 8, v | 12, v => v = .pointer (some ⟨g, 1, none⟩)
  | 9, v | 13, v => v = .int .i64 pos
  | 14, v => v = .int .i64 k
  | 15, v => v = .int .i64 ((pos : Int) + k)
  | 16, v => v = .string (S.extract pos (pos + k))
  | 19, _ | 20, _ | 21, _ => True
  | _, v => v = .bool false

/-- The number, or none. -/
def RefEnd (l0 : List UInt8) (c : UInt8) (most g : Nat) (S : ByteArray) (pos : Nat) (w : World) (e : Ending) (w' : World) : Prop :=
  Chg g w w' ∧ ((M.IsNum l0 c ∧ M.low (l0 ++ [c]) ≤ most ∧ e = .returned (.int .u64 (M.low (l0 ++ [c]) : Nat)) ∧ Rf w' g S (pos + (l0.length + 1)) false) ∨
    (¬ (M.IsNum l0 c ∧ M.low (l0 ++ [c]) ≤ most) ∧ e = .returned (.int .u64 0) ∧ ∃ pos', Rf w' g S pos' true))

set_option maxHeartbeats 16000000 in
set_option maxRecDepth 100000 in
theorem rf_end (g : Nat) (S : ByteArray) (pos : Nat) (most : Nat) (hS : S.size ≤ 2000) (l0 : List UInt8) (c : UInt8) (r : List UInt8) (hl : S.data.toList.drop pos = l0 ++ c :: r) (h9 : l0.length ≤ 9) (hcont : M.Cont l0) (hc : c.toNat < 128) (w : World) (h : Rf w g S pos false) :
    Calls Tryd.prog 47 #[.pointer (some ⟨g, 0, none⟩), .int .u64 most] w (RefEnd l0 c most g S pos w) := by
  have hb := h.isBad
  have H := Lib.hid h
  have hlen : pos + (l0.length + 1 + r.length) = S.size := by
    have := congrArg List.length hl
    rw [List.length_drop, ← Lib.size_eq] at this
    simp at this
    omega
  have byte : ∀ j, j < l0.length + 1 → ∃ h : pos + j < S.size, S[pos + j] = (l0 ++ [c]).getD j 0 := by
    intro j hj
    refine ⟨by omega, ?_⟩
    have e1 : S[pos + j]'(by omega) = S.data.toList[pos + j]'(by rw [← Lib.size_eq]; omega) := byte_at S _ rfl (pos + j) (by omega) _
    have e2 : (S.data.toList.drop pos)[j]? = (l0 ++ c :: r)[j]? := by rw [hl]
    rw [List.getElem?_drop, List.getElem?_eq_getElem (by rw [← Lib.size_eq]; omega)] at e2
    rw [e1]
    have e3 : (l0 ++ c :: r)[j]? = (l0 ++ [c])[j]? := by
      by_cases hx : j < l0.length
      · rw [List.getElem?_append_left hx, List.getElem?_append_left hx]
      · obtain rfl : j = l0.length := by omega
        simp
    rw [e3] at e2
    simp only [List.getD, ← e2, Option.getD_some]
  have HB := Lib.hid byte
  have HL := Lib.hid hlen
  have HCT := Lib.hid hcont
  have HDR := Lib.hid hl
  clear byte hlen hl hcont h
  obtain ⟨t, ht⟩ : ∃ t, t = l0.length := ⟨_, rfl⟩
  have HT := Lib.hid ht
  rw [← ht] at h9
  clear ht
  go_enter Tryd.func47, Tryd.ntmps47
  go_wp2_with fail
  go_loopw [5, 6, 7] (fun vk _ _ wr => ∃ k : Nat, vk = .int .i64 k ∧ 1 ≤ k ∧ k ≤ t + 1 ∧ Rf wr g S pos false ∧ Chg g w wr) (fun vk _ _ _ => 12 - (intOf vk).toNat)
  case atStart => exact ⟨1, rfl, by omega, by omega, H.out, Chg.refl _ _⟩
  case round =>
    obtain ⟨k, rfl, hk1, hkt, hrf, hch⟩ := hrel
    have hs0 := hrf.str
    have hs1 := hrf.posn
    have hkS : pos + k ≤ S.size := by have := HL.out; have := HT.out; omega
    have e1 : decide ((k : Int) ≤ 10) = true := by simp; omega
    have e2 : IntKind.i64.wrap ((pos : Int) + k) = (pos : Int) + k := by rw [IntKind.wrap_i64]; omega
    obtain ⟨i, hi⟩ : ∃ i, i = pos + (k - 1) := ⟨_, rfl⟩
    have e3 : IntKind.i64.wrap ((pos : Int) + k - 1) = (i : Int) := by rw [IntKind.wrap_i64]; omega
    have hlt : i < S.size := by omega
    have hlt2 : (i : Int) < (S.size : Int) := by omega
    have HIX := Lib.hid hi
    clear hi
    by_cases hkt2 : k ≤ t
    · go_wp2_with fail
      go_quiet (fail)
      go_wp2_with fail
      go_quiet (fail)
      go_wp2_with fail
      · go_roundw
        case rel => exact ⟨k + 1, by go_num, by omega, by omega, hrf.drewN _, hch.drewN _⟩
        case measure => simp [intOf]; omega
      · exfalso
        have hbyte : ((S[i].toNat : Nat) : Int) < 128 := by assumption
        obtain ⟨_, hbb⟩ := HB.out (k - 1) (by have := HT.out; omega)
        have hi := HIX.out
        subst hi
        rw [hbb] at hbyte
        have hkl : k - 1 < l0.length := by have := HT.out; omega
        have hcc := HCT.out l0[k - 1] (List.getElem_mem _)
        simp only [List.getD, List.getElem?_append_left hkl, List.getElem?_eq_getElem hkl, Option.getD_some] at hbyte
        omega
    · have hkk : k = t + 1 := by omega
      have HK := Lib.hid hkk
      clear hkk
      go_wp2_with fail
      go_quiet (fail)
      go_wp2_with fail
      go_quiet (fail)
      go_wp2_with fail
      · exfalso
        have hbyte : 128 ≤ ((S[i].toNat : Nat) : Int) := by assumption
        obtain ⟨_, hbb⟩ := HB.out (k - 1) (by have := HT.out; omega)
        have hi := HIX.out
        subst hi
        rw [hbb] at hbyte
        have hkl : k - 1 = l0.length := by have := HT.out; have := HK.out; omega
        rw [hkl] at hbyte
        simp at hbyte
        omega
      · obtain ⟨wo, hwo⟩ : ∃ wo : World, wo = wr := ⟨_, rfl⟩
        go_loopw [6, 7] (fun vn vi wz => ((∃ i : Nat, i + 1 ≤ k ∧ vi = .int .i64 i ∧ vn = .int .u64 (w64 (M.low ((l0 ++ [c]).drop (i + 1))) : Nat)) ∨ (vi = .int .i64 (-1) ∧ vn = .int .u64 (w64 (M.low (l0 ++ [c])) : Nat))) ∧ Rf wz g S pos false ∧ Chg g w wz) (fun _ vi _ => (intOf vi + 1).toNat)
        case atStart =>
          refine ⟨.inl ⟨k - 1, by omega, congrArg (Value.int .i64) (by omega), ?_⟩, hrf.drewN _, hch.drewN _⟩
          have hd : (l0 ++ [c]).drop (k - 1 + 1) = [] := List.drop_eq_nil_of_le (by have := HT.out; have := HK.out; simp; omega)
          rw [hd]
          rfl
        case round =>
          obtain ⟨hrel, hrf2, hch2⟩ := hrel
          have hs02 := hrf2.str
          have hs12 := hrf2.posn
          rcases hrel with ⟨i2, hi2, rfl, rfl⟩ | ⟨rfl, rfl⟩
          · have hl2 : i2 < (l0 ++ [c]).length := by have := HT.out; have := HK.out; simp; omega
            obtain ⟨hx0, hx1⟩ := HB.out i2 (by simpa using hl2)
            have hx2 : (S[pos + i2]).toNat = ((l0 ++ [c])[i2]).toNat := by rw [hx1]; simp only [List.getD, List.getElem?_eq_getElem hl2, Option.getD_some]
            have hstep := low_drop (l0 ++ [c]) i2 hl2
            obtain ⟨bv, hbv⟩ : ∃ bv, bv = ((l0 ++ [c])[i2]).toNat := ⟨_, rfl⟩
            have hbl : bv < 256 := by rw [hbv]; exact ((l0 ++ [c])[i2]).toNat_lt
            rw [← hbv] at hx2 hstep
            obtain ⟨ix, hix0⟩ : ∃ ix, ix = pos + i2 := ⟨_, rfl⟩
            have hrun := index_run S (pos + i2) bv hx0 hx2
            rw [← hix0] at hrun
            have hadd : IntKind.i64.wrap ((pos : Int) + i2) = (ix : Int) := by rw [IntKind.wrap_i64]; omega
            obtain ⟨m, hm2⟩ : ∃ m, m = bv % 128 := ⟨_, rfl⟩
            have htm : (bv : Int).tmod 128 = (m : Int) := by rw [Int.tmod_eq_emod_of_nonneg (by omega)]; omega
            have hw1 : IntKind.u64.wrap (m : Int) = (m : Int) := by rw [IntKind.wrap_u64]; omega
            have hw2 := w64_step (M.low ((l0 ++ [c]).drop (i2 + 1))) bv
            rw [← hm2] at hstep hw2
            rw [← hstep] at hw2
            have hwi : IntKind.i64.wrap ((i2 : Int) - 1) = (i2 : Int) - 1 := by rw [IntKind.wrap_i64]; omega
            clear hx0 hx1 hx2 hbv hstep hm2 hix0 hwo hl2
            go_wp2_with fail
            go_quiet (fail)
            go_wp2_with fail
            go_roundw
            case rel =>
              refine ⟨?_, hrf2.drewN _, hch2.drewN _⟩
              rcases Nat.eq_zero_or_pos i2 with h0 | h0
              · subst h0
                exact .inr ⟨congrArg (Value.int .i64) (by omega), by rw [List.drop_zero]⟩
              · exact .inl ⟨i2 - 1, by omega, congrArg (Value.int .i64) (by omega), by rw [show i2 - 1 + 1 = i2 by omega]⟩
            case measure => first | (simp [intOf]; done) | (simp [intOf]; omega)
          · obtain ⟨N, hN⟩ : ∃ N, N = w64 (M.low (l0 ++ [c])) := ⟨_, rfl⟩
            have hNl : N < 18446744073709551616 := by rw [hN]; exact w64_lt _
            rw [← hN]
            obtain ⟨pN, hpN⟩ : ∃ pN : ByteArray, pN = ⟨(Lib.uvarint N).toArray⟩ := ⟨_, rfl⟩
            have CN : Hid (∀ w, Calls Tryd.prog 41 #[.int .u64 N] w fun e w' => e = .returned (.string pN) ∧ Below w.heap.size w w') := Lib.hid fun w => by rw [hpN]; exact ref_uint N hNl w
            have hkl : k = l0.length + 1 := by have := HT.out; have := HK.out; omega
            have hext : (S.extract pos (pos + k)).data.toList = l0 ++ [c] := by
              rw [Lib.extract_data, HDR.out, hkl]
              have e5 : pos + (l0.length + 1) - pos = l0.length + 1 := by omega
              rw [e5, take_one_more l0 c r]
            have heqv : (pN.toList == (S.extract pos (pos + k)).toList) = true ↔ M.IsNum l0 c := by
              rw [beq_iff_eq, Lib.toList_data, Lib.toList_data, hext, hpN]
              show Lib.uvarint N = l0 ++ [c] ↔ _
              constructor
              · intro h
                obtain ⟨m0, d, e6, hm0, _⟩ := M.isNum_of N hNl
                rw [e6] at h
                obtain ⟨rfl, rfl, _⟩ := M.parts_unique (r := []) (t := []) hm0.cont hm0.last HCT.out hc h
                exact hm0
              · intro h
                have e7 : N = M.low (l0 ++ [c]) := by rw [hN]; exact Nat.mod_eq_of_lt h.lt
                rw [e7]
                exact h.put
            have hNeq : M.IsNum l0 c → N = M.low (l0 ++ [c]) := fun h => by rw [hN]; exact Nat.mod_eq_of_lt h.lt
            have HEQ := Lib.hid heqv
            have HNE := Lib.hid hNeq
            have HNL := Lib.hid hNl
            have HKL := Lib.hid hkl
            clear hpN hext heqv hNeq hN hNl hkl e3 hrf hch hs0 hs1 hwo HIX e1 hs02 hs12
            have HRF := Lib.hid hrf2
            have HCH := Lib.hid hch2
            clear hrf2 hch2
            by_cases hin : M.IsNum l0 c
            · have heq : (pN.toList == (S.extract pos (pos + k)).toList) = true := HEQ.out.2 hin
              have HIN := Lib.hid hin
              clear hin
              go_upto_region 12 with fail
              refine wp_region_flow (by kernel_rfl) (fun w' => Rf w' g S pos false ∧ Chg g w w') (fun _ _ _ => True) (fun j v _ => V12 g N pos k most S pN j v) (fun j => j == 22) (by kernel_rfl) (by kernel_rfl) (fun _ _ _ _ _ _ _ _ h _ _ => h) ⟨HRF.out.drewN 1, HCH.out.drewN 1⟩ ?step ?fin
              case step =>
                refine ⟨?_, ?_, ?_, ?_, ?_, ?_, ?_, ?_, ?_, ?_, ?_, ?_, ?_, ?_, ?_, ?_, ?_, ?_, ?_, ?_, ?_, ?_, ?_, trivial⟩
                · intro ys A W hA hI hd K hK
                  have e6 : A.tmps.getD 6 undef = .int .u64 N := hA 6 (Nat.le_of_ble_eq_true rfl)
                  refine step_run (.inl rfl) ?_
                  clear hA hd
                  go_simp
                  exact hK _ _ hI trivial rfl
                · intro ys A W hA hI hd K hK
                  have e65 : A.tmps.getD 65 undef = .int .u64 N := (hA 65 (Nat.le_of_ble_eq_true rfl)).trans (hd ⟨0, .data⟩ (by simp) rfl)
                  refine step_run (.inl rfl) ?_
                  clear hA hd
                  go_simp
                  refine (CN.out _).mono ?_
                  rintro e w' ⟨rfl, hb⟩
                  exact hK _ _ ⟨hI.1.below hb hI.1.lt, hI.2.trans (Below.chg hb)⟩ trivial rfl
                · intro ys A W hA hI hd K hK
                  have e0 : A.tmps.getD 0 undef = .pointer (some ⟨g, 0, none⟩) := hA 0 (Nat.le_of_ble_eq_true rfl)
                  refine step_run (.inl rfl) ?_
                  clear hA hd
                  go_simp
                  exact hK _ _ hI trivial rfl
                · intro ys A W hA hI hd K hK
                  have e67 : A.tmps.getD 67 undef = .pointer (some ⟨g, 0, none⟩) := (hA 67 (Nat.le_of_ble_eq_true rfl)).trans (hd ⟨2, .data⟩ (by simp) rfl)
                  refine step_run (.inl rfl) ?_
                  clear hA hd
                  go_simp
                  exact hK _ _ hI trivial rfl
                · intro ys A W hA hI hd K hK
                  have e68 : A.tmps.getD 68 undef = .pointer (some ⟨g, 0, none⟩) := (hA 68 (Nat.le_of_ble_eq_true rfl)).trans (hd ⟨3, .data⟩ (by simp) rfl)
                  refine step_run (.inl rfl) ?_
                  clear hA hd
                  go_simp
                  exact hK _ _ hI trivial rfl
                · intro ys A W hA hI hd K hK
                  have e69 : A.tmps.getD 69 undef = .pointer (some ⟨g, 0, none⟩) := (hA 69 (Nat.le_of_ble_eq_true rfl)).trans (hd ⟨4, .data⟩ (by simp) rfl)
                  refine step_run (.inl rfl) ?_
                  clear hA hd
                  have hs := hI.1.str
                  go_simp
                  exact hK _ _ hI trivial rfl
                · intro ys A W hA hI hd K hK
                  have e0 : A.tmps.getD 0 undef = .pointer (some ⟨g, 0, none⟩) := hA 0 (Nat.le_of_ble_eq_true rfl)
                  refine step_run (.inl rfl) ?_
                  clear hA hd
                  go_simp
                  exact hK _ _ hI trivial rfl
                · intro ys A W hA hI hd K hK
                  have e71 : A.tmps.getD 71 undef = .pointer (some ⟨g, 0, none⟩) := (hA 71 (Nat.le_of_ble_eq_true rfl)).trans (hd ⟨6, .data⟩ (by simp) rfl)
                  refine step_run (.inl rfl) ?_
                  clear hA hd
                  go_simp
                  exact hK _ _ hI trivial rfl
                · intro ys A W hA hI hd K hK
                  have e72 : A.tmps.getD 72 undef = .pointer (some ⟨g, 0, none⟩) := (hA 72 (Nat.le_of_ble_eq_true rfl)).trans (hd ⟨7, .data⟩ (by simp) rfl)
                  refine step_run (.inl rfl) ?_
                  clear hA hd
                  go_simp
                  exact hK _ _ hI trivial rfl
                · intro ys A W hA hI hd K hK
                  have e73 : A.tmps.getD 73 undef = .pointer (some ⟨g, 1, none⟩) := (hA 73 (Nat.le_of_ble_eq_true rfl)).trans (hd ⟨8, .data⟩ (by simp) rfl)
                  refine step_run (.inl rfl) ?_
                  clear hA hd
                  have hs := hI.1.posn
                  go_simp
                  exact hK _ _ hI trivial rfl
                · intro ys A W hA hI hd K hK
                  have e0 : A.tmps.getD 0 undef = .pointer (some ⟨g, 0, none⟩) := hA 0 (Nat.le_of_ble_eq_true rfl)
                  refine step_run (.inl rfl) ?_
                  clear hA hd
                  go_simp
                  exact hK _ _ hI trivial rfl
                · intro ys A W hA hI hd K hK
                  have e75 : A.tmps.getD 75 undef = .pointer (some ⟨g, 0, none⟩) := (hA 75 (Nat.le_of_ble_eq_true rfl)).trans (hd ⟨10, .data⟩ (by simp) rfl)
                  refine step_run (.inl rfl) ?_
                  clear hA hd
                  go_simp
                  exact hK _ _ hI trivial rfl
                · intro ys A W hA hI hd K hK
                  have e76 : A.tmps.getD 76 undef = .pointer (some ⟨g, 0, none⟩) := (hA 76 (Nat.le_of_ble_eq_true rfl)).trans (hd ⟨11, .data⟩ (by simp) rfl)
                  refine step_run (.inl rfl) ?_
                  clear hA hd
                  go_simp
                  exact hK _ _ hI trivial rfl
                · intro ys A W hA hI hd K hK
                  have e77 : A.tmps.getD 77 undef = .pointer (some ⟨g, 1, none⟩) := (hA 77 (Nat.le_of_ble_eq_true rfl)).trans (hd ⟨12, .data⟩ (by simp) rfl)
                  refine step_run (.inl rfl) ?_
                  clear hA hd
                  have hs := hI.1.posn
                  go_simp
                  exact hK _ _ hI trivial rfl
                · intro ys A W hA hI hd K hK
                  have e5 : A.tmps.getD 5 undef = .int .i64 k := hA 5 (Nat.le_of_ble_eq_true rfl)
                  refine step_run (.inl rfl) ?_
                  clear hA hd
                  go_simp
                  exact hK _ _ hI trivial rfl
                · intro ys A W hA hI hd K hK
                  have e78 : A.tmps.getD 78 undef = .int .i64 pos := (hA 78 (Nat.le_of_ble_eq_true rfl)).trans (hd ⟨13, .data⟩ (by simp) rfl)
                  have e79 : A.tmps.getD 79 undef = .int .i64 k := (hA 79 (Nat.le_of_ble_eq_true rfl)).trans (hd ⟨14, .data⟩ (by simp) rfl)
                  refine step_run (.inl rfl) ?_
                  clear hA hd
                  go_simp
                  exact hK _ _ hI trivial rfl
                · intro ys A W hA hI hd K hK
                  have e70 : A.tmps.getD 70 undef = .string S := (hA 70 (Nat.le_of_ble_eq_true rfl)).trans (hd ⟨5, .data⟩ (by simp) rfl)
                  have e74 : A.tmps.getD 74 undef = .int .i64 pos := (hA 74 (Nat.le_of_ble_eq_true rfl)).trans (hd ⟨9, .data⟩ (by simp) rfl)
                  have e80 : A.tmps.getD 80 undef = .int .i64 ((pos : Int) + k) := (hA 80 (Nat.le_of_ble_eq_true rfl)).trans (hd ⟨15, .data⟩ (by simp) rfl)
                  refine step_run (.inl rfl) ?_
                  clear hA hd
                  have hp1 : (0 : Int) ≤ (pos : Int) + k := by omega
                  have hp2 : (pos : Int) ≤ (pos : Int) + k := by omega
                  have hp3 : ((pos : Int) + k).toNat = pos + k := by omega
                  go_simp
                  exact hK _ _ hI trivial rfl
                · intro ys A W hA hI hd K hK
                  have e66 : A.tmps.getD 66 undef = .string pN := (hA 66 (Nat.le_of_ble_eq_true rfl)).trans (hd ⟨1, .data⟩ (by simp) rfl)
                  have e81 : A.tmps.getD 81 undef = .string (S.extract pos (pos + k)) := (hA 81 (Nat.le_of_ble_eq_true rfl)).trans (hd ⟨16, .data⟩ (by simp) rfl)
                  refine step_run (.inl rfl) ?_
                  clear hA hd
                  go_simp
                  exact hK _ _ hI trivial rfl
                · intro ys A W hA hI hd K hK
                  have e82 : A.tmps.getD 82 undef = .bool true := (hA 82 (Nat.le_of_ble_eq_true rfl)).trans (hd ⟨17, .data⟩ (by simp) rfl)
                  refine step_run (.inl rfl) ?_
                  clear hA hd
                  go_simp
                  exact hK _ _ hI trivial rfl
                · intro ys A W hA hI hd K hK
                  have e6 : A.tmps.getD 6 undef = .int .u64 N := hA 6 (Nat.le_of_ble_eq_true rfl)
                  refine step_run (.inr ⟨18, 83, true, rfl, rfl, (hA 83 (Nat.le_of_ble_eq_true rfl)).trans (hd ⟨18, .guard⟩ (by simp) rfl)⟩) ?_
                  clear hA hd
                  go_simp
                  exact hK _ _ hI trivial rfl
                · intro ys A W hA hI hd K hK
                  have e1 : A.tmps.getD 1 undef = .int .u64 most := hA 1 (Nat.le_of_ble_eq_true rfl)
                  refine step_run (.inr ⟨18, 83, true, rfl, rfl, (hA 83 (Nat.le_of_ble_eq_true rfl)).trans (hd ⟨18, .guard⟩ (by simp) rfl)⟩) ?_
                  clear hA hd
                  go_simp
                  exact hK _ _ hI trivial rfl
                · intro ys A W hA hI hd K hK
                  have e84 : A.tmps.getD 84 undef = .int .u64 N := (hA 84 (Nat.le_of_ble_eq_true rfl)).trans (hd ⟨19, .data⟩ (by simp) rfl)
                  have e85 : A.tmps.getD 85 undef = .int .u64 most := (hA 85 (Nat.le_of_ble_eq_true rfl)).trans (hd ⟨20, .data⟩ (by simp) rfl)
                  refine step_run (.inr ⟨18, 83, true, rfl, rfl, (hA 83 (Nat.le_of_ble_eq_true rfl)).trans (hd ⟨18, .guard⟩ (by simp) rfl)⟩) ?_
                  clear hA hd
                  go_simp
                  exact hK _ _ hI trivial rfl
                · intro ys A W hA hI hd K hK
                  have e83 : A.tmps.getD 83 undef = .bool true := (hA 83 (Nat.le_of_ble_eq_true rfl)).trans (hd ⟨18, .data⟩ (by simp) rfl)
                  have e86 : A.tmps.getD 86 undef = .bool (decide (N ≤ most)) := (hA 86 (Nat.le_of_ble_eq_true rfl)).trans (hd ⟨21, .data⟩ (by simp) rfl)
                  refine step_run (.inl rfl) ?_
                  clear hA hd
                  go_simp
                  exact hK _ _ hI trivial rfl
              case fin =>
                intro ys wz hI hF
                have h22 : ys 22 = .bool (decide (N ≤ most)) := hF 22 (by decide) rfl
                have HI := Lib.hid hI
                have hz0 := hI.1.str
                have hz1 := hI.1.posn
                have hz2 := hI.1.isBad
                have hz3 := hI.1.f1
                have hz4 := hI.1.f2
                simp only [putsFrom]
                by_cases hle : N ≤ most
                · rw [decide_eq_true hle] at h22
                  clear hF hI
                  simp only [h22, Act.put, List.setIfInBounds_toArray, List.set_cons_succ, List.set_cons_zero]
                  go_wp2_with fail
                  go_ret
                  refine ⟨HI.out.2.trans (Chg.setCell g 1 _ _), .inl ⟨HIN.out, by rw [← HNE.out HIN.out]; exact hle, by rw [← HNE.out HIN.out]; rfl, ?_⟩⟩
                  rw [← HKL.out]
                  have hfin := HI.out.1.setPos (pos + k)
                  rw [Int.natCast_add] at hfin
                  exact hfin
                · rw [decide_eq_false hle] at h22
                  clear hF hI
                  simp only [h22, Act.put, List.setIfInBounds_toArray, List.set_cons_succ, List.set_cons_zero]
                  go_wp2_with fail
                  go_ret
                  exact ⟨HI.out.2.trans (Chg.setCell g 2 _ _), .inr ⟨fun h => hle (by rw [HNE.out h.1]; exact h.2), rfl, pos, HI.out.1.setBad true⟩⟩
            · have heq : (pN.toList == (S.extract pos (pos + k)).toList) = false := by
                cases hx : (pN.toList == (S.extract pos (pos + k)).toList) with
                | false => rfl
                | true => exact absurd (HEQ.out.1 hx) hin
              have HIN := Lib.hid hin
              clear hin
              go_upto_region 12 with fail
              refine wp_region_flow (by kernel_rfl) (fun w' => Rf w' g S pos false ∧ Chg g w w') (fun _ _ _ => True) (fun j v _ => V12n g N pos k S pN j v) (fun j => j == 22) (by kernel_rfl) (by kernel_rfl) (fun _ _ _ _ _ _ _ _ h _ _ => h) ⟨HRF.out.drewN 1, HCH.out.drewN 1⟩ ?step ?fin
              case step =>
                refine ⟨?_, ?_, ?_, ?_, ?_, ?_, ?_, ?_, ?_, ?_, ?_, ?_, ?_, ?_, ?_, ?_, ?_, ?_, ?_, ?_, ?_, ?_, ?_, trivial⟩
                · intro ys A W hA hI hd K hK
                  have e6 : A.tmps.getD 6 undef = .int .u64 N := hA 6 (Nat.le_of_ble_eq_true rfl)
                  refine step_run (.inl rfl) ?_
                  clear hA hd
                  go_simp
                  exact hK _ _ hI trivial rfl
                · intro ys A W hA hI hd K hK
                  have e65 : A.tmps.getD 65 undef = .int .u64 N := (hA 65 (Nat.le_of_ble_eq_true rfl)).trans (hd ⟨0, .data⟩ (by simp) rfl)
                  refine step_run (.inl rfl) ?_
                  clear hA hd
                  go_simp
                  refine (CN.out _).mono ?_
                  rintro e w' ⟨rfl, hb⟩
                  exact hK _ _ ⟨hI.1.below hb hI.1.lt, hI.2.trans (Below.chg hb)⟩ trivial rfl
                · intro ys A W hA hI hd K hK
                  have e0 : A.tmps.getD 0 undef = .pointer (some ⟨g, 0, none⟩) := hA 0 (Nat.le_of_ble_eq_true rfl)
                  refine step_run (.inl rfl) ?_
                  clear hA hd
                  go_simp
                  exact hK _ _ hI trivial rfl
                · intro ys A W hA hI hd K hK
                  have e67 : A.tmps.getD 67 undef = .pointer (some ⟨g, 0, none⟩) := (hA 67 (Nat.le_of_ble_eq_true rfl)).trans (hd ⟨2, .data⟩ (by simp) rfl)
                  refine step_run (.inl rfl) ?_
                  clear hA hd
                  go_simp
                  exact hK _ _ hI trivial rfl
                · intro ys A W hA hI hd K hK
                  have e68 : A.tmps.getD 68 undef = .pointer (some ⟨g, 0, none⟩) := (hA 68 (Nat.le_of_ble_eq_true rfl)).trans (hd ⟨3, .data⟩ (by simp) rfl)
                  refine step_run (.inl rfl) ?_
                  clear hA hd
                  go_simp
                  exact hK _ _ hI trivial rfl
                · intro ys A W hA hI hd K hK
                  have e69 : A.tmps.getD 69 undef = .pointer (some ⟨g, 0, none⟩) := (hA 69 (Nat.le_of_ble_eq_true rfl)).trans (hd ⟨4, .data⟩ (by simp) rfl)
                  refine step_run (.inl rfl) ?_
                  clear hA hd
                  have hs := hI.1.str
                  go_simp
                  exact hK _ _ hI trivial rfl
                · intro ys A W hA hI hd K hK
                  have e0 : A.tmps.getD 0 undef = .pointer (some ⟨g, 0, none⟩) := hA 0 (Nat.le_of_ble_eq_true rfl)
                  refine step_run (.inl rfl) ?_
                  clear hA hd
                  go_simp
                  exact hK _ _ hI trivial rfl
                · intro ys A W hA hI hd K hK
                  have e71 : A.tmps.getD 71 undef = .pointer (some ⟨g, 0, none⟩) := (hA 71 (Nat.le_of_ble_eq_true rfl)).trans (hd ⟨6, .data⟩ (by simp) rfl)
                  refine step_run (.inl rfl) ?_
                  clear hA hd
                  go_simp
                  exact hK _ _ hI trivial rfl
                · intro ys A W hA hI hd K hK
                  have e72 : A.tmps.getD 72 undef = .pointer (some ⟨g, 0, none⟩) := (hA 72 (Nat.le_of_ble_eq_true rfl)).trans (hd ⟨7, .data⟩ (by simp) rfl)
                  refine step_run (.inl rfl) ?_
                  clear hA hd
                  go_simp
                  exact hK _ _ hI trivial rfl
                · intro ys A W hA hI hd K hK
                  have e73 : A.tmps.getD 73 undef = .pointer (some ⟨g, 1, none⟩) := (hA 73 (Nat.le_of_ble_eq_true rfl)).trans (hd ⟨8, .data⟩ (by simp) rfl)
                  refine step_run (.inl rfl) ?_
                  clear hA hd
                  have hs := hI.1.posn
                  go_simp
                  exact hK _ _ hI trivial rfl
                · intro ys A W hA hI hd K hK
                  have e0 : A.tmps.getD 0 undef = .pointer (some ⟨g, 0, none⟩) := hA 0 (Nat.le_of_ble_eq_true rfl)
                  refine step_run (.inl rfl) ?_
                  clear hA hd
                  go_simp
                  exact hK _ _ hI trivial rfl
                · intro ys A W hA hI hd K hK
                  have e75 : A.tmps.getD 75 undef = .pointer (some ⟨g, 0, none⟩) := (hA 75 (Nat.le_of_ble_eq_true rfl)).trans (hd ⟨10, .data⟩ (by simp) rfl)
                  refine step_run (.inl rfl) ?_
                  clear hA hd
                  go_simp
                  exact hK _ _ hI trivial rfl
                · intro ys A W hA hI hd K hK
                  have e76 : A.tmps.getD 76 undef = .pointer (some ⟨g, 0, none⟩) := (hA 76 (Nat.le_of_ble_eq_true rfl)).trans (hd ⟨11, .data⟩ (by simp) rfl)
                  refine step_run (.inl rfl) ?_
                  clear hA hd
                  go_simp
                  exact hK _ _ hI trivial rfl
                · intro ys A W hA hI hd K hK
                  have e77 : A.tmps.getD 77 undef = .pointer (some ⟨g, 1, none⟩) := (hA 77 (Nat.le_of_ble_eq_true rfl)).trans (hd ⟨12, .data⟩ (by simp) rfl)
                  refine step_run (.inl rfl) ?_
                  clear hA hd
                  have hs := hI.1.posn
                  go_simp
                  exact hK _ _ hI trivial rfl
                · intro ys A W hA hI hd K hK
                  have e5 : A.tmps.getD 5 undef = .int .i64 k := hA 5 (Nat.le_of_ble_eq_true rfl)
                  refine step_run (.inl rfl) ?_
                  clear hA hd
                  go_simp
                  exact hK _ _ hI trivial rfl
                · intro ys A W hA hI hd K hK
                  have e78 : A.tmps.getD 78 undef = .int .i64 pos := (hA 78 (Nat.le_of_ble_eq_true rfl)).trans (hd ⟨13, .data⟩ (by simp) rfl)
                  have e79 : A.tmps.getD 79 undef = .int .i64 k := (hA 79 (Nat.le_of_ble_eq_true rfl)).trans (hd ⟨14, .data⟩ (by simp) rfl)
                  refine step_run (.inl rfl) ?_
                  clear hA hd
                  go_simp
                  exact hK _ _ hI trivial rfl
                · intro ys A W hA hI hd K hK
                  have e70 : A.tmps.getD 70 undef = .string S := (hA 70 (Nat.le_of_ble_eq_true rfl)).trans (hd ⟨5, .data⟩ (by simp) rfl)
                  have e74 : A.tmps.getD 74 undef = .int .i64 pos := (hA 74 (Nat.le_of_ble_eq_true rfl)).trans (hd ⟨9, .data⟩ (by simp) rfl)
                  have e80 : A.tmps.getD 80 undef = .int .i64 ((pos : Int) + k) := (hA 80 (Nat.le_of_ble_eq_true rfl)).trans (hd ⟨15, .data⟩ (by simp) rfl)
                  refine step_run (.inl rfl) ?_
                  clear hA hd
                  have hp1 : (0 : Int) ≤ (pos : Int) + k := by omega
                  have hp2 : (pos : Int) ≤ (pos : Int) + k := by omega
                  have hp3 : ((pos : Int) + k).toNat = pos + k := by omega
                  go_simp
                  exact hK _ _ hI trivial rfl
                · intro ys A W hA hI hd K hK
                  have e66 : A.tmps.getD 66 undef = .string pN := (hA 66 (Nat.le_of_ble_eq_true rfl)).trans (hd ⟨1, .data⟩ (by simp) rfl)
                  have e81 : A.tmps.getD 81 undef = .string (S.extract pos (pos + k)) := (hA 81 (Nat.le_of_ble_eq_true rfl)).trans (hd ⟨16, .data⟩ (by simp) rfl)
                  refine step_run (.inl rfl) ?_
                  clear hA hd
                  go_simp
                  exact hK _ _ hI trivial rfl
                · intro ys A W hA hI hd K hK
                  have e82 : A.tmps.getD 82 undef = .bool false := (hA 82 (Nat.le_of_ble_eq_true rfl)).trans (hd ⟨17, .data⟩ (by simp) rfl)
                  refine step_run (.inl rfl) ?_
                  clear hA hd
                  go_simp
                  exact hK _ _ hI trivial rfl
                · intro ys A W hA hI hd K hK
                  exact step_skip ⟨18, 83, false, rfl, rfl, (hA 83 (Nat.le_of_ble_eq_true rfl)).trans (hd ⟨18, .guard⟩ (by simp) rfl)⟩ (hK _ _ hI trivial trivial)
                · intro ys A W hA hI hd K hK
                  exact step_skip ⟨18, 83, false, rfl, rfl, (hA 83 (Nat.le_of_ble_eq_true rfl)).trans (hd ⟨18, .guard⟩ (by simp) rfl)⟩ (hK _ _ hI trivial trivial)
                · intro ys A W hA hI hd K hK
                  exact step_skip ⟨18, 83, false, rfl, rfl, (hA 83 (Nat.le_of_ble_eq_true rfl)).trans (hd ⟨18, .guard⟩ (by simp) rfl)⟩ (hK _ _ hI trivial trivial)
                · intro ys A W hA hI hd K hK
                  have e83 : A.tmps.getD 83 undef = .bool false := (hA 83 (Nat.le_of_ble_eq_true rfl)).trans (hd ⟨18, .data⟩ (by simp) rfl)
                  refine step_run (.inl rfl) ?_
                  clear hA hd
                  go_simp
                  exact hK _ _ hI trivial rfl
              case fin =>
                intro ys wz hI hF
                have h22 : ys 22 = .bool false := hF 22 (by decide) rfl
                have HI := Lib.hid hI
                have hz0 := hI.1.str
                have hz1 := hI.1.posn
                have hz2 := hI.1.isBad
                have hz3 := hI.1.f1
                have hz4 := hI.1.f2
                simp only [putsFrom]
                clear hF hI
                simp only [h22, Act.put, List.setIfInBounds_toArray, List.set_cons_succ, List.set_cons_zero]
                go_wp2_with fail
                go_ret
                exact ⟨HI.out.2.trans (Chg.setCell g 2 _ _), .inr ⟨fun h => HIN.out h.1, rfl, pos, HI.out.1.setBad true⟩⟩

end Go.Proofs.YtaghogfkkmphoaaDoor.E4

namespace Go.Proofs.YtaghogfkkmphoaaDoor.E4
open Go.RowKit Go

/-- What is left to both. -/
def Left (l : List UInt8) (bad : Bool) (S : ByteArray) (pos : Nat) : Prop := bad = false → l = S.data.toList.drop pos ∧ pos ≤ S.size

theorem RU.inv {most : Nat} {l : List UInt8} {bad : Bool} {n : Nat} {l1 : List UInt8} {b1 : Bool} (h : RU most l bad n l1 b1) :
    (bad = true ∧ n = 0 ∧ l1 = l ∧ b1 = true) ∨ (bad = false ∧ b1 = false ∧ ∃ l0 c, M.IsNum l0 c ∧ M.low (l0 ++ [c]) ≤ most ∧ l = l0 ++ c :: l1 ∧ n = M.low (l0 ++ [c])) ∨
      (bad = false ∧ b1 = true ∧ n = 0 ∧ l1 = [] ∧ ∀ l0 c r, M.IsNum l0 c → l = l0 ++ c :: r → most < M.low (l0 ++ [c])) := by
  cases h with
  | good l0 c _ hn hm => exact .inr (.inl ⟨rfl, rfl, l0, c, hn, hm, rfl, rfl⟩)
  | none _ hno => exact .inr (.inr ⟨rfl, rfl, rfl, rfl, hno⟩)
  | bad => exact .inl ⟨rfl, rfl, rfl, rfl⟩

theorem RU.same {most : Nat} {l : List UInt8} {bad : Bool} {n m : Nat} {l1 l2 : List UInt8} {b1 b2 : Bool} (h : RU most l bad n l1 b1) (k : RU most l bad m l2 b2) : n = m ∧ l1 = l2 ∧ b1 = b2 := by
  rcases h.inv with ⟨rfl, rfl, rfl, rfl⟩ | ⟨rfl, rfl, l0, c, hn, hm, e, rfl⟩ | ⟨rfl, rfl, rfl, rfl, hno⟩
  · rcases k.inv with ⟨_, rfl, rfl, rfl⟩ | ⟨x, _⟩ | ⟨x, _⟩
    · exact ⟨rfl, rfl, rfl⟩
    · cases x
    · cases x
  · rcases k.inv with ⟨x, _⟩ | ⟨_, rfl, m0, d, hk, _, e2, rfl⟩ | ⟨_, rfl, rfl, rfl, hno⟩
    · cases x
    · rw [e] at e2
      obtain ⟨rfl, rfl, rfl⟩ := M.parts_unique hn.cont hn.last hk.cont hk.last e2
      exact ⟨rfl, rfl, rfl⟩
    · exact absurd (hno l0 c l1 hn e) (by omega)
  · rcases k.inv with ⟨x, _⟩ | ⟨_, rfl, m0, d, hk, hm, e2, rfl⟩ | ⟨_, rfl, rfl, rfl, _⟩
    · cases x
    · exact absurd (hno m0 d l2 hk e2) (by omega)
    · exact ⟨rfl, rfl, rfl⟩

theorem RT.same {most : Nat} {l : List UInt8} {bad : Bool} {n m : List UInt8} {l1 l2 : List UInt8} {b1 b2 : Bool} (h : RT most l bad n l1 b1) (k : RT most l bad m l2 b2) : n = m ∧ l1 = l2 ∧ b1 = b2 := by
  cases h with
  | bad n1 l1 h =>
    cases k with
    | bad n2 l2 k => exact ⟨rfl, (h.same k).2.1, rfl⟩
    | short n2 l2 k _ => cases (h.same k).2.2
    | good n2 l2 k _ => cases (h.same k).2.2
  | short n1 l1 h hn =>
    cases k with
    | bad n2 l2 k => cases (h.same k).2.2
    | short n2 l2 k _ => exact ⟨rfl, rfl, rfl⟩
    | good n2 l2 k hk => obtain ⟨rfl, rfl, _⟩ := h.same k; omega
  | good n1 l1 h hn =>
    cases k with
    | bad n2 l2 k => cases (h.same k).2.2
    | short n2 l2 k hk => obtain ⟨rfl, rfl, _⟩ := h.same k; omega
    | good n2 l2 k hk => obtain ⟨rfl, rfl, _⟩ := h.same k; exact ⟨rfl, rfl, rfl⟩

set_option maxHeartbeats 400000 in
theorem rf_bad (g : Nat) (S : ByteArray) (pos most : Nat) (w : World) (h : Rf w g S pos true) :
    Calls Tryd.prog 47 #[.pointer (some ⟨g, 0, none⟩), .int .u64 most] w fun e w' => e = .returned (.int .u64 0) ∧ w = w' := by
  have hb := h.isBad
  go_enter Tryd.func47, Tryd.ntmps47
  go_wp2_with fail
  go_ret
  exact ⟨rfl, rfl⟩

/-- What the document's Uint leaves. -/
def RefPost (most g : Nat) (S : ByteArray) (l : List UInt8) (bad : Bool) (w : World) (e : Ending) (w' : World) : Prop :=
  ∃ n l' bad' pos', e = .returned (.int .u64 (n : Nat)) ∧ RU most l bad n l' bad' ∧ Rf w' g S pos' bad' ∧ Left l' bad' S pos' ∧ Chg g w w'

theorem Left.bad (l : List UInt8) (S : ByteArray) (pos : Nat) : Left l true S pos := fun h => by cases h

theorem ref_rd (most g : Nat) (S : ByteArray) (hS : S.size ≤ 2000) (pos : Nat) (l : List UInt8) (bad : Bool) (w : World) (h : Rf w g S pos bad) (hl : Left l bad S pos) :
    Calls Tryd.prog 47 #[.pointer (some ⟨g, 0, none⟩), .int .u64 most] w (RefPost most g S l bad w) := by
  cases bad
  · obtain ⟨hl, hp⟩ := hl rfl
    have hsz : S.data.toList.length = S.size := (Lib.size_eq S).symm
    have hll : l.length = S.size - pos := by rw [hl, List.length_drop, hsz]
    have loop : ∀ t, (ht : pos + t ≤ S.size) → (∀ j (hj : j < t), 128 ≤ (l[j]'(by omega)).toNat) → (pos + t = S.size ∨ 10 ≤ t) → (∀ l0 c r, M.IsNum l0 c → l = l0 ++ c :: r → False) →
        Calls Tryd.prog 47 #[.pointer (some ⟨g, 0, none⟩), .int .u64 most] w (RefPost most g S l false w) := by
      intro t ht hc hend hno
      refine (rf_loop g S pos t most hS ht w h ?_ hend).mono ?_
      · intro j hj
        have e1 : S[pos + j]'(by omega) = S.data.toList[pos + j]'(by omega) := byte_at S _ rfl (pos + j) (by omega) _
        have e2 : l[j]? = S.data.toList[pos + j]? := by rw [hl, List.getElem?_drop]
        rw [List.getElem?_eq_getElem (by omega), List.getElem?_eq_getElem (by omega)] at e2
        rw [e1, ← Option.some.inj e2]
        exact hc j hj
      · rintro e w' ⟨rfl, ⟨pos', hrf⟩, hch⟩
        exact ⟨0, [], true, pos', rfl, .none l fun l0 c r hn e => (hno l0 c r hn e).elim, hrf, Left.bad _ _ _, hch⟩
    rcases M.parts l with hc | ⟨l0, c, r, e, h0, hc⟩
    · refine loop l.length (by omega) (fun j hj => hc _ (List.getElem_mem _)) (.inl (by omega)) ?_
      intro l0 c r hn e
      have := hc c (by rw [e]; simp)
      have := hn.last
      omega
    · by_cases h9 : l0.length ≤ 9
      · refine (rf_end g S pos most hS l0 c r (by rw [← hl, e]) h9 h0 hc w h).mono ?_
        rintro e2 w' ⟨hch, ⟨hn, hle, rfl, hrf⟩ | ⟨hn, rfl, pos', hrf⟩⟩
        · refine ⟨_, r, false, _, rfl, e ▸ .good l0 c r hn hle, hrf, ?_, hch⟩
          intro _
          have hlen : l.length = l0.length + 1 + r.length := by rw [e]; simp; omega
          refine ⟨?_, by omega⟩
          rw [← List.drop_drop, ← hl, e]
          have e5 : l0 ++ c :: r = (l0 ++ [c]) ++ r := by simp
          rw [e5]
          exact (List.drop_left' (by simp)).symm
        · refine ⟨0, [], true, pos', rfl, .none l ?_, hrf, Left.bad _ _ _, hch⟩
          intro m0 d t hk e3
          rw [e] at e3
          obtain ⟨rfl, rfl, rfl⟩ := M.parts_unique h0 hc hk.cont hk.last e3
          rcases Nat.lt_or_ge most (M.low (l0 ++ [c])) with a | a
          · exact a
          · exact absurd ⟨hk, a⟩ hn
      · have hlen : l.length = l0.length + 1 + r.length := by rw [e]; simp; omega
        refine loop l0.length (by omega) ?_ (.inr (by omega)) ?_
        · intro j hj
          have e6 : l[j]? = l0[j]? := by rw [e, List.getElem?_append_left hj]
          rw [List.getElem?_eq_getElem (by omega), List.getElem?_eq_getElem hj] at e6
          rw [Option.some.inj e6]
          exact h0 _ (List.getElem_mem _)
        · intro m0 d t hk e3
          rw [e] at e3
          obtain ⟨rfl, rfl, rfl⟩ := M.parts_unique h0 hc hk.cont hk.last e3
          exact h9 hk.nine
  · exact (rf_bad g S pos most w h).mono fun e w' ⟨h1, h2⟩ => ⟨0, l, true, pos, h1, .bad l, h2 ▸ h, Left.bad _ _ _, h2 ▸ Chg.refl g w⟩

set_option maxHeartbeats 1000000 in
/-- Int. -/
theorem ref_int_rd (g : Nat) (S : ByteArray) (hS : S.size ≤ 2000) (pos : Nat) (l : List UInt8) (bad : Bool) (w : World) (h : Rf w g S pos bad) (hl : Left l bad S pos) :
    Calls Tryd.prog 48 #[.pointer (some ⟨g, 0, none⟩)] w fun e w' => ∃ n l' bad' pos', e = .returned (.int .i64 (Lib.unzigzag n)) ∧ RU 18446744073709551615 l bad n l' bad' ∧ Rf w' g S pos' bad' ∧ Left l' bad' S pos' ∧ Chg g w w' := by
  have hU := ref_rd 18446744073709551615 g S hS pos l bad w h hl
  have e : ((18446744073709551615 : Nat) : Int) = 18446744073709551615 := rfl
  rw [e] at hU
  have HU := Lib.hid hU
  clear hU e hl
  go_enter Tryd.func48, Tryd.ntmps48
  go_wp2_with fail
  refine HU.out.mono ?_
  rintro e w' ⟨n, l', bad', pos', rfl, hr, hd, hle, ho⟩
  have hlt := hr.lt
  have HR := Lib.hid hr
  have HD := Lib.hid hd
  have HO := Lib.hid ho
  have HL := Lib.hid hle
  clear hr hd ho hle
  have ha : (n : Int).tmod 2 = (n : Int) % 2 := Int.tmod_eq_emod_of_nonneg (by omega)
  have hb : (n : Int).tdiv 2 = (n : Int) / 2 := Int.tdiv_eq_ediv_of_nonneg (by omega)
  have hw : IntKind.i64.wrap ((n : Int) / 2) = (n : Int) / 2 := by rw [IntKind.wrap_i64]; omega
  by_cases hn : n % 2 = 0
  · have hz := unzig_even n hn
    have HZ := Lib.hid hz
    have e1 : ((n : Int) % 2 == 1) = false := by simp; omega
    clear hz hn
    go_wp2
    go_ret
    refine ⟨n, l', bad', pos', ?_, HR.out, HD.out, HL.out, HO.out⟩
    rw [HZ.out]
    first | rfl | simp
  · have hz := unzig_odd n hn
    have HZ := Lib.hid hz
    have e1 : ((n : Int) % 2 == 1) = true := by simp; omega
    have hw2 : IntKind.i64.wrap (-((n : Int) / 2)) = -((n : Int) / 2) := by rw [IntKind.wrap_i64]; omega
    have hw3 : IntKind.i64.wrap (-((n : Int) / 2) - 1) = -((n : Int) / 2) - 1 := by rw [IntKind.wrap_i64]; omega
    clear hz hn
    go_wp2
    go_ret
    refine ⟨n, l', bad', pos', ?_, HR.out, HD.out, HL.out, HO.out⟩
    rw [HZ.out]
    first | rfl | simp

end Go.Proofs.YtaghogfkkmphoaaDoor.E4

namespace Go.Proofs.YtaghogfkkmphoaaDoor.E4
open Go.RowKit Go

theorem RU.le {most : Nat} {l : List UInt8} {bad : Bool} {n : Nat} {l' : List UInt8} {bad' : Bool} (h : RU most l bad n l' bad') : n ≤ most := by
  cases h with
  | good l0 c r hn hm => exact hm
  | none h => exact Nat.zero_le _
  | bad => exact Nat.zero_le _

theorem RT.le_all {most : Nat} {l : List UInt8} {bad : Bool} {t l' : List UInt8} {bad' : Bool} (h : RT most l bad t l' bad') : t.length ≤ most := by
  cases h with
  | bad n l1 h => exact Nat.zero_le _
  | short n l1 h hn => exact Nat.zero_le _
  | good n l1 h hn => have := h.le; rw [List.length_take]; omega

end Go.Proofs.YtaghogfkkmphoaaDoor.E4

namespace Go.Proofs.YtaghogfkkmphoaaDoor.E4
open Go.RowKit Go

theorem Below.drewN0 (w : World) (n : Nat) : Below w.heap.size w (w.drewN n) := ⟨rfl, rfl, rfl, Nat.le_refl _, fun _ _ => rfl⟩

/-- What the document's Text leaves. -/
def RefText (most g : Nat) (S : ByteArray) (l : List UInt8) (bad : Bool) (w : World) (e : Ending) (w' : World) : Prop :=
  ∃ (s : ByteArray) (l' : List UInt8) (bad' : Bool) (pos' : Nat), e = .returned (.string s) ∧ RT most l bad s.data.toList l' bad' ∧ Rf w' g S pos' bad' ∧ Left l' bad' S pos' ∧ Chg g w w'

set_option maxHeartbeats 2000000 in
theorem ref_text_rd (most g : Nat) (hm : most < 9223372036854775808) (S : ByteArray) (hS : S.size ≤ 2000) (pos : Nat) (l : List UInt8) (bad : Bool) (w : World) (h : Rf w g S pos bad) (hl : Left l bad S pos) (mo : Int) (hmo : mo = (most : Int)) :
    Calls Tryd.prog 49 #[.pointer (some ⟨g, 0, none⟩), .int .i64 mo] w (RefText most g S l bad w) := by
  have hU := ref_rd most g S hS pos l bad w h hl
  have hw : IntKind.u64.wrap mo = (most : Int) := by rw [hmo, IntKind.wrap_u64]; omega
  have h0 : 0 ≤ mo := by omega
  have hmx : max mo 0 = mo := by omega
  rw [← hw] at hU
  have HU := Lib.hid hU
  clear hU hmo hw hl h hm
  go_enter Tryd.func49, Tryd.ntmps49
  go_wp2_with fail
  refine HU.out.mono ?_
  rintro e w' ⟨n, l', bad', pos', rfl, hr, hd, hle, ho⟩
  have hlt := hr.lt
  have HR := Lib.hid hr
  have HO := Lib.hid ho
  clear hr ho
  have hs0 := hd.str
  have hs1 := hd.posn
  have hs2 := hd.isBad
  have hf1 := hd.f1
  have hf2 := hd.f2
  have HD := Lib.hid hd
  clear hd
  cases bad'
  · obtain ⟨hl', hp⟩ := hle rfl
    have hsz : S.data.toList.length = S.size := (Lib.size_eq S).symm
    have hll : l'.length = S.size - pos' := by rw [hl', List.length_drop, hsz]
    have HL := Lib.hid hl'
    have HLL := Lib.hid hll
    have e1 : IntKind.i64.wrap ((S.size : Int) - pos') = (S.size : Int) - pos' := by rw [IntKind.wrap_i64]; omega
    have e2 : IntKind.u64.wrap ((S.size : Int) - pos') = (S.size : Int) - pos' := by rw [IntKind.wrap_u64]; omega
    clear hle hl' hsz
    by_cases hn : n ≤ l'.length
    · have hns : decide ((n : Int) > (S.size : Int) - pos') = false := by simp; omega
      have hni : IntKind.i64.wrap (n : Int) = n := by rw [IntKind.wrap_i64]; omega
      have e3 : IntKind.i64.wrap ((pos' : Int) + n) = (pos' : Int) + n := by rw [IntKind.wrap_i64]; omega
      have hp1 : (0 : Int) ≤ (pos' : Int) + n := by omega
      have hp2 : (pos' : Int) ≤ (pos' : Int) + n := by omega
      have hp3 : ((pos' : Int) + n).toNat = pos' + n := by omega
      have hp4 : pos' + n ≤ S.size := by omega
      have HN := Lib.hid hn
      clear hll hn
      go_wp2_with fail
      go_quiet (fail)
      go_wp2_with fail
      go_quiet (fail)
      go_wp2_with fail
      go_ret
      have hext : (S.extract pos' (pos' + n)).data.toList = l'.take n := by
        rw [Lib.extract_data, HL.out, Nat.add_sub_cancel_left]
      refine ⟨S.extract pos' (pos' + n), l'.drop n, false, pos' + n, rfl, ?_, ?_, ?_, ?_⟩
      · rw [hext]
        exact .good n l' HR.out HN.out
      · rw [← Int.natCast_add]
        exact (HD.out.drewN _).setPos (pos' + n)
      · exact fun _ => ⟨by rw [HL.out, List.drop_drop], hp4⟩
      · exact (HO.out.drewN _).trans (Chg.setCell g 1 _ _)
    · have hns : decide ((n : Int) > (S.size : Int) - pos') = true := by simp; omega
      have HN := Lib.hid hn
      clear hll hn
      go_wp2_with fail
      go_quiet (fail)
      go_wp2_with fail
      go_ret
      exact ⟨⟨#[]⟩, [], true, pos', rfl, .short n l' HR.out (by have := HN.out; omega), (HD.out.drewN _).setBad true, Left.bad _ _ _, (HO.out.drewN _).trans (Chg.setCell g 2 _ _)⟩
  · go_wp2_with fail
    go_quiet (fail)
    go_wp2_with fail
    go_ret
    exact ⟨⟨#[]⟩, l', true, pos', rfl, .bad n l' HR.out, (HD.out.drewN _).setBad true, Left.bad _ _ _, (HO.out.drewN _).trans (Chg.setCell g 2 _ _)⟩

set_option maxHeartbeats 2000000 in
theorem ref_end_rd (g : Nat) (S : ByteArray) (pos : Nat) (l : List UInt8) (bad : Bool) (w : World) (h : Rf w g S pos bad) (hl : Left l bad S pos) :
    Calls Tryd.prog 25 #[.pointer (some ⟨g, 0, none⟩)] w fun e w' => e = .returned (.bool (!bad && l.isEmpty)) ∧ Below w.heap.size w w' := by
  have hs0 := h.str
  have hs1 := h.posn
  have hs2 := h.isBad
  cases bad
  · obtain ⟨hl', hp⟩ := hl rfl
    have hsz : S.data.toList.length = S.size := (Lib.size_eq S).symm
    have hll : l.length = S.size - pos := by rw [hl', List.length_drop, hsz]
    have he : ((pos : Int) == (S.size : Int)) = l.isEmpty := by
      rw [Bool.eq_iff_iff, List.isEmpty_iff_length_eq_zero, beq_iff_eq, hll]
      omega
    have HE := Lib.hid he
    clear he hll hl' hl h hsz
    go_enter Tryd.func25, Tryd.ntmps25
    go_wp2_with fail
    go_quiet (fail)
    go_wp2_with fail
    go_ret
    refine ⟨?_, Below.drewN0 _ _⟩
    rw [← HE.out]
    rfl
  · clear h hl
    go_enter Tryd.func25, Tryd.ntmps25
    go_wp2_with fail
    go_quiet (fail)
    go_wp2_with fail
    go_ret
    exact ⟨rfl, Below.drewN0 _ _⟩

end Go.Proofs.YtaghogfkkmphoaaDoor.E4
