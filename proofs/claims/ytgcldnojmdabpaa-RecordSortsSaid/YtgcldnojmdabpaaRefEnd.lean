/-
  magpieref01.(*Reader).Uint, where a byte stands that ends a number.
-/
import Derived.Test.YtgcldnojmdabpaaRefRead
import Derived.Deep.DeepCutAuto
namespace Go.Proofs.Ytgcldnojmdabpaa
open Go.RowKit Go

theorem take_one_more {α : Type} (l0 : List α) (c : α) (r : List α) : (l0 ++ c :: r).take (l0.length + 1) = l0 ++ [c] := by
  have e : l0 ++ c :: r = (l0 ++ [c]) ++ r := by simp
  rw [e]
  exact List.take_left' (by simp)

theorem low_drop (l : List UInt8) (i : Nat) (h : i < l.length) : M.low (l.drop i) = l[i].toNat % 128 + 128 * M.low (l.drop (i + 1)) := by
  rw [List.drop_eq_getElem_cons h]; rfl

/-- 64 bits of a number. -/
def w64 (n : Nat) : Nat := n % 18446744073709551616
theorem w64_lt (n : Nat) : w64 n < 18446744073709551616 := Nat.mod_lt _ (by decide)

theorem index_run (S : ByteArray) (ix bv : Nat) (hx : ix < S.size) (hb : S[ix].toNat = bv) (w : World) : (Instr.index 9 (.string S) (.int .i64 (ix : Int))).run Try.prog w = .ok (.int .u8 (bv : Int)) w := by
  rw [run_index_string (P := Try.prog) (w := w) 9 S .i64 ix Try.underlying9]
  simp [hx, hb]

/-- One byte more, in 64 bits. -/
theorem w64_step (n b : Nat) : IntKind.u64.wrap (IntKind.u64.wrap ((w64 n : Int) * 128) + ((b % 128 : Nat) : Int)) = ((w64 (b % 128 + 128 * n) : Nat) : Int) := by
  unfold w64
  rw [IntKind.wrap_u64, IntKind.wrap_u64]
  omega

/-- What the operations of the comparison leave. -/
def V12 (g N pos k most : Nat) (S pN : ByteArray) : Nat → Value → Prop
  | 0, v => v = .int .u64 N
  | 1, v => v = .string pN
  | 2, v | 3, v | 4, v | 6, v | 7, v | 10, v | 11, v => v = .pointer (some ⟨g, 0, none⟩)
  | 5, v => v = .string S
  | 8, v | 12, v => v = .pointer (some ⟨g, 1, none⟩)
  | 9, v | 13, v => v = .int .i64 pos
  | 14, v => v = .int .i64 k
  | 15, v => v = .int .i64 ((pos : Int) + k)
  | 16, v => v = .string (S.extract pos (pos + k))
  | 17, v | 18, v => v = .bool true
  | 19, v => v = .int .u64 N
  | 20, v => v = .int .u64 most
  | _, v => v = .bool (decide (N ≤ most))
def V12n (g N pos k : Nat) (S pN : ByteArray) : Nat → Value → Prop
  | 0, v => v = .int .u64 N
  | 1, v => v = .string pN
  | 2, v | 3, v | 4, v | 6, v | 7, v | 10, v | 11, v => v = .pointer (some ⟨g, 0, none⟩)
  | 5, v => v = .string S
  | 8, v | 12, v => v = .pointer (some ⟨g, 1, none⟩)
  | 9, v | 13, v => v = .int .i64 pos
  | 14, v => v = .int .i64 k
  | 15, v => v = .int .i64 ((pos : Int) + k)
  | 16, v => v = .string (S.extract pos (pos + k))
  | 19, _ | 20, _ | 21, _ => True
  | _, v => v = .bool false

/-- The number, or none. -/
def RefEnd (l0 : List UInt8) (c : UInt8) (most g : Nat) (S : ByteArray) (pos : Nat) (w : World) (e : Ending) (w' : World) : Prop :=
  Chg g w w' ∧ ((M.IsNum l0 c ∧ M.low (l0 ++ [c]) ≤ most ∧ e = .returned (.int .u64 (M.low (l0 ++ [c]) : Nat)) ∧ Rf w' g S (pos + (l0.length + 1)) false) ∨
    (¬ (M.IsNum l0 c ∧ M.low (l0 ++ [c]) ≤ most) ∧ e = .returned (.int .u64 0) ∧ ∃ pos', Rf w' g S pos' true))

set_option maxHeartbeats 16000000 in
set_option maxRecDepth 100000 in
theorem rf_end (g : Nat) (S : ByteArray) (pos : Nat) (most : Nat) (hS : S.size ≤ 2000) (l0 : List UInt8) (c : UInt8) (r : List UInt8) (hl : S.data.toList.drop pos = l0 ++ c :: r) (h9 : l0.length ≤ 9) (hcont : M.Cont l0) (hc : c.toNat < 128) (w : World) (h : Rf w g S pos false) :
    Calls Try.prog 63 #[.pointer (some ⟨g, 0, none⟩), .int .u64 most] w (RefEnd l0 c most g S pos w) := by
  have hb := h.isBad
  have H := Lib.hid h
  have hlen : pos + (l0.length + 1 + r.length) = S.size := by
    have := congrArg List.length hl
    rw [List.length_drop, ← Lib.size_eq] at this
    simp at this
    omega
  have byte : ∀ j, j < l0.length + 1 → ∃ h : pos + j < S.size, S[pos + j] = (l0 ++ [c]).getD j 0 := by
    intro j hj
    refine ⟨by omega, ?_⟩
    have e1 : S[pos + j]'(by omega) = S.data.toList[pos + j]'(by rw [← Lib.size_eq]; omega) := byte_at S _ rfl (pos + j) (by omega) _
    have e2 : (S.data.toList.drop pos)[j]? = (l0 ++ c :: r)[j]? := by rw [hl]
    rw [List.getElem?_drop, List.getElem?_eq_getElem (by rw [← Lib.size_eq]; omega)] at e2
    rw [e1]
    have e3 : (l0 ++ c :: r)[j]? = (l0 ++ [c])[j]? := by
      by_cases hx : j < l0.length
      · rw [List.getElem?_append_left hx, List.getElem?_append_left hx]
      · obtain rfl : j = l0.length := by omega
        simp
    rw [e3] at e2
    simp only [List.getD, ← e2, Option.getD_some]
  have HB := Lib.hid byte
  have HL := Lib.hid hlen
  have HCT := Lib.hid hcont
  have HDR := Lib.hid hl
  clear byte hlen hl hcont h
  obtain ⟨t, ht⟩ : ∃ t, t = l0.length := ⟨_, rfl⟩
  have HT := Lib.hid ht
  rw [← ht] at h9
  clear ht
  go_enter Try.func63, Try.ntmps63
  go_wp2_with fail
  go_loopw [5, 6, 7] (fun vk _ _ wr => ∃ k : Nat, vk = .int .i64 k ∧ 1 ≤ k ∧ k ≤ t + 1 ∧ Rf wr g S pos false ∧ Chg g w wr) (fun vk _ _ _ => 12 - (intOf vk).toNat)
  case atStart => exact ⟨1, rfl, by omega, by omega, H.out, Chg.refl _ _⟩
  case round =>
    obtain ⟨k, rfl, hk1, hkt, hrf, hch⟩ := hrel
    have hs0 := hrf.str
    have hs1 := hrf.posn
    have hkS : pos + k ≤ S.size := by have := HL.out; have := HT.out; omega
    have e1 : decide ((k : Int) ≤ 10) = true := by simp; omega
    have e2 : IntKind.i64.wrap ((pos : Int) + k) = (pos : Int) + k := by rw [IntKind.wrap_i64]; omega
    obtain ⟨i, hi⟩ : ∃ i, i = pos + (k - 1) := ⟨_, rfl⟩
    have e3 : IntKind.i64.wrap ((pos : Int) + k - 1) = (i : Int) := by rw [IntKind.wrap_i64]; omega
    have hlt : i < S.size := by omega
    have hlt2 : (i : Int) < (S.size : Int) := by omega
    have HIX := Lib.hid hi
    clear hi
    by_cases hkt2 : k ≤ t
    · go_wp2_with fail
      go_quiet (fail)
      go_wp2_with fail
      go_quiet (fail)
      go_wp2_with fail
      · go_roundw
        case rel => exact ⟨k + 1, by go_num, by omega, by omega, hrf.drewN _, hch.drewN _⟩
        case measure => simp [intOf]; omega
      · exfalso
        have hbyte : ((S[i].toNat : Nat) : Int) < 128 := by assumption
        obtain ⟨_, hbb⟩ := HB.out (k - 1) (by have := HT.out; omega)
        have hi := HIX.out
        subst hi
        rw [hbb] at hbyte
        have hkl : k - 1 < l0.length := by have := HT.out; omega
        have hcc := HCT.out l0[k - 1] (List.getElem_mem _)
        simp only [List.getD, List.getElem?_append_left hkl, List.getElem?_eq_getElem hkl, Option.getD_some] at hbyte
        omega
    · have hkk : k = t + 1 := by omega
      have HK := Lib.hid hkk
      clear hkk
      go_wp2_with fail
      go_quiet (fail)
      go_wp2_with fail
      go_quiet (fail)
      go_wp2_with fail
      · exfalso
        have hbyte : 128 ≤ ((S[i].toNat : Nat) : Int) := by assumption
        obtain ⟨_, hbb⟩ := HB.out (k - 1) (by have := HT.out; omega)
        have hi := HIX.out
        subst hi
        rw [hbb] at hbyte
        have hkl : k - 1 = l0.length := by have := HT.out; have := HK.out; omega
        rw [hkl] at hbyte
        simp at hbyte
        omega
      · obtain ⟨wo, hwo⟩ : ∃ wo : World, wo = wr := ⟨_, rfl⟩
        go_loopw [6, 7] (fun vn vi wz => ((∃ i : Nat, i + 1 ≤ k ∧ vi = .int .i64 i ∧ vn = .int .u64 (w64 (M.low ((l0 ++ [c]).drop (i + 1))) : Nat)) ∨ (vi = .int .i64 (-1) ∧ vn = .int .u64 (w64 (M.low (l0 ++ [c])) : Nat))) ∧ Rf wz g S pos false ∧ Chg g w wz) (fun _ vi _ => (intOf vi + 1).toNat)
        case atStart =>
          refine ⟨.inl ⟨k - 1, by omega, congrArg (Value.int .i64) (by omega), ?_⟩, hrf.drewN _, hch.drewN _⟩
          have hd : (l0 ++ [c]).drop (k - 1 + 1) = [] := List.drop_eq_nil_of_le (by have := HT.out; have := HK.out; simp; omega)
          rw [hd]
          rfl
        case round =>
          obtain ⟨hrel, hrf2, hch2⟩ := hrel
          have hs02 := hrf2.str
          have hs12 := hrf2.posn
          rcases hrel with ⟨i2, hi2, rfl, rfl⟩ | ⟨rfl, rfl⟩
          · have hl2 : i2 < (l0 ++ [c]).length := by have := HT.out; have := HK.out; simp; omega
            obtain ⟨hx0, hx1⟩ := HB.out i2 (by simpa using hl2)
            have hx2 : (S[pos + i2]).toNat = ((l0 ++ [c])[i2]).toNat := by rw [hx1]; simp only [List.getD, List.getElem?_eq_getElem hl2, Option.getD_some]
            have hstep := low_drop (l0 ++ [c]) i2 hl2
            obtain ⟨bv, hbv⟩ : ∃ bv, bv = ((l0 ++ [c])[i2]).toNat := ⟨_, rfl⟩
            have hbl : bv < 256 := by rw [hbv]; exact ((l0 ++ [c])[i2]).toNat_lt
            rw [← hbv] at hx2 hstep
            obtain ⟨ix, hix0⟩ : ∃ ix, ix = pos + i2 := ⟨_, rfl⟩
            have hrun := index_run S (pos + i2) bv hx0 hx2
            rw [← hix0] at hrun
            have hadd : IntKind.i64.wrap ((pos : Int) + i2) = (ix : Int) := by rw [IntKind.wrap_i64]; omega
            obtain ⟨m, hm2⟩ : ∃ m, m = bv % 128 := ⟨_, rfl⟩
            have htm : (bv : Int).tmod 128 = (m : Int) := by rw [Int.tmod_eq_emod_of_nonneg (by omega)]; omega
            have hw1 : IntKind.u64.wrap (m : Int) = (m : Int) := by rw [IntKind.wrap_u64]; omega
            have hw2 := w64_step (M.low ((l0 ++ [c]).drop (i2 + 1))) bv
            rw [← hm2] at hstep hw2
            rw [← hstep] at hw2
            have hwi : IntKind.i64.wrap ((i2 : Int) - 1) = (i2 : Int) - 1 := by rw [IntKind.wrap_i64]; omega
            clear hx0 hx1 hx2 hbv hstep hm2 hix0 hwo hl2
            go_wp2_with fail
            go_quiet (fail)
            go_wp2_with fail
            go_roundw
            case rel =>
              refine ⟨?_, hrf2.drewN _, hch2.drewN _⟩
              rcases Nat.eq_zero_or_pos i2 with h0 | h0
              · subst h0
                exact .inr ⟨congrArg (Value.int .i64) (by omega), by rw [List.drop_zero]⟩
              · exact .inl ⟨i2 - 1, by omega, congrArg (Value.int .i64) (by omega), by rw [show i2 - 1 + 1 = i2 by omega]⟩
            case measure => first | (simp [intOf]; done) | (simp [intOf]; omega)
          · obtain ⟨N, hN⟩ : ∃ N, N = w64 (M.low (l0 ++ [c])) := ⟨_, rfl⟩
            have hNl : N < 18446744073709551616 := by rw [hN]; exact w64_lt _
            rw [← hN]
            obtain ⟨pN, hpN⟩ : ∃ pN : ByteArray, pN = ⟨(Lib.uvarint N).toArray⟩ := ⟨_, rfl⟩
            have CN : Hid (∀ w, Calls Try.prog 42 #[.int .u64 N] w fun e w' => e = .returned (.string pN) ∧ Below w.heap.size w w') := Lib.hid fun w => by rw [hpN]; exact ref_uint N hNl w
            have hkl : k = l0.length + 1 := by have := HT.out; have := HK.out; omega
            have hext : (S.extract pos (pos + k)).data.toList = l0 ++ [c] := by
              rw [Lib.extract_data, HDR.out, hkl]
              have e5 : pos + (l0.length + 1) - pos = l0.length + 1 := by omega
              rw [e5, take_one_more l0 c r]
            have heqv : (pN.toList == (S.extract pos (pos + k)).toList) = true ↔ M.IsNum l0 c := by
              rw [beq_iff_eq, Lib.toList_data, Lib.toList_data, hext, hpN]
              show Lib.uvarint N = l0 ++ [c] ↔ _
              constructor
              · intro h
                obtain ⟨m0, d, e6, hm0, _⟩ := M.isNum_of N hNl
                rw [e6] at h
                obtain ⟨rfl, rfl, _⟩ := M.parts_unique (r := []) (t := []) hm0.cont hm0.last HCT.out hc h
                exact hm0
              · intro h
                have e7 : N = M.low (l0 ++ [c]) := by rw [hN]; exact Nat.mod_eq_of_lt h.lt
                rw [e7]
                exact h.put
            have hNeq : M.IsNum l0 c → N = M.low (l0 ++ [c]) := fun h => by rw [hN]; exact Nat.mod_eq_of_lt h.lt
            have HEQ := Lib.hid heqv
            have HNE := Lib.hid hNeq
            have HNL := Lib.hid hNl
            have HKL := Lib.hid hkl
            clear hpN hext heqv hNeq hN hNl hkl e3 hrf hch hs0 hs1 hwo HIX e1 hs02 hs12
            have HRF := Lib.hid hrf2
            have HCH := Lib.hid hch2
            clear hrf2 hch2
            by_cases hin : M.IsNum l0 c
            · have heq : (pN.toList == (S.extract pos (pos + k)).toList) = true := HEQ.out.2 hin
              have HIN := Lib.hid hin
              clear hin
              go_upto_region 12 with fail
              refine wp_region_flow (by kernel_rfl) (fun w' => Rf w' g S pos false ∧ Chg g w w') (fun _ _ _ => True) (fun j v _ => V12 g N pos k most S pN j v) (fun j => j == 22) (by kernel_rfl) (by kernel_rfl) (fun _ _ _ _ _ _ _ _ h _ _ => h) ⟨HRF.out.drewN 1, HCH.out.drewN 1⟩ ?step ?fin
              case step =>
                refine ⟨?_, ?_, ?_, ?_, ?_, ?_, ?_, ?_, ?_, ?_, ?_, ?_, ?_, ?_, ?_, ?_, ?_, ?_, ?_, ?_, ?_, ?_, ?_, trivial⟩
                · intro ys A W hA hI hd K hK
                  have e6 : A.tmps.getD 6 undef = .int .u64 N := hA 6 (Nat.le_of_ble_eq_true rfl)
                  refine step_run (.inl rfl) ?_
                  clear hA hd
                  go_simp
                  exact hK _ _ hI trivial rfl
                · intro ys A W hA hI hd K hK
                  have e65 : A.tmps.getD 65 undef = .int .u64 N := (hA 65 (Nat.le_of_ble_eq_true rfl)).trans (hd ⟨0, .data⟩ (by simp) rfl)
                  refine step_run (.inl rfl) ?_
                  clear hA hd
                  go_simp
                  refine (CN.out _).mono ?_
                  rintro e w' ⟨rfl, hb⟩
                  exact hK _ _ ⟨hI.1.below hb hI.1.lt, hI.2.trans (Below.chg hb)⟩ trivial rfl
                · intro ys A W hA hI hd K hK
                  have e0 : A.tmps.getD 0 undef = .pointer (some ⟨g, 0, none⟩) := hA 0 (Nat.le_of_ble_eq_true rfl)
                  refine step_run (.inl rfl) ?_
                  clear hA hd
                  go_simp
                  exact hK _ _ hI trivial rfl
                · intro ys A W hA hI hd K hK
                  have e67 : A.tmps.getD 67 undef = .pointer (some ⟨g, 0, none⟩) := (hA 67 (Nat.le_of_ble_eq_true rfl)).trans (hd ⟨2, .data⟩ (by simp) rfl)
                  refine step_run (.inl rfl) ?_
                  clear hA hd
                  go_simp
                  exact hK _ _ hI trivial rfl
                · intro ys A W hA hI hd K hK
                  have e68 : A.tmps.getD 68 undef = .pointer (some ⟨g, 0, none⟩) := (hA 68 (Nat.le_of_ble_eq_true rfl)).trans (hd ⟨3, .data⟩ (by simp) rfl)
                  refine step_run (.inl rfl) ?_
                  clear hA hd
                  go_simp
                  exact hK _ _ hI trivial rfl
                · intro ys A W hA hI hd K hK
                  have e69 : A.tmps.getD 69 undef = .pointer (some ⟨g, 0, none⟩) := (hA 69 (Nat.le_of_ble_eq_true rfl)).trans (hd ⟨4, .data⟩ (by simp) rfl)
                  refine step_run (.inl rfl) ?_
                  clear hA hd
                  have hs := hI.1.str
                  go_simp
                  exact hK _ _ hI trivial rfl
                · intro ys A W hA hI hd K hK
                  have e0 : A.tmps.getD 0 undef = .pointer (some ⟨g, 0, none⟩) := hA 0 (Nat.le_of_ble_eq_true rfl)
                  refine step_run (.inl rfl) ?_
                  clear hA hd
                  go_simp
                  exact hK _ _ hI trivial rfl
                · intro ys A W hA hI hd K hK
                  have e71 : A.tmps.getD 71 undef = .pointer (some ⟨g, 0, none⟩) := (hA 71 (Nat.le_of_ble_eq_true rfl)).trans (hd ⟨6, .data⟩ (by simp) rfl)
                  refine step_run (.inl rfl) ?_
                  clear hA hd
                  go_simp
                  exact hK _ _ hI trivial rfl
                · intro ys A W hA hI hd K hK
                  have e72 : A.tmps.getD 72 undef = .pointer (some ⟨g, 0, none⟩) := (hA 72 (Nat.le_of_ble_eq_true rfl)).trans (hd ⟨7, .data⟩ (by simp) rfl)
                  refine step_run (.inl rfl) ?_
                  clear hA hd
                  go_simp
                  exact hK _ _ hI trivial rfl
                · intro ys A W hA hI hd K hK
                  have e73 : A.tmps.getD 73 undef = .pointer (some ⟨g, 1, none⟩) := (hA 73 (Nat.le_of_ble_eq_true rfl)).trans (hd ⟨8, .data⟩ (by simp) rfl)
                  refine step_run (.inl rfl) ?_
                  clear hA hd
                  have hs := hI.1.posn
                  go_simp
                  exact hK _ _ hI trivial rfl
                · intro ys A W hA hI hd K hK
                  have e0 : A.tmps.getD 0 undef = .pointer (some ⟨g, 0, none⟩) := hA 0 (Nat.le_of_ble_eq_true rfl)
                  refine step_run (.inl rfl) ?_
                  clear hA hd
                  go_simp
                  exact hK _ _ hI trivial rfl
                · intro ys A W hA hI hd K hK
                  have e75 : A.tmps.getD 75 undef = .pointer (some ⟨g, 0, none⟩) := (hA 75 (Nat.le_of_ble_eq_true rfl)).trans (hd ⟨10, .data⟩ (by simp) rfl)
                  refine step_run (.inl rfl) ?_
                  clear hA hd
                  go_simp
                  exact hK _ _ hI trivial rfl
                · intro ys A W hA hI hd K hK
                  have e76 : A.tmps.getD 76 undef = .pointer (some ⟨g, 0, none⟩) := (hA 76 (Nat.le_of_ble_eq_true rfl)).trans (hd ⟨11, .data⟩ (by simp) rfl)
                  refine step_run (.inl rfl) ?_
                  clear hA hd
                  go_simp
                  exact hK _ _ hI trivial rfl
                · intro ys A W hA hI hd K hK
                  have e77 : A.tmps.getD 77 undef = .pointer (some ⟨g, 1, none⟩) := (hA 77 (Nat.le_of_ble_eq_true rfl)).trans (hd ⟨12, .data⟩ (by simp) rfl)
                  refine step_run (.inl rfl) ?_
                  clear hA hd
                  have hs := hI.1.posn
                  go_simp
                  exact hK _ _ hI trivial rfl
                · intro ys A W hA hI hd K hK
                  have e5 : A.tmps.getD 5 undef = .int .i64 k := hA 5 (Nat.le_of_ble_eq_true rfl)
                  refine step_run (.inl rfl) ?_
                  clear hA hd
                  go_simp
                  exact hK _ _ hI trivial rfl
                · intro ys A W hA hI hd K hK
                  have e78 : A.tmps.getD 78 undef = .int .i64 pos := (hA 78 (Nat.le_of_ble_eq_true rfl)).trans (hd ⟨13, .data⟩ (by simp) rfl)
                  have e79 : A.tmps.getD 79 undef = .int .i64 k := (hA 79 (Nat.le_of_ble_eq_true rfl)).trans (hd ⟨14, .data⟩ (by simp) rfl)
                  refine step_run (.inl rfl) ?_
                  clear hA hd
                  go_simp
                  exact hK _ _ hI trivial rfl
                · intro ys A W hA hI hd K hK
                  have e70 : A.tmps.getD 70 undef = .string S := (hA 70 (Nat.le_of_ble_eq_true rfl)).trans (hd ⟨5, .data⟩ (by simp) rfl)
                  have e74 : A.tmps.getD 74 undef = .int .i64 pos := (hA 74 (Nat.le_of_ble_eq_true rfl)).trans (hd ⟨9, .data⟩ (by simp) rfl)
                  have e80 : A.tmps.getD 80 undef = .int .i64 ((pos : Int) + k) := (hA 80 (Nat.le_of_ble_eq_true rfl)).trans (hd ⟨15, .data⟩ (by simp) rfl)
                  refine step_run (.inl rfl) ?_
                  clear hA hd
                  have hp1 : (0 : Int) ≤ (pos : Int) + k := by omega
                  have hp2 : (pos : Int) ≤ (pos : Int) + k := by omega
                  have hp3 : ((pos : Int) + k).toNat = pos + k := by omega
                  go_simp
                  exact hK _ _ hI trivial rfl
                · intro ys A W hA hI hd K hK
                  have e66 : A.tmps.getD 66 undef = .string pN := (hA 66 (Nat.le_of_ble_eq_true rfl)).trans (hd ⟨1, .data⟩ (by simp) rfl)
                  have e81 : A.tmps.getD 81 undef = .string (S.extract pos (pos + k)) := (hA 81 (Nat.le_of_ble_eq_true rfl)).trans (hd ⟨16, .data⟩ (by simp) rfl)
                  refine step_run (.inl rfl) ?_
                  clear hA hd
                  go_simp
                  exact hK _ _ hI trivial rfl
                · intro ys A W hA hI hd K hK
                  have e82 : A.tmps.getD 82 undef = .bool true := (hA 82 (Nat.le_of_ble_eq_true rfl)).trans (hd ⟨17, .data⟩ (by simp) rfl)
                  refine step_run (.inl rfl) ?_
                  clear hA hd
                  go_simp
                  exact hK _ _ hI trivial rfl
                · intro ys A W hA hI hd K hK
                  have e6 : A.tmps.getD 6 undef = .int .u64 N := hA 6 (Nat.le_of_ble_eq_true rfl)
                  refine step_run (.inr ⟨18, 83, true, rfl, rfl, (hA 83 (Nat.le_of_ble_eq_true rfl)).trans (hd ⟨18, .guard⟩ (by simp) rfl)⟩) ?_
                  clear hA hd
                  go_simp
                  exact hK _ _ hI trivial rfl
                · intro ys A W hA hI hd K hK
                  have e1 : A.tmps.getD 1 undef = .int .u64 most := hA 1 (Nat.le_of_ble_eq_true rfl)
                  refine step_run (.inr ⟨18, 83, true, rfl, rfl, (hA 83 (Nat.le_of_ble_eq_true rfl)).trans (hd ⟨18, .guard⟩ (by simp) rfl)⟩) ?_
                  clear hA hd
                  go_simp
                  exact hK _ _ hI trivial rfl
                · intro ys A W hA hI hd K hK
                  have e84 : A.tmps.getD 84 undef = .int .u64 N := (hA 84 (Nat.le_of_ble_eq_true rfl)).trans (hd ⟨19, .data⟩ (by simp) rfl)
                  have e85 : A.tmps.getD 85 undef = .int .u64 most := (hA 85 (Nat.le_of_ble_eq_true rfl)).trans (hd ⟨20, .data⟩ (by simp) rfl)
                  refine step_run (.inr ⟨18, 83, true, rfl, rfl, (hA 83 (Nat.le_of_ble_eq_true rfl)).trans (hd ⟨18, .guard⟩ (by simp) rfl)⟩) ?_
                  clear hA hd
                  go_simp
                  exact hK _ _ hI trivial rfl
                · intro ys A W hA hI hd K hK
                  have e83 : A.tmps.getD 83 undef = .bool true := (hA 83 (Nat.le_of_ble_eq_true rfl)).trans (hd ⟨18, .data⟩ (by simp) rfl)
                  have e86 : A.tmps.getD 86 undef = .bool (decide (N ≤ most)) := (hA 86 (Nat.le_of_ble_eq_true rfl)).trans (hd ⟨21, .data⟩ (by simp) rfl)
                  refine step_run (.inl rfl) ?_
                  clear hA hd
                  go_simp
                  exact hK _ _ hI trivial rfl
              case fin =>
                intro ys wz hI hF
                have h22 : ys 22 = .bool (decide (N ≤ most)) := hF 22 (by decide) rfl
                have HI := Lib.hid hI
                have hz0 := hI.1.str
                have hz1 := hI.1.posn
                have hz2 := hI.1.isBad
                have hz3 := hI.1.f1
                have hz4 := hI.1.f2
                simp only [putsFrom]
                by_cases hle : N ≤ most
                · rw [decide_eq_true hle] at h22
                  clear hF hI
                  simp only [h22, Act.put, List.setIfInBounds_toArray, List.set_cons_succ, List.set_cons_zero]
                  go_wp2_with fail
                  go_ret
                  refine ⟨HI.out.2.trans (Chg.setCell g 1 _ _), .inl ⟨HIN.out, by rw [← HNE.out HIN.out]; exact hle, by rw [← HNE.out HIN.out]; rfl, ?_⟩⟩
                  rw [← HKL.out]
                  have hfin := HI.out.1.setPos (pos + k)
                  rw [Int.natCast_add] at hfin
                  exact hfin
                · rw [decide_eq_false hle] at h22
                  clear hF hI
                  simp only [h22, Act.put, List.setIfInBounds_toArray, List.set_cons_succ, List.set_cons_zero]
                  go_wp2_with fail
                  go_ret
                  exact ⟨HI.out.2.trans (Chg.setCell g 2 _ _), .inr ⟨fun h => hle (by rw [HNE.out h.1]; exact h.2), rfl, pos, HI.out.1.setBad true⟩⟩
            · have heq : (pN.toList == (S.extract pos (pos + k)).toList) = false := by
                cases hx : (pN.toList == (S.extract pos (pos + k)).toList) with
                | false => rfl
                | true => exact absurd (HEQ.out.1 hx) hin
              have HIN := Lib.hid hin
              clear hin
              go_upto_region 12 with fail
              refine wp_region_flow (by kernel_rfl) (fun w' => Rf w' g S pos false ∧ Chg g w w') (fun _ _ _ => True) (fun j v _ => V12n g N pos k S pN j v) (fun j => j == 22) (by kernel_rfl) (by kernel_rfl) (fun _ _ _ _ _ _ _ _ h _ _ => h) ⟨HRF.out.drewN 1, HCH.out.drewN 1⟩ ?step ?fin
              case step =>
                refine ⟨?_, ?_, ?_, ?_, ?_, ?_, ?_, ?_, ?_, ?_, ?_, ?_, ?_, ?_, ?_, ?_, ?_, ?_, ?_, ?_, ?_, ?_, ?_, trivial⟩
                · intro ys A W hA hI hd K hK
                  have e6 : A.tmps.getD 6 undef = .int .u64 N := hA 6 (Nat.le_of_ble_eq_true rfl)
                  refine step_run (.inl rfl) ?_
                  clear hA hd
                  go_simp
                  exact hK _ _ hI trivial rfl
                · intro ys A W hA hI hd K hK
                  have e65 : A.tmps.getD 65 undef = .int .u64 N := (hA 65 (Nat.le_of_ble_eq_true rfl)).trans (hd ⟨0, .data⟩ (by simp) rfl)
                  refine step_run (.inl rfl) ?_
                  clear hA hd
                  go_simp
                  refine (CN.out _).mono ?_
                  rintro e w' ⟨rfl, hb⟩
                  exact hK _ _ ⟨hI.1.below hb hI.1.lt, hI.2.trans (Below.chg hb)⟩ trivial rfl
                · intro ys A W hA hI hd K hK
                  have e0 : A.tmps.getD 0 undef = .pointer (some ⟨g, 0, none⟩) := hA 0 (Nat.le_of_ble_eq_true rfl)
                  refine step_run (.inl rfl) ?_
                  clear hA hd
                  go_simp
                  exact hK _ _ hI trivial rfl
                · intro ys A W hA hI hd K hK
                  have e67 : A.tmps.getD 67 undef = .pointer (some ⟨g, 0, none⟩) := (hA 67 (Nat.le_of_ble_eq_true rfl)).trans (hd ⟨2, .data⟩ (by simp) rfl)
                  refine step_run (.inl rfl) ?_
                  clear hA hd
                  go_simp
                  exact hK _ _ hI trivial rfl
                · intro ys A W hA hI hd K hK
                  have e68 : A.tmps.getD 68 undef = .pointer (some ⟨g, 0, none⟩) := (hA 68 (Nat.le_of_ble_eq_true rfl)).trans (hd ⟨3, .data⟩ (by simp) rfl)
                  refine step_run (.inl rfl) ?_
                  clear hA hd
                  go_simp
                  exact hK _ _ hI trivial rfl
                · intro ys A W hA hI hd K hK
                  have e69 : A.tmps.getD 69 undef = .pointer (some ⟨g, 0, none⟩) := (hA 69 (Nat.le_of_ble_eq_true rfl)).trans (hd ⟨4, .data⟩ (by simp) rfl)
                  refine step_run (.inl rfl) ?_
                  clear hA hd
                  have hs := hI.1.str
                  go_simp
                  exact hK _ _ hI trivial rfl
                · intro ys A W hA hI hd K hK
                  have e0 : A.tmps.getD 0 undef = .pointer (some ⟨g, 0, none⟩) := hA 0 (Nat.le_of_ble_eq_true rfl)
                  refine step_run (.inl rfl) ?_
                  clear hA hd
                  go_simp
                  exact hK _ _ hI trivial rfl
                · intro ys A W hA hI hd K hK
                  have e71 : A.tmps.getD 71 undef = .pointer (some ⟨g, 0, none⟩) := (hA 71 (Nat.le_of_ble_eq_true rfl)).trans (hd ⟨6, .data⟩ (by simp) rfl)
                  refine step_run (.inl rfl) ?_
                  clear hA hd
                  go_simp
                  exact hK _ _ hI trivial rfl
                · intro ys A W hA hI hd K hK
                  have e72 : A.tmps.getD 72 undef = .pointer (some ⟨g, 0, none⟩) := (hA 72 (Nat.le_of_ble_eq_true rfl)).trans (hd ⟨7, .data⟩ (by simp) rfl)
                  refine step_run (.inl rfl) ?_
                  clear hA hd
                  go_simp
                  exact hK _ _ hI trivial rfl
                · intro ys A W hA hI hd K hK
                  have e73 : A.tmps.getD 73 undef = .pointer (some ⟨g, 1, none⟩) := (hA 73 (Nat.le_of_ble_eq_true rfl)).trans (hd ⟨8, .data⟩ (by simp) rfl)
                  refine step_run (.inl rfl) ?_
                  clear hA hd
                  have hs := hI.1.posn
                  go_simp
                  exact hK _ _ hI trivial rfl
                · intro ys A W hA hI hd K hK
                  have e0 : A.tmps.getD 0 undef = .pointer (some ⟨g, 0, none⟩) := hA 0 (Nat.le_of_ble_eq_true rfl)
                  refine step_run (.inl rfl) ?_
                  clear hA hd
                  go_simp
                  exact hK _ _ hI trivial rfl
                · intro ys A W hA hI hd K hK
                  have e75 : A.tmps.getD 75 undef = .pointer (some ⟨g, 0, none⟩) := (hA 75 (Nat.le_of_ble_eq_true rfl)).trans (hd ⟨10, .data⟩ (by simp) rfl)
                  refine step_run (.inl rfl) ?_
                  clear hA hd
                  go_simp
                  exact hK _ _ hI trivial rfl
                · intro ys A W hA hI hd K hK
                  have e76 : A.tmps.getD 76 undef = .pointer (some ⟨g, 0, none⟩) := (hA 76 (Nat.le_of_ble_eq_true rfl)).trans (hd ⟨11, .data⟩ (by simp) rfl)
                  refine step_run (.inl rfl) ?_
                  clear hA hd
                  go_simp
                  exact hK _ _ hI trivial rfl
                · intro ys A W hA hI hd K hK
                  have e77 : A.tmps.getD 77 undef = .pointer (some ⟨g, 1, none⟩) := (hA 77 (Nat.le_of_ble_eq_true rfl)).trans (hd ⟨12, .data⟩ (by simp) rfl)
                  refine step_run (.inl rfl) ?_
                  clear hA hd
                  have hs := hI.1.posn
                  go_simp
                  exact hK _ _ hI trivial rfl
                · intro ys A W hA hI hd K hK
                  have e5 : A.tmps.getD 5 undef = .int .i64 k := hA 5 (Nat.le_of_ble_eq_true rfl)
                  refine step_run (.inl rfl) ?_
                  clear hA hd
                  go_simp
                  exact hK _ _ hI trivial rfl
                · intro ys A W hA hI hd K hK
                  have e78 : A.tmps.getD 78 undef = .int .i64 pos := (hA 78 (Nat.le_of_ble_eq_true rfl)).trans (hd ⟨13, .data⟩ (by simp) rfl)
                  have e79 : A.tmps.getD 79 undef = .int .i64 k := (hA 79 (Nat.le_of_ble_eq_true rfl)).trans (hd ⟨14, .data⟩ (by simp) rfl)
                  refine step_run (.inl rfl) ?_
                  clear hA hd
                  go_simp
                  exact hK _ _ hI trivial rfl
                · intro ys A W hA hI hd K hK
                  have e70 : A.tmps.getD 70 undef = .string S := (hA 70 (Nat.le_of_ble_eq_true rfl)).trans (hd ⟨5, .data⟩ (by simp) rfl)
                  have e74 : A.tmps.getD 74 undef = .int .i64 pos := (hA 74 (Nat.le_of_ble_eq_true rfl)).trans (hd ⟨9, .data⟩ (by simp) rfl)
                  have e80 : A.tmps.getD 80 undef = .int .i64 ((pos : Int) + k) := (hA 80 (Nat.le_of_ble_eq_true rfl)).trans (hd ⟨15, .data⟩ (by simp) rfl)
                  refine step_run (.inl rfl) ?_
                  clear hA hd
                  have hp1 : (0 : Int) ≤ (pos : Int) + k := by omega
                  have hp2 : (pos : Int) ≤ (pos : Int) + k := by omega
                  have hp3 : ((pos : Int) + k).toNat = pos + k := by omega
                  go_simp
                  exact hK _ _ hI trivial rfl
                · intro ys A W hA hI hd K hK
                  have e66 : A.tmps.getD 66 undef = .string pN := (hA 66 (Nat.le_of_ble_eq_true rfl)).trans (hd ⟨1, .data⟩ (by simp) rfl)
                  have e81 : A.tmps.getD 81 undef = .string (S.extract pos (pos + k)) := (hA 81 (Nat.le_of_ble_eq_true rfl)).trans (hd ⟨16, .data⟩ (by simp) rfl)
                  refine step_run (.inl rfl) ?_
                  clear hA hd
                  go_simp
                  exact hK _ _ hI trivial rfl
                · intro ys A W hA hI hd K hK
                  have e82 : A.tmps.getD 82 undef = .bool false := (hA 82 (Nat.le_of_ble_eq_true rfl)).trans (hd ⟨17, .data⟩ (by simp) rfl)
                  refine step_run (.inl rfl) ?_
                  clear hA hd
                  go_simp
                  exact hK _ _ hI trivial rfl
                · intro ys A W hA hI hd K hK
                  exact step_skip ⟨18, 83, false, rfl, rfl, (hA 83 (Nat.le_of_ble_eq_true rfl)).trans (hd ⟨18, .guard⟩ (by simp) rfl)⟩ (hK _ _ hI trivial trivial)
                · intro ys A W hA hI hd K hK
                  exact step_skip ⟨18, 83, false, rfl, rfl, (hA 83 (Nat.le_of_ble_eq_true rfl)).trans (hd ⟨18, .guard⟩ (by simp) rfl)⟩ (hK _ _ hI trivial trivial)
                · intro ys A W hA hI hd K hK
                  exact step_skip ⟨18, 83, false, rfl, rfl, (hA 83 (Nat.le_of_ble_eq_true rfl)).trans (hd ⟨18, .guard⟩ (by simp) rfl)⟩ (hK _ _ hI trivial trivial)
                · intro ys A W hA hI hd K hK
                  have e83 : A.tmps.getD 83 undef = .bool false := (hA 83 (Nat.le_of_ble_eq_true rfl)).trans (hd ⟨18, .data⟩ (by simp) rfl)
                  refine step_run (.inl rfl) ?_
                  clear hA hd
                  go_simp
                  exact hK _ _ hI trivial rfl
              case fin =>
                intro ys wz hI hF
                have h22 : ys 22 = .bool false := hF 22 (by decide) rfl
                have HI := Lib.hid hI
                have hz0 := hI.1.str
                have hz1 := hI.1.posn
                have hz2 := hI.1.isBad
                have hz3 := hI.1.f1
                have hz4 := hI.1.f2
                simp only [putsFrom]
                clear hF hI
                simp only [h22, Act.put, List.setIfInBounds_toArray, List.set_cons_succ, List.set_cons_zero]
                go_wp2_with fail
                go_ret
                exact ⟨HI.out.2.trans (Chg.setCell g 2 _ _), .inr ⟨fun h => HIN.out h.1, rfl, pos, HI.out.1.setBad true⟩⟩

end Go.Proofs.Ytgcldnojmdabpaa
