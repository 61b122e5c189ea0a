/-
  THE DOCUMENT'S OWN stands, piece: DOES A TEXT STAND IN A LINE, OR BETWEEN ITS BLANKS?
-/
import Derived.Test.YtidjodplimkmgaaGreatDoorCf9
namespace Go.Proofs.YtidjodplimkmgaaGreatDoor
open Go.RowKit Go

theorem idx_run (S : ByteArray) (ix bv : Nat) (hx : ix < S.size) (hb : S[ix].toNat = bv) (w : World) : (Instr.index 9 (.string S) (.int .i64 (ix : Int))).run Tryz.prog w = .ok (.int .u8 (bv : Int)) w := by
  have h : 0 ≤ (ix : Int) ∧ (ix : Int) < S.size := ⟨by omega, by omega⟩
  have e := run_index_string (P := Tryz.prog) (w := w) 9 S .i64 ix Tryz.underlying9
  rw [dif_pos h] at e
  subst hb
  exact e

theorem byte_drop (s : ByteArray) (k : Nat) (h : k < s.size) : s.data.toList.drop k = s[k] :: s.data.toList.drop (k + 1) := by
  have hl : k < s.data.toList.length := by rw [← Lib.size_eq]; exact h
  rw [List.drop_eq_getElem_cons hl]
  rfl

theorem extract_list (s : ByteArray) (a b : Nat) : (s.extract a b).data.toList = (s.data.toList.drop a).take (b - a) := by
  rw [ByteArray.data_extract, Array.toList_extract, List.extract_eq_take_drop]

theorem occ_extract (s t : ByteArray) (i : Nat) : Lib.occAt s.data.toList t.data.toList i = decide (s.extract i (i + t.size) = t) := by
  unfold Lib.occAt
  have hn : t.data.toList.length = t.size := Array.length_toList
  rw [Bool.eq_iff_iff, List.isPrefixOf_iff_prefix, decide_eq_true_iff, List.prefix_iff_eq_take, hn]
  have he := extract_list s i (i + t.size)
  rw [Nat.add_sub_cancel_left] at he
  rw [← he]
  exact ⟨fun h => ByteArray.ext (Array.toList_inj.1 h.symm), fun h => by rw [h]⟩

theorem no_room {s t : List UInt8} {i : Nat} (h : s.length < i + t.length) (ht : 0 < t.length) : Lib.occAt s t i = false := by
  rw [Bool.eq_false_iff]
  intro ho
  rcases Lib.occAt_room ho with h' | h'
  · omega
  · subst h'
    simp at ht

theorem contains_hit {s sub : List UInt8} {i : Nat} (hi : i ≤ s.length) (h : Lib.occAt s sub i = true) : Lib.contains s sub = true := by
  unfold Lib.contains
  rw [decide_eq_true_eq]
  rcases Lib.index_spec s sub with ⟨h1, h2⟩ | ⟨i, h1, _⟩
  · rw [h2 i hi] at h; cases h
  · omega

theorem contains_miss {s sub : List UInt8} (h : ∀ j, j ≤ s.length → Lib.occAt s sub j = false) : Lib.contains s sub = false := by
  unfold Lib.contains
  rw [decide_eq_false_iff_not]
  rcases Lib.index_spec s sub with ⟨h1, h2⟩ | ⟨i, h1, h2, h3, _⟩
  · omega
  · rw [h i h2] at h3; cases h3

set_option maxHeartbeats 2000000 in
set_option maxRecDepth 100000 in
theorem refStands_any (s t : ByteArray) (hs : s.size ≤ 100000) (ht : t.size ≤ 100000) (w : World) :
    Calls Tryz.prog 41 #[.string s, .string t] w fun e w' => e = .returned (.bool (Lib.contains s.data.toList t.data.toList)) ∧ Below w.heap.size w w' := by
  have hls : s.data.toList.length = s.size := Array.length_toList
  have hlt : t.data.toList.length = t.size := Array.length_toList
  obtain ⟨b, hb⟩ : ∃ b, b = Lib.contains s.data.toList t.data.toList := ⟨_, rfl⟩
  rw [← hb]
  have HLS := Lib.hid hls
  have HLT := Lib.hid hlt
  have HB := Lib.hid hb
  clear hls hlt hb
  go_enter Tryz.func41, Tryz.ntmps41
  go_wp2_with fail
  go_loopw [5] (fun vi wr => ∃ i : Nat, vi = .int .i64 i ∧ i ≤ s.size + 1 ∧ (∀ j, j < i → Lib.occAt s.data.toList t.data.toList j = false) ∧ wr = w) (fun vi _ => s.size + 1 - (intOf vi).toNat)
  case atStart => exact ⟨0, rfl, Nat.zero_le _, fun j hj => absurd hj (Nat.not_lt_zero _), rfl⟩
  case round =>
    obtain ⟨i, rfl, hi, hn, rfl⟩ := hrel
    have HN := Lib.hid hn
    clear hn
    by_cases hr : i + t.size ≤ s.size
    · have d0 : decide ((i : Int) + (t.size : Int) ≤ (s.size : Int)) = true := by simp; omega
      by_cases he : s.extract i (i + t.size) = t
      · have hq := H3.bytes_eq he
        have HR : Hid (b = true) := Lib.hid (by rw [HB.out]; exact contains_hit (i := i) (by rw [HLS.out]; omega) (by rw [occ_extract, decide_eq_true he]))
        clear he
        go_wp2_with fail
        go_ret
        exact ⟨by rw [HR.out]; rfl, Below.refl _ _⟩
      · have hq := H3.bytes_ne he
        have HO : Hid (Lib.occAt s.data.toList t.data.toList i = false) := Lib.hid (by rw [occ_extract, decide_eq_false he])
        clear he
        go_wp2_with fail
        go_roundw
        case rel =>
          refine ⟨i + 1, by go_num, by omega, fun j hj => ?_, by first | rfl | trivial⟩
          by_cases e : j = i
          · rw [e]; exact HO.out
          · exact HN.out j (by omega)
        case measure => simp [intOf] <;> omega
    · have d0 : decide ((i : Int) + (t.size : Int) ≤ (s.size : Int)) = false := by simp; omega
      have HR : Hid (b = false) := Lib.hid (by
        rw [HB.out]
        refine contains_miss fun j hj => ?_
        by_cases e : j < i
        · exact HN.out j e
        · rw [HLS.out] at hj
          exact no_room (by rw [HLS.out, HLT.out]; omega) (by rw [HLT.out]; omega))
      go_wp2_with fail
      go_ret
      exact ⟨by rw [HR.out]; rfl, Below.refl _ _⟩

/-- What is left of a line at a place. -/
theorem drop_at (s : ByteArray) (i : Nat) (h : i < s.size) : s.data.toList.drop i = s[i] :: s.data.toList.drop (i + 1) := byte_drop s i h

theorem extract_snoc (s : ByteArray) (a i : Nat) (ha : a ≤ i) (h : i < s.size) : (s.extract a (i + 1)).data.toList = (s.extract a i).data.toList ++ [s[i]] := by
  have hls : s.data.toList.length = s.size := Array.length_toList
  rw [extract_list, extract_list, show i + 1 - a = (i - a) + 1 by omega, List.take_add_one]
  congr 1
  rw [List.getElem?_drop, show a + (i - a) = i by omega]
  rw [List.getElem?_eq_getElem (by rw [hls]; exact h)]
  rfl

set_option maxHeartbeats 2000000 in
set_option maxRecDepth 100000 in
theorem refPiece_any (s t : ByteArray) (hs : s.size ≤ 100000) (w : World) :
    Calls Tryz.prog 42 #[.string s, .string t] w fun e w' => e = .returned (.bool (hasPiece s t)) ∧ Below w.heap.size w w' := by
  have hls : s.data.toList.length = s.size := Array.length_toList
  obtain ⟨b, hb⟩ : ∃ b, b = hasPiece s t := ⟨_, rfl⟩
  rw [← hb]
  have HB := Lib.hid hb
  have HLS := Lib.hid hls
  have hx : ∀ X : ByteArray, decide (X.data.toList = t.data.toList) = decide (X = t) := fun X => by
    rw [Bool.eq_iff_iff, decide_eq_true_iff, decide_eq_true_iff]
    exact ⟨fun h => ByteArray.ext (Array.toList_inj.1 h), fun h => by rw [h]⟩
  have HX := Lib.hid hx
  clear hb hls hx
  go_enter Tryz.func42, Tryz.ntmps42
  go_wp2_with fail
  go_loopw [5, 6] (fun vf vi wr => ∃ f i : Nat, vf = .int .i64 f ∧ vi = .int .i64 i ∧ f ≤ i ∧ i ≤ s.size + 1 ∧ (i ≤ s.size → ((pcs (s.extract f i).data.toList (s.data.toList.drop i)).any fun p => decide (p = t.data.toList)) = b) ∧ (i = s.size + 1 → b = false) ∧ wr = w) (fun _ vi _ => s.size + 1 - (intOf vi).toNat)
  case atStart => exact ⟨0, 0, rfl, rfl, Nat.le_refl _, Nat.zero_le _, fun _ => by rw [HB.out]; unfold hasPiece; rw [extract_list]; simp, fun h => by omega, by first | rfl | trivial⟩
  case round =>
    obtain ⟨f, i, rfl, rfl, hfi, hi, h1, h2, rfl⟩ := hrel
    have H1 := Lib.hid h1
    have H2 := Lib.hid h2
    clear h1 h2
    by_cases hlt : i < s.size
    · have d0 : decide ((i : Int) ≤ (s.size : Int)) = true := by simp; omega
      have d1 : ((i : Int) == (s.size : Int)) = false := by rw [beq_eq_false_iff_ne]; omega
      have hix := idx_run s i s[i].toNat hlt rfl wr
      by_cases hc : s[i].toNat = 32
      · have hc0 : s[i] = 32 := by rw [← UInt8.toNat_inj]; exact hc
        have hE := H1.out (by omega)
        rw [drop_at s i hlt, hc0, pcs_blank, List.any_cons, HX.out] at hE
        have HE := Lib.hid hE
        have HS : Hid ((s.extract (i + 1) (i + 1)).data.toList = []) := Lib.hid (by rw [extract_list]; simp)
        clear hE
        rw [hc] at hix
        clear hc hc0
        by_cases hq0 : s.extract f i = t
        · have hq := H3.bytes_eq hq0
          have HR : Hid (b = true) := Lib.hid (by rw [← HE.out, decide_eq_true hq0, Bool.true_or])
          clear hq0
          go_wp2_with fail
          go_ret
          exact ⟨by rw [HR.out]; rfl, Below.refl _ _⟩
        · have hq := H3.bytes_ne hq0
          have HR := Lib.hid HE.out
          rw [decide_eq_false hq0, Bool.false_or] at HR
          clear hq0
          go_wp2_with fail
          go_roundw
          case rel => exact ⟨i + 1, i + 1, by go_num, by go_num, Nat.le_refl _, by omega, fun _ => by rw [HS.out]; exact HR.out, fun h => by omega, by first | rfl | trivial⟩
          case measure => simp [intOf] <;> omega
      · have hcn : s[i] ≠ 32 := fun e => hc (by rw [e]; rfl)
        have hE := H1.out (by omega)
        rw [drop_at s i hlt, pcs_other _ _ hcn, ← extract_snoc s f i hfi hlt] at hE
        have HE := Lib.hid hE
        have hd32 : (((s[i].toNat : Nat) : Int) == 32) = false := by rw [beq_eq_false_iff_ne]; omega
        clear hE hcn
        generalize s[i].toNat = c at hix hc hd32
        go_wp2_with fail
        go_roundw
        case rel => exact ⟨f, i + 1, rfl, by go_num, by omega, by omega, fun _ => HE.out, fun h => by omega, by first | rfl | trivial⟩
        case measure => simp [intOf] <;> omega
    · by_cases hle : i = s.size
      · subst hle
        have d0 : decide ((s.size : Int) ≤ (s.size : Int)) = true := by simp
        have d1 : ((s.size : Int) == (s.size : Int)) = true := by simp
        have hE := H1.out (Nat.le_refl _)
        rw [List.drop_of_length_le (Nat.le_of_eq HLS.out), pcs, List.any_cons, List.any_nil, Bool.or_false, HX.out] at hE
        have HE := Lib.hid hE
        clear hE
        by_cases hq0 : s.extract f s.size = t
        · have hq := H3.bytes_eq hq0
          have HR : Hid (b = true) := Lib.hid (by rw [← HE.out, decide_eq_true hq0])
          clear hq0
          go_wp2_with fail
          go_ret
          exact ⟨by rw [HR.out]; rfl, Below.refl _ _⟩
        · have hq := H3.bytes_ne hq0
          have HR : Hid (b = false) := Lib.hid (by rw [← HE.out, decide_eq_false hq0])
          clear hq0
          go_wp2_with fail
          go_roundw
          case rel => exact ⟨s.size + 1, s.size + 1, by go_num, by go_num, Nat.le_refl _, Nat.le_refl _, fun h => by omega, fun _ => HR.out, by first | rfl | trivial⟩
          case measure => simp [intOf] <;> omega
      · have hb0 := H2.out (by omega)
        have d0 : decide ((i : Int) ≤ (s.size : Int)) = false := by simp; omega
        have HR := Lib.hid hb0
        clear hb0
        go_wp2_with fail
        go_ret
        exact ⟨by rw [HR.out]; rfl, Below.refl _ _⟩

end Go.Proofs.YtidjodplimkmgaaGreatDoor
