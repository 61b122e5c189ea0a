/-
  PACKAGE lex: first.
-/
import Derived.Test.YtpchlnikcdhklaaDoorOwnText
namespace Go.Proofs.YtpchlnikcdhklaaDoor
open Go.RowKit Go

/-- What first answers. -/
def firstV : Option (Nat × List UInt8 × Int × Nat) → Value
  | some (k, s, n, m) => .tuple #[.agg #[.int .i64 (k : Nat), .string ⟨s.toArray⟩, .int .i64 n, .int .i64 0], .int .i64 (m : Nat)]
  | none => .tuple #[.agg #[.int .i64 0, .string ⟨#[]⟩, .int .i64 0, .int .i64 0], .int .i64 0]

theorem sign_yes {c : UInt8} {r : List UInt8} : ∀ x ∈ signsB, Lib.hasPrefix (c :: r) x.data.toList = true → LX.tok c r = some (5, x.data.toList, 0, x.size) := by
  intro x hx h
  simp only [signsB, List.mem_cons, List.not_mem_nil, or_false] at hx
  unfold LX.tok
  rcases hx with rfl | rfl | rfl | rfl
  · cases r with
    | nil => simp [Lib.hasPrefix] at h
    | cons d r =>
      simp [Lib.hasPrefix] at h
      obtain ⟨rfl, rfl⟩ := h
      rfl
  all_goals
    simp [Lib.hasPrefix] at h
    subst h
    rfl

theorem sign_no {c : UInt8} {r : List UInt8} (h : ∀ k, k < 4 → ∀ x, signsB[k]? = some x → Lib.hasPrefix (c :: r) x.data.toList = false) : ¬ (c = 61 ∨ c = 40 ∨ c = 41) ∧ ¬ (c = 33 ∧ r.head? = some 61) := by
  constructor
  · rintro (rfl | rfl | rfl)
    · have := h 1 (by omega) _ rfl; simp [Lib.hasPrefix] at this
    · have := h 2 (by omega) _ rfl; simp [Lib.hasPrefix] at this
    · have := h 3 (by omega) _ rfl; simp [Lib.hasPrefix] at this
  · rintro ⟨rfl, hr⟩
    cases r with
    | nil => cases hr
    | cons d r =>
      simp only [List.head?_cons, Option.some.injEq] at hr
      subst hr
      have := h 0 (by omega) _ rfl
      simp [Lib.hasPrefix] at this

theorem sign_next {l : List UInt8} {k : Nat} (y : ByteArray) (hy : signsB[k]? = some y) (h : ∀ j, j < k → ∀ x, signsB[j]? = some x → Lib.hasPrefix l x.data.toList = false) (hp : Lib.hasPrefix l y.data.toList = false) : ∀ j, j < k + 1 → ∀ x, signsB[j]? = some x → Lib.hasPrefix l x.data.toList = false := by
  intro j hj x hx
  by_cases e : j = k
  · subst e
    rw [hy] at hx
    cases hx
    exact hp
  · exact h j (by omega) x hx

theorem idx_sign0 (w : World) : (Instr.index 66 (.agg #[.string ⟨#[33, 61]⟩, .string ⟨#[61]⟩, .string ⟨#[40]⟩, .string ⟨#[41]⟩]) (.int .i64 0)).run Tryd.prog w = .ok (.string ⟨#[33, 61]⟩) w := by
  simp [Instr.index, run_underlying Tryd.underlying66, asIntOf, go_sem, Tryd.sizeOf9, part, Tryd.isAgg9]
theorem idx_sign1 (w : World) : (Instr.index 66 (.agg #[.string ⟨#[33, 61]⟩, .string ⟨#[61]⟩, .string ⟨#[40]⟩, .string ⟨#[41]⟩]) (.int .i64 1)).run Tryd.prog w = .ok (.string ⟨#[61]⟩) w := by
  simp [Instr.index, run_underlying Tryd.underlying66, asIntOf, go_sem, Tryd.sizeOf9, part, Tryd.isAgg9]
theorem idx_sign2 (w : World) : (Instr.index 66 (.agg #[.string ⟨#[33, 61]⟩, .string ⟨#[61]⟩, .string ⟨#[40]⟩, .string ⟨#[41]⟩]) (.int .i64 2)).run Tryd.prog w = .ok (.string ⟨#[40]⟩) w := by
  simp [Instr.index, run_underlying Tryd.underlying66, asIntOf, go_sem, Tryd.sizeOf9, part, Tryd.isAgg9]
theorem idx_sign3 (w : World) : (Instr.index 66 (.agg #[.string ⟨#[33, 61]⟩, .string ⟨#[61]⟩, .string ⟨#[40]⟩, .string ⟨#[41]⟩]) (.int .i64 3)).run Tryd.prog w = .ok (.string ⟨#[41]⟩) w := by
  simp [Instr.index, run_underlying Tryd.underlying66, asIntOf, go_sem, Tryd.sizeOf9, part, Tryd.isAgg9]

theorem run_take (r : List UInt8) : r.take (LX.run r).length = LX.run r := (List.prefix_iff_eq_take.1 (List.takeWhile_prefix _)).symm

theorem rsz_le (l : List UInt8) : rsz l ≤ l.length := by
  cases l with
  | nil => exact Nat.le_refl _
  | cons c r =>
    rw [rsz]
    have := LX.run_le r
    have := LX.run_le (c :: r)
    simp only [List.length_cons] at *
    split <;> omega

/-- A token that is a row. -/
theorem tok_row {c : UInt8} {r : List UInt8} (h1 : ¬ (c = 61 ∨ c = 40 ∨ c = 41)) (h2 : ¬ (c = 33 ∧ r.head? = some 61)) (h3 : c ≠ 34) :
    LX.tok c r = (LX.kindOf ((c :: r).take (rsz (c :: r)))).map fun p => (p.1, (c :: r).take (rsz (c :: r)), p.2, rsz (c :: r)) := by
  unfold LX.tok
  rw [if_neg h1, if_neg h2, if_neg h3]
  by_cases h45 : c = 45
  · have e : rsz (c :: r) = (LX.run r).length + 1 := by rw [rsz, if_pos h45]; omega
    rw [if_pos (.inl h45), e, List.take_succ_cons, run_take]
  · by_cases hc : MW.ch c = true
    · have e : rsz (c :: r) = (LX.run r).length + 1 := by rw [rsz, if_neg h45, run_cons, if_pos hc]; rfl
      rw [if_pos (.inr hc), e, List.take_succ_cons, run_take]
    · have e : rsz (c :: r) = 0 := by rw [rsz, if_neg h45, run_cons, if_neg hc]; rfl
      rw [if_neg (by rintro (h | h) <;> first | exact h45 h | exact hc h), e]
      rfl

theorem tok_text {r : List UInt8} : LX.tok 34 r = (LX.text r).map fun p => (4, p.1, 0, p.2 + 1) := by
  unfold LX.tok
  rw [if_neg (by decide), if_neg (by rintro ⟨h, _⟩; exact absurd h (by decide)), if_pos rfl]

theorem row_first (x : ByteArray) {l : List UInt8} (hx : x.data.toList = l) {m : Nat} (hm : l.length = m) : rowV x (LX.kindOf l) = firstV ((LX.kindOf l).map fun p => (p.1, l, p.2, m)) := by
  subst hx hm
  cases LX.kindOf x.data.toList with
  | none => rfl
  | some p =>
    show rowV x (some (p.1, p.2)) = firstV (some (p.1, x.data.toList, p.2, x.data.toList.length))
    unfold rowV firstV
    simp only
    rw [Lib.size_eq]

theorem text_first (T : Option (List UInt8 × Nat)) : textV T = firstV (T.map fun p => (4, p.1, 0, p.2 + 1)) := by
  cases T with
  | none => rfl
  | some p =>
    show textV (some (p.1, p.2)) = firstV (some (4, p.1, 0, p.2 + 1))
    unfold textV firstV
    simp only
    rfl

/-- Every answer of first's is a token and a number. -/
theorem firstV_shape (T : Option (Nat × List UInt8 × Int × Nat)) : ∃ (k : Int) (x : ByteArray) (n m : Int), firstV T = .tuple #[.agg #[.int .i64 k, .string x, .int .i64 n, .int .i64 0], .int .i64 m] := by
  cases T with
  | none => exact ⟨0, ⟨#[]⟩, 0, 0, rfl⟩
  | some p => exact ⟨_, _, _, _, rfl⟩

set_option maxHeartbeats 4000000 in
set_option maxRecDepth 100000 in
theorem first_any (s : ByteArray) (hs : s.size ≤ 1048576) {c : UInt8} {r : List UInt8} (hl : s.data.toList = c :: r) (hu : LX.U8 (c :: r)) (w : World) (hT : Tabs w) :
    Calls Tryd.prog 21 #[.string s] w fun e w' => e = .returned (firstV (LX.tok c r)) ∧ Below w.heap.size w w' := by
  have HT := Lib.hid hT
  obtain ⟨W, hW⟩ : ∃ W, W = newTok w := ⟨_, rfl⟩
  have hbx := newTok_bx w
  have hbw := newTok_below w
  have hsz := newTok_size w
  rw [← hW] at hbx hbw hsz
  have HBX := Lib.hid hbx
  have HBW := Lib.hid hbw
  have HSZ := Lib.hid hsz
  have hW' : w.alloc (.cells #[.int .i64 0, .string ⟨#[]⟩, .int .i64 0, .int .i64 0] 34) = W := hW.symm
  have HW := Lib.hid hW'
  have hTW := hT.next hbw
  have g0 : (w.alloc (.cells #[.int .i64 0, .string ⟨#[]⟩, .int .i64 0, .int .i64 0] 34)).cell? ⟨0, 0, none⟩ = some (.string ⟨#[33, 61]⟩) := by rw [hW']; exact hTW.sign 0
  have g1 : (w.alloc (.cells #[.int .i64 0, .string ⟨#[]⟩, .int .i64 0, .int .i64 0] 34)).cell? ⟨0, 1, none⟩ = some (.string ⟨#[61]⟩) := by rw [hW']; exact hTW.sign 1
  have g2 : (w.alloc (.cells #[.int .i64 0, .string ⟨#[]⟩, .int .i64 0, .int .i64 0] 34)).cell? ⟨0, 2, none⟩ = some (.string ⟨#[40]⟩) := by rw [hW']; exact hTW.sign 2
  have g3 : (w.alloc (.cells #[.int .i64 0, .string ⟨#[]⟩, .int .i64 0, .int .i64 0] 34)).cell? ⟨0, 3, none⟩ = some (.string ⟨#[41]⟩) := by rw [hW']; exact hTW.sign 3
  have HL := Lib.hid hl
  have HU := Lib.hid hu
  have HP := Lib.hid (fun x => Tryd.strings_HasPrefix s x W)
  rw [hl] at HP
  clear hT hbx hbw hsz hW hW' hTW hl hu
  go_enter Tryd.func21, Tryd.ntmps21
  go_wp2_with fail
  rw [HW.out]
  clear g0 g1 g2 g3
  go_loopw [9] (fun vi wr => ∃ k : Nat, vi = .int .i64 k ∧ k ≤ 4 ∧ wr = W ∧ ∀ j, j < k → ∀ x, signsB[j]? = some x → Lib.hasPrefix (c :: r) x.data.toList = false) (fun vi _ => 4 - (intOf vi).toNat)
  case atStart => exact ⟨0, rfl, Nat.zero_le _, rfl, fun j h => by omega⟩
  case round =>
    obtain ⟨k, rfl, hk, rfl, hz⟩ := hrel
    have HZ := Lib.hid hz
    clear hz
    obtain ⟨c0, c1, c2, c3, f0, f1, f2, f3⟩ := HBX.out
    obtain rfl | rfl | rfl | rfl | rfl : k = 0 ∨ k = 1 ∨ k = 2 ∨ k = 3 ∨ k = 4 := by omega
    · have hix := idx_sign0 wr
      cases hp : Lib.hasPrefix (c :: r) [33, 61] with
      | true =>
        have HX : Calls Tryd.prog 36 #[.string s, .string ⟨#[33, 61]⟩] wr fun e w' => e = .returned (.bool true) ∧ w' = wr := by
          rw [← hp]
          exact HP.out ⟨#[33, 61]⟩
        have HK : Hid (LX.tok c r = some (5, [33, 61], 0, 2)) := Lib.hid (sign_yes ⟨#[33, 61]⟩ (by simp [signsB]) hp)
        clear hp HP HW
        go_wp2_with fail
        refine HX.mono ?_
        rintro e w' ⟨rfl, rfl⟩
        go_wp2_with fail
        have hq := HBX.out.all (.int .i64 5) (.string ⟨#[33, 61]⟩) (.int .i64 0) (.int .i64 0)
        unfold stored at hq
        obtain ⟨q0, q1, q2, q3, _, _, _, _⟩ := hq
        refine bodyPost_ret (v := .tuple #[.agg #[.int .i64 5, .string ⟨#[33, 61]⟩, .int .i64 0, .int .i64 0], .int .i64 2]) (by simp [results, Tryd.results21, go_sem, q0, q1, q2, q3]) rfl ?_
        exact ⟨by rw [HK.out]; rfl, below_stored HBW.out (Nat.le_refl _) _ _ _ _⟩
      | false =>
        have HX : Calls Tryd.prog 36 #[.string s, .string ⟨#[33, 61]⟩] wr fun e w' => e = .returned (.bool false) ∧ w' = wr := by
          rw [← hp]
          exact HP.out ⟨#[33, 61]⟩
        have HN := Lib.hid (sign_next (k := 0) ⟨#[33, 61]⟩ rfl HZ.out hp)
        clear hp
        go_wp2_with fail
        refine HX.mono ?_
        rintro e w' ⟨rfl, rfl⟩
        go_wp2_with fail
        go_roundw
        case rel => exact ⟨0 + 1, by go_num, by omega, by trivial, HN.out⟩
        case measure => simp [intOf]
    · have hix := idx_sign1 wr
      cases hp : Lib.hasPrefix (c :: r) [61] with
      | true =>
        have HX : Calls Tryd.prog 36 #[.string s, .string ⟨#[61]⟩] wr fun e w' => e = .returned (.bool true) ∧ w' = wr := by
          rw [← hp]
          exact HP.out ⟨#[61]⟩
        have HK : Hid (LX.tok c r = some (5, [61], 0, 1)) := Lib.hid (sign_yes ⟨#[61]⟩ (by simp [signsB]) hp)
        clear hp HP HW
        go_wp2_with fail
        refine HX.mono ?_
        rintro e w' ⟨rfl, rfl⟩
        go_wp2_with fail
        have hq := HBX.out.all (.int .i64 5) (.string ⟨#[61]⟩) (.int .i64 0) (.int .i64 0)
        unfold stored at hq
        obtain ⟨q0, q1, q2, q3, _, _, _, _⟩ := hq
        refine bodyPost_ret (v := .tuple #[.agg #[.int .i64 5, .string ⟨#[61]⟩, .int .i64 0, .int .i64 0], .int .i64 1]) (by simp [results, Tryd.results21, go_sem, q0, q1, q2, q3]) rfl ?_
        exact ⟨by rw [HK.out]; rfl, below_stored HBW.out (Nat.le_refl _) _ _ _ _⟩
      | false =>
        have HX : Calls Tryd.prog 36 #[.string s, .string ⟨#[61]⟩] wr fun e w' => e = .returned (.bool false) ∧ w' = wr := by
          rw [← hp]
          exact HP.out ⟨#[61]⟩
        have HN := Lib.hid (sign_next (k := 1) ⟨#[61]⟩ rfl HZ.out hp)
        clear hp
        go_wp2_with fail
        refine HX.mono ?_
        rintro e w' ⟨rfl, rfl⟩
        go_wp2_with fail
        go_roundw
        case rel => exact ⟨1 + 1, by go_num, by omega, by trivial, HN.out⟩
        case measure => simp [intOf]
    · have hix := idx_sign2 wr
      cases hp : Lib.hasPrefix (c :: r) [40] with
      | true =>
        have HX : Calls Tryd.prog 36 #[.string s, .string ⟨#[40]⟩] wr fun e w' => e = .returned (.bool true) ∧ w' = wr := by
          rw [← hp]
          exact HP.out ⟨#[40]⟩
        have HK : Hid (LX.tok c r = some (5, [40], 0, 1)) := Lib.hid (sign_yes ⟨#[40]⟩ (by simp [signsB]) hp)
        clear hp HP HW
        go_wp2_with fail
        refine HX.mono ?_
        rintro e w' ⟨rfl, rfl⟩
        go_wp2_with fail
        have hq := HBX.out.all (.int .i64 5) (.string ⟨#[40]⟩) (.int .i64 0) (.int .i64 0)
        unfold stored at hq
        obtain ⟨q0, q1, q2, q3, _, _, _, _⟩ := hq
        refine bodyPost_ret (v := .tuple #[.agg #[.int .i64 5, .string ⟨#[40]⟩, .int .i64 0, .int .i64 0], .int .i64 1]) (by simp [results, Tryd.results21, go_sem, q0, q1, q2, q3]) rfl ?_
        exact ⟨by rw [HK.out]; rfl, below_stored HBW.out (Nat.le_refl _) _ _ _ _⟩
      | false =>
        have HX : Calls Tryd.prog 36 #[.string s, .string ⟨#[40]⟩] wr fun e w' => e = .returned (.bool false) ∧ w' = wr := by
          rw [← hp]
          exact HP.out ⟨#[40]⟩
        have HN := Lib.hid (sign_next (k := 2) ⟨#[40]⟩ rfl HZ.out hp)
        clear hp
        go_wp2_with fail
        refine HX.mono ?_
        rintro e w' ⟨rfl, rfl⟩
        go_wp2_with fail
        go_roundw
        case rel => exact ⟨2 + 1, by go_num, by omega, by trivial, HN.out⟩
        case measure => simp [intOf]
    · have hix := idx_sign3 wr
      cases hp : Lib.hasPrefix (c :: r) [41] with
      | true =>
        have HX : Calls Tryd.prog 36 #[.string s, .string ⟨#[41]⟩] wr fun e w' => e = .returned (.bool true) ∧ w' = wr := by
          rw [← hp]
          exact HP.out ⟨#[41]⟩
        have HK : Hid (LX.tok c r = some (5, [41], 0, 1)) := Lib.hid (sign_yes ⟨#[41]⟩ (by simp [signsB]) hp)
        clear hp HP HW
        go_wp2_with fail
        refine HX.mono ?_
        rintro e w' ⟨rfl, rfl⟩
        go_wp2_with fail
        have hq := HBX.out.all (.int .i64 5) (.string ⟨#[41]⟩) (.int .i64 0) (.int .i64 0)
        unfold stored at hq
        obtain ⟨q0, q1, q2, q3, _, _, _, _⟩ := hq
        refine bodyPost_ret (v := .tuple #[.agg #[.int .i64 5, .string ⟨#[41]⟩, .int .i64 0, .int .i64 0], .int .i64 1]) (by simp [results, Tryd.results21, go_sem, q0, q1, q2, q3]) rfl ?_
        exact ⟨by rw [HK.out]; rfl, below_stored HBW.out (Nat.le_refl _) _ _ _ _⟩
      | false =>
        have HX : Calls Tryd.prog 36 #[.string s, .string ⟨#[41]⟩] wr fun e w' => e = .returned (.bool false) ∧ w' = wr := by
          rw [← hp]
          exact HP.out ⟨#[41]⟩
        have HN := Lib.hid (sign_next (k := 3) ⟨#[41]⟩ rfl HZ.out hp)
        clear hp
        go_wp2_with fail
        refine HX.mono ?_
        rintro e w' ⟨rfl, rfl⟩
        go_wp2_with fail
        go_roundw
        case rel => exact ⟨3 + 1, by go_num, by omega, by trivial, HN.out⟩
        case measure => simp [intOf]
    · obtain ⟨n1, n2⟩ := sign_no HZ.out
      by_cases h34 : c = 34
      · subst h34
        obtain ⟨x, hx⟩ : ∃ x : ByteArray, x = ⟨r.toArray⟩ := ⟨_, rfl⟩
        have hxl : x.data.toList = r := by rw [hx]
        have HC : Calls Tryd.prog 37 #[.string s, .string ⟨#[34]⟩] wr fun e w' => e = .returned (.tuple #[.string x, .bool true]) ∧ w' = wr := by
          have := Tryd.strings_CutPrefix s ⟨#[34]⟩ wr
          rw [HL.out] at this
          rw [hx]
          simpa [Lib.trimPrefix, Lib.hasPrefix] using this
        have hxs : x.size ≤ 1048576 := by
          have h1 := congrArg List.length HL.out
          rw [List.length_cons, ← Lib.size_eq] at h1
          rw [Lib.size_eq, hxl]
          omega
        have hte := text_any x hxs (by rw [hxl]; exact HU.out.tail (by decide)) wr
        rw [hxl, text_first, ← tok_text] at hte
        obtain ⟨k1, x1, n1', m1, hsh⟩ := firstV_shape (LX.tok 34 r)
        rw [hsh] at hte
        have HTE := Lib.hid hte
        have HSH := Lib.hid hsh
        clear hte hsh hx hxl n1 n2 HP HZ
        go_wp2_with fail
        refine HC.mono ?_
        rintro e w' ⟨rfl, rfl⟩
        go_wp2_with fail
        refine HTE.out.mono ?_
        rintro e w2 ⟨rfl, hb2⟩
        have HB2 := Lib.hid (HBW.out.trans (hb2.mono HBW.out.size))
        have HX2 := Lib.hid (HBX.out.carry (hb2.block _ (by rw [HSZ.out]; omega)))
        clear hb2 c0 c1 c2 c3 f0 f1 f2 f3
        obtain ⟨c0, c1, c2, c3, f0, f1, f2, f3⟩ := HX2.out
        go_wp2_with fail
        have hq := HX2.out.all (.int .i64 k1) (.string x1) (.int .i64 n1') (.int .i64 0)
        unfold stored at hq
        obtain ⟨q0, q1, q2, q3, _, _, _, _⟩ := hq
        refine bodyPost_ret (v := .tuple #[.agg #[.int .i64 k1, .string x1, .int .i64 n1', .int .i64 0], .int .i64 m1]) (by simp [results, Tryd.results21, go_sem, q0, q1, q2, q3]) rfl ?_
        exact ⟨by rw [HSH.out], below_stored HB2.out (Nat.le_refl _) _ _ _ _⟩
      · have HC : ∃ x : ByteArray, Calls Tryd.prog 37 #[.string s, .string ⟨#[34]⟩] wr fun e w' => e = .returned (.tuple #[.string x, .bool false]) ∧ w' = wr := by
          have := Tryd.strings_CutPrefix s ⟨#[34]⟩ wr
          rw [HL.out] at this
          have hp : Lib.hasPrefix (c :: r) [34] = false := by
            rw [Bool.eq_false_iff]
            intro h
            simp [Lib.hasPrefix] at h
            exact h34 (by first | exact h | exact Eq.symm h)
          have hp' : Lib.hasPrefix (c :: r) (⟨#[34]⟩ : ByteArray).data.toList = false := hp
          rw [hp'] at this
          exact ⟨_, this⟩
        obtain ⟨x, HC⟩ := HC
        have hrl := rsz_le s.data.toList
        rw [← Lib.size_eq] at hrl
        obtain ⟨m, hm⟩ : ∃ m, rsz s.data.toList = m := ⟨_, rfl⟩
        have HRS := Lib.hid (rowSize_any s hs wr)
        rw [hm] at HRS hrl
        obtain ⟨y, hy⟩ : ∃ y, y = s.extract 0 m := ⟨_, rfl⟩
        have hyl : y.data.toList = (c :: r).take m := by
          rw [hy, Lib.extract_data, List.drop_zero, Nat.sub_zero, HL.out]
        have hys : y.size ≤ 1048576 := by rw [hy, ByteArray.size_extract]; omega
        have hln : ((c :: r).take m).length = m := by
          rw [List.length_take, ← HL.out, ← Lib.size_eq]
          omega
        have htk := tok_row n1 n2 h34
        rw [← HL.out, hm, HL.out] at htk
        obtain ⟨k1, x1, n1', m1, hsh⟩ := firstV_shape (LX.tok c r)
        have HRO : Hid (∀ W, Tabs W → Calls Tryd.prog 39 #[.string y] W fun e w' => e = .returned (.tuple #[.agg #[.int .i64 k1, .string x1, .int .i64 n1', .int .i64 0], .int .i64 m1]) ∧ Below W.heap.size W w') := Lib.hid fun W hW => by
          have := row_any y hys W hW
          rw [hyl, row_first y hyl hln, ← htk, hsh] at this
          exact this
        have HSH := Lib.hid hsh
        clear hsh hyl hys hln htk n1 n2 HP HZ hm
        go_wp2_with fail
        refine HC.mono ?_
        rintro e w' ⟨rfl, rfl⟩
        go_wp2_with fail
        refine HRS.out.mono ?_
        rintro e w2 ⟨rfl, hb2⟩
        have HB2 := Lib.hid (HBW.out.trans (hb2.mono HBW.out.size))
        have HX2 := Lib.hid (HBX.out.carry (hb2.block _ (by rw [HSZ.out]; omega)))
        have HZ2 := Lib.hid (show w.heap.size < w2.heap.size from Nat.lt_of_lt_of_le (by rw [HSZ.out]; omega) hb2.size)
        clear hb2 c0 c1 c2 c3 f0 f1 f2 f3
        go_wp2_with fail
        rw [← hy]
        refine (HRO.out _ (HT.out.next HB2.out)).mono ?_
        rintro e w3 ⟨rfl, hb3⟩
        have HB3 := Lib.hid (HB2.out.trans (hb3.mono HB2.out.size))
        have HX3 := Lib.hid (HX2.out.carry (hb3.block _ HZ2.out))
        clear hb3
        obtain ⟨c0, c1, c2, c3, f0, f1, f2, f3⟩ := HX3.out
        go_wp2_with fail
        have hq := HX3.out.all (.int .i64 k1) (.string x1) (.int .i64 n1') (.int .i64 0)
        unfold stored at hq
        obtain ⟨q0, q1, q2, q3, _, _, _, _⟩ := hq
        refine bodyPost_ret (v := .tuple #[.agg #[.int .i64 k1, .string x1, .int .i64 n1', .int .i64 0], .int .i64 m1]) (by simp [results, Tryd.results21, go_sem, q0, q1, q2, q3]) rfl ?_
        exact ⟨by rw [HSH.out], below_stored HB3.out (Nat.le_refl _) _ _ _ _⟩

end Go.Proofs.YtpchlnikcdhklaaDoor
