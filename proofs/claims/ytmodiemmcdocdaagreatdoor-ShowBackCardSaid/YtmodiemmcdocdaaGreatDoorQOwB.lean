/-
  PACKAGE lex: first.
  WHAT PACKAGE lex's CALLS ARE TO DO ('LexCalls': shown of the program elsewhere); what the document says of two texts.
  PACKAGE lex: Lex.
  A callee's contract in a region that draws its order.
-/
import Derived.Test.YtmodiemmcdocdaaGreatDoorQOwA
import Derived.Test.YtmodiemmcdocdaaGreatDoorQLxA
import Derived.Test.YtmodiemmcdocdaaGreatDoorQTab
import Derived.Shelf.SlSortCmp.QuietGrown
namespace Go.Proofs.YtmodiemmcdocdaaGreatDoor.Own
open Go.RowKit Go

/-- What first answers. -/
def firstV : Option (Nat × List UInt8 × Int × Nat) → Value
  | some (k, s, n, m) => .tuple #[.agg #[.int .i64 (k : Nat), .string ⟨s.toArray⟩, .int .i64 n, .int .i64 0], .int .i64 (m : Nat)]
  | none => .tuple #[.agg #[.int .i64 0, .string ⟨#[]⟩, .int .i64 0, .int .i64 0], .int .i64 0]

theorem sign_yes {c : UInt8} {r : List UInt8} : ∀ x ∈ signsB, Lib.hasPrefix (c :: r) x.data.toList = true → LX.tok c r = some (5, x.data.toList, 0, x.size) := by
  intro x hx h
  simp only [signsB, List.mem_cons, List.not_mem_nil, or_false] at hx
  unfold LX.tok
  rcases hx with rfl | rfl | rfl | rfl
  · cases r with
    | nil => simp [Lib.hasPrefix] at h
    | cons d r =>
      simp [Lib.hasPrefix] at h
      obtain ⟨rfl, rfl⟩ := h
      rfl
  all_goals
    simp [Lib.hasPrefix] at h
    subst h
    rfl

theorem sign_no {c : UInt8} {r : List UInt8} (h : ∀ k, k < 4 → ∀ x, signsB[k]? = some x → Lib.hasPrefix (c :: r) x.data.toList = false) : ¬ (c = 61 ∨ c = 40 ∨ c = 41) ∧ ¬ (c = 33 ∧ r.head? = some 61) := by
  constructor
  · rintro (rfl | rfl | rfl)
    · have := h 1 (by omega) _ rfl; simp [Lib.hasPrefix] at this
    · have := h 2 (by omega) _ rfl; simp [Lib.hasPrefix] at this
    · have := h 3 (by omega) _ rfl; simp [Lib.hasPrefix] at this
  · rintro ⟨rfl, hr⟩
    cases r with
    | nil => cases hr
    | cons d r =>
      simp only [List.head?_cons, Option.some.injEq] at hr
      subst hr
      have := h 0 (by omega) _ rfl
      simp [Lib.hasPrefix] at this

theorem sign_next {l : List UInt8} {k : Nat} (y : ByteArray) (hy : signsB[k]? = some y) (h : ∀ j, j < k → ∀ x, signsB[j]? = some x → Lib.hasPrefix l x.data.toList = false) (hp : Lib.hasPrefix l y.data.toList = false) : ∀ j, j < k + 1 → ∀ x, signsB[j]? = some x → Lib.hasPrefix l x.data.toList = false := by
  intro j hj x hx
  by_cases e : j = k
  · subst e
    rw [hy] at hx
    cases hx
    exact hp
  · exact h j (by omega) x hx

theorem idx_sign0 (w : World) : (Instr.index 135 (.agg #[.string ⟨#[33, 61]⟩, .string ⟨#[61]⟩, .string ⟨#[40]⟩, .string ⟨#[41]⟩]) (.int .i64 0)).run Tryz.prog w = .ok (.string ⟨#[33, 61]⟩) w := by
  simp [Instr.index, run_underlying Tryz.underlying135, asIntOf, go_sem, Tryz.sizeOf9, part, Tryz.isAgg9]
theorem idx_sign1 (w : World) : (Instr.index 135 (.agg #[.string ⟨#[33, 61]⟩, .string ⟨#[61]⟩, .string ⟨#[40]⟩, .string ⟨#[41]⟩]) (.int .i64 1)).run Tryz.prog w = .ok (.string ⟨#[61]⟩) w := by
  simp [Instr.index, run_underlying Tryz.underlying135, asIntOf, go_sem, Tryz.sizeOf9, part, Tryz.isAgg9]
theorem idx_sign2 (w : World) : (Instr.index 135 (.agg #[.string ⟨#[33, 61]⟩, .string ⟨#[61]⟩, .string ⟨#[40]⟩, .string ⟨#[41]⟩]) (.int .i64 2)).run Tryz.prog w = .ok (.string ⟨#[40]⟩) w := by
  simp [Instr.index, run_underlying Tryz.underlying135, asIntOf, go_sem, Tryz.sizeOf9, part, Tryz.isAgg9]
theorem idx_sign3 (w : World) : (Instr.index 135 (.agg #[.string ⟨#[33, 61]⟩, .string ⟨#[61]⟩, .string ⟨#[40]⟩, .string ⟨#[41]⟩]) (.int .i64 3)).run Tryz.prog w = .ok (.string ⟨#[41]⟩) w := by
  simp [Instr.index, run_underlying Tryz.underlying135, asIntOf, go_sem, Tryz.sizeOf9, part, Tryz.isAgg9]

theorem run_take (r : List UInt8) : r.take (LX.run r).length = LX.run r := (List.prefix_iff_eq_take.1 (List.takeWhile_prefix _)).symm

theorem rsz_le (l : List UInt8) : rsz l ≤ l.length := by
  cases l with
  | nil => exact Nat.le_refl _
  | cons c r =>
    rw [rsz]
    have := LX.run_le r
    have := LX.run_le (c :: r)
    simp only [List.length_cons] at *
    split <;> omega

/-- A token that is a row. -/
theorem tok_row {c : UInt8} {r : List UInt8} (h1 : ¬ (c = 61 ∨ c = 40 ∨ c = 41)) (h2 : ¬ (c = 33 ∧ r.head? = some 61)) (h3 : c ≠ 34) :
    LX.tok c r = (LX.kindOf ((c :: r).take (rsz (c :: r)))).map fun p => (p.1, (c :: r).take (rsz (c :: r)), p.2, rsz (c :: r)) := by
  unfold LX.tok
  rw [if_neg h1, if_neg h2, if_neg h3]
  by_cases h45 : c = 45
  · have e : rsz (c :: r) = (LX.run r).length + 1 := by rw [rsz, if_pos h45]; omega
    rw [if_pos (.inl h45), e, List.take_succ_cons, run_take]
  · by_cases hc : MW.ch c = true
    · have e : rsz (c :: r) = (LX.run r).length + 1 := by rw [rsz, if_neg h45, run_cons, if_pos hc]; rfl
      rw [if_pos (.inr hc), e, List.take_succ_cons, run_take]
    · have e : rsz (c :: r) = 0 := by rw [rsz, if_neg h45, run_cons, if_neg hc]; rfl
      rw [if_neg (by rintro (h | h) <;> first | exact h45 h | exact hc h), e]
      rfl

theorem tok_text {r : List UInt8} : LX.tok 34 r = (LX.text r).map fun p => (4, p.1, 0, p.2 + 1) := by
  unfold LX.tok
  rw [if_neg (by decide), if_neg (by rintro ⟨h, _⟩; exact absurd h (by decide)), if_pos rfl]

theorem row_first (x : ByteArray) {l : List UInt8} (hx : x.data.toList = l) {m : Nat} (hm : l.length = m) : rowV x (LX.kindOf l) = firstV ((LX.kindOf l).map fun p => (p.1, l, p.2, m)) := by
  subst hx hm
  cases LX.kindOf x.data.toList with
  | none => rfl
  | some p =>
    show rowV x (some (p.1, p.2)) = firstV (some (p.1, x.data.toList, p.2, x.data.toList.length))
    unfold rowV firstV
    simp only
    rw [Lib.size_eq]

theorem text_first (T : Option (List UInt8 × Nat)) : textV T = firstV (T.map fun p => (4, p.1, 0, p.2 + 1)) := by
  cases T with
  | none => rfl
  | some p =>
    show textV (some (p.1, p.2)) = firstV (some (4, p.1, 0, p.2 + 1))
    unfold textV firstV
    simp only
    rfl

/-- Every answer of first's is a token and a number. -/
theorem firstV_shape (T : Option (Nat × List UInt8 × Int × Nat)) : ∃ (k : Int) (x : ByteArray) (n m : Int), firstV T = .tuple #[.agg #[.int .i64 k, .string x, .int .i64 n, .int .i64 0], .int .i64 m] := by
  cases T with
  | none => exact ⟨0, ⟨#[]⟩, 0, 0, rfl⟩
  | some p => exact ⟨_, _, _, _, rfl⟩

set_option maxHeartbeats 4000000 in
set_option maxRecDepth 100000 in
theorem first_any (s : ByteArray) (hs : s.size ≤ 1048576) {c : UInt8} {r : List UInt8} (hl : s.data.toList = c :: r) (hu : LX.U8 (c :: r)) (w : World) (hT : Tabs w) :
    Calls Tryz.prog 48 #[.string s] w fun e w' => e = .returned (firstV (LX.tok c r)) ∧ Below w.heap.size w w' := by
  have HT := Lib.hid hT
  obtain ⟨W, hW⟩ : ∃ W, W = newTok w := ⟨_, rfl⟩
  have hbx := newTok_bx w
  have hbw := newTok_below w
  have hsz := newTok_size w
  rw [← hW] at hbx hbw hsz
  have HBX := Lib.hid hbx
  have HBW := Lib.hid hbw
  have HSZ := Lib.hid hsz
  have hW' : w.alloc (.cells #[.int .i64 0, .string ⟨#[]⟩, .int .i64 0, .int .i64 0] 93) = W := hW.symm
  have HW := Lib.hid hW'
  have hTW := hT.next hbw
  have g0 : (w.alloc (.cells #[.int .i64 0, .string ⟨#[]⟩, .int .i64 0, .int .i64 0] 93)).cell? ⟨1, 0, none⟩ = some (.string ⟨#[33, 61]⟩) := by rw [hW']; exact hTW.sign 0
  have g1 : (w.alloc (.cells #[.int .i64 0, .string ⟨#[]⟩, .int .i64 0, .int .i64 0] 93)).cell? ⟨1, 1, none⟩ = some (.string ⟨#[61]⟩) := by rw [hW']; exact hTW.sign 1
  have g2 : (w.alloc (.cells #[.int .i64 0, .string ⟨#[]⟩, .int .i64 0, .int .i64 0] 93)).cell? ⟨1, 2, none⟩ = some (.string ⟨#[40]⟩) := by rw [hW']; exact hTW.sign 2
  have g3 : (w.alloc (.cells #[.int .i64 0, .string ⟨#[]⟩, .int .i64 0, .int .i64 0] 93)).cell? ⟨1, 3, none⟩ = some (.string ⟨#[41]⟩) := by rw [hW']; exact hTW.sign 3
  have HL := Lib.hid hl
  have HU := Lib.hid hu
  have HP := Lib.hid (fun x => Tryz.strings_HasPrefix s x W)
  rw [hl] at HP
  clear hT hbx hbw hsz hW hW' hTW hl hu
  go_enter Tryz.func48, Tryz.ntmps48
  go_wp2_with fail
  rw [HW.out]
  clear g0 g1 g2 g3
  go_loopw [9] (fun vi wr => ∃ k : Nat, vi = .int .i64 k ∧ k ≤ 4 ∧ wr = W ∧ ∀ j, j < k → ∀ x, signsB[j]? = some x → Lib.hasPrefix (c :: r) x.data.toList = false) (fun vi _ => 4 - (intOf vi).toNat)
  case atStart => exact ⟨0, rfl, Nat.zero_le _, rfl, fun j h => by omega⟩
  case round =>
    obtain ⟨k, rfl, hk, rfl, hz⟩ := hrel
    have HZ := Lib.hid hz
    clear hz
    obtain ⟨c0, c1, c2, c3, f0, f1, f2, f3⟩ := HBX.out
    obtain rfl | rfl | rfl | rfl | rfl : k = 0 ∨ k = 1 ∨ k = 2 ∨ k = 3 ∨ k = 4 := by omega
    · have hix := idx_sign0 wr
      cases hp : Lib.hasPrefix (c :: r) [33, 61] with
      | true =>
        have HX : Calls Tryz.prog 77 #[.string s, .string ⟨#[33, 61]⟩] wr fun e w' => e = .returned (.bool true) ∧ w' = wr := by
          rw [← hp]
          exact HP.out ⟨#[33, 61]⟩
        have HK : Hid (LX.tok c r = some (5, [33, 61], 0, 2)) := Lib.hid (sign_yes ⟨#[33, 61]⟩ (by simp [signsB]) hp)
        clear hp HP HW
        go_wp2_with fail
        refine HX.mono ?_
        rintro e w' ⟨rfl, rfl⟩
        go_wp2_with fail
        have hq := HBX.out.all (.int .i64 5) (.string ⟨#[33, 61]⟩) (.int .i64 0) (.int .i64 0)
        unfold stored at hq
        obtain ⟨q0, q1, q2, q3, _, _, _, _⟩ := hq
        refine bodyPost_ret (v := .tuple #[.agg #[.int .i64 5, .string ⟨#[33, 61]⟩, .int .i64 0, .int .i64 0], .int .i64 2]) (by simp [results, Tryz.results48, go_sem, q0, q1, q2, q3]) rfl ?_
        exact ⟨by rw [HK.out]; rfl, below_stored HBW.out (Nat.le_refl _) _ _ _ _⟩
      | false =>
        have HX : Calls Tryz.prog 77 #[.string s, .string ⟨#[33, 61]⟩] wr fun e w' => e = .returned (.bool false) ∧ w' = wr := by
          rw [← hp]
          exact HP.out ⟨#[33, 61]⟩
        have HN := Lib.hid (sign_next (k := 0) ⟨#[33, 61]⟩ rfl HZ.out hp)
        clear hp
        go_wp2_with fail
        refine HX.mono ?_
        rintro e w' ⟨rfl, rfl⟩
        go_wp2_with fail
        go_roundw
        case rel => exact ⟨0 + 1, by go_num, by omega, by trivial, HN.out⟩
        case measure => simp [intOf]
    · have hix := idx_sign1 wr
      cases hp : Lib.hasPrefix (c :: r) [61] with
      | true =>
        have HX : Calls Tryz.prog 77 #[.string s, .string ⟨#[61]⟩] wr fun e w' => e = .returned (.bool true) ∧ w' = wr := by
          rw [← hp]
          exact HP.out ⟨#[61]⟩
        have HK : Hid (LX.tok c r = some (5, [61], 0, 1)) := Lib.hid (sign_yes ⟨#[61]⟩ (by simp [signsB]) hp)
        clear hp HP HW
        go_wp2_with fail
        refine HX.mono ?_
        rintro e w' ⟨rfl, rfl⟩
        go_wp2_with fail
        have hq := HBX.out.all (.int .i64 5) (.string ⟨#[61]⟩) (.int .i64 0) (.int .i64 0)
        unfold stored at hq
        obtain ⟨q0, q1, q2, q3, _, _, _, _⟩ := hq
        refine bodyPost_ret (v := .tuple #[.agg #[.int .i64 5, .string ⟨#[61]⟩, .int .i64 0, .int .i64 0], .int .i64 1]) (by simp [results, Tryz.results48, go_sem, q0, q1, q2, q3]) rfl ?_
        exact ⟨by rw [HK.out]; rfl, below_stored HBW.out (Nat.le_refl _) _ _ _ _⟩
      | false =>
        have HX : Calls Tryz.prog 77 #[.string s, .string ⟨#[61]⟩] wr fun e w' => e = .returned (.bool false) ∧ w' = wr := by
          rw [← hp]
          exact HP.out ⟨#[61]⟩
        have HN := Lib.hid (sign_next (k := 1) ⟨#[61]⟩ rfl HZ.out hp)
        clear hp
        go_wp2_with fail
        refine HX.mono ?_
        rintro e w' ⟨rfl, rfl⟩
        go_wp2_with fail
        go_roundw
        case rel => exact ⟨1 + 1, by go_num, by omega, by trivial, HN.out⟩
        case measure => simp [intOf]
    · have hix := idx_sign2 wr
      cases hp : Lib.hasPrefix (c :: r) [40] with
      | true =>
        have HX : Calls Tryz.prog 77 #[.string s, .string ⟨#[40]⟩] wr fun e w' => e = .returned (.bool true) ∧ w' = wr := by
          rw [← hp]
          exact HP.out ⟨#[40]⟩
        have HK : Hid (LX.tok c r = some (5, [40], 0, 1)) := Lib.hid (sign_yes ⟨#[40]⟩ (by simp [signsB]) hp)
        clear hp HP HW
        go_wp2_with fail
        refine HX.mono ?_
        rintro e w' ⟨rfl, rfl⟩
        go_wp2_with fail
        have hq := HBX.out.all (.int .i64 5) (.string ⟨#[40]⟩) (.int .i64 0) (.int .i64 0)
        unfold stored at hq
        obtain ⟨q0, q1, q2, q3, _, _, _, _⟩ := hq
        refine bodyPost_ret (v := .tuple #[.agg #[.int .i64 5, .string ⟨#[40]⟩, .int .i64 0, .int .i64 0], .int .i64 1]) (by simp [results, Tryz.results48, go_sem, q0, q1, q2, q3]) rfl ?_
        exact ⟨by rw [HK.out]; rfl, below_stored HBW.out (Nat.le_refl _) _ _ _ _⟩
      | false =>
        have HX : Calls Tryz.prog 77 #[.string s, .string ⟨#[40]⟩] wr fun e w' => e = .returned (.bool false) ∧ w' = wr := by
          rw [← hp]
          exact HP.out ⟨#[40]⟩
        have HN := Lib.hid (sign_next (k := 2) ⟨#[40]⟩ rfl HZ.out hp)
        clear hp
        go_wp2_with fail
        refine HX.mono ?_
        rintro e w' ⟨rfl, rfl⟩
        go_wp2_with fail
        go_roundw
        case rel => exact ⟨2 + 1, by go_num, by omega, by trivial, HN.out⟩
        case measure => simp [intOf]
    · have hix := idx_sign3 wr
      cases hp : Lib.hasPrefix (c :: r) [41] with
      | true =>
        have HX : Calls Tryz.prog 77 #[.string s, .string ⟨#[41]⟩] wr fun e w' => e = .returned (.bool true) ∧ w' = wr := by
          rw [← hp]
          exact HP.out ⟨#[41]⟩
        have HK : Hid (LX.tok c r = some (5, [41], 0, 1)) := Lib.hid (sign_yes ⟨#[41]⟩ (by simp [signsB]) hp)
        clear hp HP HW
        go_wp2_with fail
        refine HX.mono ?_
        rintro e w' ⟨rfl, rfl⟩
        go_wp2_with fail
        have hq := HBX.out.all (.int .i64 5) (.string ⟨#[41]⟩) (.int .i64 0) (.int .i64 0)
        unfold stored at hq
        obtain ⟨q0, q1, q2, q3, _, _, _, _⟩ := hq
        refine bodyPost_ret (v := .tuple #[.agg #[.int .i64 5, .string ⟨#[41]⟩, .int .i64 0, .int .i64 0], .int .i64 1]) (by simp [results, Tryz.results48, go_sem, q0, q1, q2, q3]) rfl ?_
        exact ⟨by rw [HK.out]; rfl, below_stored HBW.out (Nat.le_refl _) _ _ _ _⟩
      | false =>
        have HX : Calls Tryz.prog 77 #[.string s, .string ⟨#[41]⟩] wr fun e w' => e = .returned (.bool false) ∧ w' = wr := by
          rw [← hp]
          exact HP.out ⟨#[41]⟩
        have HN := Lib.hid (sign_next (k := 3) ⟨#[41]⟩ rfl HZ.out hp)
        clear hp
        go_wp2_with fail
        refine HX.mono ?_
        rintro e w' ⟨rfl, rfl⟩
        go_wp2_with fail
        go_roundw
        case rel => exact ⟨3 + 1, by go_num, by omega, by trivial, HN.out⟩
        case measure => simp [intOf]
    · obtain ⟨n1, n2⟩ := sign_no HZ.out
      by_cases h34 : c = 34
      · subst h34
        obtain ⟨x, hx⟩ : ∃ x : ByteArray, x = ⟨r.toArray⟩ := ⟨_, rfl⟩
        have hxl : x.data.toList = r := by rw [hx]
        have HC : Calls Tryz.prog 78 #[.string s, .string ⟨#[34]⟩] wr fun e w' => e = .returned (.tuple #[.string x, .bool true]) ∧ w' = wr := by
          have := Tryz.strings_CutPrefix s ⟨#[34]⟩ wr
          rw [HL.out] at this
          rw [hx]
          simpa [Lib.trimPrefix, Lib.hasPrefix] using this
        have hxs : x.size ≤ 1048576 := by
          have h1 := congrArg List.length HL.out
          rw [List.length_cons, ← Lib.size_eq] at h1
          rw [Lib.size_eq, hxl]
          omega
        have hte := text_any x hxs (by rw [hxl]; exact HU.out.tail (by decide)) wr
        rw [hxl, text_first, ← tok_text] at hte
        obtain ⟨k1, x1, n1', m1, hsh⟩ := firstV_shape (LX.tok 34 r)
        rw [hsh] at hte
        have HTE := Lib.hid hte
        have HSH := Lib.hid hsh
        clear hte hsh hx hxl n1 n2 HP HZ
        go_wp2_with fail
        refine HC.mono ?_
        rintro e w' ⟨rfl, rfl⟩
        go_wp2_with fail
        refine HTE.out.mono ?_
        rintro e w2 ⟨rfl, hb2⟩
        have HB2 := Lib.hid (HBW.out.trans (hb2.mono HBW.out.size))
        have HX2 := Lib.hid (HBX.out.carry (hb2.block _ (by rw [HSZ.out]; omega)))
        clear hb2 c0 c1 c2 c3 f0 f1 f2 f3
        obtain ⟨c0, c1, c2, c3, f0, f1, f2, f3⟩ := HX2.out
        go_wp2_with fail
        have hq := HX2.out.all (.int .i64 k1) (.string x1) (.int .i64 n1') (.int .i64 0)
        unfold stored at hq
        obtain ⟨q0, q1, q2, q3, _, _, _, _⟩ := hq
        refine bodyPost_ret (v := .tuple #[.agg #[.int .i64 k1, .string x1, .int .i64 n1', .int .i64 0], .int .i64 m1]) (by simp [results, Tryz.results48, go_sem, q0, q1, q2, q3]) rfl ?_
        exact ⟨by rw [HSH.out], below_stored HB2.out (Nat.le_refl _) _ _ _ _⟩
      · have HC : ∃ x : ByteArray, Calls Tryz.prog 78 #[.string s, .string ⟨#[34]⟩] wr fun e w' => e = .returned (.tuple #[.string x, .bool false]) ∧ w' = wr := by
          have := Tryz.strings_CutPrefix s ⟨#[34]⟩ wr
          rw [HL.out] at this
          have hp : Lib.hasPrefix (c :: r) [34] = false := by
            rw [Bool.eq_false_iff]
            intro h
            simp [Lib.hasPrefix] at h
            exact h34 (by first | exact h | exact Eq.symm h)
          have hp' : Lib.hasPrefix (c :: r) (⟨#[34]⟩ : ByteArray).data.toList = false := hp
          rw [hp'] at this
          exact ⟨_, this⟩
        obtain ⟨x, HC⟩ := HC
        have hrl := rsz_le s.data.toList
        rw [← Lib.size_eq] at hrl
        obtain ⟨m, hm⟩ : ∃ m, rsz s.data.toList = m := ⟨_, rfl⟩
        have HRS := Lib.hid (rowSize_any s hs wr)
        rw [hm] at HRS hrl
        obtain ⟨y, hy⟩ : ∃ y, y = s.extract 0 m := ⟨_, rfl⟩
        have hyl : y.data.toList = (c :: r).take m := by
          rw [hy, Lib.extract_data, List.drop_zero, Nat.sub_zero, HL.out]
        have hys : y.size ≤ 1048576 := by rw [hy, ByteArray.size_extract]; omega
        have hln : ((c :: r).take m).length = m := by
          rw [List.length_take, ← HL.out, ← Lib.size_eq]
          omega
        have htk := tok_row n1 n2 h34
        rw [← HL.out, hm, HL.out] at htk
        obtain ⟨k1, x1, n1', m1, hsh⟩ := firstV_shape (LX.tok c r)
        have HRO : Hid (∀ W, Tabs W → Calls Tryz.prog 80 #[.string y] W fun e w' => e = .returned (.tuple #[.agg #[.int .i64 k1, .string x1, .int .i64 n1', .int .i64 0], .int .i64 m1]) ∧ Below W.heap.size W w') := Lib.hid fun W hW => by
          have := row_any y hys W hW
          rw [hyl, row_first y hyl hln, ← htk, hsh] at this
          exact this
        have HSH := Lib.hid hsh
        clear hsh hyl hys hln htk n1 n2 HP HZ hm
        go_wp2_with fail
        refine HC.mono ?_
        rintro e w' ⟨rfl, rfl⟩
        go_wp2_with fail
        refine HRS.out.mono ?_
        rintro e w2 ⟨rfl, hb2⟩
        have HB2 := Lib.hid (HBW.out.trans (hb2.mono HBW.out.size))
        have HX2 := Lib.hid (HBX.out.carry (hb2.block _ (by rw [HSZ.out]; omega)))
        have HZ2 := Lib.hid (show w.heap.size < w2.heap.size from Nat.lt_of_lt_of_le (by rw [HSZ.out]; omega) hb2.size)
        clear hb2 c0 c1 c2 c3 f0 f1 f2 f3
        go_wp2_with fail
        rw [← hy]
        refine (HRO.out _ (HT.out.next HB2.out)).mono ?_
        rintro e w3 ⟨rfl, hb3⟩
        have HB3 := Lib.hid (HB2.out.trans (hb3.mono HB2.out.size))
        have HX3 := Lib.hid (HX2.out.carry (hb3.block _ HZ2.out))
        clear hb3
        obtain ⟨c0, c1, c2, c3, f0, f1, f2, f3⟩ := HX3.out
        go_wp2_with fail
        have hq := HX3.out.all (.int .i64 k1) (.string x1) (.int .i64 n1') (.int .i64 0)
        unfold stored at hq
        obtain ⟨q0, q1, q2, q3, _, _, _, _⟩ := hq
        refine bodyPost_ret (v := .tuple #[.agg #[.int .i64 k1, .string x1, .int .i64 n1', .int .i64 0], .int .i64 m1]) (by simp [results, Tryz.results48, go_sem, q0, q1, q2, q3]) rfl ?_
        exact ⟨by rw [HSH.out], below_stored HB3.out (Nat.le_refl _) _ _ _ _⟩

end Go.Proofs.YtmodiemmcdocdaaGreatDoor.Own

namespace Go.Proofs.YtmodiemmcdocdaaGreatDoor
open Go.RowKit Go

/-- What lex.Lex is to answer. -/
def LexP (R : Except (Nat × Nat) (List LX.Tok)) (w : World) (e : Ending) (w' : World) : Prop :=
  Below w.heap.size w w' ∧ match R with
    | .error p => ∃ a c, e = .returned (.tuple #[.slice a 0 c, .agg #[.int .i64 (p.1 : Nat), .int .i64 (p.2 : Nat)]])
    | .ok ts => ∃ v, e = .returned (.tuple #[v, .agg #[.int .i64 0, .int .i64 0]]) ∧ Rk 4 (fun b => w.heap.size ≤ b) w' v ts.length (flatT ts)

end Go.Proofs.YtmodiemmcdocdaaGreatDoor

namespace Go.Proofs.YtmodiemmcdocdaaGreatDoor.Own
open Go.RowKit Go

/-- Blanks ahead say nothing. -/
theorem trim_step : ∀ (l : List UInt8) (i : Nat), ∃ j, j ≤ l.length ∧ Lib.trimLeftB l 32 = l.drop j ∧ LX.toks i l = LX.toks (i + j) (l.drop j) ∧ (LX.U8 l → LX.U8 (l.drop j)) ∧ ∀ c r, l.drop j = c :: r → c ≠ 32
  | [], i => ⟨0, Nat.le_refl _, rfl, rfl, fun h => h, fun c r h => by cases h⟩
  | c :: r, i => by
    by_cases h : c = 32
    · subst h
      obtain ⟨j, h1, h2, h3, h4, h5⟩ := trim_step r (i + 1)
      refine ⟨j + 1, by simp only [List.length_cons]; omega, ?_, ?_, fun hu => h4 (hu.tail (by decide)), h5⟩
      · rw [List.drop_succ_cons, ← h2]
        simp [Lib.trimLeftB]
      · rw [LX.toks_blank, h3, List.drop_succ_cons, show i + (j + 1) = i + 1 + j by omega]
    · refine ⟨0, Nat.zero_le _, ?_, rfl, fun hu => hu, fun c' r' e => ?_⟩
      · simp [Lib.trimLeftB, h]
      · rw [List.drop_zero] at e
        cases e
        exact h

theorem info34 : (Tryz.prog.info? 93).map (fun i => (i.zero, i.size, i.bytes)) = some (some (.agg #[.int .i64 0, .string ⟨#[]⟩, .int .i64 0, .int .i64 0]), 4, 40) := by kernel_rfl

theorem elem34 : ∃ i z, Elem Tryz.prog 54 93 i z 4 40 := by
  obtain ⟨i, hi, hz, hs, hb⟩ := info_parts info34
  exact ⟨i, _, Tryz.underlying54, hi, hz, hs, hb, by kernel_rfl⟩

theorem src_own (w : World) (g : Nat) (hg : g = w.heap.size) (t : LX.Tok) (a b c d : Value) (h : tokC t = [a, b, c, d]) : Src Tryz.prog 4 54 (.slice (some ⟨g, 0, none⟩) 1 1) 1 (flatT [t]) (w.alloc (.cells #[a, b, c, d] 93)) := by
  subst hg
  have e : flatT [t] = [a, b, c, d] := by simp only [flatT, List.append_nil, h]
  rw [e]
  refine Src.ofSlice _ Tryz.underlying54 ⟨w.heap.size, 0, none⟩ 1 1 _ rfl (fun j u hu => ?_) (fun u hu => ?_)
  · rw [add_lit0]
    rw [World.cell?_alloc_new]
    simpa using hu
  · have h' := h
    simp only [tokC, List.cons.injEq, and_true] at h'
    obtain ⟨rfl, rfl, rfl, rfl⟩ := h'
    simp only [List.mem_cons, List.not_mem_nil, or_false] at hu
    rcases hu with rfl | rfl | rfl | rfl <;> rfl

/-- Behind the append of a token. -/
theorem own_app {B : Nat} {X : Nat → Prop} {w wr WX w2 : World} {o : Obj} {ao : Option Addr} {co : Nat} {v' : Value} {ts : List LX.Tok} {t : LX.Tok} (hb : Below w.heap.size w wr) (hB : w.heap.size ≤ B) (hBr : B ≤ wr.heap.size)
    (hrk : Rk 4 (fun b => B ≤ b) wr (.slice ao ts.length co) ts.length (flatT ts)) (hlx : Lay wr WX)
    (h2 : Rk 4 (fun b => B ≤ b ∧ X b) w2 v' (ts.length + 1) (flatT ts ++ flatT [t])) (hk : Keep (At (.slice ao ts.length co)) (WX.alloc o) w2) :
    Rk 4 (fun b => B ≤ b) w2 v' (ts ++ [t]).length (flatT (ts ++ [t])) ∧ Below w.heap.size w w2 ∧ ∀ b, b < B → w2.heap[b]? = wr.heap[b]? := by
  rw [← flatT_append] at h2
  have hl : Lay wr (WX.alloc o) := hlx.alloc _
  have h3 : Below w.heap.size w (WX.alloc o) := hb.trans (hl.below.mono hb.size)
  refine ⟨by rw [List.length_append]; exact h2.mono fun b h _ => h.1, h3.trans (hk.below (fun b ha => Nat.le_trans hB (hrk.at ha).1) h3.size), fun b hbB => ?_⟩
  rw [hk.block b (Nat.lt_of_lt_of_le (by omega) hl.size) (fun ha => by have := (hrk.at ha).1; omega)]
  exact hl.block (by omega)

/-- A block of two cells. -/
structure B2 (W : World) (k : Nat) (u0 u1 : Value) : Prop where
  c0 : W.cell? ⟨k, 0, none⟩ = some u0
  c1 : W.cell? ⟨k, 1, none⟩ = some u1
  f0 : W.frozen? ⟨k, 0, none⟩ = false
  f1 : W.frozen? ⟨k, 1, none⟩ = false

theorem B2.carry {W W' : World} {k : Nat} {u0 u1 : Value} (h : B2 W k u0 u1) (hb : W'.heap[k]? = W.heap[k]?) : B2 W' k u0 u1 :=
  ⟨(World.cell?_of_block (a := ⟨k, 0, none⟩) hb).trans h.c0, (World.cell?_of_block (a := ⟨k, 1, none⟩) hb).trans h.c1, (World.frozen?_of_block (a := ⟨k, 0, none⟩) hb).trans h.f0, (World.frozen?_of_block (a := ⟨k, 1, none⟩) hb).trans h.f1⟩

theorem B2.all {W : World} {k : Nat} {u0 u1 : Value} (h : B2 W k u0 u1) (v0 v1 : Value) : B2 ((W.setCell ⟨k, 0, none⟩ v0).setCell ⟨k, 1, none⟩ v1) k v0 v1 := by
  obtain ⟨c0, c1, f0, f1⟩ := h
  exact ⟨by go_simp, by go_simp, by go_simp, by go_simp⟩

theorem below_set2 {n : Nat} {w W : World} {k : Nat} (h : Below n w W) (hk : n ≤ k) (u0 u1 : Value) : Below n w ((W.setCell ⟨k, 0, none⟩ u0).setCell ⟨k, 1, none⟩ u1) :=
  (h.setCell (p := ⟨k, 0, none⟩) hk u0).setCell (p := ⟨k, 1, none⟩) hk u1

theorem rk_set2 {B k : Nat} {W : World} {v : Value} {n : Nat} {xs : List Value} (h : Rk 4 (fun b => B ≤ b) W v n xs) (hk : k < B) (u0 u1 : Value) : Rk 4 (fun b => B ≤ b) ((W.setCell ⟨k, 0, none⟩ u0).setCell ⟨k, 1, none⟩ u1) v n xs :=
  h.carry (by simp [World.setCell]) fun b hb _ _ => (Below.heap_setCell (W.setCell ⟨k, 0, none⟩ u0) ⟨k, 1, none⟩ u1 b (by show b ≠ k; omega)).trans (Below.heap_setCell W ⟨k, 0, none⟩ u0 b (by show b ≠ k; omega))

/-- What is left behind a token. -/
theorem tok_rest {c : UInt8} {r : List UInt8} {k m : Nat} {sy : List UInt8} {n : Int} (h : LX.tok c r = some (k, sy, n, m)) (hu : LX.U8 (c :: r)) : LX.U8 ((c :: r).drop m) := by
  obtain ⟨r0, _, h2, h3, _⟩ := LX.tok_back h hu 0
  rw [← h2] at h3
  exact LX.U8.strip h3 (by rw [List.take_append_drop]; exact hu)

theorem rest_data (x : ByteArray) (m : Nat) : (x.extract m x.size).data.toList = x.data.toList.drop m := by
  rw [Lib.extract_data, List.take_of_length_le]
  rw [List.length_drop, ← Lib.size_eq]
  exact Nat.le_refl _

/-- A new fault. -/
def newFault (w : World) : World := w.alloc (.cells #[.int .i64 0, .int .i64 0] 31)
theorem newFault_b2 (w : World) : B2 (newFault w) w.heap.size (.int .i64 0) (.int .i64 0) := by
  unfold newFault
  exact ⟨by go_simp, by go_simp, by go_simp, by go_simp⟩
theorem newFault_below (w : World) : Below w.heap.size w (newFault w) := (Below.refl _ _).alloc (Nat.le_refl _) _
theorem newFault_size (w : World) : (newFault w).heap.size = w.heap.size + 1 := by unfold newFault; simp

def lenOf : Value → Nat
  | .string s => s.size
  | _ => 0

set_option maxHeartbeats 8000000 in
set_option maxRecDepth 100000 in
theorem lex_any (s : ByteArray) (hlen : s.size ≤ 1048576) (w : World) (hT : Tabs w) : Calls Tryz.prog 22 #[.string s] w (LexP (LX.lex s.data.toList) w) := by
  obtain ⟨i34, z34, E34⟩ := elem34
  have hsz : s.data.toList.length = s.size := (Lib.size_eq s).symm
  have HZ := Lib.hid hsz
  clear hsz
  have HT := Lib.hid hT
  obtain ⟨W, hW⟩ : ∃ W, W = newFault w := ⟨_, rfl⟩
  have hbx := newFault_b2 w
  have hbw := newFault_below w
  have hs1 := newFault_size w
  rw [← hW] at hbx hbw hs1
  have HBX := Lib.hid hbx
  have HBW := Lib.hid hbw
  have HS1 := Lib.hid hs1
  have HW := Lib.hid (show w.alloc (.cells #[.int .i64 0, .int .i64 0] 31) = W from hW.symm)
  have HBR := Lib.hid (broken_any s hlen W (hT.next hbw).utf)
  clear hT hW hbx hbw hs1
  by_cases h1024 : 1024 < s.size
  · have hd : decide (1024 < (s.size : Int)) = true := by simp; omega
    have HL : Hid (LX.lex s.data.toList = .error (6, 1)) := Lib.hid (by unfold LX.lex; rw [if_pos (by rw [HZ.out]; exact h1024)])
    go_enter Tryz.func22, Tryz.ntmps22
    go_wp2_with fail
    refine bodyPost_ret (v := .tuple #[.slice none 0 0, .agg #[.int .i64 6, .int .i64 1]]) (by simp [results, Tryz.results22, go_sem]) rfl ?_
    refine ⟨(Below.refl _ _).alloc (Nat.le_refl _) _, ?_⟩
    rw [HL.out]
    exact ⟨none, 0, rfl⟩
  have hd : decide (1024 < (s.size : Int)) = false := by simp; omega
  by_cases hv : LX.valid s.data.toList < s.size
  · have hdv : decide (((LX.valid s.data.toList : Nat) : Int) < (s.size : Int)) = true := by simp; omega
    have HL : Hid (LX.lex s.data.toList = .error (4, LX.valid s.data.toList + 1)) := Lib.hid (by unfold LX.lex; rw [if_neg (by rw [HZ.out]; exact h1024), if_pos (by rw [HZ.out]; exact hv)])
    go_enter Tryz.func22, Tryz.ntmps22
    go_wp2_with fail
    rw [HW.out]
    refine HBR.out.mono ?_
    rintro e w1 ⟨rfl, hb1⟩
    have HB1 := Lib.hid (HBW.out.trans (hb1.mono HBW.out.size))
    have HX1 := Lib.hid (HBX.out.carry (hb1.block _ (by rw [HS1.out]; omega)))
    clear hb1
    obtain ⟨c0, c1, f0, f1⟩ := HX1.out
    go_wp2_with fail
    have hq := HX1.out.all (.int .i64 4) (.int .i64 ((LX.valid s.data.toList : Nat) + 1))
    obtain ⟨q0, q1, _, _⟩ := hq
    refine bodyPost_ret (v := .tuple #[.slice none 0 0, .agg #[.int .i64 4, .int .i64 ((LX.valid s.data.toList : Nat) + 1)]]) (by simp [results, Tryz.results22, go_sem, q0, q1]) rfl ?_
    refine ⟨below_set2 HB1.out (Nat.le_refl _) _ _, ?_⟩
    rw [HL.out]
    exact ⟨none, 0, rfl⟩
  have hdv : decide (((LX.valid s.data.toList : Nat) : Int) < (s.size : Int)) = false := by simp; omega
  have HU : Hid (LX.U8 s.data.toList) := Lib.hid ((LX.u8_iff _).1 (by
    have := (LX.valid_le _ s.data.toList (Nat.le_refl _)).1
    rw [HZ.out] at this ⊢
    omega))
  have HLX : Hid (LX.lex s.data.toList = match LX.toks 0 s.data.toList with
    | .error p => .error (4, p)
    | .ok ts => .ok (ts ++ [⟨0, [], 0, s.size + 1⟩])) := Lib.hid (by rw [LX.lex_u8 (by rw [HZ.out]; omega) HU.out, HZ.out]; cases LX.toks 0 s.data.toList <;> rfl)
  go_enter Tryz.func22, Tryz.ntmps22
  go_wp2_with fail
  rw [HW.out]
  refine HBR.out.mono ?_
  rintro e w1 ⟨rfl, hb1⟩
  have HB1 := Lib.hid (HBW.out.trans (hb1.mono HBW.out.size))
  have HX1 := Lib.hid (HBX.out.carry (hb1.block _ (by rw [HS1.out]; omega)))
  have HZ1 := Lib.hid (show w.heap.size + 1 ≤ w1.heap.size from Nat.le_trans (by rw [HS1.out]; exact Nat.le_refl _) hb1.size)
  clear hb1 HBR
  go_wp2_with fail
  go_loopw [5, 6] (fun vl vr wr => ∃ (pos : Nat) (ts : List LX.Tok) (rb : ByteArray), vr = .string rb ∧ rb.data.toList = s.data.toList.drop pos ∧ pos ≤ s.size ∧ ts.length ≤ pos ∧ Rk 4 (fun b => w.heap.size + 1 ≤ b) wr vl ts.length (flatT ts) ∧ Below w.heap.size w wr ∧
    B2 wr w.heap.size (.int .i64 0) (.int .i64 0) ∧ w.heap.size + 1 ≤ wr.heap.size ∧ LX.U8 (s.data.toList.drop pos) ∧ LX.toks 0 s.data.toList = (LX.toks pos (s.data.toList.drop pos)).map (ts ++ ·)) (fun _ vr _ => lenOf vr)
  case atStart => exact ⟨0, [], s, rfl, by rw [List.drop_zero], Nat.zero_le _, Nat.le_refl _, Rk.nil 4 _ _, HB1.out, HX1.out, HZ1.out, by rw [List.drop_zero]; exact HU.out, by rw [List.drop_zero]; cases LX.toks 0 s.data.toList <;> rfl⟩
  case round =>
    obtain ⟨pos, ts, rb, rfl, hrb, hp, htl, hrk, hb, hbx, hws, hu, htk⟩ := hrel
    obtain ⟨j, hj1, hj2, hj3, hj4, hj5⟩ := trim_step (s.data.toList.drop pos) pos
    rw [List.length_drop, HZ.out] at hj1
    rw [List.drop_drop] at hj2 hj3 hj4 hj5
    rw [hj3] at htk
    have hu2 := hj4 hu
    obtain ⟨p, hpd⟩ : ∃ p, p = pos + j := ⟨_, rfl⟩
    rw [← hpd] at hj2 htk hu2 hj5
    have hps : p ≤ s.size := by omega
    have htp : ts.length ≤ p := by omega
    obtain ⟨x, hx⟩ : ∃ x : ByteArray, x = ⟨(Lib.trimLeftB rb.data.toList 32).toArray⟩ := ⟨_, rfl⟩
    have hxl : x.data.toList = s.data.toList.drop p := by rw [hx, hrb, hj2]
    have hxs : x.size + p = s.size := by rw [Lib.size_eq, hxl, List.length_drop, HZ.out]; omega
    have hrs : x.size ≤ rb.size := by
      have : rb.size + pos = s.size := by rw [Lib.size_eq, hrb, List.length_drop, HZ.out]; omega
      omega
    have HTR : Hid (Calls Tryz.prog 47 #[.string rb, .string ⟨#[32]⟩] wr fun e w' => e = .returned (.string x) ∧ w' = wr) := Lib.hid (by
      rw [hx]
      exact Tryz.strings_TrimLeft_one rb 32 (by decide) wr)
    have HRK := Lib.hid hrk
    have HB := Lib.hid hb
    have HX := Lib.hid hbx
    have HWS := Lib.hid hws
    have HXL := Lib.hid hxl
    have HXS := Lib.hid hxs
    have HU2 := Lib.hid hu2
    have HTK := Lib.hid htk
    have H32 := Lib.hid hj5
    have HRS := Lib.hid hrs
    obtain ⟨ao, co, rfl⟩ := hrk.shape
    have hat : (s.size : Int) - (x.size : Int) + 1 = (p : Int) + 1 := by omega
    clear hrb hrk hb hbx hws hxl hxs hu2 htk hj1 hj2 hj3 hj4 hj5 hu hpd hx hrs htl hp
    by_cases he : p = s.size
    · have hxe : x.toList = [] := by
        rw [Lib.toList_data, HXL.out]
        exact List.drop_of_length_le (by rw [HZ.out, he]; exact Nat.le_refl _)
      go_wp2_with fail
      refine HTR.out.mono ?_
      rintro e w' ⟨rfl, rfl⟩
      go_wp2_with (at_builtin; refine wpList_append_rk E34 _ rfl _ _ 54 rfl (G := fun b => w.heap.size + 1 ≤ b) rfl (Rk.alloc HRK.out _) ?c1 (.slice (some ⟨w'.heap.size, 0, none⟩) 1 1) 1 (flatT [⟨0, [], 0, s.size + 1⟩]) rfl (src_own _ _ rfl _ _ _ _ _ (by unfold tokC; rfl)) ?c2 ?c3 ?_)
      case c1 => intro b h; have := HWS.out; simp at h; omega
      case c2 => omega
      case c3 => omega
      intro v' w2 hrk2 hk2
      obtain ⟨hr3, hb3, ho3⟩ := own_app HB.out (Nat.le_succ _) HWS.out HRK.out (Keep.refl _ _) hrk2 hk2
      have HR3 := Lib.hid hr3
      have HB3 := Lib.hid hb3
      have HX3 := Lib.hid (HX.out.carry (ho3 _ (by omega)))
      clear hrk2 hk2 hr3 hb3 ho3
      obtain ⟨c0, c1, f0, f1⟩ := HX3.out
      go_wp2_with fail
      have hq := HX3.out.all (.int .i64 0) (.int .i64 0)
      obtain ⟨q0, q1, _, _⟩ := hq
      refine bodyPost_ret (v := .tuple #[v', .agg #[.int .i64 0, .int .i64 0]]) (by simp [results, Tryz.results22, go_sem, q0, q1]) rfl ?_
      refine ⟨below_set2 HB3.out (Nat.le_refl _) _ _, ?_⟩
      have htk := HTK.out
      rw [he, List.drop_of_length_le (by rw [HZ.out]; exact Nat.le_refl _), LX.toks_nil] at htk
      rw [HLX.out, htk]
      refine ⟨v', rfl, ?_⟩
      have hk3 := rk_set2 HR3.out (Nat.lt_succ_self _) (.int .i64 0) (.int .i64 0)
      have hk4 := hk3.mono (G' := fun b => w.heap.size ≤ b) fun b h _ => Nat.le_of_succ_le h
      simpa using hk4
    · have hlt : p < s.size := by omega
      obtain ⟨c, r, hcr⟩ : ∃ c r, s.data.toList.drop p = c :: r := ⟨_, _, byte_drop s p hlt⟩
      have hxn : (x.toList == []) = false := by
        rw [Lib.toList_data, HXL.out, hcr]
        rfl
      have hxl : x.data.toList = c :: r := HXL.out.trans hcr
      have HF := Lib.hid (first_any x (by omega) hxl (by rw [← hcr]; exact HU2.out) wr (HT.out.next HB.out))
      have HC32 : Hid (c ≠ 32) := Lib.hid (H32.out c r hcr)
      have HCR := Lib.hid hcr
      clear hxl hcr
      cases htok : LX.tok c r with
      | none =>
        rw [htok] at HF
        unfold firstV at HF
        have HERR : Hid (LX.lex s.data.toList = .error (4, p + 1)) := Lib.hid (by
          rw [HLX.out, HTK.out, HCR.out, LX.toks_none HC32.out htok]
          rfl)
        clear htok
        go_wp2_with fail
        refine HTR.out.mono ?_
        rintro e w' ⟨rfl, rfl⟩
        go_wp2_with fail
        refine HF.out.mono ?_
        rintro e w2 ⟨rfl, hb2⟩
        have HB2 := Lib.hid (HB.out.trans (hb2.mono HB.out.size))
        have HX2 := Lib.hid (HX.out.carry (hb2.block _ (by have := HWS.out; omega)))
        have hne : w2.heap.size ≠ w.heap.size := by have := HWS.out; have := hb2.size; omega
        clear hb2
        have HX3 := Lib.hid (HX2.out.carry (Below.heap_alloc w2 (.cells #[.int .i64 0, .string ⟨#[]⟩, .int .i64 0, .int .i64 0] 93) w.heap.size (by have := HWS.out; have := HB2.out.size; omega)))
        obtain ⟨c0, c1, f0, f1⟩ := HX3.out
        clear hne
        go_wp2_with fail
        have hq := HX3.out.all (.int .i64 4) (.int .i64 ((p : Int) + 1))
        obtain ⟨q0, q1, _, _⟩ := hq
        refine bodyPost_ret (v := .tuple #[.slice none 0 0, .agg #[.int .i64 4, .int .i64 ((p : Int) + 1)]]) (by simp [results, Tryz.results22, go_sem, q0, q1]) rfl ?_
        refine ⟨below_set2 (HB2.out.alloc HB2.out.size _) (Nat.le_refl _) _ _, ?_⟩
        rw [HERR.out]
        exact ⟨none, 0, rfl⟩
      | some t =>
        obtain ⟨k, sy, n, m⟩ := t
        rw [htok] at HF
        unfold firstV at HF
        have hml := LX.tok_len htok
        have hm0 : ((m : Int) == 0) = false := by simp; omega
        have hru : LX.U8 (s.data.toList.drop (p + m)) := by
          have := tok_rest htok (by rw [← HCR.out]; exact HU2.out)
          rw [← HCR.out, List.drop_drop] at this
          exact this
        have hxm : m ≤ x.size := by
          have := congrArg List.length HCR.out
          rw [List.length_drop, HZ.out, List.length_cons] at this
          omega
        have HTN := Lib.hid (toks_at HCR.out HTK.out HC32.out htok)
        have HRU := Lib.hid hru
        have HRD : Hid ((x.extract m x.size).data.toList = s.data.toList.drop (p + m)) := Lib.hid (by rw [rest_data, HXL.out, List.drop_drop])
        clear htok hru
        go_wp2_with fail
        refine HTR.out.mono ?_
        rintro e w' ⟨rfl, rfl⟩
        go_wp2_with fail
        refine HF.out.mono ?_
        rintro e w2 ⟨rfl, hb2⟩
        have HB2 := Lib.hid (HB.out.trans (hb2.mono HB.out.size))
        have HX2 := Lib.hid (HX.out.carry (hb2.block _ (by have := HWS.out; omega)))
        have HWS2 := Lib.hid (Nat.le_trans HWS.out hb2.size)
        have HRK2 := Lib.hid (HRK.out.carry hb2.size fun b _ _ hb => hb2.block b hb)
        clear hb2
        go_wp2_with (at_builtin; refine wpList_append_rk E34 _ rfl _ _ 54 rfl (G := fun b => w.heap.size + 1 ≤ b) rfl (Rk.alloc (Rk.alloc HRK2.out _) _) ?e1 (.slice (some ⟨w2.heap.size + 1, 0, none⟩) 1 1) 1 (flatT [⟨k, sy, n, p + 1⟩]) rfl (src_own _ (w2.heap.size + 1) (by simp) ⟨k, sy, n, p + 1⟩ _ _ _ _ (by unfold tokC; rfl)) ?e2 ?e3 ?_)
        case e1 => intro b h; have := HWS2.out; simp at h; omega
        case e2 => omega
        case e3 => omega
        intro v' w3 hrk3 hk3
        obtain ⟨hr3, hb3, ho3⟩ := own_app HB2.out (Nat.le_succ _) HWS2.out HRK2.out ((Keep.refl _ _).alloc _) hrk3 hk3
        have HR3 := Lib.hid hr3
        have HB3 := Lib.hid hb3
        have HX3 := Lib.hid (HX2.out.carry (ho3 _ (by omega)))
        have HWS3 := Lib.hid (show w.heap.size + 1 ≤ w3.heap.size from Nat.le_trans HWS2.out (Nat.le_trans (by simp; omega) hk3.size))
        clear hrk3 hk3 hr3 hb3 ho3
        go_wp2_with fail
        go_roundw
        case rel =>
          refine ⟨p + m, ts ++ [⟨k, sy, n, p + 1⟩], x.extract m x.size, rfl, HRD.out, by omega, by rw [List.length_append, List.length_singleton]; omega, HR3.out, HB3.out, HX3.out, HWS3.out, HRU.out, HTN.out⟩
        case measure =>
          have := HRS.out
          simp [lenOf, ByteArray.size_extract]
          omega

end Go.Proofs.YtmodiemmcdocdaaGreatDoor.Own

namespace Go.Proofs.YtmodiemmcdocdaaGreatDoor
open Go.RowKit Go

theorem lex_err {l : List UInt8} {p : Nat × Nat} (h : LX.lex l = .error p) : p.1 = 6 ∨ p.1 = 4 := by
  unfold LX.lex at h
  split at h
  · cases h; exact .inl rfl
  split at h
  · cases h; exact .inr rfl
  split at h
  · cases h; exact .inr rfl
  · cases h

end Go.Proofs.YtmodiemmcdocdaaGreatDoor
