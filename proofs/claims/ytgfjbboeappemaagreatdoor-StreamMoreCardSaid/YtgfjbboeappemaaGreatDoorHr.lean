/-
  THE DOCUMENT'S OWN Words, Has (the texts of stage 3, joined).
-/
import Derived.Test.YtgfjbboeappemaaGreatDoorHw
import Derived.Test.YtgfjbboeappemaaGreatDoorShelf
namespace Go.Proofs.YtgfjbboeappemaaGreatDoor.H3
open Go.RowKit Go

theorem info3 : (Tryz.prog.info? 3).map (fun i => (i.zero, i.size, i.bytes)) = some (some (.int .i64 0), 1, 8) := by kernel_rfl
theorem elem3 : ∃ i, Elem Tryz.prog 49 3 i (.int .i64 0) 8 := by
  obtain ⟨i, hi, hz, hsz, hby⟩ := info_parts info3
  exact ⟨i, Tryz.underlying49, hi, hz, hsz, hby, rfl⟩

/-- Numbers, as cells. -/
def ints (l : List Nat) : List Value := l.map fun (n : Nat) => Value.int .i64 (n : Int)
theorem ints_length (l : List Nat) : (ints l).length = l.length := by simp [ints]
theorem ints_snoc (l : List Nat) (n : Nat) : ints (l ++ [n]) = ints l ++ [.int .i64 n] := by simp [ints]

/-- Places, one behind the other; and where the word that is open begins. -/
def flat (ps : List (Nat × Nat)) (fr : Option Nat) : List Nat := (ps.flatMap fun p => [p.1, p.2]) ++ fr.toList
theorem flat_open (ps : List (Nat × Nat)) (pos : Nat) : flat ps (some pos) = flat ps none ++ [pos] := by simp [flat]
theorem flat_shut (ps : List (Nat × Nat)) (k pos : Nat) : flat (ps ++ [(k, pos)]) none = flat ps (some k) ++ [pos] := by simp [flat]

theorem decodeGo_at (s : ByteArray) (pos : Nat) (h : pos < s.size) : Lib.decodeGo (s.extract pos s.size) = M.dec (s.data.toList.drop pos) := by
  have hsz : (s.extract pos s.size).size = s.size - pos := by simp [ByteArray.size_extract]
  unfold Lib.decodeGo
  rw [if_neg (by omega), M.dec_at, List.drop_zero]
  congr 1
  rw [ByteArray.data_extract]
  have e : s.data.toList.length = s.size := Array.length_toList
  simp [List.extract_eq_take_drop]
  rw [List.take_of_length_le]
  rw [List.length_drop, e]
  exact Nat.le_refl _

theorem decode_call (s : ByteArray) (pos : Nat) (h : pos < s.size) (c n : Nat) (hd : M.dec (s.data.toList.drop pos) = (c, n)) (w : World) (hT : Lib.Utf8Tabs 1 2 w) :
    Calls Tryz.prog 100 #[.string (s.extract pos s.size)] w fun e w' => e = .returned (.tuple #[.int .i32 c, .int .i64 n]) ∧ Below w.heap.size w w' := by
  have := Tryz.utf8_DecodeRuneInString (s.extract pos s.size) w hT
  rw [decodeGo_at s pos h, hd] at this
  exact this

theorem refLetter_nat (c : Nat) (b : Bool) (h : M.letter c = b) (w : World) : Calls Tryz.prog 134 #[.int .i32 c] w fun e w' => e = .returned (.bool b) ∧ w = w' := by
  rw [← h, ← letterI_nat]
  exact refLetter_any c w

/-- What holds at the head of a round. -/
def RRel (l : List UInt8) (s : ByteArray) (w : World) (v vo vi : Value) (wr : World) : Prop :=
  ∃ (pos : Nat) (fr : Option Nat) (pre : List (Nat × Nat)), vi = .int .i64 pos ∧ vo = .bool fr.isSome ∧ pos ≤ s.size ∧ pre ++ M.P l pos fr = M.places l ∧ (flat pre fr).length ≤ pos ∧
    Rs (From w.heap.size) wr v (ints (flat pre fr)) ∧ Below w.heap.size w wr

/-- Behind an append. -/
theorem grown {w W w2 : World} {v v' : Value} {xs ys : List Value} {o : Obj} (hB : Below w.heap.size w W) (hr : Rs (From w.heap.size) W v xs) (hown : Rs (fun k => From w.heap.size k ∧ (At v k ∨ W.heap.size + 1 ≤ k)) w2 v' ys) (hk : Keep (At v) (W.alloc o) w2) :
    Rs (From w.heap.size) w2 v' ys ∧ Below w.heap.size w w2 :=
  ⟨hown.mono fun _ h _ => h.1, (hB.alloc hB.size o).trans (hk.below (fun k h => (hr.at h).1) (by have := hB.size; simp; omega))⟩

theorem src_int (w : World) (n : Nat) : Src Tryz.prog 1 49 (.slice (some ⟨w.heap.size, 0, none⟩) 1 1) [Value.int .i64 n].length [Value.int .i64 n] (w.alloc (.cells #[.int .i64 n] 3)) :=
  (rs_new (_P := Tryz.prog) w [.int .i64 n] 3 (by simp)).src Tryz.underlying49 (by simp [Value.oneCell'])

set_option maxHeartbeats 4000000 in
theorem refPlaces_any (s : ByteArray) (hlen : s.size ≤ 1048576) (w : World) (hT : Lib.Utf8Tabs 1 2 w) :
    Calls Tryz.prog 120 #[.string s] w fun e w' => ∃ v, e = .returned v ∧ Rs (From w.heap.size) w' v (ints (flat (M.places s.data.toList) none)) ∧ Below w.heap.size w w' := by
  obtain ⟨i3, E3⟩ := elem3
  have hsz : s.data.toList.length = s.size := Array.length_toList
  have HZ := Lib.hid hsz
  clear hsz
  have HT := Lib.hid hT
  clear hT
  go_enter Tryz.func120, Tryz.ntmps120
  go_wp2
  go_loopw [3, 4, 5] (fun v vo vi wr => RRel s.data.toList s w v vo vi wr) (fun _ _ vi _ => s.size - (intOf vi).toNat)
  case atStart => exact ⟨0, none, [], rfl, rfl, Nat.zero_le _, rfl, Nat.le_refl _, Rs.nil _ _, Below.refl _ _⟩
  case round =>
    obtain ⟨pos, fr, pre, rfl, rfl, hp, hP, hfl, hr, hb⟩ := hrel
    have HPP := Lib.hid hP
    have HR := Lib.hid hr
    have HB := Lib.hid hb
    have HIL := Lib.hid (ints_length (flat pre fr))
    clear hP hr hb
    by_cases hlt : pos < s.size
    · obtain ⟨c, n, hd⟩ : ∃ c n, M.dec (s.data.toList.drop pos) = (c, n) := ⟨_, _, rfl⟩
      have hpl : pos < s.data.toList.length := by rw [HZ.out]; exact hlt
      have hdd := M.dec_drop hpl
      have hPl := M.P_letter fr hpl
      have hPo := M.P_other fr hpl
      rw [hd] at hdd hPl hPo
      rw [HZ.out] at hdd
      have HC := Lib.hid (decode_call s pos hlt c n hd wr (Utf8Tabs_below HT.out HB.out))
      clear hd
      by_cases hl : M.letter c = true
      · have HPL := Lib.hid (hPl hl)
        have HL := Lib.hid (fun w1 => refLetter_nat c true hl w1)
        clear hPl hPo hl
        cases fr with
        | none =>
          go_wp2_with fail
          refine HC.out.mono ?_
          rintro e w1 ⟨rfl, hb1⟩
          have HB1 := Lib.hid (HB.out.trans (hb1.mono HB.out.size))
          have HR1 := Lib.hid (HR.out.below (Nat.le_refl _) hb1)
          have HSRC := Lib.hid (src_int w1 pos)
          clear hb1
          go_wp2_with (first | (go_at_call 134; refine (HL.out _).mono ?_; rintro e w' ⟨rfl, rfl⟩) | (at_builtin; refine wpList_append_rs E3 _ rfl _ _ 49 rfl rfl (HR1.out.alloc _) ?c1 (.slice (some ⟨w1.heap.size, 0, none⟩) 1 1) [.int .i64 pos] rfl HSRC.out ?c2 ?c3 ?_))
          case c1 =>
            intro k hk
            have := HB1.out.size
            show w.heap.size ≤ k
            first | omega | (simp at hk; omega)
          case c2 => rw [HIL.out]; first | omega | (simp only [List.length_cons, List.length_nil]; omega)
          case c3 => rw [HIL.out]; first | omega | (simp only [List.length_cons, List.length_nil]; omega)
          intro v' w2 hown hk
          obtain ⟨hr2, hb2⟩ := grown HB1.out HR1.out hown hk
          rw [← ints_snoc, ← flat_open] at hr2
          have HR2 := Lib.hid hr2
          have HB2 := Lib.hid hb2
          clear hr2 hb2 hown hk
          go_wp2
          go_roundw
          case rel => exact ⟨pos + n, some pos, pre, by go_num, rfl, hdd.2, by rw [← HPP.out, HPL.out]; rfl, by rw [flat_open, List.length_append]; simp; omega, HR2.out, HB2.out⟩
          case measure => simp [intOf]; omega
        | some k =>
          go_wp2_with fail
          refine HC.out.mono ?_
          rintro e w1 ⟨rfl, hb1⟩
          have HB1 := Lib.hid (HB.out.trans (hb1.mono HB.out.size))
          have HR1 := Lib.hid (HR.out.below (Nat.le_refl _) hb1)
          clear hb1
          go_wp2_with (go_at_call 134; refine (HL.out _).mono ?_; rintro e w' ⟨rfl, rfl⟩)
          go_roundw
          case rel => exact ⟨pos + n, some k, pre, by go_num, rfl, hdd.2, by rw [← HPP.out, HPL.out]; rfl, by omega, HR1.out, HB1.out⟩
          case measure => simp [intOf]; omega
      · have hl := Bool.eq_false_iff.2 hl
        have HPL := Lib.hid (hPo hl)
        have HL := Lib.hid (fun w1 => refLetter_nat c false hl w1)
        clear hPl hPo hl
        cases fr with
        | none =>
          go_wp2_with fail
          refine HC.out.mono ?_
          rintro e w1 ⟨rfl, hb1⟩
          have HB1 := Lib.hid (HB.out.trans (hb1.mono HB.out.size))
          have HR1 := Lib.hid (HR.out.below (Nat.le_refl _) hb1)
          clear hb1
          go_wp2_with (go_at_call 134; refine (HL.out _).mono ?_; rintro e w' ⟨rfl, rfl⟩)
          go_roundw
          case rel => exact ⟨pos + n, none, pre, by go_num, rfl, hdd.2, by rw [← HPP.out, HPL.out]; rfl, by omega, HR1.out, HB1.out⟩
          case measure => simp [intOf]; omega
        | some k =>
          go_wp2_with fail
          refine HC.out.mono ?_
          rintro e w1 ⟨rfl, hb1⟩
          have HB1 := Lib.hid (HB.out.trans (hb1.mono HB.out.size))
          have HR1 := Lib.hid (HR.out.below (Nat.le_refl _) hb1)
          have HSRC := Lib.hid (src_int w1 pos)
          clear hb1
          go_wp2_with (first | (go_at_call 134; refine (HL.out _).mono ?_; rintro e w' ⟨rfl, rfl⟩) | (at_builtin; refine wpList_append_rs E3 _ rfl _ _ 49 rfl rfl (HR1.out.alloc _) ?d1 (.slice (some ⟨w1.heap.size, 0, none⟩) 1 1) [.int .i64 pos] rfl HSRC.out ?d2 ?d3 ?_))
          case d1 =>
            intro k hk
            have := HB1.out.size
            show w.heap.size ≤ k
            first | omega | (simp at hk; omega)
          case d2 => rw [HIL.out]; first | omega | (simp only [List.length_cons, List.length_nil]; omega)
          case d3 => rw [HIL.out]; first | omega | (simp only [List.length_cons, List.length_nil]; omega)
          intro v' w2 hown hk
          obtain ⟨hr2, hb2⟩ := grown HB1.out HR1.out hown hk
          rw [← ints_snoc, ← flat_shut] at hr2
          have HR2 := Lib.hid hr2
          have HB2 := Lib.hid hb2
          clear hr2 hb2 hown hk
          go_wp2
          go_roundw
          case rel => exact ⟨pos + n, none, pre ++ [(k, pos)], by go_num, rfl, hdd.2, by rw [← HPP.out, HPL.out, List.append_assoc]; rfl, by rw [flat_shut, List.length_append]; simp; omega, HR2.out, HB2.out⟩
          case measure => simp [intOf]; omega
    · obtain rfl : pos = s.size := by omega
      have hE := M.P_end (l := s.data.toList) (pos := s.size) fr (by rw [HZ.out]; exact hlt)
      rw [HZ.out] at hE
      have HE := Lib.hid hE
      clear hE
      cases fr with
      | none =>
        go_wp2
        go_ret
        refine ⟨u3, rfl, ?_, HB.out⟩
        rw [← HPP.out, HE.out]
        simpa [M.finp] using HR.out
      | some k =>
        have HSRC := Lib.hid (src_int wr s.size)
        go_wp2_with (at_builtin; refine wpList_append_rs E3 _ rfl _ _ 49 rfl rfl (HR.out.alloc _) ?f1 (.slice (some ⟨wr.heap.size, 0, none⟩) 1 1) [.int .i64 s.size] rfl HSRC.out ?f2 ?f3 ?_)
        case f1 =>
          intro k hk
          have := HB.out.size
          show w.heap.size ≤ k
          first | omega | (simp at hk; omega)
        case f2 => rw [HIL.out]; first | omega | (simp only [List.length_cons, List.length_nil]; omega)
        case f3 => rw [HIL.out]; first | omega | (simp only [List.length_cons, List.length_nil]; omega)
        intro v' w2 hown hk
        obtain ⟨hr2, hb2⟩ := grown HB.out HR.out hown hk
        rw [← ints_snoc, ← flat_shut] at hr2
        have HR2 := Lib.hid hr2
        have HB2 := Lib.hid hb2
        clear hr2 hb2 hown hk
        go_wp2
        go_ret
        refine ⟨v', rfl, ?_, HB2.out⟩
        rw [← HPP.out, HE.out]
        exact HR2.out

end Go.Proofs.YtgfjbboeappemaaGreatDoor.H3

namespace Go.Proofs.YtgfjbboeappemaaGreatDoor.H3
open Go.RowKit Go Go.Shelf

attribute [local go_sem] Oper.semAt_some wide_fn wide_depth

/-- append, one operation. -/
theorem wpIn_append_rs {F : Fence} {n : Nat} {P : Program} {t e : TypeId} {i : TypeInfo} {z : Value} {bytes : Nat} (E : Elem P t e i z bytes) (w : World) {o : Oper} {a : Act} {Q : Exit → Act → World → Prop} (s x : Operand) (tx : TypeId)
    (ho : o.op = .call { callee := .builtin .append, args := #[s, x], argTypes := #[t, tx] })
    {G : Nat → Prop} {v : Value} {xs : List Value} (hv : a.eval s = v) (h : Rs G w v xs) (hG : ∀ k, w.heap.size ≤ k → G k)
    (xv : Value) (ys : List Value) (hx : a.eval x = xv) (hs : Src P 1 tx xv ys.length ys w) (hb : (xs.length + ys.length) * bytes ≤ 140737488355328) (hl : xs.length + ys.length ≤ 140737488355328) {K : Act → World → Prop}
    (hK : ∀ v' w', Rs (fun k => G k ∧ (At v k ∨ w.heap.size ≤ k)) w' v' (xs ++ ys) → Keep (At v) w w' → K (a.put o.dst v') w') : o.wpIn F n P a w K Q := by
  obtain ⟨v', w', hrun, h1, h2⟩ := run_append_rs E h hG tx o.type xv ys hs hb hl
  unfold Oper.wpIn
  refine ⟨?_, ?_⟩
  · simp [Oper.about, ho, resolve, Target.leads, Sem.run_pure]
  · rw [Oper.semAt_plain F _ _ (by rw [ho]; intro c hc'; cases hc')]
    simp [execOp, ho, resolve, invoke, builtin, hv, hx, hrun, Result.andThen]
    exact hK v' w' h1 h2

/-- 'out = append(out, x)', x made of what is read: read, build, append, assign. -/
def appI (W1 W2 : World) (v : Value) (Out : Value → World → Prop) (listed : Array Bool) (ys : Nat → Value) (w : World) : Prop :=
  (listed.getD 12 false = false → w = W1) ∧ (listed.getD 12 false = true → listed.getD 13 false = false → w = W2) ∧ (listed.getD 13 false = true → Out (ys 13) w) ∧ (listed.getD 14 false = false → ys 14 = v)

theorem set_true {listed : Array Bool} {c : Nat} (hc : c < listed.size) : (listed.setIfInBounds c true).getD c false = true := by simp [Array.getD, hc]

section
variable {W1 W2 : World} {v : Value} {Out : Value → World → Prop} {listed : Array Bool} {ys : Nat → Value} {w : World}
theorem appI.other (h : appI W1 W2 v Out listed ys w) {i : Nat} (h12 : i ≠ 12) (h13 : i ≠ 13) (h14 : i ≠ 14) (u : Value) : appI W1 W2 v Out (listed.setIfInBounds i true) (upd ys i u) w := by
  unfold appI
  rw [getD_set_ne false h12, getD_set_ne false h13, getD_set_ne false h14, upd_other ys u (Ne.symm h13), upd_other ys u (Ne.symm h14)]
  exact h
theorem appI.build (h : appI W1 W2 v Out listed ys w) (hc : 12 < listed.size) (h13 : listed.getD 13 false = false) (u : Value) : appI W1 W2 v Out (listed.setIfInBounds 12 true) (upd ys 12 u) W2 := by
  unfold appI
  rw [set_true hc, getD_set_ne false (by decide), getD_set_ne false (by decide), upd_other ys u (by decide), upd_other ys u (by decide), h13]
  exact ⟨(fun h => by cases h), fun _ _ => rfl, (fun h => by cases h), h.2.2.2⟩
theorem appI.app {w' : World} {u : Value} (h : appI W1 W2 v Out listed ys w) (hc : 13 < listed.size) (h12 : listed.getD 12 false = true) (ho : Out u w') : appI W1 W2 v Out (listed.setIfInBounds 13 true) (upd ys 13 u) w' := by
  unfold appI
  rw [set_true hc, getD_set_ne false (by decide), getD_set_ne false (by decide), upd_same, upd_other ys u (by decide), h12]
  exact ⟨(fun h => by cases h), (fun _ h => by cases h), fun _ => ho, h.2.2.2⟩
theorem appI.last (h : appI W1 W2 v Out listed ys w) (h13 : listed.getD 13 false = true) (h12 : listed.getD 12 false = true) (u : Value) (hc : 14 < listed.size := by simp_all) : appI W1 W2 v Out (listed.setIfInBounds 14 true) (upd ys 14 u) w := by
  unfold appI
  rw [set_true hc, getD_set_ne false (by decide), getD_set_ne false (by decide), upd_other ys u (by decide), h13, h12]
  exact ⟨(fun h => by cases h), (fun _ h => by cases h), fun _ => h.2.2.1 h13, (fun h => by cases h)⟩
end

/-- What the operations leave. -/
def AV (v Lv : Value) (s : ByteArray) (g i a b q : Nat) (t : ByteArray) : Nat → (Nat → Value) → World → Prop
  | 0, ys, _ => ys 0 = v
  | 1, ys, _ => ys 1 = .string s
  | 2, ys, _ => ys 2 = Lv
  | 3, ys, _ => ys 3 = .int .i64 i
  | 4, ys, _ => ys 4 = .pointer (some ⟨g, i, none⟩)
  | 5, ys, _ => ys 5 = .int .i64 a
  | 6, ys, _ => ys 6 = Lv
  | 7, ys, _ => ys 7 = .int .i64 i
  | 8, ys, _ => ys 8 = .int .i64 ((i : Int) + 1)
  | 9, ys, _ => ys 9 = .pointer (some ⟨g, i + 1, none⟩)
  | 10, ys, _ => ys 10 = .int .i64 b
  | 11, ys, _ => ys 11 = .string t
  | 12, ys, _ => ys 12 = .slice (some ⟨q, 0, none⟩) 1 1
  | 14, ys, _ => ys 14 = ys 13
  | _, _, _ => True
theorem AV_st {v Lv : Value} {s : ByteArray} {g i a b q : Nat} {t : ByteArray} {k : Nat} (ys : Nat → Value) (u : Value) (w w2 : World) : ∀ j, k ≠ j → (k = 13 → j ≠ 14) → AV v Lv s g i a b q t j ys w → AV v Lv s g i a b q t j (upd ys k u) w2 := by
  intro j hij h13 hV
  match j, hV with
  | 0, hV => exact (upd_other ys u (Ne.symm hij)).trans hV
  | 1, hV => exact (upd_other ys u (Ne.symm hij)).trans hV
  | 2, hV => exact (upd_other ys u (Ne.symm hij)).trans hV
  | 3, hV => exact (upd_other ys u (Ne.symm hij)).trans hV
  | 4, hV => exact (upd_other ys u (Ne.symm hij)).trans hV
  | 5, hV => exact (upd_other ys u (Ne.symm hij)).trans hV
  | 6, hV => exact (upd_other ys u (Ne.symm hij)).trans hV
  | 7, hV => exact (upd_other ys u (Ne.symm hij)).trans hV
  | 8, hV => exact (upd_other ys u (Ne.symm hij)).trans hV
  | 9, hV => exact (upd_other ys u (Ne.symm hij)).trans hV
  | 10, hV => exact (upd_other ys u (Ne.symm hij)).trans hV
  | 11, hV => exact (upd_other ys u (Ne.symm hij)).trans hV
  | 12, hV => exact (upd_other ys u (Ne.symm hij)).trans hV
  | 13, hV => trivial
  | 14, hV => exact (upd_other ys u (Ne.symm hij)).trans (hV.trans (upd_other ys u (fun e => h13 e.symm rfl)).symm)
  | _ + 15, hV => trivial

theorem flat_length (ps : List (Nat × Nat)) : (flat ps none).length = 2 * ps.length := by
  induction ps with
  | nil => rfl
  | cons p r ih =>
    simp [flat] at ih ⊢
    omega

theorem flat_get : ∀ (ps : List (Nat × Nat)) (k : Nat) (h : k < ps.length), (flat ps none)[2 * k]? = some ps[k].1 ∧ (flat ps none)[2 * k + 1]? = some ps[k].2
  | [], k, h => by cases h
  | p :: r, 0, h => by simp [flat]
  | p :: r, k + 1, h => by
    have ih := flat_get r k (by simpa using h)
    have e : flat (p :: r) none = p.1 :: p.2 :: flat r none := by simp [flat]
    rw [e, show 2 * (k + 1) = 2 * k + 1 + 1 by omega, List.getElem?_cons_succ, List.getElem?_cons_succ, show 2 * k + 1 + 1 + 1 = (2 * k + 1) + 1 + 1 by omega, List.getElem?_cons_succ, List.getElem?_cons_succ]
    simpa using ih

/-- One number read. -/
theorem Rs.at_int {G : Nat → Prop} {w : World} {g c : Nat} {n : Nat} {l : List Nat} (h : Rs G w (.slice (some ⟨g, 0, none⟩) n c) (ints l)) (k x : Nat) (hk : l[k]? = some x) : w.cell? ⟨g, k, none⟩ = some (.int .i64 x) := by
  have hkl := (List.getElem?_eq_some_iff.1 hk).1
  rcases h with ⟨h, _⟩ | ⟨g', cap, hv, _, _, _, _, hc, _⟩
  · cases h
  · obtain rfl : g = g' := by
      have : (some (⟨g, 0, none⟩ : Addr)) = some ⟨g', 0, none⟩ := by injection hv
      simpa using this
    rw [hc k (by rw [ints_length]; exact hkl), ints, List.getElem?_map, hk]
    rfl

theorem Rs.int_block {G : Nat → Prop} {w : World} {v : Value} {l : List Nat} (h : Rs G w v (ints l)) (hl : 0 < l.length) : ∃ g c, v = .slice (some ⟨g, 0, none⟩) l.length c := by
  rcases h with ⟨_, h⟩ | ⟨g, cap, hv, _⟩
  · rw [← ints_length, h] at hl; cases hl
  · rw [ints_length] at hv; exact ⟨g, cap, hv⟩

theorem src_str (w : World) (t : ByteArray) : Src Tryz.prog 1 82 (.slice (some ⟨w.heap.size, 0, none⟩) 1 1) [Value.string t].length [Value.string t] (w.alloc (.cells #[.string t] 9)) :=
  (rs_new (_P := Tryz.prog) w [.string t] 9 (by simp)).src Tryz.underlying82 (by simp [Value.oneCell'])

theorem strs_snoc (l : List ByteArray) (t : ByteArray) : strs (l ++ [t]) = strs l ++ [.string t] := by simp [strs]

/-- The two rows: what has come, and the places; each in blocks of its own. -/
def TwoRows (w : World) (B : Nat) (v Lv : Value) (l : List ByteArray) (ps : List (Nat × Nat)) (wr : World) : Prop :=
  w.heap.size ≤ B ∧ Rs (From B) wr v (strs l) ∧ Rs (fun k => w.heap.size ≤ k ∧ k < B) wr Lv (ints (flat ps none)) ∧ Below w.heap.size w wr ∧ B ≤ wr.heap.size

theorem TwoRows.app {w : World} {B : Nat} {v Lv : Value} {l : List ByteArray} {ps : List (Nat × Nat)} {wr : World} (h : TwoRows w B v Lv l ps wr) (t : ByteArray) (v' : Value) (w2 : World)
    (hown : Rs (fun k => From B k ∧ (At v k ∨ (wr.drew.alloc (.cells #[.string t] 9)).heap.size ≤ k)) w2 v' (strs l ++ [.string t])) (hk : Keep (At v) (wr.drew.alloc (.cells #[.string t] 9)) w2) : TwoRows w B v' Lv (l ++ [t]) ps w2 := by
  obtain ⟨h0, h1, h2, h3, h4⟩ := h
  have hd : Keep (fun _ => False) wr (wr.drew.alloc (.cells #[.string t] 9)) := (Keep.refl _ wr).drew.alloc _
  refine ⟨h0, by rw [strs_snoc]; exact hown.mono fun _ h _ => h.1, ?_, ?_, Nat.le_trans h4 (Nat.le_trans hd.size hk.size)⟩
  · exact (h2.keep hd (fun _ _ _ _ h => h)).keep hk (fun k h _ _ ha => by
      have h5 : B ≤ k := (h1.at ha).1
      omega)
  · refine (h3.trans ((hd.below (fun _ h => h.elim) (Nat.le_refl _)).mono h3.size)).trans (hk.below (fun k ha => ?_) (Nat.le_trans h3.size hd.size))
    have h5 : B ≤ k := (h1.at ha).1
    omega

set_option maxHeartbeats 4000000 in
set_option maxRecDepth 100000 in
theorem refWords_any (s : ByteArray) (hlen : s.size ≤ 1048576) (w : World) (hT : Lib.Utf8Tabs 1 2 w) :
    Calls Tryz.prog 87 #[.string s] w fun e w' => ∃ v, e = .returned v ∧ Rs (From w.heap.size) w' v (strs (wordsB s)) ∧ Below w.heap.size w w' := by
  obtain ⟨i9, E9⟩ := elem9
  obtain ⟨ps, hps⟩ : ∃ ps, ps = M.places s.data.toList := ⟨_, rfl⟩
  have HPS := Lib.hid hps
  have hwl : ps.length ≤ 1048576 := by
    have := wordsB_length s
    unfold wordsB at this
    rw [List.length_map, ← hps] at this
    omega
  have HW : Hid (wordsB s = ps.map (pc s)) := by
    show wordsB s = ps.map (pc s)
    rw [hps]; rfl
  have HF : Hid (∀ p ∈ ps, M.Fits s.data.toList p) := by
    show ∀ p ∈ ps, M.Fits s.data.toList p
    rw [hps]; exact M.places_fits _
  clear hps
  go_enter Tryz.func87, Tryz.ntmps87
  go_wp2_with fail
  refine (refPlaces_any s hlen w hT).mono ?_
  rintro e w1 ⟨Lv, rfl, hL, hb1⟩
  rw [← HPS.out] at hL
  obtain ⟨aL, cL, hLv⟩ := hL.shape
  obtain ⟨n2, hn2⟩ : ∃ n2, n2 = 2 * ps.length := ⟨_, rfl⟩
  rw [ints_length, flat_length, ← hn2] at hLv
  subst hLv
  have HN2 := Lib.hid hn2
  have H0 : Hid (TwoRows w w1.heap.size (.slice none 0 0) (.slice aL n2 cL) [] ps w1) := Lib.hid ⟨hb1.size, Rs.nil _ _, hL.mono (fun k h ha => ⟨h, (hL.at ha).2⟩), hb1, Nat.le_refl _⟩
  have hn2b : n2 ≤ 2097152 := by omega
  clear hL hb1 hn2
  go_wp2_with fail
  go_loopw [3, 5] (fun v vi wr => ∃ k : Nat, vi = .int .i64 ((2 * k : Nat) : Int) ∧ k ≤ ps.length ∧ TwoRows w w1.heap.size v (.slice aL n2 cL) ((ps.take k).map (pc s)) ps wr) (fun _ vi _ => n2 - (intOf vi).toNat)
  case atStart => exact ⟨0, rfl, Nat.zero_le _, H0.out⟩
  case round =>
    obtain ⟨k, rfl, hk, hr⟩ := hrel
    obtain ⟨v, hv⟩ : ∃ v, v = u3 := ⟨_, rfl⟩
    subst hv
    obtain ⟨i, hi⟩ : ∃ i, i = 2 * k := ⟨_, rfl⟩
    rw [← hi]
    have HI := Lib.hid hi
    have HR := Lib.hid hr
    by_cases hkn : k < ps.length
    · have hlt : i < n2 := by rw [HN2.out, hi]; omega
      have hlt1 : i + 1 < n2 := by rw [HN2.out, hi]; omega
      obtain ⟨g, c, hgc⟩ := hr.2.2.1.int_block (by rw [flat_length]; omega)
      obtain rfl : aL = some ⟨g, 0, none⟩ := by injection hgc
      obtain ⟨⟨a, b⟩, hab⟩ : ∃ p, p = ps[k] := ⟨_, rfl⟩
      obtain ⟨hg1, hg2⟩ := flat_get ps k hkn
      rw [← hab] at hg1 hg2
      have hc1 := hr.2.2.1.at_int _ _ hg1
      have hc2 := hr.2.2.1.at_int _ _ hg2
      rw [← hi] at hc1 hc2
      have hfit := HF.out (a, b) (by rw [hab]; exact List.getElem_mem hkn)
      have hf2 : b ≤ s.size := hfit.2
      have hf1 : a ≤ b := Nat.le_of_lt hfit.1
      obtain ⟨t, ht⟩ : ∃ t, t = pc s (a, b) := ⟨_, rfl⟩
      have hpe : s.extract a b = t := ht ▸ pc_eq s (a, b)
      have htk : (ps.take (k + 1)).map (pc s) = (ps.take k).map (pc s) ++ [t] := by
        rw [List.take_succ_eq_append_getElem hkn, List.map_append, ← hab, ht]
        rfl
      have HTK := Lib.hid htk
      have HOUT := Lib.hid (hr.app t)
      rw [← htk] at HOUT
      have HRA := Lib.hid ((hr.2.1.keep ((Keep.refl (fun _ => False) wr).drew) (fun _ _ _ _ h => h)).alloc (.cells #[.string t] 9))
      have HGE : Hid (∀ k, (wr.drew.alloc (.cells #[.string t] 9)).heap.size ≤ k → From w1.heap.size k) := Lib.hid fun k hk => by
        have h4 := hr.2.2.2.2
        have h5 : (wr.drew.alloc (.cells #[.string t] 9)).heap.size = wr.heap.size + 1 := by rw [World.size_alloc]; rfl
        show w1.heap.size ≤ k
        omega
      have HSRC : Hid (Src Tryz.prog 1 82 (.slice (some ⟨wr.heap.size, 0, none⟩) 1 1) [Value.string t].length [Value.string t] (wr.drew.alloc (.cells #[.string t] 9))) := Lib.hid (src_str wr.drew t)
      have HLEN : Hid ((strs ((ps.take k).map (pc s))).length = k) := Lib.hid (by rw [strs_length, List.length_map, List.length_take]; omega)
      have hwrap : IntKind.i64.wrap ((i : Int) + 1) = (i : Int) + 1 := by rw [IntKind.wrap_i64]; omega
      have hlt2 : (i : Int) + 1 < (n2 : Int) := by omega
      have hlt3 : (0 : Int) ≤ (i : Int) + 1 := by omega
      clear hr hfit hgc hg1 hg2 hab ht htk hi
      go_wp2
      refine (wpIn_wide (n := 1)).1 ?_
      refine wpIn_region_flow (fun _ => trivial) (by kernel_rfl) (appI wr.drew (wr.drew.alloc (.cells #[.string t] 9)) v (fun v' w2 => TwoRows w w1.heap.size v' (.slice (some ⟨g, 0, none⟩) n2 cL) ((ps.take (k + 1)).map (pc s)) ps w2)) (fun _ _ _ _ => True) (AV v (.slice (some ⟨g, 0, none⟩) n2 cL) s g i a b wr.heap.size t) (fun j => j == 14) (by kernel_rfl) (by kernel_rfl) ?hst ⟨fun _ => rfl, (fun h => by cases h), (fun h => by cases h), fun _ => rfl⟩ ?step ?fin
      case hst =>
        intro i j ys u w2 w3 hij hanc _ hV _
        refine AV_st ys u w2 w3 j hij (fun e => ?_) hV
        subst e
        exact (fun e => by subst e; cases hanc.symm.trans (by kernel_rfl : _ = true))
      case step =>
        refine ⟨?_, ?_, ?_, ?_, ?_, ?_, ?_, ?_, ?_, ?_, ?_, ?_, ?_, ?_, ?_, trivial⟩
        · intro listed ys A w hsz hsd hi hall hA hI hd K hK
          have e3 : A.tmps.getD 3 undef = v := (hA 3 (Nat.le_of_ble_eq_true rfl)).trans (hI.2.2.2 (not_yet hsd hi (by kernel_rfl)))
          refine step_run (.inl rfl) ?_
          clear hA hd
          go_simp
          exact hK _ _ (hI.other (by decide) (by decide) (by decide) _) trivial (upd_same _ _ _)
        · intro listed ys A w hsz hsd hi hall hA hI hd K hK
          obtain rfl := hI.1 (not_yet hsd hi (by kernel_rfl))
          have e0 : A.tmps.getD 0 undef = .string s := hA 0 (Nat.le_of_ble_eq_true rfl)
          refine step_run (.inl rfl) ?_
          clear hA hd
          go_simp
          exact hK _ _ (hI.other (by decide) (by decide) (by decide) _) trivial (upd_same _ _ _)
        · intro listed ys A w hsz hsd hi hall hA hI hd K hK
          obtain rfl := hI.1 (not_yet hsd hi (by kernel_rfl))
          have e4 : A.tmps.getD 4 undef = .slice (some ⟨g, 0, none⟩) n2 cL := hA 4 (Nat.le_of_ble_eq_true rfl)
          refine step_run (.inl rfl) ?_
          clear hA hd
          go_simp
          exact hK _ _ (hI.other (by decide) (by decide) (by decide) _) trivial (upd_same _ _ _)
        · intro listed ys A w hsz hsd hi hall hA hI hd K hK
          obtain rfl := hI.1 (not_yet hsd hi (by kernel_rfl))
          have e5 : A.tmps.getD 5 undef = .int .i64 i := hA 5 (Nat.le_of_ble_eq_true rfl)
          refine step_run (.inl rfl) ?_
          clear hA hd
          go_simp
          exact hK _ _ (hI.other (by decide) (by decide) (by decide) _) trivial (upd_same _ _ _)
        · intro listed ys A w hsz hsd hi hall hA hI hd K hK
          obtain rfl := hI.1 (not_yet hsd hi (by kernel_rfl))
          have e16 : A.tmps.getD 16 undef = .slice (some ⟨g, 0, none⟩) n2 cL := (hA 16 (Nat.le_of_ble_eq_true rfl)).trans (hd ⟨2, .data⟩ (by simp) rfl)
          have e17 : A.tmps.getD 17 undef = .int .i64 i := (hA 17 (Nat.le_of_ble_eq_true rfl)).trans (hd ⟨3, .data⟩ (by simp) rfl)
          refine step_run (.inl rfl) ?_
          clear hA hd
          go_simp
          exact hK _ _ (hI.other (by decide) (by decide) (by decide) _) trivial (upd_same _ _ _)
        · intro listed ys A w hsz hsd hi hall hA hI hd K hK
          obtain rfl := hI.1 (not_yet hsd hi (by kernel_rfl))
          have e18 : A.tmps.getD 18 undef = .pointer (some ⟨g, i, none⟩) := (hA 18 (Nat.le_of_ble_eq_true rfl)).trans (hd ⟨4, .data⟩ (by simp) rfl)
          refine step_run (.inl rfl) ?_
          clear hA hd
          go_simp
          exact hK _ _ (hI.other (by decide) (by decide) (by decide) _) trivial (upd_same _ _ _)
        · intro listed ys A w hsz hsd hi hall hA hI hd K hK
          obtain rfl := hI.1 (not_yet hsd hi (by kernel_rfl))
          have e4 : A.tmps.getD 4 undef = .slice (some ⟨g, 0, none⟩) n2 cL := hA 4 (Nat.le_of_ble_eq_true rfl)
          refine step_run (.inl rfl) ?_
          clear hA hd
          go_simp
          exact hK _ _ (hI.other (by decide) (by decide) (by decide) _) trivial (upd_same _ _ _)
        · intro listed ys A w hsz hsd hi hall hA hI hd K hK
          obtain rfl := hI.1 (not_yet hsd hi (by kernel_rfl))
          have e5 : A.tmps.getD 5 undef = .int .i64 i := hA 5 (Nat.le_of_ble_eq_true rfl)
          refine step_run (.inl rfl) ?_
          clear hA hd
          go_simp
          exact hK _ _ (hI.other (by decide) (by decide) (by decide) _) trivial (upd_same _ _ _)
        · intro listed ys A w hsz hsd hi hall hA hI hd K hK
          obtain rfl := hI.1 (not_yet hsd hi (by kernel_rfl))
          have e21 : A.tmps.getD 21 undef = .int .i64 i := (hA 21 (Nat.le_of_ble_eq_true rfl)).trans (hd ⟨7, .data⟩ (by simp) rfl)
          refine step_run (.inl rfl) ?_
          clear hA hd
          go_simp
          exact hK _ _ (hI.other (by decide) (by decide) (by decide) _) trivial (upd_same _ _ _)
        · intro listed ys A w hsz hsd hi hall hA hI hd K hK
          obtain rfl := hI.1 (not_yet hsd hi (by kernel_rfl))
          have e20 : A.tmps.getD 20 undef = .slice (some ⟨g, 0, none⟩) n2 cL := (hA 20 (Nat.le_of_ble_eq_true rfl)).trans (hd ⟨6, .data⟩ (by simp) rfl)
          have e22 : A.tmps.getD 22 undef = .int .i64 ((i : Int) + 1) := (hA 22 (Nat.le_of_ble_eq_true rfl)).trans (hd ⟨8, .data⟩ (by simp) rfl)
          refine step_run (.inl rfl) ?_
          clear hA hd
          go_simp
          exact hK _ _ (hI.other (by decide) (by decide) (by decide) _) trivial (upd_same _ _ _)
        · intro listed ys A w hsz hsd hi hall hA hI hd K hK
          obtain rfl := hI.1 (not_yet hsd hi (by kernel_rfl))
          have e23 : A.tmps.getD 23 undef = .pointer (some ⟨g, i + 1, none⟩) := (hA 23 (Nat.le_of_ble_eq_true rfl)).trans (hd ⟨9, .data⟩ (by simp) rfl)
          refine step_run (.inl rfl) ?_
          clear hA hd
          go_simp
          exact hK _ _ (hI.other (by decide) (by decide) (by decide) _) trivial (upd_same _ _ _)
        · intro listed ys A w hsz hsd hi hall hA hI hd K hK
          obtain rfl := hI.1 (not_yet hsd hi (by kernel_rfl))
          have e15 : A.tmps.getD 15 undef = .string s := (hA 15 (Nat.le_of_ble_eq_true rfl)).trans (hd ⟨1, .data⟩ (by simp) rfl)
          have e19 : A.tmps.getD 19 undef = .int .i64 a := (hA 19 (Nat.le_of_ble_eq_true rfl)).trans (hd ⟨5, .data⟩ (by simp) rfl)
          have e24 : A.tmps.getD 24 undef = .int .i64 b := (hA 24 (Nat.le_of_ble_eq_true rfl)).trans (hd ⟨10, .data⟩ (by simp) rfl)
          refine step_run (.inl rfl) ?_
          clear hA hd
          go_simp
          exact hK _ _ (hI.other (by decide) (by decide) (by decide) _) trivial (upd_same _ _ _)
        · intro listed ys A w hsz hsd hi hall hA hI hd K hK
          obtain rfl := hI.1 hi
          have e25 : A.tmps.getD 25 undef = .string t := (hA 25 (Nat.le_of_ble_eq_true rfl)).trans (hd ⟨11, .data⟩ (by simp) rfl)
          have f25 : A.tmps[25]?.getD undef = .string t := (Array.getD_eq_getD_getElem? ..).symm.trans e25
          refine step_run (.inl rfl) ?_
          clear hA hd
          go_simp
          exact hK _ _ (hI.build (by rw [hsz]; decide) (not_yet hsd hi (by kernel_rfl)) _) trivial (upd_same _ _ _)
        · intro listed ys A w hsz hsd hi hall hA hI hd K hK
          obtain rfl := hI.2.1 (hall ⟨12, .data⟩ (by simp) rfl) hi
          have e14 : A.tmps.getD 14 undef = v := (hA 14 (Nat.le_of_ble_eq_true rfl)).trans (hd ⟨0, .data⟩ (by simp) rfl)
          have e26 : A.tmps.getD 26 undef = .slice (some ⟨wr.heap.size, 0, none⟩) 1 1 := (hA 26 (Nat.le_of_ble_eq_true rfl)).trans (hd ⟨12, .data⟩ (by simp) rfl)
          refine step_run (.inl rfl) ?_
          clear hA hd
          refine wpIn_append_rs E9 _ (.tmp 14) (.tmp 26) 82 rfl (show A.eval (.tmp 14) = v from e14) (HRA.out) (fun k hk => HGE.out k hk) _ [.string t] (show A.eval (.tmp 26) = _ from e26) HSRC.out (by rw [HLEN.out]; simp only [List.length_cons, List.length_nil]; omega) (by rw [HLEN.out]; simp only [List.length_cons, List.length_nil]; omega) ?_
          intro v2 w2 h1 h2
          exact hK _ _ (hI.app (by rw [hsz]; decide) (hall ⟨12, .data⟩ (by simp) rfl) (HOUT.out v2 w2 h1 h2)) trivial trivial
        · intro listed ys A w hsz hsd hi hall hA hI hd K hK
          have e27 : A.tmps.getD 27 undef = ys 13 := hA 27 (Nat.le_of_ble_eq_true rfl)
          refine step_run (.inl rfl) ?_
          clear hA hd
          go_simp
          exact hK _ _ (hI.last (hall ⟨13, .data⟩ (by simp) rfl) (hall ⟨12, .phase⟩ (by simp) rfl) _) trivial ((upd_same _ _ _).trans (upd_other _ _ (by decide)).symm)
      case fin =>
        intro listed ys w2 hall hI hV
        have hout := hI.2.2.1 (hall 13 (by decide))
        have h14 : ys 14 = ys 13 := hV 14 (by decide) rfl
        rw [← h14] at hout
        obtain ⟨v', hv'⟩ : ∃ v', v' = ys 14 := ⟨_, rfl⟩
        rw [← hv'] at hout
        have HO := Lib.hid hout
        clear hI hV hall hout h14 hc1 hc2 hpe
        simp only [putsFrom]
        simp only [← hv', Act.put, List.setIfInBounds_toArray, List.set_cons_succ, List.set_cons_zero]
        clear hv'
        go_wp2
        go_roundw
        case rel => exact ⟨k + 1, by rw [HI.out]; go_num, by omega, HO.out⟩
        case measure => simp [intOf]; omega
    · have hge : ¬ i < n2 := by rw [HN2.out, hi]; omega
      go_wp2
      go_ret
      refine ⟨v, rfl, ?_, hr.2.2.2.1⟩
      rw [HW.out]
      have := hr.2.1
      rw [List.take_of_length_le (by omega)] at this
      exact this.mono fun _ h _ => Nat.le_trans hr.1 h

end Go.Proofs.YtgfjbboeappemaaGreatDoor.H3

namespace Go.Proofs.YtgfjbboeappemaaGreatDoor.H3
open Go.RowKit Go

theorem hasB_take {s t : ByteArray} {L : List ByteArray} (hL : L = wordsB s) {k : Nat} (hk : k = L.length) (h : ∀ x ∈ L.take k, x ≠ t) : hasB s t = false := by
  rw [Bool.eq_false_iff]
  intro hb
  have hm := (hasB_iff s t).1 hb
  rw [← hL] at hm
  exact h t (by rw [List.take_of_length_le (by omega)]; exact hm) rfl

set_option maxHeartbeats 1000000 in
theorem refHas_any (s t : ByteArray) (hlen : s.size ≤ 1048576) (w : World) (hT : Lib.Utf8Tabs 1 2 w) :
    Calls Tryz.prog 54 #[.string s, .string t] w fun e w' => e = .returned (.bool (hasB s t)) ∧ Below w.heap.size w w' := by
  obtain ⟨L, hL⟩ : ∃ L, L = wordsB s := ⟨_, rfl⟩
  have HL := Lib.hid hL
  have hll : L.length ≤ 1048576 := by rw [hL]; have := wordsB_length s; omega
  clear hL
  go_enter Tryz.func54, Tryz.ntmps54
  go_wp2_with fail
  refine (refWords_any s hlen w hT).mono ?_
  rintro e w1 ⟨v, rfl, hr, hb1⟩
  rw [← HL.out] at hr
  obtain ⟨n, hn⟩ : ∃ n, n = L.length := ⟨_, rfl⟩
  obtain ⟨a, c, hv⟩ : ∃ a c, v = .slice a n c := by
    have := hr.shape
    rwa [strs_length, ← hn] at this
  subst hv
  have HR := Lib.hid hr
  have HB := Lib.hid hb1
  have HN := Lib.hid hn
  have hnb : n ≤ 1048576 := by omega
  clear hr hb1 hn
  go_wp2_with fail
  go_loop [10] (fun vi => ∃ k : Nat, vi = .int .i64 k ∧ k ≤ n ∧ ∀ x ∈ L.take k, x ≠ t) (fun vi => n - (intOf vi).toNat)
  case atStart => exact ⟨0, rfl, Nat.zero_le _, fun x hx => by simp at hx⟩
  case round =>
    obtain ⟨k, rfl, hk, hnot⟩ := hrel
    have HNOT := Lib.hid hnot
    clear hnot
    by_cases hkn : k < n
    · have hkl : k < L.length := by rw [← HN.out]; exact hkn
      obtain ⟨g, c', hgc⟩ := HR.out.block (by omega)
      obtain rfl : a = some ⟨g, 0, none⟩ := by injection hgc
      have hc := HR.out.at_cell (Keep.refl _ _) k hkl
      obtain ⟨x, hx⟩ : ∃ x, x = L[k] := ⟨_, rfl⟩
      rw [← hx] at hc
      have HX := Lib.hid hx
      clear hx hgc
      by_cases hxt : x = t
      · have hbq := bytes_eq hxt
        have HH : Hid (hasB s t = true) := Lib.hid ((hasB_iff s t).2 (by rw [← HL.out, ← hxt, HX.out]; exact List.getElem_mem hkl))
        clear hxt
        go_wp2
        go_ret
        exact ⟨ret_bool HH.out.symm, HB.out⟩
      · have hbq := bytes_ne hxt
        have HT' : Hid (∀ y ∈ L.take (k + 1), y ≠ t) := Lib.hid fun y hy => by
          rw [List.take_succ_eq_append_getElem hkl, ← HX.out] at hy
          rcases List.mem_append.1 hy with h | h
          · exact HNOT.out y h
          · rw [List.mem_singleton.1 h]; exact hxt
        clear hxt
        go_wp2
        go_round
        case rel => exact ⟨k + 1, by go_num, by omega, HT'.out⟩
        case measure => simp [intOf]; omega
    · obtain rfl : k = n := by omega
      go_wp2
      go_ret
      exact ⟨ret_bool (hasB_take HL.out HN.out HNOT.out).symm, HB.out⟩

end Go.Proofs.YtgfjbboeappemaaGreatDoor.H3
