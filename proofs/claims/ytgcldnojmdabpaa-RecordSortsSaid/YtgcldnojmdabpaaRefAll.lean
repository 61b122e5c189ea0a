/-
  The document's own reader beside the program's: Uint, Int, Text, End.
-/
import Derived.Test.YtgcldnojmdabpaaRefEnd
namespace Go.Proofs.Ytgcldnojmdabpaa
open Go.RowKit Go

/-- What is left to both. -/
def Left (l : List UInt8) (bad : Bool) (S : ByteArray) (pos : Nat) : Prop := bad = false → l = S.data.toList.drop pos ∧ pos ≤ S.size

theorem RU.inv {most : Nat} {l : List UInt8} {bad : Bool} {n : Nat} {l1 : List UInt8} {b1 : Bool} (h : RU most l bad n l1 b1) :
    (bad = true ∧ n = 0 ∧ l1 = l ∧ b1 = true) ∨ (bad = false ∧ b1 = false ∧ ∃ l0 c, M.IsNum l0 c ∧ M.low (l0 ++ [c]) ≤ most ∧ l = l0 ++ c :: l1 ∧ n = M.low (l0 ++ [c])) ∨
      (bad = false ∧ b1 = true ∧ n = 0 ∧ l1 = [] ∧ ∀ l0 c r, M.IsNum l0 c → l = l0 ++ c :: r → most < M.low (l0 ++ [c])) := by
  cases h with
  | good l0 c _ hn hm => exact .inr (.inl ⟨rfl, rfl, l0, c, hn, hm, rfl, rfl⟩)
  | none _ hno => exact .inr (.inr ⟨rfl, rfl, rfl, rfl, hno⟩)
  | bad => exact .inl ⟨rfl, rfl, rfl, rfl⟩

theorem RU.same {most : Nat} {l : List UInt8} {bad : Bool} {n m : Nat} {l1 l2 : List UInt8} {b1 b2 : Bool} (h : RU most l bad n l1 b1) (k : RU most l bad m l2 b2) : n = m ∧ l1 = l2 ∧ b1 = b2 := by
  rcases h.inv with ⟨rfl, rfl, rfl, rfl⟩ | ⟨rfl, rfl, l0, c, hn, hm, e, rfl⟩ | ⟨rfl, rfl, rfl, rfl, hno⟩
  · rcases k.inv with ⟨_, rfl, rfl, rfl⟩ | ⟨x, _⟩ | ⟨x, _⟩
    · exact ⟨rfl, rfl, rfl⟩
    · cases x
    · cases x
  · rcases k.inv with ⟨x, _⟩ | ⟨_, rfl, m0, d, hk, _, e2, rfl⟩ | ⟨_, rfl, rfl, rfl, hno⟩
    · cases x
    · rw [e] at e2
      obtain ⟨rfl, rfl, rfl⟩ := M.parts_unique hn.cont hn.last hk.cont hk.last e2
      exact ⟨rfl, rfl, rfl⟩
    · exact absurd (hno l0 c l1 hn e) (by omega)
  · rcases k.inv with ⟨x, _⟩ | ⟨_, rfl, m0, d, hk, hm, e2, rfl⟩ | ⟨_, rfl, rfl, rfl, _⟩
    · cases x
    · exact absurd (hno m0 d l2 hk e2) (by omega)
    · exact ⟨rfl, rfl, rfl⟩

theorem RT.same {most : Nat} {l : List UInt8} {bad : Bool} {n m : List UInt8} {l1 l2 : List UInt8} {b1 b2 : Bool} (h : RT most l bad n l1 b1) (k : RT most l bad m l2 b2) : n = m ∧ l1 = l2 ∧ b1 = b2 := by
  cases h with
  | bad n1 l1 h =>
    cases k with
    | bad n2 l2 k => exact ⟨rfl, (h.same k).2.1, rfl⟩
    | short n2 l2 k _ => cases (h.same k).2.2
    | good n2 l2 k _ => cases (h.same k).2.2
  | short n1 l1 h hn =>
    cases k with
    | bad n2 l2 k => cases (h.same k).2.2
    | short n2 l2 k _ => exact ⟨rfl, rfl, rfl⟩
    | good n2 l2 k hk => obtain ⟨rfl, rfl, _⟩ := h.same k; omega
  | good n1 l1 h hn =>
    cases k with
    | bad n2 l2 k => cases (h.same k).2.2
    | short n2 l2 k hk => obtain ⟨rfl, rfl, _⟩ := h.same k; omega
    | good n2 l2 k hk => obtain ⟨rfl, rfl, _⟩ := h.same k; exact ⟨rfl, rfl, rfl⟩

set_option maxHeartbeats 400000 in
theorem rf_bad (g : Nat) (S : ByteArray) (pos most : Nat) (w : World) (h : Rf w g S pos true) :
    Calls Try.prog 63 #[.pointer (some ⟨g, 0, none⟩), .int .u64 most] w fun e w' => e = .returned (.int .u64 0) ∧ w = w' := by
  have hb := h.isBad
  go_enter Try.func63, Try.ntmps63
  go_wp2_with fail
  go_ret
  exact ⟨rfl, rfl⟩

/-- What the document's Uint leaves. -/
def RefPost (most g : Nat) (S : ByteArray) (l : List UInt8) (bad : Bool) (w : World) (e : Ending) (w' : World) : Prop :=
  ∃ n l' bad' pos', e = .returned (.int .u64 (n : Nat)) ∧ RU most l bad n l' bad' ∧ Rf w' g S pos' bad' ∧ Left l' bad' S pos' ∧ Chg g w w'

theorem Left.bad (l : List UInt8) (S : ByteArray) (pos : Nat) : Left l true S pos := fun h => by cases h

theorem ref_rd (most g : Nat) (S : ByteArray) (hS : S.size ≤ 2000) (pos : Nat) (l : List UInt8) (bad : Bool) (w : World) (h : Rf w g S pos bad) (hl : Left l bad S pos) :
    Calls Try.prog 63 #[.pointer (some ⟨g, 0, none⟩), .int .u64 most] w (RefPost most g S l bad w) := by
  cases bad
  · obtain ⟨hl, hp⟩ := hl rfl
    have hsz : S.data.toList.length = S.size := (Lib.size_eq S).symm
    have hll : l.length = S.size - pos := by rw [hl, List.length_drop, hsz]
    have loop : ∀ t, (ht : pos + t ≤ S.size) → (∀ j (hj : j < t), 128 ≤ (l[j]'(by omega)).toNat) → (pos + t = S.size ∨ 10 ≤ t) → (∀ l0 c r, M.IsNum l0 c → l = l0 ++ c :: r → False) →
        Calls Try.prog 63 #[.pointer (some ⟨g, 0, none⟩), .int .u64 most] w (RefPost most g S l false w) := by
      intro t ht hc hend hno
      refine (rf_loop g S pos t most hS ht w h ?_ hend).mono ?_
      · intro j hj
        have e1 : S[pos + j]'(by omega) = S.data.toList[pos + j]'(by omega) := byte_at S _ rfl (pos + j) (by omega) _
        have e2 : l[j]? = S.data.toList[pos + j]? := by rw [hl, List.getElem?_drop]
        rw [List.getElem?_eq_getElem (by omega), List.getElem?_eq_getElem (by omega)] at e2
        rw [e1, ← Option.some.inj e2]
        exact hc j hj
      · rintro e w' ⟨rfl, ⟨pos', hrf⟩, hch⟩
        exact ⟨0, [], true, pos', rfl, .none l fun l0 c r hn e => (hno l0 c r hn e).elim, hrf, Left.bad _ _ _, hch⟩
    rcases M.parts l with hc | ⟨l0, c, r, e, h0, hc⟩
    · refine loop l.length (by omega) (fun j hj => hc _ (List.getElem_mem _)) (.inl (by omega)) ?_
      intro l0 c r hn e
      have := hc c (by rw [e]; simp)
      have := hn.last
      omega
    · by_cases h9 : l0.length ≤ 9
      · refine (rf_end g S pos most hS l0 c r (by rw [← hl, e]) h9 h0 hc w h).mono ?_
        rintro e2 w' ⟨hch, ⟨hn, hle, rfl, hrf⟩ | ⟨hn, rfl, pos', hrf⟩⟩
        · refine ⟨_, r, false, _, rfl, e ▸ .good l0 c r hn hle, hrf, ?_, hch⟩
          intro _
          have hlen : l.length = l0.length + 1 + r.length := by rw [e]; simp; omega
          refine ⟨?_, by omega⟩
          rw [← List.drop_drop, ← hl, e]
          have e5 : l0 ++ c :: r = (l0 ++ [c]) ++ r := by simp
          rw [e5]
          exact (List.drop_left' (by simp)).symm
        · refine ⟨0, [], true, pos', rfl, .none l ?_, hrf, Left.bad _ _ _, hch⟩
          intro m0 d t hk e3
          rw [e] at e3
          obtain ⟨rfl, rfl, rfl⟩ := M.parts_unique h0 hc hk.cont hk.last e3
          rcases Nat.lt_or_ge most (M.low (l0 ++ [c])) with a | a
          · exact a
          · exact absurd ⟨hk, a⟩ hn
      · have hlen : l.length = l0.length + 1 + r.length := by rw [e]; simp; omega
        refine loop l0.length (by omega) ?_ (.inr (by omega)) ?_
        · intro j hj
          have e6 : l[j]? = l0[j]? := by rw [e, List.getElem?_append_left hj]
          rw [List.getElem?_eq_getElem (by omega), List.getElem?_eq_getElem hj] at e6
          rw [Option.some.inj e6]
          exact h0 _ (List.getElem_mem _)
        · intro m0 d t hk e3
          rw [e] at e3
          obtain ⟨rfl, rfl, rfl⟩ := M.parts_unique h0 hc hk.cont hk.last e3
          exact h9 hk.nine
  · exact (rf_bad g S pos most w h).mono fun e w' ⟨h1, h2⟩ => ⟨0, l, true, pos, h1, .bad l, h2 ▸ h, Left.bad _ _ _, h2 ▸ Chg.refl g w⟩

set_option maxHeartbeats 1000000 in
/-- Int. -/
theorem ref_int_rd (g : Nat) (S : ByteArray) (hS : S.size ≤ 2000) (pos : Nat) (l : List UInt8) (bad : Bool) (w : World) (h : Rf w g S pos bad) (hl : Left l bad S pos) :
    Calls Try.prog 62 #[.pointer (some ⟨g, 0, none⟩)] w fun e w' => ∃ n l' bad' pos', e = .returned (.int .i64 (Lib.unzigzag n)) ∧ RU 18446744073709551615 l bad n l' bad' ∧ Rf w' g S pos' bad' ∧ Left l' bad' S pos' ∧ Chg g w w' := by
  have hU := ref_rd 18446744073709551615 g S hS pos l bad w h hl
  have e : ((18446744073709551615 : Nat) : Int) = 18446744073709551615 := rfl
  rw [e] at hU
  have HU := Lib.hid hU
  clear hU e hl
  go_enter Try.func62, Try.ntmps62
  go_wp2_with fail
  refine HU.out.mono ?_
  rintro e w' ⟨n, l', bad', pos', rfl, hr, hd, hle, ho⟩
  have hlt := hr.lt
  have HR := Lib.hid hr
  have HD := Lib.hid hd
  have HO := Lib.hid ho
  have HL := Lib.hid hle
  clear hr hd ho hle
  have ha : (n : Int).tmod 2 = (n : Int) % 2 := Int.tmod_eq_emod_of_nonneg (by omega)
  have hb : (n : Int).tdiv 2 = (n : Int) / 2 := Int.tdiv_eq_ediv_of_nonneg (by omega)
  have hw : IntKind.i64.wrap ((n : Int) / 2) = (n : Int) / 2 := by rw [IntKind.wrap_i64]; omega
  by_cases hn : n % 2 = 0
  · have hz := unzig_even n hn
    have HZ := Lib.hid hz
    have e1 : ((n : Int) % 2 == 1) = false := by simp; omega
    clear hz hn
    go_wp2
    go_ret
    refine ⟨n, l', bad', pos', ?_, HR.out, HD.out, HL.out, HO.out⟩
    rw [HZ.out]
    first | rfl | simp
  · have hz := unzig_odd n hn
    have HZ := Lib.hid hz
    have e1 : ((n : Int) % 2 == 1) = true := by simp; omega
    have hw2 : IntKind.i64.wrap (-((n : Int) / 2)) = -((n : Int) / 2) := by rw [IntKind.wrap_i64]; omega
    have hw3 : IntKind.i64.wrap (-((n : Int) / 2) - 1) = -((n : Int) / 2) - 1 := by rw [IntKind.wrap_i64]; omega
    clear hz hn
    go_wp2
    go_ret
    refine ⟨n, l', bad', pos', ?_, HR.out, HD.out, HL.out, HO.out⟩
    rw [HZ.out]
    first | rfl | simp

end Go.Proofs.Ytgcldnojmdabpaa
