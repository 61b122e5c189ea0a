/-
  A READER ('Rd'), told by its cells; what each of its calls does.
-/
import Derived.Test.YtgcldnojmdabpaaFirst
import Derived.Test.YtgcldnojmdabpaaPut
import Derived.Lib.Strings
import Derived.Lib.VarintDec
namespace Go.Proofs.Ytgcldnojmdabpaa
open Go.RowKit Go

/-- Block g is a reader of which the bytes l are left; 'bad': something is wrong. -/
structure Rd (w : World) (g : Nat) (l : List UInt8) (bad : Bool) : Prop where
  str : ∃ s : ByteArray, s.data.toList = l ∧ w.cell? ⟨g, 0, none⟩ = some (.string s)
  isBad : w.cell? ⟨g, 1, none⟩ = some (.bool bad)
  f0 : w.frozen? ⟨g, 0, none⟩ = false
  f1 : w.frozen? ⟨g, 1, none⟩ = false
  len : l.length ≤ 70368744177664

/-- Nothing but block g has turned. -/
structure Only (g : Nat) (w w' : World) : Prop where
  os : w'.os = w.os
  tape : w'.tape = w.tape
  output : w'.output = w.output
  size : w'.heap.size = w.heap.size
  block : ∀ k, k ≠ g → w'.heap[k]? = w.heap[k]?

theorem Only.refl (g : Nat) (w : World) : Only g w w := ⟨rfl, rfl, rfl, rfl, fun _ _ => rfl⟩
theorem Only.trans {g : Nat} {a b c : World} (h : Only g a b) (k : Only g b c) : Only g a c :=
  ⟨k.os.trans h.os, k.tape.trans h.tape, k.output.trans h.output, k.size.trans h.size, fun i hi => (k.block i hi).trans (h.block i hi)⟩
theorem Only.setCell (g o : Nat) (w : World) (v : Value) : Only g w (w.setCell ⟨g, o, none⟩ v) :=
  ⟨rfl, rfl, rfl, by simp [World.setCell], fun k hk => Below.heap_setCell w _ v k hk⟩
theorem Only.below {g B : Nat} {w w' : World} (h : Only g w w') (hB : B ≤ g) : Below B w w' :=
  ⟨h.os, h.tape, h.output, Nat.le_of_eq h.size.symm, fun k hk => h.block k (by omega)⟩

theorem Rd.carry {w w' : World} {g : Nat} {l : List UInt8} {bad : Bool} (h : Rd w g l bad) (hb : w'.heap[g]? = w.heap[g]?) : Rd w' g l bad := by
  have hc : ∀ o, w'.cell? ⟨g, o, none⟩ = w.cell? ⟨g, o, none⟩ := fun o => World.cell?_of_block (a := ⟨g, o, none⟩) hb
  have hf : ∀ o, w'.frozen? ⟨g, o, none⟩ = w.frozen? ⟨g, o, none⟩ := fun o => World.frozen?_of_block (a := ⟨g, o, none⟩) hb
  obtain ⟨⟨s, hs, h0⟩, h1, h2, h3, h4⟩ := h
  exact ⟨⟨s, hs, by rw [hc]; exact h0⟩, by rw [hc]; exact h1, by rw [hf]; exact h2, by rw [hf]; exact h3, h4⟩
theorem Rd.only {w w' : World} {g k : Nat} {l : List UInt8} {bad : Bool} (h : Rd w g l bad) (hk : Only k w w') (hne : g ≠ k) : Rd w' g l bad := h.carry (hk.block g hne)
theorem Rd.below {w w' : World} {g B : Nat} {l : List UInt8} {bad : Bool} (h : Rd w g l bad) (hk : Below B w w') (hne : g < B) : Rd w' g l bad := h.carry (hk.block g hne)

theorem Rd.lt {w : World} {g : Nat} {l : List UInt8} {bad : Bool} (h : Rd w g l bad) : g < w.heap.size := by
  exact World.block_lt_of_cell? w ⟨g, 1, none⟩ h.isBad

set_option maxHeartbeats 400000 in
theorem bad_nil (w : World) : Calls Try.prog 61 #[.pointer none] w fun e w' => e = .returned (.bool true) ∧ w = w' := by
  go_enter Try.func61, Try.ntmps61
  go_wp2
  go_ret
  exact ⟨rfl, rfl⟩

set_option maxHeartbeats 400000 in
theorem bad_any (g : Nat) (l : List UInt8) (bad : Bool) (w : World) (h : Rd w g l bad) : Calls Try.prog 61 #[.pointer (some ⟨g, 0, none⟩)] w fun e w' => e = .returned (.bool bad) ∧ w = w' := by
  have h1 := h.isBad
  clear h
  go_enter Try.func61, Try.ntmps61
  go_wp2
  go_ret
  exact ⟨rfl, rfl⟩

set_option maxHeartbeats 400000 in
theorem end_nil (w : World) : Calls Try.prog 34 #[.pointer none] w fun e w' => e = .returned (.bool false) ∧ w = w' := by
  go_enter Try.func34, Try.ntmps34
  go_wp2_with (go_at_call 61; refine (bad_nil _).mono ?_; rintro e w' ⟨rfl, rfl⟩)
  go_ret
  exact ⟨rfl, rfl⟩

set_option maxHeartbeats 400000 in
theorem end_any (g : Nat) (l : List UInt8) (bad : Bool) (w : World) (h : Rd w g l bad) : Calls Try.prog 34 #[.pointer (some ⟨g, 0, none⟩)] w fun e w' => e = .returned (.bool (!bad && l.isEmpty)) ∧ w = w' := by
  obtain ⟨s, hs, h0⟩ := h.str
  cases bad
  · by_cases hl : l = []
    · have e0 : s.data.toList = [] := by rw [hs, hl]
      have e1 : s.toList = [] := by rw [ByteArray.toList_eq]; exact e0
      subst hl
      clear hs
      go_enter Try.func34, Try.ntmps34
      go_wp2_with (go_at_call 61; refine (bad_any g _ false _ h).mono ?_; rintro e w' ⟨rfl, rfl⟩)
      go_ret
      exact ⟨rfl, rfl⟩
    · have e1 : s.toList.isEmpty = false := by
        rw [Lib.toList_data, hs]
        cases l with
        | nil => exact absurd rfl hl
        | cons _ _ => rfl
      have e2 : l.isEmpty = false := by
        cases l with
        | nil => exact absurd rfl hl
        | cons _ _ => rfl
      have H2 := Lib.hid e2
      clear hs e2 hl
      go_enter Try.func34, Try.ntmps34
      go_wp2_with (go_at_call 61; refine (bad_any g _ false _ h).mono ?_; rintro e w' ⟨rfl, rfl⟩)
      go_ret
      exact ⟨by rw [H2.out]; rfl, rfl⟩
  · go_enter Try.func34, Try.ntmps34
    go_wp2_with (go_at_call 61; refine (bad_any g _ true _ h).mono ?_; rintro e w' ⟨rfl, rfl⟩)
    go_ret
    exact ⟨rfl, rfl⟩

theorem Rd.set {w : World} {g : Nat} {l : List UInt8} {bad : Bool} (h : Rd w g l bad) (s : ByteArray) (hl : s.data.toList.length ≤ 70368744177664) : Rd (w.setCell ⟨g, 0, none⟩ (.string s)) g s.data.toList bad := by
  obtain ⟨⟨s0, hs, h0⟩, h1, h2, h3, h4⟩ := h
  exact ⟨⟨s, rfl, by go_simp⟩, by go_simp, by simpa using h2, by simpa using h3, hl⟩

set_option maxHeartbeats 400000 in
theorem fail_any (g : Nat) (l : List UInt8) (bad : Bool) (w : World) (h : Rd w g l bad) : Calls Try.prog 73 #[.pointer (some ⟨g, 0, none⟩)] w fun e w' => e = .returned (.tuple #[]) ∧ Rd w' g [] true ∧ Only g w w' := by
  obtain ⟨⟨s, hs, h0⟩, h1, h2, h3, h4⟩ := h
  clear hs h4
  go_enter Try.func73, Try.ntmps73
  go_wp2
  go_end0
  refine ⟨rfl, ?_, (Only.setCell g 0 w _).trans (Only.setCell g 1 _ _)⟩
  exact ⟨⟨ByteArray.mk #[], rfl, by go_simp⟩, by go_simp, by simpa using h2, by simpa using h3, by simp⟩

set_option maxHeartbeats 400000 in
theorem take_any (g k : Nat) (l : List UInt8) (w : World) (h : Rd w g l false) (hk : k ≤ l.length) : Calls Try.prog 74 #[.pointer (some ⟨g, 0, none⟩), .int .i64 k] w fun e w' => (∃ s : ByteArray, e = .returned (.string s) ∧ s.data.toList = l.take k) ∧ Rd w' g (l.drop k) false ∧ Only g w w' := by
  have hR := h
  obtain ⟨⟨s, hs, h0⟩, h1, h2, h3, h4⟩ := h
  have hsz : s.size = l.length := by rw [Lib.size_eq, hs]
  have hks : k ≤ s.size := by omega
  have hsl : s.size ≤ 70368744177664 := by omega
  have HS := Lib.hid hs
  have HZ := Lib.hid hsz
  have HR := Lib.hid hR
  clear hs hsz h4 hk hR
  go_enter Try.func74, Try.ntmps74
  go_wp2
  go_ret
  refine ⟨⟨_, rfl, ?_⟩, ?_, Only.setCell g 0 w _⟩
  · rw [Lib.extract_data, HS.out]
    simp
  · have e : (s.extract k s.size).data.toList = l.drop k := by
      rw [Lib.extract_data, HS.out, HZ.out, List.take_of_length_le (by simp)]
    have hr := HR.out.set (s.extract k s.size) (by rw [e, List.length_drop]; have := HZ.out; omega)
    rw [e] at hr
    exact hr

set_option maxHeartbeats 400000 in
theorem from_any (s : ByteArray) (hs : s.size ≤ 70368744177664) (w : World) : Calls Try.prog 30 #[.string s] w fun e w' => e = .returned (.pointer (some ⟨w.heap.size, 0, none⟩)) ∧ w'.heap.size = w.heap.size + 1 ∧ Rd w' w.heap.size s.data.toList false ∧ Below w.heap.size w w' := by
  go_enter Try.func30, Try.ntmps30
  go_wp2
  go_ret
  refine ⟨rfl, by simp, ⟨⟨s, rfl, by go_simp⟩, by go_simp, by go_simp, by go_simp, by rw [← Lib.size_eq]; exact hs⟩, (Below.refl _ _).alloc (Nat.le_refl _) _⟩

/-! ### Uint -/

/-- What a reader of l answers, asked for a number up to most; what is left, and whether something is wrong. -/
inductive RU (most : Nat) : List UInt8 → Bool → Nat → List UInt8 → Bool → Prop
  | good (l0 : List UInt8) (c : UInt8) (r : List UInt8) (hn : M.IsNum l0 c) (hm : M.low (l0 ++ [c]) ≤ most) : RU most (l0 ++ c :: r) false (M.low (l0 ++ [c])) r false
  | none (l : List UInt8) (h : ∀ l0 c r, M.IsNum l0 c → l = l0 ++ c :: r → most < M.low (l0 ++ [c])) : RU most l false 0 [] true
  | bad (l : List UInt8) : RU most l true 0 l true

set_option maxHeartbeats 400000 in
theorem uint_nil (most : Nat) (w : World) : Calls Try.prog 72 #[.pointer none, .int .u64 most] w fun e w' => e = .returned (.int .u64 0) ∧ w = w' := by
  go_enter Try.func72, Try.ntmps72
  go_wp2_with (go_at_call 61; refine (bad_nil _).mono ?_; rintro e w' ⟨rfl, rfl⟩)
  go_ret
  exact ⟨rfl, rfl⟩

set_option maxHeartbeats 400000 in
theorem uint_bad (most g : Nat) (l : List UInt8) (w : World) (h : Rd w g l true) : Calls Try.prog 72 #[.pointer (some ⟨g, 0, none⟩), .int .u64 most] w fun e w' => e = .returned (.int .u64 0) ∧ w = w' := by
  go_enter Try.func72, Try.ntmps72
  go_wp2_with (go_at_call 61; refine (bad_any g _ true _ h).mono ?_; rintro e w' ⟨rfl, rfl⟩)
  go_ret
  exact ⟨rfl, rfl⟩

set_option maxHeartbeats 1000000 in
theorem uint_good (most g : Nat) (l0 : List UInt8) (c : UInt8) (r : List UInt8) (hn : M.IsNum l0 c) (w : World) (h : Rd w g (l0 ++ c :: r) false) (hle : M.low (l0 ++ [c]) ≤ most) :
    Calls Try.prog 72 #[.pointer (some ⟨g, 0, none⟩), .int .u64 most] w fun e w' => e = .returned (.int .u64 (M.low (l0 ++ [c]) : Nat)) ∧ Rd w' g r false ∧ Only g w w' := by
  obtain ⟨s, hs, h0⟩ := h.str
  have hsz : s.size = (l0 ++ c :: r).length := by rw [Lib.size_eq, hs]
  have hF := first_yes s l0 c r hs (by rw [hsz]; exact h.len) hn w
  have hT := take_any g (l0.length + 1) (l0 ++ c :: r) w h (by simp)
  have ed : (l0 ++ c :: r).drop (l0.length + 1) = r := by
    rw [← List.drop_drop, List.drop_left]; rfl
  rw [ed] at hT
  have HF := Lib.hid hF
  have HT := Lib.hid hT
  have e1 : ((l0.length : Int) + 1 == 0) = false := by simp; omega
  have e2 : ¬ most < M.low (l0 ++ [c]) := by omega
  clear hF hT ed hs hsz hn hle
  go_enter Try.func72, Try.ntmps72
  go_wp2_with (first | (go_at_call 61; refine (bad_any g _ false _ h).mono ?_; rintro e w' ⟨rfl, rfl⟩) | (go_at_call 86; refine HF.out.mono ?_; rintro e w' ⟨rfl, rfl⟩) | (go_at_call 74; refine HT.out.mono ?_; rintro e w' ⟨⟨s', rfl, hs'⟩, hr, ho⟩))
  go_ret
  exact ⟨rfl, hr, ho⟩

theorem first_none (s : ByteArray) (hlen : s.size ≤ 70368744177664) (h : M.NoNum s.data.toList) (w : World) :
    Calls Try.prog 86 #[.string s] w fun e w' => e = .returned (.tuple #[.int .u64 0, .int .i64 0]) ∧ w = w' := by
  have hsz : s.data.toList.length = s.size := (Lib.size_eq s).symm
  rcases M.parts s.data.toList with hc | ⟨l0, c, r, hs, h0, hc⟩
  · exact first_no s s.size (Nat.le_refl _) (fun j hj => hc _ (by rw [byte_at s _ rfl j hj (by omega)]; exact List.getElem_mem _)) hlen (.inl rfl) w
  · have hl : s.size = l0.length + (r.length + 1) := by rw [← hsz, hs]; simp
    refine first_no s l0.length (by omega) (fun j hj => ?_) hlen ?_ w
    · have e : s[j]'(by omega) = l0[j] := by
        rw [byte_at s _ hs j (by omega) (by simp; omega), List.getElem_append_left hj]
      rw [e]
      exact h0 _ (List.getElem_mem _)
    · rcases Nat.lt_or_ge 9 l0.length with h9 | h9
      · exact .inr (.inl h9)
      · refine .inr (.inr ⟨h9, by omega, ?_⟩)
        have e : s[l0.length]'(by omega) = c := by
          rw [byte_at s _ hs l0.length (by omega) (by simp)]; simp
        rw [e]
        refine ⟨hc, ?_⟩
        by_cases a : l0.length = 9 ∧ 1 < c.toNat
        · exact .inl a
        · refine .inr ?_
          have hno : ¬ M.IsNum l0 c := fun hn => h l0 c r hn hs
          by_cases b : c.toNat = 0 ∧ l0.length ≠ 0
          · exact b
          · exfalso
            refine hno ⟨h0, hc, ?_, h9, fun e9 => by omega⟩
            by_cases b2 : c.toNat = 0
            · exact .inr (List.eq_nil_of_length_eq_zero (by omega))
            · exact .inl b2

set_option maxHeartbeats 1000000 in
theorem uint_none (most g : Nat) (l : List UInt8) (w : World) (h : Rd w g l false) (hno : ∀ l0 c r, M.IsNum l0 c → l = l0 ++ c :: r → most < M.low (l0 ++ [c])) :
    Calls Try.prog 72 #[.pointer (some ⟨g, 0, none⟩), .int .u64 most] w fun e w' => e = .returned (.int .u64 0) ∧ Rd w' g [] true ∧ Only g w w' := by
  obtain ⟨s, hs, h0⟩ := h.str
  have hsz : s.size = l.length := by rw [Lib.size_eq, hs]
  have hT := fail_any g l false w h
  rcases M.num_or l with ⟨l0, c, r, hl, hn⟩ | hn
  · have hF := first_yes s l0 c r (hs.trans hl) (by rw [hsz]; exact h.len) hn w
    have hlt := hno l0 c r hn hl
    have HF := Lib.hid hF
    have HT := Lib.hid hT
    have e1 : ((l0.length : Int) + 1 == 0) = false := by simp; omega
    clear hF hT hs hsz hn hl hno
    go_enter Try.func72, Try.ntmps72
    go_wp2_with (first | (go_at_call 61; refine (bad_any g _ false _ h).mono ?_; rintro e w' ⟨rfl, rfl⟩) | (go_at_call 86; refine HF.out.mono ?_; rintro e w' ⟨rfl, rfl⟩) | (go_at_call 73; refine HT.out.mono ?_; rintro e w' ⟨rfl, hr, ho⟩))
    go_ret
    exact ⟨rfl, hr, ho⟩
  · have hF := first_none s (by rw [hsz]; exact h.len) (by rw [hs]; exact hn) w
    have HF := Lib.hid hF
    have HT := Lib.hid hT
    clear hF hT hs hsz hn hno
    go_enter Try.func72, Try.ntmps72
    go_wp2_with (first | (go_at_call 61; refine (bad_any g _ false _ h).mono ?_; rintro e w' ⟨rfl, rfl⟩) | (go_at_call 86; refine HF.out.mono ?_; rintro e w' ⟨rfl, rfl⟩) | (go_at_call 73; refine HT.out.mono ?_; rintro e w' ⟨rfl, hr, ho⟩))
    go_ret
    exact ⟨rfl, hr, ho⟩

/-- (*Reader).Uint. -/
theorem uint_rd (most g : Nat) (l : List UInt8) (bad : Bool) (w : World) (h : Rd w g l bad) :
    Calls Try.prog 72 #[.pointer (some ⟨g, 0, none⟩), .int .u64 most] w fun e w' => ∃ (n : Nat) (l' : List UInt8) (bad' : Bool), e = .returned (.int .u64 n) ∧ RU most l bad n l' bad' ∧ Rd w' g l' bad' ∧ Only g w w' := by
  cases bad
  · by_cases hx : ∃ l0 c r, M.IsNum l0 c ∧ l = l0 ++ c :: r ∧ M.low (l0 ++ [c]) ≤ most
    · obtain ⟨l0, c, r, hn, rfl, hle⟩ := hx
      exact (uint_good most g l0 c r hn w h hle).mono fun e w' ⟨h1, h2, h3⟩ => ⟨_, _, _, h1, .good l0 c r hn hle, h2, h3⟩
    · have hno : ∀ l0 c r, M.IsNum l0 c → l = l0 ++ c :: r → most < M.low (l0 ++ [c]) := fun l0 c r hn hl => by
        rcases Nat.lt_or_ge most (M.low (l0 ++ [c])) with a | a
        · exact a
        · exact absurd ⟨l0, c, r, hn, hl, a⟩ hx
      exact (uint_none most g l w h hno).mono fun e w' ⟨h1, h2, h3⟩ => ⟨0, _, _, h1, .none l hno, h2, h3⟩
  · exact (uint_bad most g l w h).mono fun e w' ⟨h1, h2⟩ => ⟨0, l, true, h1, .bad l, h2 ▸ h, h2 ▸ Only.refl g w⟩

/-! ### Int -/

theorem RU.lt {most : Nat} {l : List UInt8} {bad : Bool} {n : Nat} {l' : List UInt8} {bad' : Bool} (h : RU most l bad n l' bad') : n < 18446744073709551616 := by
  cases h with
  | good l0 c r hn _ => exact hn.lt
  | none => decide
  | bad => decide

set_option maxHeartbeats 400000 in
theorem int_nil (w : World) : Calls Try.prog 58 #[.pointer none] w fun e w' => e = .returned (.int .i64 0) ∧ w = w' := by
  have hU := uint_nil 18446744073709551615 w
  have e : ((18446744073709551615 : Nat) : Int) = 18446744073709551615 := rfl
  rw [e] at hU
  have HU := Lib.hid hU
  clear hU e
  go_enter Try.func58, Try.ntmps58
  go_wp2_with (go_at_call 72; refine HU.out.mono ?_; rintro e w' ⟨rfl, rfl⟩)
  go_ret
  exact ⟨rfl, rfl⟩

/-- What Int makes of a number read. -/
theorem unzig_even (n : Nat) (h : n % 2 = 0) : Lib.unzigzag n = ((n / 2 : Nat) : Int) := by unfold Lib.unzigzag; rw [if_pos h]
theorem unzig_odd (n : Nat) (h : ¬ n % 2 = 0) : Lib.unzigzag n = -((n / 2 : Nat) : Int) - 1 := by unfold Lib.unzigzag; rw [if_neg h]

/-- What Int leaves. -/
def IntPost (g : Nat) (l : List UInt8) (bad : Bool) (w : World) (e : Ending) (w' : World) : Prop :=
  ∃ (n : Nat) (l' : List UInt8) (bad' : Bool), e = .returned (.int .i64 (Lib.unzigzag n)) ∧ RU 18446744073709551615 l bad n l' bad' ∧ Rd w' g l' bad' ∧ Only g w w'

set_option maxHeartbeats 1000000 in
theorem int_rd (g : Nat) (l : List UInt8) (bad : Bool) (w : World) (h : Rd w g l bad) :
    Calls Try.prog 58 #[.pointer (some ⟨g, 0, none⟩)] w (IntPost g l bad w) := by
  have hU := uint_rd 18446744073709551615 g l bad w h
  have e : ((18446744073709551615 : Nat) : Int) = 18446744073709551615 := rfl
  rw [e] at hU
  have HU := Lib.hid hU
  clear hU e
  go_enter Try.func58, Try.ntmps58
  go_wp2_with fail
  refine HU.out.mono ?_
  rintro e w' ⟨n, l', bad', rfl, hr, hd, ho⟩
  have hlt := hr.lt
  have HR := Lib.hid hr
  have HD := Lib.hid hd
  have HO := Lib.hid ho
  clear hr hd ho
  have ha : bits .and .u64 (n : Int) 1 = ((n % 2 : Nat) : Int) := by rw [Lib.u64_and1 _ (by omega) (by omega)]; omega
  by_cases hn : n % 2 = 0
  · have hz := unzig_even n hn
    have HZ := Lib.hid hz
    have e1 : bits .and .u64 (n : Int) 1 = 0 := by rw [ha, hn]; rfl
    clear hz ha hn
    go_wp2
    go_ret
    refine ⟨n, l', bad', ?_, HR.out, HD.out, HO.out⟩
    rw [HZ.out]
    first | rfl | simp
  · have hz := unzig_odd n hn
    have HZ := Lib.hid hz
    have e1 : bits .and .u64 (n : Int) 1 = 1 := by rw [ha]; omega
    have e2 : bits .xor .i64 (-1) ((n / 2 : Nat) : Int) = -((n / 2 : Nat) : Int) - 1 := Lib.i64_not _ (by omega)
    have e3 : bits .xor .i64 (-1) ((n : Int) / 2) = -((n / 2 : Nat) : Int) - 1 := by rw [← e2]; rfl
    have H3 := Lib.hid e3
    clear hz ha hn e2 e3
    go_wp2
    go_ret
    refine ⟨n, l', bad', ?_, HR.out, HD.out, HO.out⟩
    rw [HZ.out, ← H3.out]
    rfl

/-! ### Bool -/

/-! ### Text -/

/-- What a reader of l answers, asked for a text of at most so many bytes. -/
inductive RT (most : Nat) (l : List UInt8) (bad : Bool) : List UInt8 → List UInt8 → Bool → Prop
  | bad (n : Nat) (l1 : List UInt8) (h : RU most l bad n l1 true) : RT most l bad [] l1 true
  | short (n : Nat) (l1 : List UInt8) (h : RU most l bad n l1 false) (hn : l1.length < n) : RT most l bad [] [] true
  | good (n : Nat) (l1 : List UInt8) (h : RU most l bad n l1 false) (hn : n ≤ l1.length) : RT most l bad (l1.take n) (l1.drop n) false

set_option maxHeartbeats 400000 in
theorem text_nil (most : Nat) (hm : most < 9223372036854775808) (w : World) : Calls Try.prog 60 #[.pointer none, .int .i64 most] w fun e w' => e = .returned (.string ⟨#[]⟩) ∧ w = w' := by
  have hU := uint_nil most w
  have HU := Lib.hid hU
  clear hU
  go_enter Try.func60, Try.ntmps60
  go_wp2_with (first | (go_at_call 72; refine HU.out.mono ?_; rintro e w' ⟨rfl, rfl⟩) | (go_at_call 61; refine (bad_nil _).mono ?_; rintro e w' ⟨rfl, rfl⟩))
  go_ret
  exact ⟨rfl, rfl⟩

set_option maxHeartbeats 1000000 in
theorem text_rd (most g : Nat) (hm : most < 9223372036854775808) (l : List UInt8) (bad : Bool) (w : World) (h : Rd w g l bad) (mo : Int) (hmo : mo = (most : Int)) :
    Calls Try.prog 60 #[.pointer (some ⟨g, 0, none⟩), .int .i64 mo] w fun e w' => ∃ (s : ByteArray) (l' : List UInt8) (bad' : Bool), e = .returned (.string s) ∧ RT most l bad s.data.toList l' bad' ∧ Rd w' g l' bad' ∧ Only g w w' := by
  have hU := uint_rd most g l bad w h
  have hw : IntKind.u64.wrap mo = (most : Int) := by rw [hmo, IntKind.wrap_u64]; omega
  rw [← hw] at hU
  have h0 : 0 ≤ mo := by omega
  have HU := Lib.hid hU
  clear hU hmo hw
  go_enter Try.func60, Try.ntmps60
  go_wp2_with fail
  refine HU.out.mono ?_
  rintro e w' ⟨n, l', bad', rfl, hr, hd, ho⟩
  have hlt := hr.lt
  have HR := Lib.hid hr
  have HO := Lib.hid ho
  clear hr ho
  cases bad'
  · obtain ⟨s, hs, h0⟩ := hd.str
    have hsz : s.size = l'.length := by rw [Lib.size_eq, hs]
    have hll := hd.len
    have hsl : s.size ≤ 70368744177664 := by omega
    by_cases hn : n ≤ l'.length
    · have hns : ¬ (s.size < n) := by omega
      have hni : IntKind.i64.wrap (n : Int) = n := by rw [IntKind.wrap_i64]; omega
      have hT := take_any g n l' w' hd hn
      have HT := Lib.hid hT
      clear hT hs hsz hll
      go_wp2_with (first | (go_at_call 61; refine (bad_any g _ false _ hd).mono ?_; rintro e w' ⟨rfl, rfl⟩) | (go_at_call 74; refine HT.out.mono ?_; rintro e w2 ⟨⟨s', rfl, hs'⟩, hr2, ho2⟩))
      go_ret
      refine ⟨s', _, _, rfl, ?_, hr2, HO.out.trans ho2⟩
      rw [hs']
      exact .good n l' HR.out hn
    · have hns : s.size < n := by omega
      have hT := fail_any g l' false w' hd
      have HT := Lib.hid hT
      clear hT hs hsz hll
      go_wp2_with (first | (go_at_call 61; refine (bad_any g _ false _ hd).mono ?_; rintro e w' ⟨rfl, rfl⟩) | (go_at_call 73; refine HT.out.mono ?_; rintro e w2 ⟨rfl, hr2, ho2⟩))
      go_ret
      exact ⟨⟨#[]⟩, _, _, rfl, .short n l' HR.out (by omega), hr2, HO.out.trans ho2⟩
  · go_wp2_with (first | (go_at_call 61; refine (bad_any g _ true _ hd).mono ?_; rintro e w' ⟨rfl, rfl⟩))
    go_ret
    exact ⟨⟨#[]⟩, _, _, rfl, .bad n l' HR.out, hd, HO.out⟩

end Go.Proofs.Ytgcldnojmdabpaa
