/-
  A READER of package num ('Rd'), told by its cells; what Bad, End, From do; Uint, of one of which nothing is left; sum.Reader.
-/
import Derived.Test.YtacekhjmfjcppaaOpen
namespace Go.Proofs.Ytacekhjmfjcppaa
open Go.RowKit Go

/-- Block g is a reader of which the bytes l are left; 'bad': something is wrong. -/
structure Rd (w : World) (g : Nat) (l : List UInt8) (bad : Bool) : Prop where
  str : ∃ s : ByteArray, s.data.toList = l ∧ w.cell? ⟨g, 0, none⟩ = some (.string s)
  isBad : w.cell? ⟨g, 1, none⟩ = some (.bool bad)
  f0 : w.frozen? ⟨g, 0, none⟩ = false
  f1 : w.frozen? ⟨g, 1, none⟩ = false
  len : l.length ≤ 70368744177664

/-- Nothing but block g has turned. -/
structure Only (g : Nat) (w w' : World) : Prop where
  os : w'.os = w.os
  tape : w'.tape = w.tape
  output : w'.output = w.output
  size : w'.heap.size = w.heap.size
  block : ∀ k, k ≠ g → w'.heap[k]? = w.heap[k]?

theorem Only.refl (g : Nat) (w : World) : Only g w w := ⟨rfl, rfl, rfl, rfl, fun _ _ => rfl⟩
theorem Only.trans {g : Nat} {a b c : World} (h : Only g a b) (k : Only g b c) : Only g a c :=
  ⟨k.os.trans h.os, k.tape.trans h.tape, k.output.trans h.output, k.size.trans h.size, fun i hi => (k.block i hi).trans (h.block i hi)⟩
theorem Only.setCell (g o : Nat) (w : World) (v : Value) : Only g w (w.setCell ⟨g, o, none⟩ v) :=
  ⟨rfl, rfl, rfl, by simp [World.setCell], fun k hk => Below.heap_setCell w _ v k hk⟩
theorem Only.below {g B : Nat} {w w' : World} (h : Only g w w') (hB : B ≤ g) : Below B w w' :=
  ⟨h.os, h.tape, h.output, Nat.le_of_eq h.size.symm, fun k hk => h.block k (by omega)⟩

theorem Rd.carry {w w' : World} {g : Nat} {l : List UInt8} {bad : Bool} (h : Rd w g l bad) (hb : w'.heap[g]? = w.heap[g]?) : Rd w' g l bad := by
  have hc : ∀ o, w'.cell? ⟨g, o, none⟩ = w.cell? ⟨g, o, none⟩ := fun o => World.cell?_of_block (a := ⟨g, o, none⟩) hb
  have hf : ∀ o, w'.frozen? ⟨g, o, none⟩ = w.frozen? ⟨g, o, none⟩ := fun o => World.frozen?_of_block (a := ⟨g, o, none⟩) hb
  obtain ⟨⟨s, hs, h0⟩, h1, h2, h3, h4⟩ := h
  exact ⟨⟨s, hs, by rw [hc]; exact h0⟩, by rw [hc]; exact h1, by rw [hf]; exact h2, by rw [hf]; exact h3, h4⟩
theorem Rd.only {w w' : World} {g k : Nat} {l : List UInt8} {bad : Bool} (h : Rd w g l bad) (hk : Only k w w') (hne : g ≠ k) : Rd w' g l bad := h.carry (hk.block g hne)
theorem Rd.below {w w' : World} {g B : Nat} {l : List UInt8} {bad : Bool} (h : Rd w g l bad) (hk : Below B w w') (hne : g < B) : Rd w' g l bad := h.carry (hk.block g hne)

theorem Rd.lt {w : World} {g : Nat} {l : List UInt8} {bad : Bool} (h : Rd w g l bad) : g < w.heap.size := by
  exact World.block_lt_of_cell? w ⟨g, 1, none⟩ h.isBad

set_option maxHeartbeats 400000 in
theorem bad_any (g : Nat) (l : List UInt8) (bad : Bool) (w : World) (h : Rd w g l bad) : Calls Try.prog 15 #[.pointer (some ⟨g, 0, none⟩)] w fun e w' => e = .returned (.bool bad) ∧ w = w' := by
  have h1 := h.isBad
  clear h
  go_enter Try.func15, Try.ntmps15
  go_wp2
  go_ret
  exact ⟨rfl, rfl⟩

set_option maxHeartbeats 400000 in
theorem end_any (g : Nat) (l : List UInt8) (bad : Bool) (w : World) (h : Rd w g l bad) : Calls Try.prog 16 #[.pointer (some ⟨g, 0, none⟩)] w fun e w' => e = .returned (.bool (!bad && l.isEmpty)) ∧ w = w' := by
  obtain ⟨s, hs, h0⟩ := h.str
  cases bad
  · by_cases hl : l = []
    · have e0 : s.data.toList = [] := by rw [hs, hl]
      have e1 : s.toList = [] := by rw [ByteArray.toList_eq]; exact e0
      subst hl
      clear hs
      go_enter Try.func16, Try.ntmps16
      go_wp2_with (go_at_call 15; refine (bad_any g _ false _ h).mono ?_; rintro e w' ⟨rfl, rfl⟩)
      go_ret
      exact ⟨rfl, rfl⟩
    · have e1 : s.toList.isEmpty = false := by
        rw [Lib.toList_data, hs]
        cases l with
        | nil => exact absurd rfl hl
        | cons _ _ => rfl
      have e2 : l.isEmpty = false := by
        cases l with
        | nil => exact absurd rfl hl
        | cons _ _ => rfl
      have H2 := Lib.hid e2
      clear hs e2 hl
      go_enter Try.func16, Try.ntmps16
      go_wp2_with (go_at_call 15; refine (bad_any g _ false _ h).mono ?_; rintro e w' ⟨rfl, rfl⟩)
      go_ret
      exact ⟨by rw [H2.out]; rfl, rfl⟩
  · go_enter Try.func16, Try.ntmps16
    go_wp2_with (go_at_call 15; refine (bad_any g _ true _ h).mono ?_; rintro e w' ⟨rfl, rfl⟩)
    go_ret
    exact ⟨rfl, rfl⟩

set_option maxHeartbeats 400000 in
theorem fail_any (g : Nat) (l : List UInt8) (bad : Bool) (w : World) (h : Rd w g l bad) : Calls Try.prog 22 #[.pointer (some ⟨g, 0, none⟩)] w fun e w' => e = .returned (.tuple #[]) ∧ Rd w' g [] true ∧ Only g w w' := by
  obtain ⟨⟨s, hs, h0⟩, h1, h2, h3, h4⟩ := h
  clear hs h4
  go_enter Try.func22, Try.ntmps22
  go_wp2
  go_end0
  refine ⟨rfl, ?_, (Only.setCell g 0 w _).trans (Only.setCell g 1 _ _)⟩
  exact ⟨⟨ByteArray.mk #[], rfl, by go_simp⟩, by go_simp, by simpa using h2, by simpa using h3, by simp⟩

set_option maxHeartbeats 400000 in
theorem from_any (s : ByteArray) (hs : s.size ≤ 70368744177664) (w : World) : Calls Try.prog 19 #[.string s] w fun e w' => e = .returned (.pointer (some ⟨w.heap.size, 0, none⟩)) ∧ w'.heap.size = w.heap.size + 1 ∧ Rd w' w.heap.size s.data.toList false ∧ Below w.heap.size w w' := by
  go_enter Try.func19, Try.ntmps19
  go_wp2
  go_ret
  refine ⟨rfl, by simp, ⟨⟨s, rfl, by go_simp⟩, by go_simp, by go_simp, by go_simp, by rw [← Lib.size_eq]; exact hs⟩, (Below.refl _ _).alloc (Nat.le_refl _) _⟩

set_option maxHeartbeats 400000 in
theorem first_empty (w : World) : Calls Try.prog 21 #[.string ⟨#[]⟩] w fun e w' => e = .returned (.tuple #[.int .u64 0, .int .i64 0]) ∧ w = w' := by
  go_enter Try.func21, Try.ntmps21
  go_wp2
  go_loop [4, 5, 6] (fun _ vi _ => vi = .int .i64 0) (fun _ _ _ => 0)
  case atStart => rfl
  case round =>
    subst hrel
    go_wp2
    go_ret2
    exact ⟨rfl, rfl⟩

set_option maxHeartbeats 400000 in
theorem uint_empty (g : Nat) (w : World) (h : Rd w g [] false) : Calls Try.prog 20 #[.pointer (some ⟨g, 0, none⟩), .int .u64 0] w fun e w' => e = .returned (.int .u64 0) ∧ Rd w' g [] true ∧ Only g w w' := by
  obtain ⟨s, hs, h0⟩ := h.str
  obtain rfl : s = ⟨#[]⟩ := bytes_ext hs
  have HF := Lib.hid (fail_any g [] false w h)
  clear hs
  go_enter Try.func20, Try.ntmps20
  go_wp2_with (first | (go_at_call 15; refine (bad_any g _ false _ h).mono ?_; rintro e w' ⟨rfl, rfl⟩) | (go_at_call 21; refine (first_empty _).mono ?_; rintro e w' ⟨rfl, rfl⟩) | (go_at_call 22; refine HF.out.mono ?_; rintro e w' ⟨rfl, hr, ho⟩))
  go_ret
  exact ⟨rfl, hr, ho⟩

/-- What a reader of s has left, by what Open answers. -/
def leftOf (t : ByteArray) (b : Bool) : List UInt8 := if b then t.data.toList else []

set_option maxHeartbeats 1000000 in
/-- sum.Reader. -/
theorem reader_any (s : ByteArray) (hs : s.size ≤ 1000000) (w : World) :
    Calls Try.prog 14 #[.string s] w fun e w' => ∃ (g : Nat) (t : ByteArray) (b : Bool), e = .returned (.pointer (some ⟨g, 0, none⟩)) ∧ OpenR s t b ∧ Rd w' g (leftOf t b) (!b) ∧ w.heap.size ≤ g ∧ Below w.heap.size w w' := by
  go_enter Try.func14, Try.ntmps14
  go_wp2_with fail
  refine (open_any s hs w).mono ?_
  rintro e w1 ⟨⟨t, b, rfl, hor⟩, hb1⟩
  have hts : t.size ≤ 1000000 := by
    rcases hor with ⟨_, h⟩ | ⟨_, rfl, _⟩
    · have := congrArg List.length h
      rw [M.shut_length, ← Lib.size_eq, ← Lib.size_eq] at this
      omega
    · decide
  have hz1 := hb1.size
  have HB1 := Lib.hid hb1
  have HOR := Lib.hid hor
  clear hb1 hor
  cases b
  · have ht : t = ⟨#[]⟩ := by
      rcases HOR.out with ⟨h, _⟩ | ⟨_, h, _⟩
      · cases h
      · exact h
    subst ht
    go_wp2_with fail
    refine (from_any _ (by decide) w1).mono ?_
    rintro e w2 ⟨rfl, hz2, hr2, hb2⟩
    have HB2 := Lib.hid (HB1.out.trans (hb2.mono hz1))
    have HU := Lib.hid (uint_empty w1.heap.size w2 hr2)
    clear hb2 hr2 hz2
    go_wp2_with fail
    refine HU.out.mono ?_
    rintro e w3 ⟨rfl, hr3, ho3⟩
    go_wp2
    go_ret
    exact ⟨_, _, _, rfl, HOR.out, hr3, hz1, HB2.out.trans (ho3.below hz1)⟩
  · go_wp2_with fail
    refine (from_any t (by omega) w1).mono ?_
    rintro e w2 ⟨rfl, hz2, hr2, hb2⟩
    have HB2 := Lib.hid (HB1.out.trans (hb2.mono hz1))
    clear hb2 hz2
    go_wp2
    go_ret
    exact ⟨_, _, _, rfl, HOR.out, hr2, hz1, HB2.out⟩

end Go.Proofs.Ytacekhjmfjcppaa
