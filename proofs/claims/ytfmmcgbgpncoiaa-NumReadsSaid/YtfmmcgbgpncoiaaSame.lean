/-
  magpielaw01.same: the two readers side by side.
-/
import Derived.Test.YtfmmcgbgpncoiaaRefText
namespace Go.Proofs.Ytfmmcgbgpncoiaa
open Go.RowKit Go

/-- Both readers, at the same place. -/
structure Syn (w : World) (g m : Nat) (S : ByteArray) (l : List UInt8) (bad : Bool) (pos : Nat) : Prop where
  rd : Rd w g l bad
  rf : Rf w m S pos bad
  left : Left l bad S pos

/-- Of the old blocks only the two have turned. -/
structure Chg2 (g m : Nat) (w w' : World) : Prop where
  os : w'.os = w.os
  tape : w'.tape = w.tape
  output : w'.output = w.output
  size : w.heap.size ≤ w'.heap.size
  block : ∀ k, k < w.heap.size → k ≠ g → k ≠ m → w'.heap[k]? = w.heap[k]?

theorem Chg2.refl (g m : Nat) (w : World) : Chg2 g m w w := ⟨rfl, rfl, rfl, Nat.le_refl _, fun _ _ _ _ => rfl⟩
theorem Chg2.trans {g m : Nat} {a b c : World} (h : Chg2 g m a b) (k : Chg2 g m b c) : Chg2 g m a c :=
  ⟨k.os.trans h.os, k.tape.trans h.tape, k.output.trans h.output, Nat.le_trans h.size k.size, fun i hi hn hm => (k.block i (Nat.lt_of_lt_of_le hi h.size) hn hm).trans (h.block i hi hn hm)⟩
theorem Chg.two {g m : Nat} {w w' : World} (h : Chg g w w') : Chg2 g m w w' := ⟨h.os, h.tape, h.output, h.size, fun k hk hn _ => h.block k hk hn⟩
theorem Chg.two' {g m : Nat} {w w' : World} (h : Chg m w w') : Chg2 g m w w' := ⟨h.os, h.tape, h.output, h.size, fun k hk _ hm => h.block k hk hm⟩
theorem Rf.drew {w : World} {g : Nat} {S : ByteArray} {pos : Nat} {bad : Bool} (h : Rf w g S pos bad) : Rf w.drew g S pos bad := h.carry rfl
theorem Rf.alloc {w : World} {g : Nat} {S : ByteArray} {pos : Nat} {bad : Bool} (h : Rf w g S pos bad) (o : Obj) : Rf (w.alloc o) g S pos bad := h.carry (Below.heap_alloc w o g h.lt)

/-- What 'same' leaves. -/
def SamePost (g m : Nat) (S : ByteArray) (w : World) (e : Ending) (w' : World) : Prop :=
  e = .returned (.bool true) ∧ (∃ l' bad' pos', Syn w' g m S l' bad' pos') ∧ Chg2 g m w w'

set_option maxHeartbeats 4000000 in
theorem same_num (g m n : Nat) (hgm : g ≠ m) (S : ByteArray) (hS : S.size ≤ 2000) (l : List UInt8) (bad : Bool) (pos : Nat) (w : World) (h : Syn w g m S l bad pos) :
    Calls Try.prog 26 #[.pointer (some ⟨g, 0, none⟩), .pointer (some ⟨m, 0, none⟩), .agg #[.int .i64 0, .int .u64 n]] w (SamePost g m S w) := by
  have hR := (h.rd.alloc (.cells #[.int .i64 0, .int .u64 n] 44)).drew
  have hF := (h.rf.alloc (.cells #[.int .i64 0, .int .u64 n] 44)).drew
  have hlt := h.rd.lt
  have hlt2 := h.rf.lt
  have hne : w.heap.size ≠ g := by omega
  have hne2 : w.heap.size ≠ m := by omega
  have hU := uint_rd n g l bad _ hR
  have HU := Lib.hid hU
  have HF := Lib.hid hF
  have HLE := Lib.hid h.left
  have HA := Lib.hid ((Chg.alloc g w (.cells #[.int .i64 0, .int .u64 n] 44)).drew)
  have hmod : IntKind.u64.wrap ((n : Int).tmod 1000000) = (n : Int) % 1000000 := by rw [Int.tmod_eq_emod_of_nonneg (by omega), IntKind.wrap_u64]; omega
  have hmod2 : (n : Int).tmod 1000000 = (n : Int) % 1000000 := Int.tmod_eq_emod_of_nonneg (by omega)
  have hmod3 : IntKind.i64.wrap ((n : Int) % 1000000) = (n : Int) % 1000000 := by rw [IntKind.wrap_i64]; omega
  clear hU hR hF h
  go_enter Try.func26, Try.ntmps26
  go_wp2_with fail
  go_region_with (first | (go_at_call 20; refine HU.out.mono ?_; rintro e w' ⟨k, l', bad', rfl, hru, hrd, ho⟩; have hc := ho.chg.cell (b := w.heap.size) (o := 1) (by simp) hne) | (go_at_call 34; have HF2 := HF.out.carry (ho.block m (Ne.symm hgm)); refine (ref_rd n m S hS pos l bad _ HF2 HLE.out).mono ?_; rintro e w2 ⟨k2, l2, bad2, pos2, rfl, hru2, hrf2, hle2, ho2⟩; obtain ⟨rfl, rfl, rfl⟩ := hru.same hru2))
  all_goals
    go_wp2
    go_ret
    exact ⟨by first | rfl | simp, ⟨l', bad', pos2, hrd.chg ho2 hgm, hrf2, hle2⟩, (HA.out.two.trans ho.chg.two).trans ho2.two'⟩

set_option maxHeartbeats 2000000 in
theorem same_int (g m n : Nat) (hgm : g ≠ m) (S : ByteArray) (hS : S.size ≤ 2000) (l : List UInt8) (bad : Bool) (pos : Nat) (w : World) (h : Syn w g m S l bad pos) :
    Calls Try.prog 26 #[.pointer (some ⟨g, 0, none⟩), .pointer (some ⟨m, 0, none⟩), .agg #[.int .i64 1, .int .u64 n]] w (SamePost g m S w) := by
  have hR := h.rd.alloc (.cells #[.int .i64 1, .int .u64 n] 44)
  have hF := h.rf.alloc (.cells #[.int .i64 1, .int .u64 n] 44)
  have HF := Lib.hid hF
  have HLE := Lib.hid h.left
  have HA := Lib.hid (Chg.alloc g w (.cells #[.int .i64 1, .int .u64 n] 44))
  have hmod2 : (n : Int).tmod 1000000 = (n : Int) % 1000000 := Int.tmod_eq_emod_of_nonneg (by omega)
  have hmod1 : IntKind.u64.wrap ((n : Int) % 1000000) = (n : Int) % 1000000 := by rw [IntKind.wrap_u64]; omega
  have hmod3 : IntKind.i64.wrap ((n : Int) % 1000000) = (n : Int) % 1000000 := by rw [IntKind.wrap_i64]; omega
  have HU := Lib.hid (int_rd g l bad _ hR)
  clear hR hF h
  go_enter Try.func26, Try.ntmps26
  go_wp2_with fail
  refine HU.out.mono ?_
  rintro e w' ⟨k, l', bad', rfl, hru, hrd, ho⟩
  have HF2 := HF.out.carry (ho.block m (Ne.symm hgm))
  go_wp2_with fail
  refine (ref_int_rd m S hS pos l bad _ HF2 HLE.out).mono ?_
  rintro e w2 ⟨k2, l2, bad2, pos2, rfl, hru2, hrf2, hle2, ho2⟩
  obtain ⟨rfl, rfl, rfl⟩ := hru.same hru2
  go_wp2
  go_ret
  exact ⟨by first | rfl | simp, ⟨l', bad', pos2, hrd.chg ho2 hgm, hrf2, hle2⟩, (HA.out.two.trans ho.chg.two).trans ho2.two'⟩

set_option maxHeartbeats 2000000 in
theorem same_text (g m n : Nat) (hgm : g ≠ m) (S : ByteArray) (hS : S.size ≤ 2000) (l : List UInt8) (bad : Bool) (pos : Nat) (w : World) (h : Syn w g m S l bad pos) :
    Calls Try.prog 26 #[.pointer (some ⟨g, 0, none⟩), .pointer (some ⟨m, 0, none⟩), .agg #[.int .i64 2, .int .u64 n]] w (SamePost g m S w) := by
  have hR := h.rd.alloc (.cells #[.int .i64 2, .int .u64 n] 44)
  have hF := h.rf.alloc (.cells #[.int .i64 2, .int .u64 n] 44)
  have HF := Lib.hid hF
  have HLE := Lib.hid h.left
  have HA := Lib.hid (Chg.alloc g w (.cells #[.int .i64 2, .int .u64 n] 44))
  have hmod2 : (n : Int).tmod 1000000 = (n : Int) % 1000000 := Int.tmod_eq_emod_of_nonneg (by omega)
  have hmod1 : IntKind.u64.wrap ((n : Int) % 1000000) = (n : Int) % 1000000 := by rw [IntKind.wrap_u64]; omega
  have hmod3 : IntKind.i64.wrap ((n : Int) % 1000000) = (n : Int) % 1000000 := by rw [IntKind.wrap_i64]; omega
  have HU := Lib.hid (text_rd (n % 1000000) g (by omega) l bad _ hR ((n : Int) % 1000000) (by omega))
  clear hR hF h
  go_enter Try.func26, Try.ntmps26
  go_wp2_with fail
  refine HU.out.mono ?_
  rintro e w' ⟨s, l', bad', rfl, hru, hrd, ho⟩
  have HF2 := HF.out.carry (ho.block m (Ne.symm hgm))
  go_wp2_with fail
  refine (ref_text_rd (n % 1000000) m (by omega) S hS pos l bad _ HF2 HLE.out ((n : Int) % 1000000) (by omega)).mono ?_
  rintro e w2 ⟨s2, l2, bad2, pos2, rfl, hru2, hrf2, hle2, ho2⟩
  obtain ⟨hts, rfl, rfl⟩ := hru.same hru2
  obtain rfl : s = s2 := ByteArray.ext (Array.toList_inj.1 hts)
  go_wp2
  go_ret
  exact ⟨by first | rfl | simp, ⟨l', bad', pos2, hrd.chg ho2 hgm, hrf2, hle2⟩, (HA.out.two.trans ho.chg.two).trans ho2.two'⟩

set_option maxHeartbeats 2000000 in
theorem same_none (g m n : Nat) (hgm : g ≠ m) (S : ByteArray) (hS : S.size ≤ 2000) (l : List UInt8) (bad : Bool) (pos : Nat) (w : World) (h : Syn w g m S l bad pos) :
    Calls Try.prog 26 #[.pointer (some ⟨g, 0, none⟩), .pointer (some ⟨m, 0, none⟩), .agg #[.int .i64 3, .int .u64 n]] w (SamePost g m S w) := by
  have hR := h.rd.alloc (.cells #[.int .i64 3, .int .u64 n] 44)
  have hF := h.rf.alloc (.cells #[.int .i64 3, .int .u64 n] 44)
  have HF := Lib.hid hF
  have HLE := Lib.hid h.left
  have HA := Lib.hid (Chg.alloc g w (.cells #[.int .i64 3, .int .u64 n] 44))
  have hmod2 : (n : Int).tmod 1000000 = (n : Int) % 1000000 := Int.tmod_eq_emod_of_nonneg (by omega)
  have hmod1 : IntKind.u64.wrap ((n : Int) % 1000000) = (n : Int) % 1000000 := by rw [IntKind.wrap_u64]; omega
  have hmod3 : IntKind.i64.wrap ((n : Int) % 1000000) = (n : Int) % 1000000 := by rw [IntKind.wrap_i64]; omega
  have HU := Lib.hid (text_rd 0 g (by omega) l bad _ hR (-((n : Int) % 1000000)) (by omega))
  have hneg : IntKind.i64.wrap (-((n : Int) % 1000000)) = -((n : Int) % 1000000) := by rw [IntKind.wrap_i64]; omega
  clear hR hF h
  go_enter Try.func26, Try.ntmps26
  go_wp2_with fail
  refine HU.out.mono ?_
  rintro e w' ⟨s, l', bad', rfl, hru, hrd, ho⟩
  have HF2 := HF.out.carry (ho.block m (Ne.symm hgm))
  go_wp2_with fail
  refine (ref_text_rd 0 m (by omega) S hS pos l bad _ HF2 HLE.out 0 (by omega)).mono ?_
  rintro e w2 ⟨s2, l2, bad2, pos2, rfl, hru2, hrf2, hle2, ho2⟩
  obtain ⟨hts, rfl, rfl⟩ := hru.same hru2
  obtain rfl : s = s2 := ByteArray.ext (Array.toList_inj.1 hts)
  go_wp2
  go_ret
  exact ⟨by first | rfl | simp, ⟨l', bad', pos2, hrd.chg ho2 hgm, hrf2, hle2⟩, (HA.out.two.trans ho.chg.two).trans ho2.two'⟩

set_option maxHeartbeats 2000000 in
theorem same_bool (g m n : Nat) (kd : Int) (h0 : kd ≠ 0) (h1 : kd ≠ 1) (h2 : kd ≠ 2) (h3 : kd ≠ 3) (hgm : g ≠ m) (S : ByteArray) (hS : S.size ≤ 2000) (l : List UInt8) (bad : Bool) (pos : Nat) (w : World) (h : Syn w g m S l bad pos) :
    Calls Try.prog 26 #[.pointer (some ⟨g, 0, none⟩), .pointer (some ⟨m, 0, none⟩), .agg #[.int .i64 kd, .int .u64 n]] w (SamePost g m S w) := by
  have hR := h.rd.alloc (.cells #[.int .i64 kd, .int .u64 n] 44)
  have hF := h.rf.alloc (.cells #[.int .i64 kd, .int .u64 n] 44)
  have HF := Lib.hid hF
  have HLE := Lib.hid h.left
  have HA := Lib.hid (Chg.alloc g w (.cells #[.int .i64 kd, .int .u64 n] 44))
  have hmod2 : (n : Int).tmod 1000000 = (n : Int) % 1000000 := Int.tmod_eq_emod_of_nonneg (by omega)
  have hmod1 : IntKind.u64.wrap ((n : Int) % 1000000) = (n : Int) % 1000000 := by rw [IntKind.wrap_u64]; omega
  have hmod3 : IntKind.i64.wrap ((n : Int) % 1000000) = (n : Int) % 1000000 := by rw [IntKind.wrap_i64]; omega
  have HU := Lib.hid (bool_rd g l bad _ hR)
  have e0 : (kd == 0) = false := by simpa using h0
  have e1 : (kd == 1) = false := by simpa using h1
  have e2 : (kd == 2) = false := by simpa using h2
  have e3 : (kd == 3) = false := by simpa using h3
  clear hR hF h h0 h1 h2 h3
  go_enter Try.func26, Try.ntmps26
  go_wp2_with fail
  refine HU.out.mono ?_
  rintro e w' ⟨k, l', bad', rfl, hru, hrd, ho⟩
  have HF2 := HF.out.carry (ho.block m (Ne.symm hgm))
  have hcall := ref_rd 1 m S hS pos l bad _ HF2 HLE.out
  have ec : ((1 : Nat) : Int) = 1 := rfl
  rw [ec] at hcall
  have HCL := Lib.hid hcall
  clear hcall ec
  go_wp2_with fail
  refine HCL.out.mono ?_
  rintro e w2 ⟨k2, l2, bad2, pos2, rfl, hru2, hrf2, hle2, ho2⟩
  obtain ⟨rfl, rfl, rfl⟩ := hru.same hru2
  have hk : ((k : Int) == 1) = (k == 1) := by rw [Bool.eq_iff_iff]; simp; omega
  go_wp2
  go_ret
  exact ⟨by first | rfl | simp, ⟨l', bad', pos2, hrd.chg ho2 hgm, hrf2, hle2⟩, (HA.out.two.trans ho.chg.two).trans ho2.two'⟩

theorem same_any (g m n : Nat) (kd : Int) (hgm : g ≠ m) (S : ByteArray) (hS : S.size ≤ 2000) (l : List UInt8) (bad : Bool) (pos : Nat) (w : World) (h : Syn w g m S l bad pos) :
    Calls Try.prog 26 #[.pointer (some ⟨g, 0, none⟩), .pointer (some ⟨m, 0, none⟩), .agg #[.int .i64 kd, .int .u64 n]] w (SamePost g m S w) := by
  by_cases h0 : kd = 0
  · subst h0; exact same_num g m n hgm S hS l bad pos w h
  by_cases h1 : kd = 1
  · subst h1; exact same_int g m n hgm S hS l bad pos w h
  by_cases h2 : kd = 2
  · subst h2; exact same_text g m n hgm S hS l bad pos w h
  by_cases h3 : kd = 3
  · subst h3; exact same_none g m n hgm S hS l bad pos w h
  exact same_bool g m n kd h0 h1 h2 h3 hgm S hS l bad pos w h

end Go.Proofs.Ytfmmcgbgpncoiaa
