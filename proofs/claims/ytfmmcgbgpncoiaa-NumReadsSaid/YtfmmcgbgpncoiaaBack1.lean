/-
  magpielaw01.back: an item read again.
-/
import Derived.Test.YtfmmcgbgpncoiaaItem
namespace Go.Proofs.Ytfmmcgbgpncoiaa
open Go.RowKit Go

/-- Of the old blocks only g has turned. -/
structure Chg (g : Nat) (w w' : World) : Prop where
  os : w'.os = w.os
  tape : w'.tape = w.tape
  output : w'.output = w.output
  size : w.heap.size ≤ w'.heap.size
  block : ∀ k, k < w.heap.size → k ≠ g → w'.heap[k]? = w.heap[k]?

theorem Chg.refl (g : Nat) (w : World) : Chg g w w := ⟨rfl, rfl, rfl, Nat.le_refl _, fun _ _ _ => rfl⟩
theorem Chg.trans {g : Nat} {a b c : World} (h : Chg g a b) (k : Chg g b c) : Chg g a c :=
  ⟨k.os.trans h.os, k.tape.trans h.tape, k.output.trans h.output, Nat.le_trans h.size k.size, fun i hi hn => (k.block i (Nat.lt_of_lt_of_le hi h.size) hn).trans (h.block i hi hn)⟩
theorem Only.chg {g : Nat} {w w' : World} (h : Only g w w') : Chg g w w' := ⟨h.os, h.tape, h.output, Nat.le_of_eq h.size.symm, fun k _ hk => h.block k hk⟩
theorem Chg.drew {g : Nat} {a w : World} (h : Chg g a w) : Chg g a w.drew := ⟨h.os, h.tape, h.output, h.size, h.block⟩
theorem Chg.alloc (g : Nat) (w : World) (o : Obj) : Chg g w (w.alloc o) := ⟨rfl, rfl, rfl, by simp, fun k hk _ => Below.heap_alloc w o k hk⟩
theorem Chg.below {g B : Nat} {w w' : World} (h : Chg g w w') (hg : B ≤ g) (hB : B ≤ w.heap.size) : Below B w w' := ⟨h.os, h.tape, h.output, h.size, fun k hk => h.block k (by omega) (by omega)⟩
theorem Chg.cell {g : Nat} {w w' : World} (h : Chg g w w') {b o : Nat} (hb : b < w.heap.size) (hn : b ≠ g) : w'.cell? ⟨b, o, none⟩ = w.cell? ⟨b, o, none⟩ := World.cell?_of_block (a := ⟨b, o, none⟩) (h.block b hb hn)
theorem Rd.drew {w : World} {g : Nat} {l : List UInt8} {bad : Bool} (h : Rd w g l bad) : Rd w.drew g l bad := h.carry rfl
theorem Rd.alloc {w : World} {g : Nat} {l : List UInt8} {bad : Bool} (h : Rd w g l bad) (o : Obj) : Rd (w.alloc o) g l bad := h.carry (Below.heap_alloc w o g h.lt)

/-- What the next item's reading leaves. -/
inductive RB (x : It) (l : List UInt8) (bad : Bool) : Bool → List UInt8 → Bool → Prop
  | num (h : x.kind = 0) (m : Nat) (l' : List UInt8) (bad' : Bool) (hr : RU x.n l bad m l' bad') : RB x l bad ((m : Int) == (x.n : Int)) l' bad'
  | int (h : x.kind = 1) (m : Nat) (l' : List UInt8) (bad' : Bool) (hr : RU 18446744073709551615 l bad m l' bad') : RB x l bad (Lib.unzigzag m == wrap64 x.n) l' bad'
  | txt (h : x.kind = 2) (t : ByteArray) (l' : List UInt8) (bad' : Bool) (hr : RT x.s.size l bad t.data.toList l' bad') : RB x l bad (t.toList == x.s.toList) l' bad'
  | yes (h0 : x.kind ≠ 0) (h1 : x.kind ≠ 1) (h2 : x.kind ≠ 2) (m : Nat) (l' : List UInt8) (bad' : Bool) (hr : RU 1 l bad m l' bad') : RB x l bad ((m == 1) == (x.n % 2 == 1)) l' bad'

def BackPost (g : Nat) (x : It) (l : List UInt8) (bad : Bool) (w : World) (e : Ending) (w' : World) : Prop :=
  ∃ ok l' bad', e = .returned (.bool ok) ∧ RB x l bad ok l' bad' ∧ Rd w' g l' bad' ∧ Chg g w w'

set_option maxHeartbeats 2000000 in
theorem back_num (g n : Nat) (s : ByteArray) (l : List UInt8) (bad : Bool) (w : World) (h : Rd w g l bad) :
    Calls Try.prog 29 #[.pointer (some ⟨g, 0, none⟩), .agg #[.int .i64 0, .int .u64 n, .string s]] w (BackPost g ⟨0, n, s⟩ l bad w) := by
  have hR := (h.alloc (.cells #[.int .i64 0, .int .u64 n, .string s] 49)).drew
  have hlt := h.lt
  have hne : w.heap.size ≠ g := by omega
  have hU := uint_rd n g l bad _ hR
  have HU := Lib.hid hU
  have HA := Lib.hid ((Chg.alloc g w (.cells #[.int .i64 0, .int .u64 n, .string s] 49)).drew)
  clear hU hR h
  go_enter Try.func29, Try.ntmps29
  go_wp2_with fail
  go_region_with (go_at_call 20; refine HU.out.mono ?_; rintro e w' ⟨m, l', bad', rfl, hru, hrd, ho⟩; have hc := ho.chg.cell (b := w.heap.size) (o := 1) (by simp) hne)
  all_goals
    go_wp2
    go_ret
    exact ⟨_, l', bad', rfl, RB.num (x := ⟨0, n, s⟩) rfl m l' bad' hru, hrd, HA.out.trans ho.chg⟩

set_option maxHeartbeats 2000000 in
theorem back_int (g n : Nat) (s : ByteArray) (l : List UInt8) (bad : Bool) (w : World) (h : Rd w g l bad) :
    Calls Try.prog 29 #[.pointer (some ⟨g, 0, none⟩), .agg #[.int .i64 1, .int .u64 n, .string s]] w (BackPost g ⟨1, n, s⟩ l bad w) := by
  have hR := (h.alloc (.cells #[.int .i64 1, .int .u64 n, .string s] 49)).drew
  have hlt := h.lt
  have hne : w.heap.size ≠ g := by omega
  have hU := int_rd g l bad _ hR
  have HU := Lib.hid hU
  have hw : IntKind.i64.wrap (n : Int) = wrap64 n := by rw [IntKind.wrap_i64]; unfold wrap64; omega
  have HA := Lib.hid ((Chg.alloc g w (.cells #[.int .i64 1, .int .u64 n, .string s] 49)).drew)
  clear hU hR h
  go_enter Try.func29, Try.ntmps29
  go_wp2_with fail
  go_region_with (go_at_call 21; refine HU.out.mono ?_; rintro e w' ⟨m, l', bad', rfl, hru, hrd, ho⟩; have hc := ho.chg.cell (b := w.heap.size) (o := 1) (by simp) hne)
  all_goals
    go_wp2
    go_ret
    exact ⟨_, l', bad', rfl, RB.int (x := ⟨1, n, s⟩) rfl m l' bad' hru, hrd, HA.out.trans ho.chg⟩

set_option maxHeartbeats 2000000 in
theorem back_txt (g n : Nat) (s : ByteArray) (hs : s.size ≤ 100) (l : List UInt8) (bad : Bool) (w : World) (h : Rd w g l bad) :
    Calls Try.prog 29 #[.pointer (some ⟨g, 0, none⟩), .agg #[.int .i64 2, .int .u64 n, .string s]] w (BackPost g ⟨2, n, s⟩ l bad w) := by
  have hR := (h.alloc (.cells #[.int .i64 2, .int .u64 n, .string s] 49)).drew
  have hlt := h.lt
  have hne : w.heap.size ≠ g := by omega
  have hU := text_rd s.size g (by omega) l bad _ hR s.size (by omega)
  have HU := Lib.hid hU
  have HA := Lib.hid ((Chg.alloc g w (.cells #[.int .i64 2, .int .u64 n, .string s] 49)).drew)
  clear hU hR h
  go_enter Try.func29, Try.ntmps29
  go_wp2_with fail
  go_region_with (go_at_call 22; refine HU.out.mono ?_; rintro e w' ⟨t, l', bad', rfl, hru, hrd, ho⟩; have hc := ho.chg.cell (b := w.heap.size) (o := 2) (by simp) hne)
  all_goals
    go_wp2
    go_ret
    exact ⟨_, l', bad', rfl, RB.txt (x := ⟨2, n, s⟩) rfl t l' bad' hru, hrd, HA.out.trans ho.chg⟩

set_option maxHeartbeats 2000000 in
theorem back_yes (g n : Nat) (kd : Int) (s : ByteArray) (h0 : kd ≠ 0) (h1 : kd ≠ 1) (h2 : kd ≠ 2) (l : List UInt8) (bad : Bool) (w : World) (h : Rd w g l bad) :
    Calls Try.prog 29 #[.pointer (some ⟨g, 0, none⟩), .agg #[.int .i64 kd, .int .u64 n, .string s]] w (BackPost g ⟨kd, n, s⟩ l bad w) := by
  have hR := (h.alloc (.cells #[.int .i64 kd, .int .u64 n, .string s] 49)).drew
  have hlt := h.lt
  have hne : w.heap.size ≠ g := by omega
  have hU := bool_rd g l bad _ hR
  have HU := Lib.hid hU
  have HA := Lib.hid ((Chg.alloc g w (.cells #[.int .i64 kd, .int .u64 n, .string s] 49)).drew)
  have e0 : (kd == 0) = false := by simpa using h0
  have e1 : (kd == 1) = false := by simpa using h1
  have e2 : (kd == 2) = false := by simpa using h2
  have hmod : (n : Int).tmod 2 = (n : Int) % 2 := Int.tmod_eq_emod_of_nonneg (by omega)
  have hen : ((n : Int) % 2 == 1) = (n % 2 == 1) := by rw [Bool.eq_iff_iff]; simp; omega
  have H0 := Lib.hid h0
  have H1 := Lib.hid h1
  have H2 := Lib.hid h2
  clear hU hR h h0 h1 h2
  go_enter Try.func29, Try.ntmps29
  go_wp2_with fail
  go_region_with (go_at_call 23; refine HU.out.mono ?_; rintro e w' ⟨m, l', bad', rfl, hru, hrd, ho⟩; have hc := ho.chg.cell (b := w.heap.size) (o := 1) (by simp) hne)
  all_goals
    go_wp2
    go_ret
    exact ⟨_, l', bad', rfl, RB.yes (x := ⟨kd, n, s⟩) H0.out H1.out H2.out m l' bad' hru, hrd, HA.out.trans ho.chg⟩

theorem back_any (g : Nat) (x : It) (hx : x.Fits) (l : List UInt8) (bad : Bool) (w : World) (h : Rd w g l bad) :
    Calls Try.prog 29 #[.pointer (some ⟨g, 0, none⟩), x.val] w (BackPost g x l bad w) := by
  obtain ⟨kd, n, s⟩ := x
  by_cases h0 : kd = 0
  · subst h0; exact back_num g n s l bad w h
  by_cases h1 : kd = 1
  · subst h1; exact back_int g n s l bad w h
  by_cases h2 : kd = 2
  · subst h2; exact back_txt g n s hx.txt l bad w h
  exact back_yes g n kd s h0 h1 h2 l bad w h

end Go.Proofs.Ytfmmcgbgpncoiaa
