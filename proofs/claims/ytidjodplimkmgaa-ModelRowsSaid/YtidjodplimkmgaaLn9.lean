/-
  match.Line: DOES A FILTER KEEP A LINE?
-/
import Derived.Test.YtidjodplimkmgaaCf9
import Derived.Lib.QuietBelow
namespace Go.Proofs.Ytidjodplimkmgaa
open Go.RowKit Go
open Go.Sort (grow)

/-- A call that leaves what was there as it was, in a region that draws its order. -/
theorem quiet_bool {f : FuncId} {args : Array Value} {w : World} {b : Bool} (h : ∀ W, Below w.heap.size w W → Calls Try.prog f args W fun e w' => e = .returned (.bool b) ∧ Below W.heap.size W w') (d : Nat) (os : Array Obj) :
    Calls Try.prog f args (grow (redrawn w d) os) fun e w'' => e = .returned (.bool b) ∧ ∃ p : Regrown, w'' = grow (redrawn w p.d) p.os :=
  Calls.regrown_of ((h _ (below_regrown w d os)).mono fun _ _ h => h)

set_option maxHeartbeats 2000000 in
set_option maxRecDepth 100000 in
theorem keeps_fn (line : ByteArray) (x : Ft) (kv : Value) (ak : Option Addr) (nk ck : Nat) (hkv : kv = .slice ak nk ck) (b : Bool) (W : World) (B : Nat) (hc : W.cell? ⟨B, 0, none⟩ = some (.string line))
    (h : ∀ W', Below W.heap.size W W' → Calls Try.prog 21 #[x.val kv, .string line] W' fun e w' => e = .returned (.bool b) ∧ Below W'.heap.size W' w') :
    Calls Try.prog 31 (#[x.val kv] ++ #[.pointer (some ⟨B, 0, none⟩)]) W fun e w' => e = .returned (.bool b) ∧ Below W.heap.size W w' := by
  subst hkv
  have hb1 : Below W.heap.size W (W.alloc (.cells #[.int .i64 x.op, .string x.name, .string x.text, .slice ak nk ck] 29)) := (Below.refl _ W).alloc (Nat.le_refl _) _
  have hc1 : (W.alloc (.cells #[.int .i64 x.op, .string x.name, .string x.text, .slice ak nk ck] 29)).cell? ⟨B, 0, none⟩ = some (.string line) := by rw [hb1.cell (World.block_lt_of_cell? W _ hc)]; exact hc
  have HH := Lib.hid (h _ hb1)
  have HB := Lib.hid hb1
  clear h hc hb1
  simp only [Ft.val] at HH ⊢
  go_enter Try.func31, Try.ntmps31
  go_wp2_with (go_at_call 21; refine HH.out.mono ?_; rintro e w' ⟨rfl, hb'⟩)
  go_ret
  exact ⟨rfl, HB.out.trans (hb'.mono HB.out.size)⟩

set_option maxHeartbeats 2000000 in
set_option maxRecDepth 100000 in
theorem drops_fn (line : ByteArray) (x : Ft) (kv : Value) (ak : Option Addr) (nk ck : Nat) (hkv : kv = .slice ak nk ck) (b : Bool) (W : World) (B : Nat) (hc : W.cell? ⟨B, 0, none⟩ = some (.string line))
    (h : ∀ W', Below W.heap.size W W' → Calls Try.prog 21 #[x.val kv, .string line] W' fun e w' => e = .returned (.bool b) ∧ Below W'.heap.size W' w') :
    Calls Try.prog 32 (#[x.val kv] ++ #[.pointer (some ⟨B, 0, none⟩)]) W fun e w' => e = .returned (.bool (!b)) ∧ Below W.heap.size W w' := by
  subst hkv
  have hb1 : Below W.heap.size W (W.alloc (.cells #[.int .i64 x.op, .string x.name, .string x.text, .slice ak nk ck] 29)) := (Below.refl _ W).alloc (Nat.le_refl _) _
  have hc1 : (W.alloc (.cells #[.int .i64 x.op, .string x.name, .string x.text, .slice ak nk ck] 29)).cell? ⟨B, 0, none⟩ = some (.string line) := by rw [hb1.cell (World.block_lt_of_cell? W _ hc)]; exact hc
  have HH := Lib.hid (h _ hb1)
  have HB := Lib.hid hb1
  clear h hc hb1
  simp only [Ft.val] at HH ⊢
  go_enter Try.func32, Try.ntmps32
  go_wp2_with (go_at_call 21; refine HH.out.mono ?_; rintro e w' ⟨rfl, hb'⟩)
  go_ret
  exact ⟨rfl, HB.out.trans (hb'.mono HB.out.size)⟩

set_option maxHeartbeats 4000000 in
set_option maxRecDepth 100000 in
theorem line_word (line n t : ByteArray) (a : Option Addr) (nk c : Nat) (hs : line.size ≤ 100000) (w : World) (hSh : w.ShapedOpen Try.prog) :
    Calls Try.prog 21 #[.agg #[.int .i64 3, .string n, .string t, .slice a nk c], .string line] w fun e w' => e = .returned (.bool (H3.hasB line t)) ∧ Below w.heap.size w w' := by
  have hb0 : Below w.heap.size w ((w.alloc (.cells #[.int .i64 3, .string n, .string t, .slice a nk c] 29)).alloc (.cells #[.string line] 9)) := ((Below.refl _ w).alloc (Nat.le_refl _) _).alloc (by simp) _
  have HS0 := Lib.hid (shaped_below hSh hb0)
  have HB0 := Lib.hid hb0
  clear hSh hb0
  go_enter Try.func21, Try.ntmps21
  go_wp2_with (go_at_call 33; refine (H3.has_any line t (by omega) _).mono ?_; rintro e w' ⟨rfl, hb'⟩)
  go_ret
  exact ⟨rfl, by first | exact HB0.out | exact HB0.out.trans (hb'.mono HB0.out.size)⟩

set_option maxHeartbeats 4000000 in
set_option maxRecDepth 100000 in
theorem line_has (line n t : ByteArray) (a : Option Addr) (nk c : Nat) (hs : line.size ≤ 100000) (w : World) (hSh : w.ShapedOpen Try.prog) :
    Calls Try.prog 21 #[.agg #[.int .i64 4, .string n, .string t, .slice a nk c], .string line] w fun e w' => e = .returned (.bool (Lib.contains line.data.toList t.data.toList)) ∧ Below w.heap.size w w' := by
  have hb0 : Below w.heap.size w ((w.alloc (.cells #[.int .i64 4, .string n, .string t, .slice a nk c] 29)).alloc (.cells #[.string line] 9)) := ((Below.refl _ w).alloc (Nat.le_refl _) _).alloc (by simp) _
  have HS0 := Lib.hid (shaped_below hSh hb0)
  have HB0 := Lib.hid hb0
  clear hSh hb0
  go_enter Try.func21, Try.ntmps21
  go_wp2_with (go_at_call 34; refine (Try.strings_Contains_shaped line t _ HS0.out (by omega)).mono ?_; rintro e w' ⟨rfl, rfl⟩)
  go_ret
  exact ⟨rfl, by first | exact HB0.out | exact HB0.out.trans (hb'.mono HB0.out.size)⟩

set_option maxHeartbeats 4000000 in
set_option maxRecDepth 100000 in
theorem line_field (line n t : ByteArray) (a : Option Addr) (nk c : Nat) (hs : line.size ≤ 100000) (hn : n.size ≤ 10000) (ht : t.size ≤ 10000) (w : World) (hSh : w.ShapedOpen Try.prog) :
    Calls Try.prog 21 #[.agg #[.int .i64 5, .string n, .string t, .slice a nk c], .string line] w fun e w' => e = .returned (.bool (hasPiece line (n ++ ⟨#[61]⟩ ++ t))) ∧ Below w.heap.size w w' := by
  have hb0 : Below w.heap.size w ((w.alloc (.cells #[.int .i64 5, .string n, .string t, .slice a nk c] 29)).alloc (.cells #[.string line] 9)) := ((Below.refl _ w).alloc (Nat.le_refl _) _).alloc (by simp) _
  have HS0 := Lib.hid (shaped_below hSh hb0)
  have HB0 := Lib.hid hb0
  clear hSh hb0
  go_enter Try.func21, Try.ntmps21
  go_wp2_with (go_at_call 35; refine (piece_any line _ hs _ HS0.out).mono ?_; rintro e w' ⟨rfl, hb'⟩)
  go_ret
  exact ⟨rfl, by first | exact HB0.out | exact HB0.out.trans (hb'.mono HB0.out.size)⟩

set_option maxHeartbeats 4000000 in
set_option maxRecDepth 100000 in
theorem line_true (line n t : ByteArray) (a : Option Addr) (nk c : Nat) (_hs : line.size ≤ 100000) (w : World) (hSh : w.ShapedOpen Try.prog) :
    Calls Try.prog 21 #[.agg #[.int .i64 1, .string n, .string t, .slice a nk c], .string line] w fun e w' => e = .returned (.bool true) ∧ Below w.heap.size w w' := by
  have hb0 : Below w.heap.size w ((w.alloc (.cells #[.int .i64 1, .string n, .string t, .slice a nk c] 29)).alloc (.cells #[.string line] 9)) := ((Below.refl _ w).alloc (Nat.le_refl _) _).alloc (by simp) _
  have HS0 := Lib.hid (shaped_below hSh hb0)
  have HB0 := Lib.hid hb0
  clear hSh hb0
  go_enter Try.func21, Try.ntmps21
  go_wp2_with fail
  go_ret
  exact ⟨rfl, by first | exact HB0.out | exact HB0.out.trans (hb'.mono HB0.out.size)⟩

set_option maxHeartbeats 4000000 in
set_option maxRecDepth 100000 in
theorem line_other (line n t : ByteArray) (a : Option Addr) (nk c : Nat) (o : Int) (h : o ≠ 1 ∧ o ≠ 3 ∧ o ≠ 4 ∧ o ≠ 5 ∧ o ≠ 6 ∧ o ≠ 7 ∧ o ≠ 8) (w : World) :
    Calls Try.prog 21 #[.agg #[.int .i64 o, .string n, .string t, .slice a nk c], .string line] w fun e w' => e = .returned (.bool false) ∧ Below w.heap.size w w' := by
  have HB0 := Lib.hid (show Below w.heap.size w ((w.alloc (.cells #[.int .i64 o, .string n, .string t, .slice a nk c] 29)).alloc (.cells #[.string line] 9)) from ((Below.refl _ w).alloc (Nat.le_refl _) _).alloc (by simp) _)
  have h1 : (o == 1) = false := beq_eq_false_iff_ne.2 h.1
  have h3 : (o == 3) = false := beq_eq_false_iff_ne.2 h.2.1
  have h4 : (o == 4) = false := beq_eq_false_iff_ne.2 h.2.2.1
  have h5 : (o == 5) = false := beq_eq_false_iff_ne.2 h.2.2.2.1
  have h6 : (o == 6) = false := beq_eq_false_iff_ne.2 h.2.2.2.2.1
  have h7 : (o == 7) = false := beq_eq_false_iff_ne.2 h.2.2.2.2.2.1
  have h8 : (o == 8) = false := beq_eq_false_iff_ne.2 h.2.2.2.2.2.2
  clear h
  go_enter Try.func21, Try.ntmps21
  go_wp2_with fail
  go_ret
  exact ⟨rfl, HB0.out⟩

end Go.Proofs.Ytidjodplimkmgaa
