/-
  THE LAW'S OWN shaped: of a plain form it answers true.
-/
import Derived.Test.YtkckgjanfiiieaaPn10
namespace Go.Proofs.Ytkckgjanfiiieaa
open Go.RowKit Go

/-- shaped, of one filter. -/
def ShapedOK (f : Ft) : Prop := ∀ (w : World) (kv : Value), KsAt w kv f → Calls Try.prog 8 #[f.val kv] w fun e w' => e = .returned (.bool true) ∧ Lay w w'

set_option maxHeartbeats 4000000 in
set_option maxRecDepth 100000 in
theorem shaped_leaf (o : Int) (n t : ByteArray) (ho : o < 6) : ShapedOK (.mk o n t []) := by
  intro w kv hks
  obtain ⟨a, c, hsh⟩ := hks.shape
  obtain rfl : kv = .slice a 0 c := hsh
  have h6 : (o == 6) = false := beq_eq_false_iff_ne.2 (by omega)
  have h7 : decide (o < 7) = true := decide_eq_true (by omega)
  change Calls Try.prog 8 #[.agg #[.int .i64 o, .string n, .string t, .slice a 0 c]] w _
  clear hks
  go_enter Try.func8, Try.ntmps8
  go_wp2_with fail
  refine wp_loop_rounds 1 ?_
  rw [rounds_succ]
  go_wp2_with fail
  go_ret
  exact ⟨rfl, (Keep.refl _ _).alloc _⟩

set_option maxHeartbeats 4000000 in
set_option maxRecDepth 100000 in
theorem shaped_not (o : Int) (n t : ByteArray) (ho : o = 3 ∨ o = 4 ∨ o = 5) : ShapedOK (.mk 6 Nr.e0 Nr.e0 [.mk o n t []]) := by
  intro w kv hks
  obtain ⟨a, c, hsh⟩ := hks.shape
  obtain rfl : kv = .slice a 1 c := hsh
  have h3 : decide (3 ≤ o) = true := decide_eq_true (by omega)
  have h5 : decide (o ≤ 5) = true := decide_eq_true (by omega)
  change Calls Try.prog 8 #[.agg #[.int .i64 6, .string Nr.e0, .string Nr.e0, .slice a 1 c]] w _
  have hb0 : Lay w (w.alloc (.cells #[.int .i64 6, .string Nr.e0, .string Nr.e0, .slice a 1 c] 26)) := (Keep.refl _ _).alloc _
  have hk0 := KsAt.below hb0.below _ _ hks
  rw [KsAt] at hk0
  obtain ⟨a', cap, he, hl63, h0 | ⟨bk, off, rfl, hbl, hka⟩⟩ := hk0
  · cases h0
  obtain ⟨rfl, rfl⟩ : a = some ⟨bk, off, none⟩ ∧ c = cap := by simpa using he
  obtain ⟨kv, x0, x1, x2, x3, x4⟩ := KAt.get hka 0 (by simp)
  simp only [Nat.zero_mul, Nat.add_zero, List.getElem_cons_zero, Ft.op] at x0
  clear hks hka he x1 x2 x3 x4 hb0
  go_enter Try.func8, Try.ntmps8
  go_wp2_with fail
  go_ret
  exact ⟨rfl, (Keep.refl _ _).alloc _⟩

set_option maxHeartbeats 4000000 in
set_option maxRecDepth 100000 in
theorem shaped_row (o : Int) (k : List Ft) (h : o = 7 ∨ o = 8) (h2 : 2 ≤ k.length) (hl : k.length ≤ 100000) (hno : ∀ x ∈ k, x.op ≠ o) (hk : ∀ x ∈ k, ShapedOK x) : ShapedOK (.mk o Nr.e0 Nr.e0 k) := by
  intro w kv hks
  obtain ⟨a, c, hsh⟩ := hks.shape
  obtain rfl : kv = .slice a k.length c := hsh
  change Calls Try.prog 8 #[.agg #[.int .i64 o, .string Nr.e0, .string Nr.e0, .slice a k.length c]] w _
  have h6 : (o == 6) = false := beq_eq_false_iff_ne.2 (by omega)
  have h7 : decide (o < 7) = false := decide_eq_false (by omega)
  have hge : decide ((2 : Int) ≤ (k.length : Int)) = true := decide_eq_true (by omega)
  have HKK := Lib.hid hk
  have HNO := Lib.hid hno
  have hl0 : Lay w (w.alloc (.cells #[.int .i64 o, .string Nr.e0, .string Nr.e0, .slice a k.length c] 26)) := (Keep.refl _ _).alloc _
  have HKS := Lib.hid (KsAt.below hl0.below _ _ hks)
  have HL0 := Lib.hid hl0
  clear hk hno hl0 hks h
  go_enter Try.func8, Try.ntmps8
  go_wp2_with fail
  go_loopw [31] (fun vi wr => ∃ (i : Nat), vi = .int .i64 i ∧ i ≤ k.length ∧ Lay (w.alloc (.cells #[.int .i64 o, .string Nr.e0, .string Nr.e0, .slice a k.length c] 26)) wr) (fun vi _ => k.length - (intOf vi).toNat)
  case atStart => exact ⟨0, rfl, Nat.zero_le _, Keep.refl _ _⟩
  case round =>
    obtain ⟨i, rfl, hi, hlay⟩ := hrel
    have hlt0 : w.heap.size < (w.alloc (.cells #[.int .i64 o, .string Nr.e0, .string Nr.e0, .slice a k.length c] 26)).heap.size := by simp
    have c0 : wr.cell? ⟨w.heap.size, 0, none⟩ = some (.int .i64 o) := (hlay.cell hlt0).trans (by go_simp)
    have c3 : wr.cell? ⟨w.heap.size, 3, none⟩ = some (.slice a k.length c) := (hlay.cell hlt0).trans (by go_simp)
    by_cases hlt : i < k.length
    · have hks := KsAt.below hlay.below _ _ HKS.out
      rw [KsAt] at hks
      obtain ⟨a', cap, he, _, h0 | ⟨bb, off, rfl, hbl, hka⟩⟩ := hks
      · exact absurd hlt (by rw [h0]; simp)
      obtain ⟨rfl, rfl⟩ : a = some ⟨bb, off, none⟩ ∧ c = cap := by simpa using he
      obtain ⟨kv, x0, x1, x2, x3, x4⟩ := KAt.get hka i hlt
      have hkid := HKK.out _ (List.getElem_mem hlt)
      have hne := HNO.out _ (List.getElem_mem hlt)
      generalize k[i] = x at x0 x1 x2 x3 x4 hkid hne
      obtain ⟨ak, ck, rfl⟩ := x4.shape
      have hl1 : Lay wr (wr.alloc (.cells #[.int .i64 x.op, .string x.name, .string x.text, .slice ak x.kids.length ck] 26)) := (Keep.refl _ _).alloc _
      have hc := hkid _ _ (KsAt.below hl1.below _ _ x4)
      have hne1 : (x.op == o) = false := beq_eq_false_iff_ne.2 hne
      have HC := Lib.hid hc
      have HL1 := Lib.hid (hlay.trans hl1)
      simp only [Ft.val] at HC
      have hws : w.heap.size < wr.heap.size := Nat.lt_of_lt_of_le hlt0 hlay.size
      clear he hka x4 hkid hl1 hc hne hlay hlt0
      go_wp2_with (go_at_call 8; refine HC.out.mono ?_; rintro e6 w6 ⟨rfl, hl6⟩)
      go_roundw
      case rel => exact ⟨i + 1, by go_num, by omega, HL1.out.trans hl6⟩
      case measure => simp [intOf] <;> omega
    · obtain rfl : i = k.length := by omega
      clear hlt0
      go_wp2_with fail
      go_ret
      exact ⟨rfl, HL0.out.trans hlay⟩

theorem shaped_in {f : Ft} (h : Nr.In f) : f.count ≤ 100000 → ShapedOK f := by
  induction h with
  | leaf o n t h => exact fun _ => shaped_leaf o n t (by omega)
  | not o n t h => exact fun _ => shaped_not o n t h
  | row o k h h2 hk ho ih =>
    intro hc
    rw [Ft.count] at hc
    have := counts_len k
    exact shaped_row o k h h2 (by omega) ho fun x hx => ih x hx (by have := counts_in hx; omega)

theorem shaped_pl {f : Ft} (h : Nr.Pl f) (hc : f.count ≤ 100000) : ShapedOK f := by
  rcases h with rfl | rfl | h
  · exact shaped_leaf 1 _ _ (by decide)
  · exact shaped_leaf 2 _ _ (by decide)
  · exact shaped_in h hc

end Go.Proofs.Ytkckgjanfiiieaa
