/-
  THE DOCUMENT'S OWN Source: Next, Text.
-/
import Derived.Test.YtjghomppmphkoaaGreatDoorRows6
import Derived.Test.YtjghomppmphkoaaGreatDoorMake0
namespace Go.Proofs.YtjghomppmphkoaaGreatDoor
open Go.RowKit Go

/-- Numbers that lie so. -/
def IntsAt (w : World) (v : Value) (l : List Int) : Prop :=
  ∃ a cap, v = .slice a l.length cap ∧ l.length ≤ 9223372036854775807 ∧ (l = [] ∨ ∃ b off, a = some ⟨b, off, none⟩ ∧ b < w.heap.size ∧ ∀ i (h : i < l.length), w.cell? ⟨b, off + i, none⟩ = some (.int .i64 l[i]))

theorem IntsAt.keep {G : Nat → Prop} {w w' : World} {v : Value} {l : List Int} (h : IntsAt w v l) (hk : Keep G w w') (hd : ∀ b off n c, v = .slice (some ⟨b, off, none⟩) n c → ¬ G b) : IntsAt w' v l := by
  obtain ⟨a, cap, hv, hl, h | ⟨b, off, ha, hlt, hc⟩⟩ := h
  · exact ⟨a, cap, hv, hl, .inl h⟩
  · refine ⟨a, cap, hv, hl, .inr ⟨b, off, ha, Nat.lt_of_lt_of_le hlt hk.size, fun i hi => ?_⟩⟩
    rw [World.cell?_of_block (a := ⟨b, off + i, none⟩) (hk.block b hlt (hd b off _ _ (by rw [hv, ha])))]
    exact hc i hi

/-- A source of numbers: which, and how many are used up; what it reads lies elsewhere. -/
structure Srcs (w : World) (g : Nat) (v : Value) (l : List Int) (p : Nat) : Prop where
  lt : g < w.heap.size
  c0 : w.cell? ⟨g, 0, none⟩ = some v
  c1 : w.cell? ⟨g, 1, none⟩ = some (.int .i64 (p : Nat))
  f1 : w.frozen? ⟨g, 1, none⟩ = false
  ints : IntsAt w v l
  off : l ≠ [] → ∀ b off n c, v = .slice (some ⟨b, off, none⟩) n c → b ≠ g
  le : p ≤ l.length

theorem Srcs.lay {w w' : World} {g : Nat} {v : Value} {l : List Int} {p : Nat} (h : Srcs w g v l p) (hl : Lay w w') : Srcs w' g v l p where
  lt := Nat.lt_of_lt_of_le h.lt hl.size
  c0 := (hl.cell h.lt).trans h.c0
  c1 := (hl.cell h.lt).trans h.c1
  f1 := (World.frozen?_of_block (a := ⟨g, 1, none⟩) (hl.block h.lt)).trans h.f1
  ints := h.ints.keep hl fun _ _ _ _ _ h => h
  off := h.off
  le := h.le

theorem Srcs.step {w : World} {g : Nat} {v : Value} {l : List Int} {p : Nat} (h : Srcs w g v l p) (hp : p < l.length) : Srcs (w.setCell ⟨g, 1, none⟩ (.int .i64 ((p : Int) + 1))) g v l (p + 1) where
  lt := by simpa [World.setCell] using h.lt
  c0 := by have := h.c0; have := h.c1; go_simp
  c1 := by have := h.c1; go_simp
  f1 := by have := h.c1; have := h.f1; go_simp
  ints := h.ints.keep (Keep.setCell (Keep.refl (fun k => k = g) _) (p := ⟨g, 1, none⟩) (.inr rfl) _) fun b off n c e => h.off (by intro e; rw [e] at hp; simp at hp) b off n c e
  off := h.off
  le := hp

theorem Keep.drewN' {G : Nat → Prop} {a w : World} (h : Keep G a w) (n : Nat) : Keep G a (w.drewN n) := h.drewN n

set_option maxHeartbeats 4000000 in
set_option maxRecDepth 100000 in
theorem next_any (g : Nat) (v : Value) (l : List Int) (p n : Nat) (hn0 : 0 < n) (hn : n ≤ 1000) (w : World) (h : Srcs w g v l p) :
    Calls Tryz.prog 28 #[.pointer (some ⟨g, 0, none⟩), .int .i64 (n : Nat)] w fun e w' => e = .returned (.int .i64 ((Ft.next l n p).1 : Nat)) ∧ Srcs w' g v l (Ft.next l n p).2 ∧ Keep (fun k => k = g) w w' := by
  have hmx : Tryz.prog.follows .mixedOrders = true := by kernel_rfl
  have HS := Lib.hid h
  have c0 := h.c0
  have c1 := h.c1
  have f1 := h.f1
  have hle := h.le
  obtain ⟨a, cap, rfl, hl63, hint⟩ := h.ints
  clear h
  by_cases hp : p < l.length
  · rcases hint with h0 | ⟨b, off, rfl, hb, hc⟩
    · exact absurd hp (by rw [h0]; simp)
    have cx := hc p hp
    have hbg : ¬ b = g := HS.out.off (by intro e; rw [e] at hp; simp at hp) b off _ _ rfl
    have hbg2 : ¬ g = b := fun e => hbg e.symm
    have HN : Hid (Ft.next l n p = ((l[p] % 18446744073709551616).toNat % n, p + 1)) := Lib.hid (by unfold Ft.next; rw [dif_pos hp])
    obtain ⟨x, hx⟩ : ∃ x, x = l[p] := ⟨_, rfl⟩
    rw [← hx] at cx HN
    obtain ⟨y, hy⟩ : ∃ y, y = (x % 18446744073709551616).toNat := ⟨_, rfl⟩
    rw [← hy] at HN
    have hge : decide ((l.length : Int) ≤ (p : Int)) = false := by simp; omega
    have hy64 : y < 18446744073709551616 := by omega
    have hw1 : IntKind.u64.wrap x = (y : Int) := by rw [IntKind.wrap_u64, hy]; omega
    have hw2 : IntKind.u64.wrap (n : Int) = (n : Int) := by rw [IntKind.wrap_u64]; omega
    have hyn : y % n < n := Nat.mod_lt _ hn0
    have hw3 : (y : Int).tmod (n : Int) = ((y % n : Nat) : Int) := rfl
    obtain ⟨r, hr⟩ : ∃ r, r = y % n := ⟨_, rfl⟩
    rw [← hr] at HN hw3 hyn
    have hw4 : IntKind.i64.wrap (r : Int) = (r : Int) := by rw [IntKind.wrap_i64]; omega
    have hn00 : ((n : Int) == 0) = false := by simp; omega
    have hp1 : ¬ ((p : Int) < 0) := by omega
    have hp2 : (p : Int) < (l.length : Int) := by omega
    clear hx hc hr hy
    go_enter Tryz.func28, Tryz.ntmps28
    go_wp2_with fail
    go_quiet (fail)
    go_wp2_with fail
    obtain ⟨W1, hW1⟩ : ∃ W1, W1 = (w.drewN nq).setCell ⟨g, 1, none⟩ (.int .i64 ((p : Int) + 1)) := ⟨_, rfl⟩
    have HST := Lib.hid ((HS.out.lay ((Keep.refl _ _).drewN nq)).step hp)
    have HK : Hid (Keep (fun k => k = g) w W1) := Lib.hid (by rw [hW1]; exact Keep.setCell (G := fun k => k = g) ((Keep.refl (fun k => k = g) w).drewN nq) (p := ⟨g, 1, none⟩) (.inr rfl) _)
    rw [← hW1] at HST ⊢
    have d0 := HST.out.c0
    have d1 : W1.cell? ⟨g, 1, none⟩ = some (.int .i64 ((p : Int) + 1)) := HST.out.c1
    have dx : W1.cell? ⟨b, off + p, none⟩ = some (.int .i64 x) := (World.cell?_of_block (a := ⟨b, off + p, none⟩) (HK.out.block b hb hbg)).trans cx
    clear hW1 c0 c1 f1 cx hb
    go_quiet (fail)
    go_wp2_with fail
    go_ret
    rw [HN.out]
    exact ⟨rfl, HST.out.lay ((Keep.refl _ _).drewN _), HK.out.drewN _⟩
  · have HN : Hid (Ft.next l n p = (0, p)) := Lib.hid (by unfold Ft.next; rw [dif_neg hp])
    have hge : decide ((l.length : Int) ≤ (p : Int)) = true := by simp; omega
    go_enter Tryz.func28, Tryz.ntmps28
    go_wp2_with fail
    go_quiet (fail)
    go_wp2_with fail
    go_ret
    rw [HN.out]
    exact ⟨rfl, HS.out.lay ((Keep.refl _ _).drewN _), (Keep.refl _ _).drewN _⟩

theorem Keep.trans' {G : Nat → Prop} {a b c : World} (h : Keep G a b) (k : Keep G b c) : Keep G a c := Keep.trans h k

set_option maxHeartbeats 4000000 in
set_option maxRecDepth 100000 in
theorem text_any (g : Nat) (v : Value) (l : List Int) (p : Nat) (w : World) (h : Srcs w g v l p) :
    Calls Tryz.prog 55 #[.pointer (some ⟨g, 0, none⟩)] w fun e w' => e = .returned (.string (Ft.textOf (Ft.next l 12 p).1)) ∧ Srcs w' g v l (Ft.next l 12 p).2 ∧ Keep (fun k => k = g) w w' := by
  obtain ⟨W, hW⟩ : ∃ W, W = w.alloc (.cells (Ft.texts.map Value.string).toArray 9) := ⟨_, rfl⟩
  have hl : Lay w W := by rw [hW]; exact (Keep.refl _ _).alloc _
  have HL := Lib.hid hl
  have HN := Lib.hid (next_any g v l p 12 (by decide) (by decide) W (h.lay hl))
  have hlt := Ft.next_lt (l := l) (n := 12) (p := p) (by decide)
  have hcell : ∀ k, k < 12 → W.cell? ⟨w.heap.size, k, none⟩ = some (.string (Ft.textOf k)) := fun k hk => by
    rw [hW, World.cell?_alloc_new, List.getElem?_toArray, List.getElem?_map]
    have hk' : k < Ft.texts.length := hk
    rw [List.getElem?_eq_getElem hk', Option.map_some]
    unfold Ft.textOf
    simp [List.getD, hk']
  have hgw : w.heap.size < W.heap.size := by rw [hW]; simp
  have hgne : ¬ w.heap.size = g := fun e => by have := h.lt; omega
  obtain ⟨c, hc⟩ : ∃ c, c = (Ft.next l 12 p).1 := ⟨_, rfl⟩
  rw [← hc] at HN hlt ⊢
  have hci := hcell c hlt
  clear hc hcell hl
  go_enter Tryz.func55, Tryz.ntmps55
  have HW := Lib.hid hW
  clear hW
  go_wp2_with fail
  change Calls Tryz.prog 28 #[.pointer (some ⟨g, 0, none⟩), .int .i64 12] (w.alloc (.cells (Ft.texts.map Value.string).toArray 9)) _
  rw [← HW.out]
  refine HN.out.mono ?_
  rintro e w3 ⟨rfl, hs3, hk3⟩
  have hci3 := (World.cell?_of_block (a := ⟨w.heap.size, c, none⟩) (hk3.block _ hgw hgne)).trans hci
  have hc1 : ¬ (c : Int) < 0 := by omega
  have hc2 : (c : Int) < 12 := by omega
  clear hci
  go_wp2_with fail
  go_ret
  exact ⟨rfl, hs3, Keep.trans ((HL.out).keep) hk3⟩

end Go.Proofs.YtjghomppmphkoaaGreatDoor
