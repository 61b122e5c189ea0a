/-
  A BLOCK OF FOUR CELLS (a filter that lies by itself).
  WHAT MAKING A FILTER LEAVES.
  THE DOCUMENT'S OWN Source: Make, of And and Or.
-/
import Derived.Test.YtidjodplimkmgaaTrA
import Derived.Deep.RegionLaw
namespace Go.Proofs.Ytidjodplimkmgaa
open Go.RowKit Go

/-- A block of four cells. -/
structure Bx (W : World) (k : Nat) (u0 u1 u2 u3 : Value) : Prop where
  c0 : W.cell? ⟨k, 0, none⟩ = some u0
  c1 : W.cell? ⟨k, 1, none⟩ = some u1
  c2 : W.cell? ⟨k, 2, none⟩ = some u2
  c3 : W.cell? ⟨k, 3, none⟩ = some u3
  f0 : W.frozen? ⟨k, 0, none⟩ = false
  f1 : W.frozen? ⟨k, 1, none⟩ = false
  f2 : W.frozen? ⟨k, 2, none⟩ = false
  f3 : W.frozen? ⟨k, 3, none⟩ = false

theorem Bx.carry {W W' : World} {k : Nat} {u0 u1 u2 u3 : Value} (h : Bx W k u0 u1 u2 u3) (hb : W'.heap[k]? = W.heap[k]?) : Bx W' k u0 u1 u2 u3 :=
  ⟨(World.cell?_of_block (a := ⟨k, 0, none⟩) hb).trans h.c0, (World.cell?_of_block (a := ⟨k, 1, none⟩) hb).trans h.c1, (World.cell?_of_block (a := ⟨k, 2, none⟩) hb).trans h.c2, (World.cell?_of_block (a := ⟨k, 3, none⟩) hb).trans h.c3,
   (World.frozen?_of_block (a := ⟨k, 0, none⟩) hb).trans h.f0, (World.frozen?_of_block (a := ⟨k, 1, none⟩) hb).trans h.f1, (World.frozen?_of_block (a := ⟨k, 2, none⟩) hb).trans h.f2, (World.frozen?_of_block (a := ⟨k, 3, none⟩) hb).trans h.f3⟩

theorem Bx.set0 {W : World} {k : Nat} {u0 u1 u2 u3 : Value} (h : Bx W k u0 u1 u2 u3) (u : Value) : Bx (W.setCell ⟨k, 0, none⟩ u) k u u1 u2 u3 := by
  obtain ⟨c0, c1, c2, c3, f0, f1, f2, f3⟩ := h
  exact ⟨by go_simp, by go_simp, by go_simp, by go_simp, by go_simp, by go_simp, by go_simp, by go_simp⟩
theorem Bx.set1 {W : World} {k : Nat} {u0 u1 u2 u3 : Value} (h : Bx W k u0 u1 u2 u3) (u : Value) : Bx (W.setCell ⟨k, 1, none⟩ u) k u0 u u2 u3 := by
  obtain ⟨c0, c1, c2, c3, f0, f1, f2, f3⟩ := h
  exact ⟨by go_simp, by go_simp, by go_simp, by go_simp, by go_simp, by go_simp, by go_simp, by go_simp⟩
theorem Bx.set2 {W : World} {k : Nat} {u0 u1 u2 u3 : Value} (h : Bx W k u0 u1 u2 u3) (u : Value) : Bx (W.setCell ⟨k, 2, none⟩ u) k u0 u1 u u3 := by
  obtain ⟨c0, c1, c2, c3, f0, f1, f2, f3⟩ := h
  exact ⟨by go_simp, by go_simp, by go_simp, by go_simp, by go_simp, by go_simp, by go_simp, by go_simp⟩
theorem Bx.set3 {W : World} {k : Nat} {u0 u1 u2 u3 : Value} (h : Bx W k u0 u1 u2 u3) (u : Value) : Bx (W.setCell ⟨k, 3, none⟩ u) k u0 u1 u2 u := by
  obtain ⟨c0, c1, c2, c3, f0, f1, f2, f3⟩ := h
  exact ⟨by go_simp, by go_simp, by go_simp, by go_simp, by go_simp, by go_simp, by go_simp, by go_simp⟩

/-- A token that was stored there. -/
def stored (W : World) (k : Nat) (u0 u1 u2 u3 : Value) : World := (((W.setCell ⟨k, 0, none⟩ u0).setCell ⟨k, 1, none⟩ u1).setCell ⟨k, 2, none⟩ u2).setCell ⟨k, 3, none⟩ u3

theorem Bx.all {W : World} {k : Nat} {u0 u1 u2 u3 : Value} (h : Bx W k u0 u1 u2 u3) (v0 v1 v2 v3 : Value) : Bx (stored W k v0 v1 v2 v3) k v0 v1 v2 v3 :=
  (((h.set0 v0).set1 v1).set2 v2).set3 v3

/-- A new filter. -/
def newF (w : World) : World := w.alloc (.cells #[.int .i64 0, .string ⟨#[]⟩, .string ⟨#[]⟩, .slice none 0 0] 29)

theorem newF_bx (w : World) : Bx (newF w) w.heap.size (.int .i64 0) (.string ⟨#[]⟩) (.string ⟨#[]⟩) (.slice none 0 0) := by
  unfold newF
  exact ⟨by go_simp, by go_simp, by go_simp, by go_simp, by go_simp, by go_simp, by go_simp, by go_simp⟩
theorem newF_lay (w : World) : Lay w (newF w) := (Keep.refl _ _).alloc _
theorem newF_size (w : World) : (newF w).heap.size = w.heap.size + 1 := by unfold newF; simp

theorem stored_other {W : World} {k b : Nat} (h : b ≠ k) (u0 u1 u2 u3 : Value) : (stored W k u0 u1 u2 u3).heap[b]? = W.heap[b]? :=
  (((Below.heap_setCell ((( W.setCell ⟨k, 0, none⟩ u0).setCell ⟨k, 1, none⟩ u1).setCell ⟨k, 2, none⟩ u2) ⟨k, 3, none⟩ u3 b h).trans (Below.heap_setCell ((W.setCell ⟨k, 0, none⟩ u0).setCell ⟨k, 1, none⟩ u1) ⟨k, 2, none⟩ u2 b h)).trans
    (Below.heap_setCell (W.setCell ⟨k, 0, none⟩ u0) ⟨k, 1, none⟩ u1 b h)).trans (Below.heap_setCell W ⟨k, 0, none⟩ u0 b h)

theorem stored_size {W : World} {k : Nat} (u0 u1 u2 u3 : Value) : (stored W k u0 u1 u2 u3).heap.size = W.heap.size := by simp [stored, World.setCell]

theorem keep_stored {G : Nat → Prop} {a W : World} (h : Keep G a W) {k : Nat} (hk : a.heap.size ≤ k) (u0 u1 u2 u3 : Value) : Keep G a (stored W k u0 u1 u2 u3) :=
  (((h.setCell (p := ⟨k, 0, none⟩) (.inl hk) u0).setCell (p := ⟨k, 1, none⟩) (.inl hk) u1).setCell (p := ⟨k, 2, none⟩) (.inl hk) u2).setCell (p := ⟨k, 3, none⟩) (.inl hk) u3

/-- A source, behind a filter that was stored in a block that the call made. -/
theorem Srcs.stored {w W : World} {g : Nat} {v : Value} {l : List Int} {p q : Nat} (h0 : Srcs w g v l p) (h : Srcs W g v l q) {k : Nat} (hk : w.heap.size ≤ k) (u0 u1 u2 u3 : Value) : Srcs (Go.Proofs.Ytidjodplimkmgaa.stored W k u0 u1 u2 u3) g v l q :=
  h.carry (Nat.le_of_eq (stored_size u0 u1 u2 u3).symm) (stored_other (by have := h0.lt; omega) u0 u1 u2 u3) fun b off n c hv hl => stored_other (by have := h0.below b off n c hv hl; omega) u0 u1 u2 u3

theorem Ft.several_snoc (m : Nat → Ft × Nat) : ∀ (k p : Nat), Ft.several m (k + 1) p = ((Ft.several m k p).1 ++ [(m (Ft.several m k p).2).1], (m (Ft.several m k p).2).2)
  | 0, p => rfl
  | k + 1, p => by
    rw [Ft.several, Ft.several_snoc m k (m p).2]
    rfl

end Go.Proofs.Ytidjodplimkmgaa

namespace Go.Proofs.Ytidjodplimkmgaa
open Go.RowKit Go

/-- append, as one step of a region that draws, by what it is known to run to. -/
theorem step_append_run {P : Program} {ops : Array Oper} {o : Oper} {a : Act} {w w' : World} {K : Act → World → Prop} {Q : Exit → Act → World → Prop} {E : Prop} {sv xv v' : Value}
    (hg : o.guard = none) (s x : Operand) (t : TypeId) (hop : o.op = Op.call { callee := Callee.builtin Builtin.append, args := #[s, x], argTypes := #[t, t] })
    (hs : a.eval s = sv) (hx : a.eval x = xv) (hrun : (Builtin.append_ #[t, t] o.type #[sv, xv]).run P w = .ok v' w') (hK : K (a.put o.dst v') w') :
    if Region.wanted o (yielded ops a.tmps) = true then Oper.wp P o a w K Q else E := by
  have hw : Region.wanted o (yielded ops a.tmps) = true := by simp [Region.wanted, hg]
  rw [if_pos hw]
  unfold Oper.wp
  simp [execOp, hop, resolve, invoke, builtin, hs, hx, hrun, Result.andThen]
  exact hK

/-- What Make leaves. -/
def MakeP (g : Nat) (v : Value) (l : List Int) (d p : Nat) (w : World) (e : Ending) (w' : World) : Prop :=
  ∃ kv, e = .returned ((Ft.make l d p).1.val kv) ∧ KsB (fun b => w.heap.size ≤ b) w' kv (Ft.make l d p).1 ∧ Srcs w' g v l (Ft.make l d p).2 ∧ Keep (fun k => k = g) w w'

/-- A filter with no kids, stored. -/
theorem made_leaf {g : Nat} {v : Value} {l : List Int} {d p : Nat} {w W : World} {o : Int} {n t : ByteArray} {q : Nat} (h0 : Srcs w g v l p) (h : Srcs W g v l q) (hk : Keep (fun k => k = g) w W) (hm : Ft.make l d p = (.mk o n t [], q)) :
    MakeP g v l d p w (.returned (.agg #[.int .i64 o, .string n, .string t, .slice none 0 0])) (stored W w.heap.size (.int .i64 o) (.string n) (.string t) (.slice none 0 0)) := by
  unfold MakeP
  rw [hm]
  exact ⟨.slice none 0 0, rfl, KsB.nil _ _ _ _ _, h0.stored h (Nat.le_refl _) _ _ _ _, keep_stored hk (Nat.le_refl _) _ _ _ _⟩

/-- A filter with kids, stored. -/
theorem made_kids {g : Nat} {v : Value} {l : List Int} {d p : Nat} {w W : World} {o : Int} {kv : Value} {R : List (Value × Ft)} {q : Nat} (h0 : Srcs w g v l p) (h : Srcs W g v l q) (hk : Keep (fun k => k = g) w W)
    (hrk : Rk 4 (fun b => w.heap.size + 1 ≤ b) W kv R.length (flatK R)) (hkb : ∀ p ∈ R, KsB (fun b => w.heap.size + 1 ≤ b) W p.1 p.2) (hl : R.length ≤ 1000) (hm : Ft.make l d p = (.mk o ⟨#[]⟩ ⟨#[]⟩ (R.map (·.2)), q)) :
    MakeP g v l d p w (.returned (.agg #[.int .i64 o, .string ⟨#[]⟩, .string ⟨#[]⟩, kv])) (stored W w.heap.size (.int .i64 o) (.string ⟨#[]⟩) (.string ⟨#[]⟩) kv) := by
  unfold MakeP
  rw [hm]
  have hoth : ∀ b, w.heap.size + 1 ≤ b → (stored W w.heap.size (.int .i64 o) (.string ⟨#[]⟩) (.string ⟨#[]⟩) kv).heap[b]? = W.heap[b]? := fun b hb => stored_other (by omega) _ _ _ _
  have hs : W.heap.size ≤ (stored W w.heap.size (.int .i64 o) (.string ⟨#[]⟩) (.string ⟨#[]⟩) kv).heap.size := Nat.le_of_eq (stored_size _ _ _ _).symm
  refine ⟨kv, rfl, ?_, h0.stored h (Nat.le_refl _) _ _ _ _, keep_stored hk (Nat.le_refl _) _ _ _ _⟩
  exact KsB.mono (fun b _ hb => Nat.le_of_succ_le hb) _ _ (KsB.of_rk (fun b hb => hb) (hrk.carry hs fun b hb _ _ => hoth b hb) (fun p hp => KsB.keep hs (fun b hb _ => hoth b hb) _ _ (hkb p hp)) hl o _ _)

end Go.Proofs.Ytidjodplimkmgaa

namespace Go.Proofs.Ytidjodplimkmgaa
open Go.RowKit Go

theorem Keep.over {G H : Nat → Prop} {a W w' : World} (h : Keep G a W) (k : Keep H W w') (hH : ∀ b, H b → a.heap.size ≤ b) : Keep G a w' :=
  ⟨k.os.trans h.os, k.tape.trans h.tape, k.output.trans h.output, Nat.le_trans h.size k.size, Nat.le_trans h.drawn k.drawn, fun b hb hn => (k.block b (Nat.lt_of_lt_of_le hb h.size) (fun hh => by have := hH b hh; omega)).trans (h.block b hb hn)⟩

set_option maxHeartbeats 8000000 in
set_option maxRecDepth 100000 in
theorem make_and_step (g : Nat) (v : Value) (l : List Int) (d : Nat) (hd : d ≤ 4) (IH : ∀ e, d = e + 1 → ∀ (p : Nat) (w : World), Srcs w g v l p → Calls Try.prog 13 #[.pointer (some ⟨g, 0, none⟩), .int .i64 (e : Nat)] w (MakeP g v l e p w))
    (p : Nat) (w : World) (h : Srcs w g v l p)
    (h1 : 1 ≤ d) (h6 : (Ft.next l 8 p).1 = 6) : Calls Try.prog 13 #[.pointer (some ⟨g, 0, none⟩), .int .i64 (d : Nat)] w (MakeP g v l d p w) := by
  have HS0 := Lib.hid h
  have hlt := h.lt
  obtain ⟨W, hW⟩ : ∃ W, W = newF w := ⟨_, rfl⟩
  have hbx := newF_bx w
  have hlay := newF_lay w
  have hsz := newF_size w
  rw [← hW] at hbx hlay hsz
  have HBX := Lib.hid hbx
  have HLAY := Lib.hid hlay
  have HSZ := Lib.hid hsz
  have HW := Lib.hid (show w.alloc (.cells #[.int .i64 0, .string ⟨#[]⟩, .string ⟨#[]⟩, .slice none 0 0] 29) = W from hW.symm)
  have HS1 := Lib.hid (h.lay hlay)
  have hne : ¬ w.heap.size = g := by omega
  clear h hW hbx hlay hsz
  have HIH := Lib.hid IH
  clear IH
  -- the first number
  obtain ⟨N, hN⟩ : ∃ N, N = Ft.nd d := ⟨_, rfl⟩
  have hN5 : (d = 0 ∧ N = 5) ∨ (1 ≤ d ∧ N = 8) := by
    unfold Ft.nd at hN
    by_cases h0 : d = 0
    · rw [if_pos h0] at hN; exact .inl ⟨h0, hN⟩
    · rw [if_neg h0] at hN; exact .inr ⟨by omega, hN⟩
  have HNX := Lib.hid (next_any g v l p N (by omega) (by omega) W HS1.out)
  have hcl := Ft.next_lt (l := l) (n := N) (p := p) (by omega)
  obtain ⟨c, p1, hc⟩ : ∃ c p1, Ft.next l N p = (c, p1) := ⟨_, _, rfl⟩
  have hcN : Ft.next l (Ft.nd d) p = (c, p1) := by rw [← hN]; exact hc
  rw [hc] at HNX hcl
  simp only at hcl
  have HC := Lib.hid hcN
  clear hc hcN hN
  have WORD : Hid (c ≤ 1 → Ft.make l d p = (.mk 3 ⟨#[]⟩ (Ft.textOf (Ft.next l 12 p1).1) [], (Ft.next l 12 p1).2)) := Lib.hid fun hc => by
    have := Ft.make_word (l := l) (d := d) (p := p) (by rw [HC.out]; exact hc)
    rw [HC.out] at this
    exact this
  have HAS : Hid (c = 2 → Ft.make l d p = (.mk 4 ⟨#[]⟩ (Ft.textOf (Ft.next l 12 p1).1) [], (Ft.next l 12 p1).2)) := Lib.hid fun hc => by
    have := Ft.make_has (l := l) (d := d) (p := p) (by rw [HC.out]; exact hc)
    rw [HC.out] at this
    exact this
  have FIELD : Hid (c = 3 → Ft.make l d p = (.mk 5 (Ft.nameOf (Ft.next l 3 p1).1) (Ft.textOf (Ft.next l 12 (Ft.next l 3 p1).2).1) [], (Ft.next l 12 (Ft.next l 3 p1).2).2)) := Lib.hid fun hc => by
    have := Ft.make_field (l := l) (d := d) (p := p) (by rw [HC.out]; exact hc)
    rw [HC.out] at this
    exact this
  have BOOL : Hid (c = 4 → Ft.make l d p = (.mk (1 + (Ft.next l 2 p1).1) ⟨#[]⟩ ⟨#[]⟩ [], (Ft.next l 2 p1).2)) := Lib.hid fun hc => by
    have := Ft.make_bool (l := l) (d := d) (p := p) (by rw [HC.out]; exact hc)
    rw [HC.out] at this
    exact this
  have hN8 : N = 8 := by omega
  obtain rfl := hN8
  have hc6 : c = 6 := by
    have h5 := HC.out
    rw [show Ft.nd d = 8 from by unfold Ft.nd; rw [if_neg (by omega)]] at h5
    rw [h5] at h6
    exact h6
  obtain rfl := hc6
  have hdd : decide ((d : Int) ≤ 0) = false := by simp; omega
  have HNX' : Hid (Calls Try.prog 12 #[.pointer (some ⟨g, 0, none⟩), .int .i64 8] W fun e w' => e = .returned (.int .i64 (6 : Nat)) ∧ Srcs w' g v l p1 ∧ Keep (fun k => k = g) W w') := HNX
  clear HNX h6
  go_enter Try.func13, Try.ntmps13
  go_wp2_with fail
  rw [HW.out]
  refine HNX'.out.mono ?_
  rintro e w1 ⟨rfl, hs1, hk1⟩
  have HS2 := Lib.hid hs1
  have HK2 := Lib.hid (Keep.trans (Lay.keep HLAY.out) hk1)
  have HX2 := Lib.hid (HBX.out.carry (hk1.block _ (by rw [HSZ.out]; omega) hne))
  have HZ2 := Lib.hid (show w.heap.size + 1 ≤ w1.heap.size from by have := hk1.size; rw [HSZ.out] at this; exact this)
  clear hs1 hk1
  obtain ⟨e, rfl⟩ : ∃ e, d = e + 1 := ⟨d - 1, by omega⟩
  have hIH : ∀ (p : Nat) (w : World), Srcs w g v l p → Calls Try.prog 13 #[.pointer (some ⟨g, 0, none⟩), .int .i64 (e : Nat)] w (MakeP g v l e p w) := fun p w h => HIH.out e (by trivial) p w h
  have HI := Lib.hid hIH
  obtain ⟨o, p2, ho⟩ : ∃ o p2, Ft.next l 2 p1 = (o, p2) := ⟨_, _, rfl⟩
  obtain ⟨k, p3, hk⟩ : ∃ k p3, Ft.next l 2 p2 = (k, p3) := ⟨_, _, rfl⟩
  have hkl := Ft.next_lt (l := l) (n := 2) (p := p2) (by decide)
  have hol := Ft.next_lt (l := l) (n := 2) (p := p1) (by decide)
  rw [hk] at hkl
  rw [ho] at hol
  simp only at hkl hol
  have HNT : Hid (Ft.make l (e + 1) p = (.mk (7 + (o : Nat)) ⟨#[]⟩ ⟨#[]⟩ (Ft.several (Ft.make l e) (2 + k) p3).1, (Ft.several (Ft.make l e) (2 + k) p3).2)) := Lib.hid (by
    have h5 : Ft.next l 8 p = (6, p1) := HC.out
    have := Ft.make_and (l := l) (d := e) (p := p) (by rw [h5]; show 6 ≤ 6; omega)
    rw [h5] at this
    simp only [ho, hk] at this
    exact this)
  have ht := next_any g v l p1 2 (by decide) (by decide) w1 HS2.out
  rw [ho] at ht
  have HT : Hid (Calls Try.prog 12 #[.pointer (some ⟨g, 0, none⟩), .int .i64 2] w1 fun e w' => e = .returned (.int .i64 (o : Nat)) ∧ Srcs w' g v l p2 ∧ Keep (fun k => k = g) w1 w') := Lib.hid ht
  have ht2 := fun W h => next_any g v l p2 2 (by decide) (by decide) W h
  rw [hk] at ht2
  have HT2 : Hid (∀ W, Srcs W g v l p2 → Calls Try.prog 12 #[.pointer (some ⟨g, 0, none⟩), .int .i64 2] W fun e w' => e = .returned (.int .i64 (k : Nat)) ∧ Srcs w' g v l p3 ∧ Keep (fun k => k = g) W w') := Lib.hid ht2
  clear HIH HC WORD HAS FIELD BOOL hIH ho hk ht ht2
  go_wp2_with fail
  refine HT.out.mono ?_
  rintro e2 w2 ⟨rfl, hs3, hk3⟩
  have HS3 := Lib.hid (hs3.lay ((Keep.refl _ _).alloc (.cells #[.int .i64 (7 + (o : Int)), .string ⟨#[]⟩, .string ⟨#[]⟩, .slice none 0 0] 29)))
  have HK3 := Lib.hid ((Keep.trans HK2.out hk3).alloc (.cells #[.int .i64 (7 + (o : Int)), .string ⟨#[]⟩, .string ⟨#[]⟩, .slice none 0 0] 29))
  have hz3 : w.heap.size + 1 ≤ w2.heap.size := Nat.le_trans HZ2.out hk3.size
  have HX3 := Lib.hid ((HX2.out.carry (hk3.block _ (by have := HZ2.out; omega) hne)).carry (Below.heap_alloc w2 (.cells #[.int .i64 (7 + (o : Int)), .string ⟨#[]⟩, .string ⟨#[]⟩, .slice none 0 0] 29) w.heap.size (by omega)))
  have HF3 : Hid (Bx (w2.alloc (.cells #[.int .i64 (7 + (o : Int)), .string ⟨#[]⟩, .string ⟨#[]⟩, .slice none 0 0] 29)) w2.heap.size (.int .i64 (7 + (o : Int))) (.string ⟨#[]⟩) (.string ⟨#[]⟩) (.slice none 0 0)) := Lib.hid ⟨by go_simp, by go_simp, by go_simp, by go_simp, by go_simp, by go_simp, by go_simp, by go_simp⟩
  clear hs3 hk3 HT HK2 HX2 HZ2 HS2
  go_wp2_with fail
  refine (HT2.out _ HS3.out).mono ?_
  rintro e3 w3 ⟨rfl, hs4, hk4⟩
  obtain ⟨F, hF⟩ : ∃ F, F = w2.heap.size := ⟨_, rfl⟩
  have hfg : ¬ F = g := by omega
  have HS4 := Lib.hid hs4
  have HK4 := Lib.hid (Keep.trans HK3.out hk4)
  have HX4 := Lib.hid (HX3.out.carry (hk4.block _ (by simp; omega) hne))
  have HF4 := Lib.hid (HF3.out.carry (hk4.block _ (by simp) (by rw [← hF]; exact hfg)))
  have hz4 : F + 1 ≤ w3.heap.size := by have := hk4.size; simp at this; omega
  have HZ4 := Lib.hid hz4
  have hwF : w.heap.size + 1 ≤ F := by omega
  rw [← hF] at HF4
  clear hs4 hk4 HT2 HS3 HK3 HX3 HF3 hz3 hz4
  simp only [← hF]
  clear hF
  go_wp2_with fail
  go_loopw [7] (fun vk wr => ∃ (m : Nat) (R : List (Value × Ft)) (u : Value), vk = .int .i64 (m : Nat) ∧ m + R.length = 2 + k ∧ R.map (·.2) = (Ft.several (Ft.make l e) R.length p3).1 ∧ Rk 4 (fun b => F + 1 ≤ b) wr u R.length (flatK R) ∧ (∀ p ∈ R, KsB (fun b => F + 1 ≤ b ∧ ¬ At u b) wr p.1 p.2) ∧
    Srcs wr g v l (Ft.several (Ft.make l e) R.length p3).2 ∧ Keep (fun k => k = g) w wr ∧ Bx wr w.heap.size (.int .i64 0) (.string ⟨#[]⟩) (.string ⟨#[]⟩) (.slice none 0 0) ∧ Bx wr F (.int .i64 (7 + (o : Int))) (.string ⟨#[]⟩) (.string ⟨#[]⟩) u ∧ F + 1 ≤ wr.heap.size) (fun vk _ => (intOf vk).toNat)
  case atStart => exact ⟨2 + k, [], .slice none 0 0, rfl, rfl, rfl, Rk.nil 4 _ _, fun p hp => by simp at hp, HS4.out, HK4.out, HX4.out, HF4.out, HZ4.out⟩
  case round =>
    obtain ⟨m, R, u, rfl, hm, hmap, hrk, hkb, hsr, hkp, hbx, hbf, hwr⟩ := hrel
    obtain ⟨au, cu, rfl⟩ := hrk.shape
    have HMAP := Lib.hid hmap
    have HRK := Lib.hid hrk
    have HKB := Lib.hid hkb
    have HSR := Lib.hid hsr
    have HKP := Lib.hid hkp
    have HBX := Lib.hid hbx
    have HBF := Lib.hid hbf
    clear hmap hrk hkb hsr hkp hbx HS4 HK4 HX4 HF4 HZ4
    by_cases h0 : m = 0
    · subst h0
      have HRL : Hid (R.length = 2 + k) := Lib.hid (by omega)
      have hrle : R.length ≤ 3 := by omega
      clear hm
      obtain ⟨c0, c1, c2, c3, f0, f1, f2, f3⟩ := HBX.out
      obtain ⟨b0, b1, b2, b3, _, _, _, _⟩ := hbf
      go_wp2_with fail
      have hq := HBX.out.all (.int .i64 (7 + (o : Int))) (.string ⟨#[]⟩) (.string ⟨#[]⟩) (.slice au R.length cu)
      unfold stored at hq
      obtain ⟨q0, q1, q2, q3, _, _, _, _⟩ := hq
      refine bodyPost_ret (v := .agg #[.int .i64 (7 + (o : Int)), .string ⟨#[]⟩, .string ⟨#[]⟩, .slice au R.length cu]) (by simp [results, Try.results13, go_sem, q0, q1, q2, q3]) rfl ?_
      refine made_kids (R := R) HS0.out HSR.out HKP.out (HRK.out.mono fun b hb _ => by omega) (fun p hp => KsB.mono (fun b _ hb => by have := hb.1; omega) _ _ (HKB.out p hp)) (by omega) ?_
      rw [HMAP.out, HRL.out]
      exact HNT.out
    · obtain ⟨n, rfl⟩ : ∃ n, m = n + 1 := ⟨m - 1, by omega⟩
      have hpos : (0 : Int) < ((n + 1 : Nat) : Int) := by omega
      have hmm := HI.out _ wr.drew (HSR.out.lay ((Keep.refl _ _).drewN 1))
      unfold MakeP at hmm
      obtain ⟨X, q, hX⟩ : ∃ X q, Ft.make l e (Ft.several (Ft.make l e) R.length p3).2 = (X, q) := ⟨_, _, rfl⟩
      rw [hX] at hmm
      have hsn := Ft.several_snoc (Ft.make l e) R.length p3
      rw [hX] at hsn
      have HSN := Lib.hid hsn
      have HMM := Lib.hid hmm
      have hrn : R.length ≤ 1000 := by omega
      have hwrap : IntKind.i64.wrap (e : Int) = (e : Int) := by rw [IntKind.wrap_i64]; omega
      clear hmm hX hsn
      obtain ⟨x0, x1, x2, x3, z0, z1, z2, z3⟩ := hbf
      go_wp2_with fail
      go_region_law (first | (refine step_append_run rfl _ _ _ rfl rfl rfl hrun ?_) | (go_simp; go_at_call 13; refine HMM.out.mono ?_; rintro e6 w6 ⟨kv, rfl, hkb6, hsr6, hkp6⟩; obtain ⟨ak, ck, rfl⟩ := (KsB.at _ _ hkb6).shape; simp only [Ft.val]; have hbf6 := HBF.out.carry (W' := w6) (hkp6.block F (by show F < wr.heap.size; omega) hfg); have hrk6 := HRK.out.carry (w' := w6) hkp6.size (fun b hb _ hlt => hkp6.block b hlt (by omega)); have hs6 : F + 1 ≤ w6.heap.size := Nat.le_trans hwr hkp6.size; have hlt6 : F < w6.heap.size := (by omega); have hne6 : ¬ F = w6.heap.size := (by omega); obtain ⟨a7, c7, w7, hrun, hrk7, hk7⟩ := app_kid hrk6 hs6 hrn (.slice ak X.kids.length ck, X) rfl; have hbf7 := hbf6.carry (W' := w7) ((hk7.block F (by simp <;> omega) (fun ha => by have := (hrk6.at ha).1; omega)).trans (Below.heap_alloc _ _ _ (by omega))); obtain ⟨y0, y1, y2, y3, p0, p1', p2', p3'⟩ := id hbf6; obtain ⟨q0, q1, q2, q3, r0, r1, r2, r3⟩ := id hbf7))
      all_goals
        have hsz7 : w6.heap.size + 1 ≤ w7.heap.size := by have h1 := hk7.size; simp at h1; omega
        have hg7 : w7.heap[g]? = w6.heap[g]? := (hk7.block g (by simp <;> omega) (fun ha => by have := (hrk6.at ha).1; omega)).trans (Below.heap_alloc _ _ _ (by omega))
        have hr7 : w7.heap[w.heap.size]? = w6.heap[w.heap.size]? := (hk7.block w.heap.size (by simp <;> omega) (fun ha => by have := (hrk6.at ha).1; omega)).trans (Below.heap_alloc _ _ _ (by omega))
        have hoth7 : ∀ b, b < w6.heap.size → ¬ At (.slice au R.length cu) b → w7.heap[b]? = w6.heap[b]? := fun b hb ha => (hk7.block b (by simp <;> omega) ha).trans (Below.heap_alloc _ _ _ hb)
        have hset : ∀ b, b ≠ F → (w7.setCell ⟨F, 3, none⟩ (.slice a7 (R.length + 1) c7)).heap[b]? = w7.heap[b]? := fun b hb => Below.heap_setCell w7 ⟨F, 3, none⟩ _ b hb
        have hss : (w7.setCell ⟨F, 3, none⟩ (.slice a7 (R.length + 1) c7)).heap.size = w7.heap.size := by simp [World.setCell]
        have hw6 : wr.heap.size ≤ w6.heap.size := hkp6.size
        have hatu : ∀ b, At (.slice au R.length cu) b → b < wr.heap.size := fun b ha => (HRK.out.at ha).2
        have hat7 : ∀ b, At (.slice a7 (R.length + 1) c7) b → At (.slice au R.length cu) b ∨ w6.heap.size + 1 ≤ b := fun b ha => (hrk7.at ha).1.2
        have HRK8 := Lib.hid ((hrk7.mono (G' := fun b => F + 1 ≤ b) fun b hb _ => hb.1).carry (w' := w7.setCell ⟨F, 3, none⟩ (.slice a7 (R.length + 1) c7)) (Nat.le_of_eq hss.symm) fun b hb _ _ => hset b (by omega))
        have hgF : g ≠ F := fun e => hfg e.symm
        have hkeep : ∀ b, F + 1 ≤ b → ¬ At (.slice au R.length cu) b → b < w6.heap.size → (w7.setCell ⟨F, 3, none⟩ (.slice a7 (R.length + 1) c7)).heap[b]? = w6.heap[b]? := fun b hb ha hlt => (hset b (by omega)).trans (hoth7 b hlt ha)
        have hold : ∀ b, F + 1 ≤ b → b < wr.heap.size → w6.heap[b]? = wr.heap[b]? := fun b hb hlt => hkp6.block b hlt (by omega)
        have HKB8 : Hid (∀ p ∈ R ++ [((.slice ak X.kids.length ck : Value), X)], KsB (fun b => F + 1 ≤ b ∧ ¬ At (.slice a7 (R.length + 1) c7) b) (w7.setCell ⟨F, 3, none⟩ (.slice a7 (R.length + 1) c7)) p.1 p.2) := Lib.hid (by
          intro p hp
          rw [List.mem_append, List.mem_singleton] at hp
          rcases hp with hp | rfl
          · refine KsB.mono (G := fun b => F + 1 ≤ b ∧ ¬ At (.slice au R.length cu) b ∧ ¬ At (.slice a7 (R.length + 1) c7) b) (fun b _ hb => ⟨hb.1, hb.2.2⟩) _ _ (KsB.keep (by rw [hss]; omega) (fun b hb hlt => (hkeep b hb.1 hb.2.1 (by omega)).trans (hold b hb.1 hlt)) _ _ (KsB.mono (fun b hlt hb => ⟨hb.1, hb.2, fun ha => ?_⟩) _ _ (HKB.out p hp)))
            rcases hat7 b ha with h | h
            · exact hb.2 h
            · omega
          · refine KsB.mono (G := fun b => F + 1 ≤ b ∧ ¬ At (.slice au R.length cu) b ∧ ¬ At (.slice a7 (R.length + 1) c7) b) (fun b _ hb => ⟨hb.1, hb.2.2⟩) _ _ (KsB.keep (by rw [hss]; omega) (fun b hb hlt => hkeep b hb.1 hb.2.1 hlt) _ _ (KsB.mono (fun b hlt hb => ?_) _ _ hkb6))
            have hb' : wr.heap.size ≤ b := hb
            have hnu : ¬ At (.slice au R.length cu) b := fun ha => by have := hatu b ha; omega
            refine ⟨by omega, hnu, fun ha => ?_⟩
            rcases hat7 b ha with h | h
            · exact hnu h
            · omega)
        have HSR8 := Lib.hid (hsr6.carry (w' := w7.setCell ⟨F, 3, none⟩ (.slice a7 (R.length + 1) c7)) (by rw [hss]; omega) ((hset g hgF).trans hg7) (fun b off n c hv hl => by
          have := HS0.out.below b off n c hv hl
          exact (hset b (by omega)).trans (hoth7 b (by omega) (fun ha => by have := (hrk6.at ha).1; omega))))
        have HKP8 := Lib.hid (((((HKP.out.drewN 1).trans hkp6).alloc _).over hk7 (fun b ha => by have := (hrk6.at ha).1; omega)).setCell (p := ⟨F, 3, none⟩) (.inl (by show w.heap.size ≤ F; omega)) (.slice a7 (R.length + 1) c7))
        have HBX8 := Lib.hid (HBX.out.carry (W' := w7.setCell ⟨F, 3, none⟩ (.slice a7 (R.length + 1) c7)) (((hset w.heap.size (by omega)).trans hr7).trans (hkp6.block w.heap.size (by show w.heap.size < wr.heap.size; omega) hne)))
        have HBF8 := Lib.hid (hbf7.set3 (.slice a7 (R.length + 1) c7))
        have HZ8 : Hid (F + 1 ≤ (w7.setCell ⟨F, 3, none⟩ (.slice a7 (R.length + 1) c7)).heap.size) := Lib.hid (by rw [hss]; omega)
        clear hsz7 hg7 hr7 hoth7 hset hss hw6 hatu hat7 hkeep hold hkb6 hsr6 hkp6 hbf6 hrk6 hrk7 hk7 hbf7 hrun
        go_wp2_with fail
        go_roundw
        case rel =>
          refine ⟨n, R ++ [((.slice ak X.kids.length ck : Value), X)], .slice a7 (R.length + 1) c7, by go_num, by rw [List.length_append, List.length_singleton]; omega, ?_, HRK8.out, HKB8.out, ?_, HKP8.out, HBX8.out, HBF8.out, HZ8.out⟩
          · rw [List.map_append, List.length_append, List.length_singleton, HSN.out, HMAP.out]
            rfl
          · rw [List.length_append, List.length_singleton, HSN.out]
            exact HSR8.out
        case measure => simp [intOf]

set_option maxHeartbeats 8000000 in
set_option maxRecDepth 100000 in
theorem make_or_step (g : Nat) (v : Value) (l : List Int) (d : Nat) (hd : d ≤ 4) (IH : ∀ e, d = e + 1 → ∀ (p : Nat) (w : World), Srcs w g v l p → Calls Try.prog 13 #[.pointer (some ⟨g, 0, none⟩), .int .i64 (e : Nat)] w (MakeP g v l e p w))
    (p : Nat) (w : World) (h : Srcs w g v l p)
    (h1 : 1 ≤ d) (h6 : (Ft.next l 8 p).1 = 7) : Calls Try.prog 13 #[.pointer (some ⟨g, 0, none⟩), .int .i64 (d : Nat)] w (MakeP g v l d p w) := by
  have HS0 := Lib.hid h
  have hlt := h.lt
  obtain ⟨W, hW⟩ : ∃ W, W = newF w := ⟨_, rfl⟩
  have hbx := newF_bx w
  have hlay := newF_lay w
  have hsz := newF_size w
  rw [← hW] at hbx hlay hsz
  have HBX := Lib.hid hbx
  have HLAY := Lib.hid hlay
  have HSZ := Lib.hid hsz
  have HW := Lib.hid (show w.alloc (.cells #[.int .i64 0, .string ⟨#[]⟩, .string ⟨#[]⟩, .slice none 0 0] 29) = W from hW.symm)
  have HS1 := Lib.hid (h.lay hlay)
  have hne : ¬ w.heap.size = g := by omega
  clear h hW hbx hlay hsz
  have HIH := Lib.hid IH
  clear IH
  -- the first number
  obtain ⟨N, hN⟩ : ∃ N, N = Ft.nd d := ⟨_, rfl⟩
  have hN5 : (d = 0 ∧ N = 5) ∨ (1 ≤ d ∧ N = 8) := by
    unfold Ft.nd at hN
    by_cases h0 : d = 0
    · rw [if_pos h0] at hN; exact .inl ⟨h0, hN⟩
    · rw [if_neg h0] at hN; exact .inr ⟨by omega, hN⟩
  have HNX := Lib.hid (next_any g v l p N (by omega) (by omega) W HS1.out)
  have hcl := Ft.next_lt (l := l) (n := N) (p := p) (by omega)
  obtain ⟨c, p1, hc⟩ : ∃ c p1, Ft.next l N p = (c, p1) := ⟨_, _, rfl⟩
  have hcN : Ft.next l (Ft.nd d) p = (c, p1) := by rw [← hN]; exact hc
  rw [hc] at HNX hcl
  simp only at hcl
  have HC := Lib.hid hcN
  clear hc hcN hN
  have WORD : Hid (c ≤ 1 → Ft.make l d p = (.mk 3 ⟨#[]⟩ (Ft.textOf (Ft.next l 12 p1).1) [], (Ft.next l 12 p1).2)) := Lib.hid fun hc => by
    have := Ft.make_word (l := l) (d := d) (p := p) (by rw [HC.out]; exact hc)
    rw [HC.out] at this
    exact this
  have HAS : Hid (c = 2 → Ft.make l d p = (.mk 4 ⟨#[]⟩ (Ft.textOf (Ft.next l 12 p1).1) [], (Ft.next l 12 p1).2)) := Lib.hid fun hc => by
    have := Ft.make_has (l := l) (d := d) (p := p) (by rw [HC.out]; exact hc)
    rw [HC.out] at this
    exact this
  have FIELD : Hid (c = 3 → Ft.make l d p = (.mk 5 (Ft.nameOf (Ft.next l 3 p1).1) (Ft.textOf (Ft.next l 12 (Ft.next l 3 p1).2).1) [], (Ft.next l 12 (Ft.next l 3 p1).2).2)) := Lib.hid fun hc => by
    have := Ft.make_field (l := l) (d := d) (p := p) (by rw [HC.out]; exact hc)
    rw [HC.out] at this
    exact this
  have BOOL : Hid (c = 4 → Ft.make l d p = (.mk (1 + (Ft.next l 2 p1).1) ⟨#[]⟩ ⟨#[]⟩ [], (Ft.next l 2 p1).2)) := Lib.hid fun hc => by
    have := Ft.make_bool (l := l) (d := d) (p := p) (by rw [HC.out]; exact hc)
    rw [HC.out] at this
    exact this
  have hN8 : N = 8 := by omega
  obtain rfl := hN8
  have hc6 : c = 7 := by
    have h5 := HC.out
    rw [show Ft.nd d = 8 from by unfold Ft.nd; rw [if_neg (by omega)]] at h5
    rw [h5] at h6
    exact h6
  obtain rfl := hc6
  have hdd : decide ((d : Int) ≤ 0) = false := by simp; omega
  have HNX' : Hid (Calls Try.prog 12 #[.pointer (some ⟨g, 0, none⟩), .int .i64 8] W fun e w' => e = .returned (.int .i64 (7 : Nat)) ∧ Srcs w' g v l p1 ∧ Keep (fun k => k = g) W w') := HNX
  clear HNX h6
  go_enter Try.func13, Try.ntmps13
  go_wp2_with fail
  rw [HW.out]
  refine HNX'.out.mono ?_
  rintro e w1 ⟨rfl, hs1, hk1⟩
  have HS2 := Lib.hid hs1
  have HK2 := Lib.hid (Keep.trans (Lay.keep HLAY.out) hk1)
  have HX2 := Lib.hid (HBX.out.carry (hk1.block _ (by rw [HSZ.out]; omega) hne))
  have HZ2 := Lib.hid (show w.heap.size + 1 ≤ w1.heap.size from by have := hk1.size; rw [HSZ.out] at this; exact this)
  clear hs1 hk1
  obtain ⟨e, rfl⟩ : ∃ e, d = e + 1 := ⟨d - 1, by omega⟩
  have hIH : ∀ (p : Nat) (w : World), Srcs w g v l p → Calls Try.prog 13 #[.pointer (some ⟨g, 0, none⟩), .int .i64 (e : Nat)] w (MakeP g v l e p w) := fun p w h => HIH.out e (by trivial) p w h
  have HI := Lib.hid hIH
  obtain ⟨o, p2, ho⟩ : ∃ o p2, Ft.next l 2 p1 = (o, p2) := ⟨_, _, rfl⟩
  obtain ⟨k, p3, hk⟩ : ∃ k p3, Ft.next l 2 p2 = (k, p3) := ⟨_, _, rfl⟩
  have hkl := Ft.next_lt (l := l) (n := 2) (p := p2) (by decide)
  have hol := Ft.next_lt (l := l) (n := 2) (p := p1) (by decide)
  rw [hk] at hkl
  rw [ho] at hol
  simp only at hkl hol
  have HNT : Hid (Ft.make l (e + 1) p = (.mk (7 + (o : Nat)) ⟨#[]⟩ ⟨#[]⟩ (Ft.several (Ft.make l e) (2 + k) p3).1, (Ft.several (Ft.make l e) (2 + k) p3).2)) := Lib.hid (by
    have h5 : Ft.next l 8 p = (7, p1) := HC.out
    have := Ft.make_and (l := l) (d := e) (p := p) (by rw [h5]; show 6 ≤ 7; omega)
    rw [h5] at this
    simp only [ho, hk] at this
    exact this)
  have ht := next_any g v l p1 2 (by decide) (by decide) w1 HS2.out
  rw [ho] at ht
  have HT : Hid (Calls Try.prog 12 #[.pointer (some ⟨g, 0, none⟩), .int .i64 2] w1 fun e w' => e = .returned (.int .i64 (o : Nat)) ∧ Srcs w' g v l p2 ∧ Keep (fun k => k = g) w1 w') := Lib.hid ht
  have ht2 := fun W h => next_any g v l p2 2 (by decide) (by decide) W h
  rw [hk] at ht2
  have HT2 : Hid (∀ W, Srcs W g v l p2 → Calls Try.prog 12 #[.pointer (some ⟨g, 0, none⟩), .int .i64 2] W fun e w' => e = .returned (.int .i64 (k : Nat)) ∧ Srcs w' g v l p3 ∧ Keep (fun k => k = g) W w') := Lib.hid ht2
  clear HIH HC WORD HAS FIELD BOOL hIH ho hk ht ht2
  go_wp2_with fail
  refine HT.out.mono ?_
  rintro e2 w2 ⟨rfl, hs3, hk3⟩
  have HS3 := Lib.hid (hs3.lay ((Keep.refl _ _).alloc (.cells #[.int .i64 (7 + (o : Int)), .string ⟨#[]⟩, .string ⟨#[]⟩, .slice none 0 0] 29)))
  have HK3 := Lib.hid ((Keep.trans HK2.out hk3).alloc (.cells #[.int .i64 (7 + (o : Int)), .string ⟨#[]⟩, .string ⟨#[]⟩, .slice none 0 0] 29))
  have hz3 : w.heap.size + 1 ≤ w2.heap.size := Nat.le_trans HZ2.out hk3.size
  have HX3 := Lib.hid ((HX2.out.carry (hk3.block _ (by have := HZ2.out; omega) hne)).carry (Below.heap_alloc w2 (.cells #[.int .i64 (7 + (o : Int)), .string ⟨#[]⟩, .string ⟨#[]⟩, .slice none 0 0] 29) w.heap.size (by omega)))
  have HF3 : Hid (Bx (w2.alloc (.cells #[.int .i64 (7 + (o : Int)), .string ⟨#[]⟩, .string ⟨#[]⟩, .slice none 0 0] 29)) w2.heap.size (.int .i64 (7 + (o : Int))) (.string ⟨#[]⟩) (.string ⟨#[]⟩) (.slice none 0 0)) := Lib.hid ⟨by go_simp, by go_simp, by go_simp, by go_simp, by go_simp, by go_simp, by go_simp, by go_simp⟩
  clear hs3 hk3 HT HK2 HX2 HZ2 HS2
  go_wp2_with fail
  refine (HT2.out _ HS3.out).mono ?_
  rintro e3 w3 ⟨rfl, hs4, hk4⟩
  obtain ⟨F, hF⟩ : ∃ F, F = w2.heap.size := ⟨_, rfl⟩
  have hfg : ¬ F = g := by omega
  have HS4 := Lib.hid hs4
  have HK4 := Lib.hid (Keep.trans HK3.out hk4)
  have HX4 := Lib.hid (HX3.out.carry (hk4.block _ (by simp; omega) hne))
  have HF4 := Lib.hid (HF3.out.carry (hk4.block _ (by simp) (by rw [← hF]; exact hfg)))
  have hz4 : F + 1 ≤ w3.heap.size := by have := hk4.size; simp at this; omega
  have HZ4 := Lib.hid hz4
  have hwF : w.heap.size + 1 ≤ F := by omega
  rw [← hF] at HF4
  clear hs4 hk4 HT2 HS3 HK3 HX3 HF3 hz3 hz4
  simp only [← hF]
  clear hF
  go_wp2_with fail
  go_loopw [7] (fun vk wr => ∃ (m : Nat) (R : List (Value × Ft)) (u : Value), vk = .int .i64 (m : Nat) ∧ m + R.length = 2 + k ∧ R.map (·.2) = (Ft.several (Ft.make l e) R.length p3).1 ∧ Rk 4 (fun b => F + 1 ≤ b) wr u R.length (flatK R) ∧ (∀ p ∈ R, KsB (fun b => F + 1 ≤ b ∧ ¬ At u b) wr p.1 p.2) ∧
    Srcs wr g v l (Ft.several (Ft.make l e) R.length p3).2 ∧ Keep (fun k => k = g) w wr ∧ Bx wr w.heap.size (.int .i64 0) (.string ⟨#[]⟩) (.string ⟨#[]⟩) (.slice none 0 0) ∧ Bx wr F (.int .i64 (7 + (o : Int))) (.string ⟨#[]⟩) (.string ⟨#[]⟩) u ∧ F + 1 ≤ wr.heap.size) (fun vk _ => (intOf vk).toNat)
  case atStart => exact ⟨2 + k, [], .slice none 0 0, rfl, rfl, rfl, Rk.nil 4 _ _, fun p hp => by simp at hp, HS4.out, HK4.out, HX4.out, HF4.out, HZ4.out⟩
  case round =>
    obtain ⟨m, R, u, rfl, hm, hmap, hrk, hkb, hsr, hkp, hbx, hbf, hwr⟩ := hrel
    obtain ⟨au, cu, rfl⟩ := hrk.shape
    have HMAP := Lib.hid hmap
    have HRK := Lib.hid hrk
    have HKB := Lib.hid hkb
    have HSR := Lib.hid hsr
    have HKP := Lib.hid hkp
    have HBX := Lib.hid hbx
    have HBF := Lib.hid hbf
    clear hmap hrk hkb hsr hkp hbx HS4 HK4 HX4 HF4 HZ4
    by_cases h0 : m = 0
    · subst h0
      have HRL : Hid (R.length = 2 + k) := Lib.hid (by omega)
      have hrle : R.length ≤ 3 := by omega
      clear hm
      obtain ⟨c0, c1, c2, c3, f0, f1, f2, f3⟩ := HBX.out
      obtain ⟨b0, b1, b2, b3, _, _, _, _⟩ := hbf
      go_wp2_with fail
      have hq := HBX.out.all (.int .i64 (7 + (o : Int))) (.string ⟨#[]⟩) (.string ⟨#[]⟩) (.slice au R.length cu)
      unfold stored at hq
      obtain ⟨q0, q1, q2, q3, _, _, _, _⟩ := hq
      refine bodyPost_ret (v := .agg #[.int .i64 (7 + (o : Int)), .string ⟨#[]⟩, .string ⟨#[]⟩, .slice au R.length cu]) (by simp [results, Try.results13, go_sem, q0, q1, q2, q3]) rfl ?_
      refine made_kids (R := R) HS0.out HSR.out HKP.out (HRK.out.mono fun b hb _ => by omega) (fun p hp => KsB.mono (fun b _ hb => by have := hb.1; omega) _ _ (HKB.out p hp)) (by omega) ?_
      rw [HMAP.out, HRL.out]
      exact HNT.out
    · obtain ⟨n, rfl⟩ : ∃ n, m = n + 1 := ⟨m - 1, by omega⟩
      have hpos : (0 : Int) < ((n + 1 : Nat) : Int) := by omega
      have hmm := HI.out _ wr.drew (HSR.out.lay ((Keep.refl _ _).drewN 1))
      unfold MakeP at hmm
      obtain ⟨X, q, hX⟩ : ∃ X q, Ft.make l e (Ft.several (Ft.make l e) R.length p3).2 = (X, q) := ⟨_, _, rfl⟩
      rw [hX] at hmm
      have hsn := Ft.several_snoc (Ft.make l e) R.length p3
      rw [hX] at hsn
      have HSN := Lib.hid hsn
      have HMM := Lib.hid hmm
      have hrn : R.length ≤ 1000 := by omega
      have hwrap : IntKind.i64.wrap (e : Int) = (e : Int) := by rw [IntKind.wrap_i64]; omega
      clear hmm hX hsn
      obtain ⟨x0, x1, x2, x3, z0, z1, z2, z3⟩ := hbf
      go_wp2_with fail
      go_region_law (first | (refine step_append_run rfl _ _ _ rfl rfl rfl hrun ?_) | (go_simp; go_at_call 13; refine HMM.out.mono ?_; rintro e6 w6 ⟨kv, rfl, hkb6, hsr6, hkp6⟩; obtain ⟨ak, ck, rfl⟩ := (KsB.at _ _ hkb6).shape; simp only [Ft.val]; have hbf6 := HBF.out.carry (W' := w6) (hkp6.block F (by show F < wr.heap.size; omega) hfg); have hrk6 := HRK.out.carry (w' := w6) hkp6.size (fun b hb _ hlt => hkp6.block b hlt (by omega)); have hs6 : F + 1 ≤ w6.heap.size := Nat.le_trans hwr hkp6.size; have hlt6 : F < w6.heap.size := (by omega); have hne6 : ¬ F = w6.heap.size := (by omega); obtain ⟨a7, c7, w7, hrun, hrk7, hk7⟩ := app_kid hrk6 hs6 hrn (.slice ak X.kids.length ck, X) rfl; have hbf7 := hbf6.carry (W' := w7) ((hk7.block F (by simp <;> omega) (fun ha => by have := (hrk6.at ha).1; omega)).trans (Below.heap_alloc _ _ _ (by omega))); obtain ⟨y0, y1, y2, y3, p0, p1', p2', p3'⟩ := id hbf6; obtain ⟨q0, q1, q2, q3, r0, r1, r2, r3⟩ := id hbf7))
      all_goals
        have hsz7 : w6.heap.size + 1 ≤ w7.heap.size := by have h1 := hk7.size; simp at h1; omega
        have hg7 : w7.heap[g]? = w6.heap[g]? := (hk7.block g (by simp <;> omega) (fun ha => by have := (hrk6.at ha).1; omega)).trans (Below.heap_alloc _ _ _ (by omega))
        have hr7 : w7.heap[w.heap.size]? = w6.heap[w.heap.size]? := (hk7.block w.heap.size (by simp <;> omega) (fun ha => by have := (hrk6.at ha).1; omega)).trans (Below.heap_alloc _ _ _ (by omega))
        have hoth7 : ∀ b, b < w6.heap.size → ¬ At (.slice au R.length cu) b → w7.heap[b]? = w6.heap[b]? := fun b hb ha => (hk7.block b (by simp <;> omega) ha).trans (Below.heap_alloc _ _ _ hb)
        have hset : ∀ b, b ≠ F → (w7.setCell ⟨F, 3, none⟩ (.slice a7 (R.length + 1) c7)).heap[b]? = w7.heap[b]? := fun b hb => Below.heap_setCell w7 ⟨F, 3, none⟩ _ b hb
        have hss : (w7.setCell ⟨F, 3, none⟩ (.slice a7 (R.length + 1) c7)).heap.size = w7.heap.size := by simp [World.setCell]
        have hw6 : wr.heap.size ≤ w6.heap.size := hkp6.size
        have hatu : ∀ b, At (.slice au R.length cu) b → b < wr.heap.size := fun b ha => (HRK.out.at ha).2
        have hat7 : ∀ b, At (.slice a7 (R.length + 1) c7) b → At (.slice au R.length cu) b ∨ w6.heap.size + 1 ≤ b := fun b ha => (hrk7.at ha).1.2
        have HRK8 := Lib.hid ((hrk7.mono (G' := fun b => F + 1 ≤ b) fun b hb _ => hb.1).carry (w' := w7.setCell ⟨F, 3, none⟩ (.slice a7 (R.length + 1) c7)) (Nat.le_of_eq hss.symm) fun b hb _ _ => hset b (by omega))
        have hgF : g ≠ F := fun e => hfg e.symm
        have hkeep : ∀ b, F + 1 ≤ b → ¬ At (.slice au R.length cu) b → b < w6.heap.size → (w7.setCell ⟨F, 3, none⟩ (.slice a7 (R.length + 1) c7)).heap[b]? = w6.heap[b]? := fun b hb ha hlt => (hset b (by omega)).trans (hoth7 b hlt ha)
        have hold : ∀ b, F + 1 ≤ b → b < wr.heap.size → w6.heap[b]? = wr.heap[b]? := fun b hb hlt => hkp6.block b hlt (by omega)
        have HKB8 : Hid (∀ p ∈ R ++ [((.slice ak X.kids.length ck : Value), X)], KsB (fun b => F + 1 ≤ b ∧ ¬ At (.slice a7 (R.length + 1) c7) b) (w7.setCell ⟨F, 3, none⟩ (.slice a7 (R.length + 1) c7)) p.1 p.2) := Lib.hid (by
          intro p hp
          rw [List.mem_append, List.mem_singleton] at hp
          rcases hp with hp | rfl
          · refine KsB.mono (G := fun b => F + 1 ≤ b ∧ ¬ At (.slice au R.length cu) b ∧ ¬ At (.slice a7 (R.length + 1) c7) b) (fun b _ hb => ⟨hb.1, hb.2.2⟩) _ _ (KsB.keep (by rw [hss]; omega) (fun b hb hlt => (hkeep b hb.1 hb.2.1 (by omega)).trans (hold b hb.1 hlt)) _ _ (KsB.mono (fun b hlt hb => ⟨hb.1, hb.2, fun ha => ?_⟩) _ _ (HKB.out p hp)))
            rcases hat7 b ha with h | h
            · exact hb.2 h
            · omega
          · refine KsB.mono (G := fun b => F + 1 ≤ b ∧ ¬ At (.slice au R.length cu) b ∧ ¬ At (.slice a7 (R.length + 1) c7) b) (fun b _ hb => ⟨hb.1, hb.2.2⟩) _ _ (KsB.keep (by rw [hss]; omega) (fun b hb hlt => hkeep b hb.1 hb.2.1 hlt) _ _ (KsB.mono (fun b hlt hb => ?_) _ _ hkb6))
            have hb' : wr.heap.size ≤ b := hb
            have hnu : ¬ At (.slice au R.length cu) b := fun ha => by have := hatu b ha; omega
            refine ⟨by omega, hnu, fun ha => ?_⟩
            rcases hat7 b ha with h | h
            · exact hnu h
            · omega)
        have HSR8 := Lib.hid (hsr6.carry (w' := w7.setCell ⟨F, 3, none⟩ (.slice a7 (R.length + 1) c7)) (by rw [hss]; omega) ((hset g hgF).trans hg7) (fun b off n c hv hl => by
          have := HS0.out.below b off n c hv hl
          exact (hset b (by omega)).trans (hoth7 b (by omega) (fun ha => by have := (hrk6.at ha).1; omega))))
        have HKP8 := Lib.hid (((((HKP.out.drewN 1).trans hkp6).alloc _).over hk7 (fun b ha => by have := (hrk6.at ha).1; omega)).setCell (p := ⟨F, 3, none⟩) (.inl (by show w.heap.size ≤ F; omega)) (.slice a7 (R.length + 1) c7))
        have HBX8 := Lib.hid (HBX.out.carry (W' := w7.setCell ⟨F, 3, none⟩ (.slice a7 (R.length + 1) c7)) (((hset w.heap.size (by omega)).trans hr7).trans (hkp6.block w.heap.size (by show w.heap.size < wr.heap.size; omega) hne)))
        have HBF8 := Lib.hid (hbf7.set3 (.slice a7 (R.length + 1) c7))
        have HZ8 : Hid (F + 1 ≤ (w7.setCell ⟨F, 3, none⟩ (.slice a7 (R.length + 1) c7)).heap.size) := Lib.hid (by rw [hss]; omega)
        clear hsz7 hg7 hr7 hoth7 hset hss hw6 hatu hat7 hkeep hold hkb6 hsr6 hkp6 hbf6 hrk6 hrk7 hk7 hbf7 hrun
        go_wp2_with fail
        go_roundw
        case rel =>
          refine ⟨n, R ++ [((.slice ak X.kids.length ck : Value), X)], .slice a7 (R.length + 1) c7, by go_num, by rw [List.length_append, List.length_singleton]; omega, ?_, HRK8.out, HKB8.out, ?_, HKP8.out, HBX8.out, HBF8.out, HZ8.out⟩
          · rw [List.map_append, List.length_append, List.length_singleton, HSN.out, HMAP.out]
            rfl
          · rw [List.length_append, List.length_singleton, HSN.out]
            exact HSR8.out
        case measure => simp [intOf]

end Go.Proofs.Ytidjodplimkmgaa
