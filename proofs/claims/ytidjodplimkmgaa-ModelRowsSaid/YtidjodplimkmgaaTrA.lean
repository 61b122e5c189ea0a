/-
  FILTERS, AS TREES: no program in it.
  HOW A FILTER LIES: its kids in a row, theirs in rows of their own.
  THE DOCUMENT'S OWN Rows.
  FILTERS MADE OF NUMBERS: no program in it.
  THE DOCUMENT'S OWN Source: Next, Text.
  FILTERS THAT LIE IN BLOCKS OF THEIR OWN, and what a Source makes, case by case.
-/
import Derived.Test.YtidjodplimkmgaaWdA
import Derived.OwnWalk
namespace Go.Proofs.Ytidjodplimkmgaa
open Go MW

/-- A filter: its kind, its texts, its kids. -/
inductive Ft where
  | mk (op : Int) (name text : ByteArray) (kids : List Ft)

namespace Ft
def op : Ft → Int | mk o _ _ _ => o
def name : Ft → ByteArray | mk _ n _ _ => n
def text : Ft → ByteArray | mk _ _ t _ => t
def kids : Ft → List Ft | mk _ _ _ k => k

mutual
/-- How many there are. -/
def count : Ft → Nat
  | mk _ _ _ k => 1 + counts k
def counts : List Ft → Nat
  | [] => 0
  | x :: r => count x + counts r
end

/-- A filter without its kids. -/
structure Row where
  op : Int
  name : ByteArray
  text : ByteArray
  kids : Nat
  deep : Nat

mutual
/-- A filter, and all within it. -/
def rows : Nat → Ft → List Row
  | d, mk o n t k => ⟨o, n, t, k.length, d⟩ :: rowsOf (d + 1) k
def rowsOf : Nat → List Ft → List Row
  | _, [] => []
  | d, x :: r => rows d x ++ rowsOf d r
end

/-! ### Which can be -/

end Ft
end Go.Proofs.Ytidjodplimkmgaa

namespace Go.Proofs.Ytidjodplimkmgaa
open Go.RowKit Go

/-- A filter's value, of its kids' slice. -/
def Ft.val (f : Ft) (kv : Value) : Value := .agg #[.int .i64 f.op, .string f.name, .string f.text, kv]

mutual
/-- kv is a slice of the filter's kids. -/
def KsAt (w : World) : Value → Ft → Prop
  | kv, .mk _ _ _ k => ∃ a cap, kv = .slice a k.length cap ∧ k.length ≤ 9223372036854775807 ∧ (k = [] ∨ ∃ b off, a = some ⟨b, off, none⟩ ∧ b < w.heap.size ∧ KAt w b off k)
/-- They lie one after the other. -/
def KAt (w : World) (b : Nat) : Nat → List Ft → Prop
  | _, [] => True
  | off, x :: r => (∃ kv, w.cell? ⟨b, off, none⟩ = some (.int .i64 x.op) ∧ w.cell? ⟨b, off + 1, none⟩ = some (.string x.name) ∧ w.cell? ⟨b, off + 2, none⟩ = some (.string x.text) ∧ w.cell? ⟨b, off + 3, none⟩ = some kv ∧ KsAt w kv x) ∧ KAt w b (off + 4) r
end

mutual
theorem KsAt.below {w w' : World} (hb : Below w.heap.size w w') : ∀ (kv : Value) (f : Ft), KsAt w kv f → KsAt w' kv f
  | kv, .mk _ _ _ k, h => by
    rw [KsAt] at h ⊢
    obtain ⟨a, cap, hv, hl, h | ⟨b, off, ha, hlt, hk⟩⟩ := h
    · exact ⟨a, cap, hv, hl, .inl h⟩
    · exact ⟨a, cap, hv, hl, .inr ⟨b, off, ha, Nat.lt_of_lt_of_le hlt hb.size, KAt.below hb b hlt off k hk⟩⟩
theorem KAt.below {w w' : World} (hb : Below w.heap.size w w') (b : Nat) (hlt : b < w.heap.size) : ∀ (off : Nat) (l : List Ft), KAt w b off l → KAt w' b off l
  | _, [], _ => by rw [KAt]; trivial
  | off, x :: r, h => by
    rw [KAt] at h ⊢
    obtain ⟨⟨kv, h0, h1, h2, h3, h4⟩, h5⟩ := h
    have e := hb.block b hlt
    exact ⟨⟨kv, (World.cell?_of_block (a := ⟨b, off, none⟩) e).trans h0, (World.cell?_of_block (a := ⟨b, off + 1, none⟩) e).trans h1, (World.cell?_of_block (a := ⟨b, off + 2, none⟩) e).trans h2, (World.cell?_of_block (a := ⟨b, off + 3, none⟩) e).trans h3, KsAt.below hb kv x h4⟩, KAt.below hb b hlt (off + 4) r h5⟩
end

theorem KAt.get {w : World} {b : Nat} : ∀ {off : Nat} {l : List Ft}, KAt w b off l → ∀ i (h : i < l.length), ∃ kv, w.cell? ⟨b, off + i * 4, none⟩ = some (.int .i64 l[i].op) ∧ w.cell? ⟨b, off + i * 4 + 1, none⟩ = some (.string l[i].name) ∧
    w.cell? ⟨b, off + i * 4 + 2, none⟩ = some (.string l[i].text) ∧ w.cell? ⟨b, off + i * 4 + 3, none⟩ = some kv ∧ KsAt w kv l[i]
  | _, [], _, i, h => by simp at h
  | off, x :: r, hk, i, h => by
    rw [KAt] at hk
    obtain ⟨⟨kv, h0⟩, h1⟩ := hk
    cases i with
    | zero => exact ⟨kv, by simpa using h0⟩
    | succ i =>
      have := KAt.get h1 i (by simpa using h)
      rw [show off + 4 + i * 4 = off + (i + 1) * 4 by omega] at this
      simpa using this

theorem KAt.of {w : World} {b : Nat} : ∀ {off : Nat} {l : List Ft}, (∀ i (h : i < l.length), ∃ kv, w.cell? ⟨b, off + i * 4, none⟩ = some (.int .i64 l[i].op) ∧ w.cell? ⟨b, off + i * 4 + 1, none⟩ = some (.string l[i].name) ∧
    w.cell? ⟨b, off + i * 4 + 2, none⟩ = some (.string l[i].text) ∧ w.cell? ⟨b, off + i * 4 + 3, none⟩ = some kv ∧ KsAt w kv l[i]) → KAt w b off l
  | _, [], _ => by rw [KAt]; trivial
  | off, x :: r, h => by
    rw [KAt]
    refine ⟨?_, KAt.of fun i hi => ?_⟩
    · have := h 0 (by simp)
      simpa using this
    · have := h (i + 1) (by simpa using hi)
      rw [show off + (i + 1) * 4 = off + 4 + i * 4 by omega] at this
      simpa using this

theorem KsAt.shape {w : World} {kv : Value} {f : Ft} (h : KsAt w kv f) : ∃ a c, kv = .slice a f.kids.length c := by
  cases f with
  | mk o n t k =>
    rw [KsAt] at h
    obtain ⟨a, c, rfl, _⟩ := h
    exact ⟨a, c, rfl⟩

/-- A value that is a filter. -/
def FAt (w : World) (v : Value) (f : Ft) : Prop := ∃ kv, v = f.val kv ∧ KsAt w kv f

theorem FAt.below {w w' : World} {v : Value} {f : Ft} (h : FAt w v f) (hb : Below w.heap.size w w') : FAt w' v f := by
  obtain ⟨kv, hv, h⟩ := h
  exact ⟨kv, hv, KsAt.below hb kv f h⟩

end Go.Proofs.Ytidjodplimkmgaa

namespace Go.Proofs.Ytidjodplimkmgaa
open Go.RowKit Go

end Go.Proofs.Ytidjodplimkmgaa

namespace Go.Proofs.Ytidjodplimkmgaa
open Go MW
namespace Ft

/-- The next number of l, from 0 on, below n; how many are used up. -/
def next (l : List Int) (n : Nat) (p : Nat) : Nat × Nat :=
  if h : p < l.length then ((l[p] % 18446744073709551616).toNat % n, p + 1) else (0, p)

theorem next_lt {l : List Int} {n p : Nat} (h : 0 < n) : (next l n p).1 < n := by
  unfold next
  split
  · exact Nat.mod_lt _ h
  · exact h

def texts : List ByteArray := [⟨#[103, 101, 116]⟩, ⟨#[101, 114, 114]⟩, ⟨#[97]⟩, ⟨#[98]⟩, ⟨#[111, 107, 32, 50, 48, 48]⟩, ⟨#[120, 45, 121]⟩, ⟨#[32, 97, 32]⟩, ⟨#[]⟩, ⟨#[195, 169]⟩, ⟨#[107, 61, 103, 101, 116]⟩, ⟨#[97, 34, 98]⟩, ⟨#[105, 100, 95, 55]⟩]
def names : List ByteArray := [⟨#[107]⟩, ⟨#[97]⟩, ⟨#[105, 100]⟩]
def textOf (c : Nat) : ByteArray := texts.getD c ⟨#[]⟩
def nameOf (c : Nat) : ByteArray := names.getD c ⟨#[]⟩

/-- So many kids, one behind the other. -/
def several (make : Nat → Ft × Nat) : Nat → Nat → List Ft × Nat
  | 0, p => ([], p)
  | k + 1, p => let x := make p; let r := several make k x.2; (x.1 :: r.1, r.2)

/-- A filter of numbers, at most so deep. -/
def make (l : List Int) : Nat → Nat → Ft × Nat
  | 0, p =>
    let c := next l 5 p
    if c.1 ≤ 1 then let t := next l 12 c.2; (mk 3 ⟨#[]⟩ (textOf t.1) [], t.2)
    else if c.1 = 2 then let t := next l 12 c.2; (mk 4 ⟨#[]⟩ (textOf t.1) [], t.2)
    else if c.1 = 3 then let n := next l 3 c.2; let t := next l 12 n.2; (mk 5 (nameOf n.1) (textOf t.1) [], t.2)
    else let o := next l 2 c.2; (mk (1 + o.1) ⟨#[]⟩ ⟨#[]⟩ [], o.2)
  | d + 1, p =>
    let c := next l 8 p
    if c.1 ≤ 1 then let t := next l 12 c.2; (mk 3 ⟨#[]⟩ (textOf t.1) [], t.2)
    else if c.1 = 2 then let t := next l 12 c.2; (mk 4 ⟨#[]⟩ (textOf t.1) [], t.2)
    else if c.1 = 3 then let n := next l 3 c.2; let t := next l 12 n.2; (mk 5 (nameOf n.1) (textOf t.1) [], t.2)
    else if c.1 = 4 then let o := next l 2 c.2; (mk (1 + o.1) ⟨#[]⟩ ⟨#[]⟩ [], o.2)
    else if c.1 = 5 then let x := make l d c.2; (mk 6 ⟨#[]⟩ ⟨#[]⟩ [x.1], x.2)
    else let o := next l 2 c.2; let k := next l 2 o.2; let r := several (make l d) (2 + k.1) k.2; (mk (7 + o.1) ⟨#[]⟩ ⟨#[]⟩ r.1, r.2)

theorem several_all {m : Nat → Ft × Nat} {P : Ft → Prop} (h : ∀ p, P (m p).1) : ∀ (k p : Nat), ∀ x ∈ (several m k p).1, P x
  | 0, _, x, hx => by simp [several] at hx
  | k + 1, p, x, hx => by
    simp only [several, List.mem_cons] at hx
    rcases hx with rfl | hx
    · exact h p
    · exact several_all h k _ x hx

end Ft
end Go.Proofs.Ytidjodplimkmgaa

namespace Go.Proofs.Ytidjodplimkmgaa
open Go.RowKit Go

/-- Numbers that lie so. -/
def IntsAt (w : World) (v : Value) (l : List Int) : Prop :=
  ∃ a cap, v = .slice a l.length cap ∧ l.length ≤ 9223372036854775807 ∧ (l = [] ∨ ∃ b off, a = some ⟨b, off, none⟩ ∧ b < w.heap.size ∧ ∀ i (h : i < l.length), w.cell? ⟨b, off + i, none⟩ = some (.int .i64 l[i]))

theorem IntsAt.keep {G : Nat → Prop} {w w' : World} {v : Value} {l : List Int} (h : IntsAt w v l) (hk : Keep G w w') (hd : ∀ b off n c, v = .slice (some ⟨b, off, none⟩) n c → ¬ G b) : IntsAt w' v l := by
  obtain ⟨a, cap, hv, hl, h | ⟨b, off, ha, hlt, hc⟩⟩ := h
  · exact ⟨a, cap, hv, hl, .inl h⟩
  · refine ⟨a, cap, hv, hl, .inr ⟨b, off, ha, Nat.lt_of_lt_of_le hlt hk.size, fun i hi => ?_⟩⟩
    rw [World.cell?_of_block (a := ⟨b, off + i, none⟩) (hk.block b hlt (hd b off _ _ (by rw [hv, ha])))]
    exact hc i hi

/-- A source of numbers: which, and how many are used up; what it reads lies elsewhere. -/
structure Srcs (w : World) (g : Nat) (v : Value) (l : List Int) (p : Nat) : Prop where
  lt : g < w.heap.size
  c0 : w.cell? ⟨g, 0, none⟩ = some v
  c1 : w.cell? ⟨g, 1, none⟩ = some (.int .i64 (p : Nat))
  f1 : w.frozen? ⟨g, 1, none⟩ = false
  ints : IntsAt w v l
  off : l ≠ [] → ∀ b off n c, v = .slice (some ⟨b, off, none⟩) n c → b ≠ g
  le : p ≤ l.length

theorem Srcs.lay {w w' : World} {g : Nat} {v : Value} {l : List Int} {p : Nat} (h : Srcs w g v l p) (hl : Lay w w') : Srcs w' g v l p where
  lt := Nat.lt_of_lt_of_le h.lt hl.size
  c0 := (hl.cell h.lt).trans h.c0
  c1 := (hl.cell h.lt).trans h.c1
  f1 := (World.frozen?_of_block (a := ⟨g, 1, none⟩) (hl.block h.lt)).trans h.f1
  ints := h.ints.keep hl fun _ _ _ _ _ h => h
  off := h.off
  le := h.le

theorem Srcs.step {w : World} {g : Nat} {v : Value} {l : List Int} {p : Nat} (h : Srcs w g v l p) (hp : p < l.length) : Srcs (w.setCell ⟨g, 1, none⟩ (.int .i64 ((p : Int) + 1))) g v l (p + 1) where
  lt := by simpa [World.setCell] using h.lt
  c0 := by have := h.c0; have := h.c1; go_simp
  c1 := by have := h.c1; go_simp
  f1 := by have := h.c1; have := h.f1; go_simp
  ints := h.ints.keep (Keep.setCell (Keep.refl (fun k => k = g) _) (p := ⟨g, 1, none⟩) (.inr rfl) _) fun b off n c e => h.off (by intro e; rw [e] at hp; simp at hp) b off n c e
  off := h.off
  le := hp

set_option maxHeartbeats 4000000 in
set_option maxRecDepth 100000 in
theorem next_any (g : Nat) (v : Value) (l : List Int) (p n : Nat) (hn0 : 0 < n) (hn : n ≤ 1000) (w : World) (h : Srcs w g v l p) :
    Calls Try.prog 12 #[.pointer (some ⟨g, 0, none⟩), .int .i64 (n : Nat)] w fun e w' => e = .returned (.int .i64 ((Ft.next l n p).1 : Nat)) ∧ Srcs w' g v l (Ft.next l n p).2 ∧ Keep (fun k => k = g) w w' := by
  have hmx : Try.prog.follows .mixedOrders = true := by kernel_rfl
  have HS := Lib.hid h
  have c0 := h.c0
  have c1 := h.c1
  have f1 := h.f1
  have hle := h.le
  obtain ⟨a, cap, rfl, hl63, hint⟩ := h.ints
  clear h
  by_cases hp : p < l.length
  · rcases hint with h0 | ⟨b, off, rfl, hb, hc⟩
    · exact absurd hp (by rw [h0]; simp)
    have cx := hc p hp
    have hbg : ¬ b = g := HS.out.off (by intro e; rw [e] at hp; simp at hp) b off _ _ rfl
    have hbg2 : ¬ g = b := fun e => hbg e.symm
    have HN : Hid (Ft.next l n p = ((l[p] % 18446744073709551616).toNat % n, p + 1)) := Lib.hid (by unfold Ft.next; rw [dif_pos hp])
    obtain ⟨x, hx⟩ : ∃ x, x = l[p] := ⟨_, rfl⟩
    rw [← hx] at cx HN
    obtain ⟨y, hy⟩ : ∃ y, y = (x % 18446744073709551616).toNat := ⟨_, rfl⟩
    rw [← hy] at HN
    have hge : decide ((l.length : Int) ≤ (p : Int)) = false := by simp; omega
    have hy64 : y < 18446744073709551616 := by omega
    have hw1 : IntKind.u64.wrap x = (y : Int) := by rw [IntKind.wrap_u64, hy]; omega
    have hw2 : IntKind.u64.wrap (n : Int) = (n : Int) := by rw [IntKind.wrap_u64]; omega
    have hyn : y % n < n := Nat.mod_lt _ hn0
    have hw3 : (y : Int).tmod (n : Int) = ((y % n : Nat) : Int) := rfl
    obtain ⟨r, hr⟩ : ∃ r, r = y % n := ⟨_, rfl⟩
    rw [← hr] at HN hw3 hyn
    have hw4 : IntKind.i64.wrap (r : Int) = (r : Int) := by rw [IntKind.wrap_i64]; omega
    have hn00 : ((n : Int) == 0) = false := by simp; omega
    have hp1 : ¬ ((p : Int) < 0) := by omega
    have hp2 : (p : Int) < (l.length : Int) := by omega
    clear hx hc hr hy
    go_enter Try.func12, Try.ntmps12
    go_wp2_with fail
    go_quiet (fail)
    go_wp2_with fail
    obtain ⟨W1, hW1⟩ : ∃ W1, W1 = (w.drewN nq).setCell ⟨g, 1, none⟩ (.int .i64 ((p : Int) + 1)) := ⟨_, rfl⟩
    have HST := Lib.hid ((HS.out.lay ((Keep.refl _ _).drewN nq)).step hp)
    have HK : Hid (Keep (fun k => k = g) w W1) := Lib.hid (by rw [hW1]; exact Keep.setCell (G := fun k => k = g) ((Keep.refl (fun k => k = g) w).drewN nq) (p := ⟨g, 1, none⟩) (.inr rfl) _)
    rw [← hW1] at HST ⊢
    have d0 := HST.out.c0
    have d1 : W1.cell? ⟨g, 1, none⟩ = some (.int .i64 ((p : Int) + 1)) := HST.out.c1
    have dx : W1.cell? ⟨b, off + p, none⟩ = some (.int .i64 x) := (World.cell?_of_block (a := ⟨b, off + p, none⟩) (HK.out.block b hb hbg)).trans cx
    clear hW1 c0 c1 f1 cx hb
    go_quiet (fail)
    go_wp2_with fail
    go_ret
    rw [HN.out]
    exact ⟨rfl, HST.out.lay ((Keep.refl _ _).drewN _), HK.out.drewN _⟩
  · have HN : Hid (Ft.next l n p = (0, p)) := Lib.hid (by unfold Ft.next; rw [dif_neg hp])
    have hge : decide ((l.length : Int) ≤ (p : Int)) = true := by simp; omega
    go_enter Try.func12, Try.ntmps12
    go_wp2_with fail
    go_quiet (fail)
    go_wp2_with fail
    go_ret
    rw [HN.out]
    exact ⟨rfl, HS.out.lay ((Keep.refl _ _).drewN _), (Keep.refl _ _).drewN _⟩

set_option maxHeartbeats 4000000 in
set_option maxRecDepth 100000 in
theorem text_any (g : Nat) (v : Value) (l : List Int) (p : Nat) (w : World) (h : Srcs w g v l p) :
    Calls Try.prog 19 #[.pointer (some ⟨g, 0, none⟩)] w fun e w' => e = .returned (.string (Ft.textOf (Ft.next l 12 p).1)) ∧ Srcs w' g v l (Ft.next l 12 p).2 ∧ Keep (fun k => k = g) w w' := by
  obtain ⟨W, hW⟩ : ∃ W, W = w.alloc (.cells (Ft.texts.map Value.string).toArray 9) := ⟨_, rfl⟩
  have hl : Lay w W := by rw [hW]; exact (Keep.refl _ _).alloc _
  have HL := Lib.hid hl
  have HN := Lib.hid (next_any g v l p 12 (by decide) (by decide) W (h.lay hl))
  have hlt := Ft.next_lt (l := l) (n := 12) (p := p) (by decide)
  have hcell : ∀ k, k < 12 → W.cell? ⟨w.heap.size, k, none⟩ = some (.string (Ft.textOf k)) := fun k hk => by
    rw [hW, World.cell?_alloc_new, List.getElem?_toArray, List.getElem?_map]
    have hk' : k < Ft.texts.length := hk
    rw [List.getElem?_eq_getElem hk', Option.map_some]
    unfold Ft.textOf
    simp [List.getD, hk']
  have hgw : w.heap.size < W.heap.size := by rw [hW]; simp
  have hgne : ¬ w.heap.size = g := fun e => by have := h.lt; omega
  obtain ⟨c, hc⟩ : ∃ c, c = (Ft.next l 12 p).1 := ⟨_, rfl⟩
  rw [← hc] at HN hlt ⊢
  have hci := hcell c hlt
  clear hc hcell hl
  go_enter Try.func19, Try.ntmps19
  have HW := Lib.hid hW
  clear hW
  go_wp2_with fail
  change Calls Try.prog 12 #[.pointer (some ⟨g, 0, none⟩), .int .i64 12] (w.alloc (.cells (Ft.texts.map Value.string).toArray 9)) _
  rw [← HW.out]
  refine HN.out.mono ?_
  rintro e w3 ⟨rfl, hs3, hk3⟩
  have hci3 := (World.cell?_of_block (a := ⟨w.heap.size, c, none⟩) (hk3.block _ hgw hgne)).trans hci
  have hc1 : ¬ (c : Int) < 0 := by omega
  have hc2 : (c : Int) < 12 := by omega
  clear hci
  go_wp2_with fail
  go_ret
  exact ⟨rfl, hs3, Keep.trans ((HL.out).keep) hk3⟩

end Go.Proofs.Ytidjodplimkmgaa

namespace Go.Proofs.Ytidjodplimkmgaa
open Go.RowKit Go

mutual
/-- kv is a slice of the filter's kids; all rows lie in blocks of G. -/
def KsB (G : Nat → Prop) (w : World) : Value → Ft → Prop
  | kv, .mk _ _ _ k => ∃ a cap, kv = .slice a k.length cap ∧ k.length ≤ 9223372036854775807 ∧ (k = [] ∨ ∃ b off, a = some ⟨b, off, none⟩ ∧ G b ∧ b < w.heap.size ∧ KbAt G w b off k)
/-- They lie one after the other. -/
def KbAt (G : Nat → Prop) (w : World) (b : Nat) : Nat → List Ft → Prop
  | _, [] => True
  | off, x :: r => (∃ kv, w.cell? ⟨b, off, none⟩ = some (.int .i64 x.op) ∧ w.cell? ⟨b, off + 1, none⟩ = some (.string x.name) ∧ w.cell? ⟨b, off + 2, none⟩ = some (.string x.text) ∧ w.cell? ⟨b, off + 3, none⟩ = some kv ∧ KsB G w kv x) ∧ KbAt G w b (off + 4) r
end

mutual
theorem KsB.keep {G : Nat → Prop} {w w' : World} (hs : w.heap.size ≤ w'.heap.size) (hb : ∀ b, G b → b < w.heap.size → w'.heap[b]? = w.heap[b]?) : ∀ (kv : Value) (f : Ft), KsB G w kv f → KsB G w' kv f
  | kv, .mk _ _ _ k, h => by
    rw [KsB] at h ⊢
    obtain ⟨a, cap, hv, hl, h | ⟨b, off, ha, hB, hlt, hk⟩⟩ := h
    · exact ⟨a, cap, hv, hl, .inl h⟩
    · exact ⟨a, cap, hv, hl, .inr ⟨b, off, ha, hB, Nat.lt_of_lt_of_le hlt hs, KbAt.keep hs hb b (hb b hB hlt) off k hk⟩⟩
theorem KbAt.keep {G : Nat → Prop} {w w' : World} (hs : w.heap.size ≤ w'.heap.size) (hb : ∀ b, G b → b < w.heap.size → w'.heap[b]? = w.heap[b]?) (b : Nat) (e : w'.heap[b]? = w.heap[b]?) : ∀ (off : Nat) (l : List Ft), KbAt G w b off l → KbAt G w' b off l
  | _, [], _ => by rw [KbAt]; trivial
  | off, x :: r, h => by
    rw [KbAt] at h ⊢
    obtain ⟨⟨kv, h0, h1, h2, h3, h4⟩, h5⟩ := h
    exact ⟨⟨kv, (World.cell?_of_block (a := ⟨b, off, none⟩) e).trans h0, (World.cell?_of_block (a := ⟨b, off + 1, none⟩) e).trans h1, (World.cell?_of_block (a := ⟨b, off + 2, none⟩) e).trans h2, (World.cell?_of_block (a := ⟨b, off + 3, none⟩) e).trans h3, KsB.keep hs hb kv x h4⟩, KbAt.keep hs hb b e (off + 4) r h5⟩
end

mutual
theorem KsB.mono {G G' : Nat → Prop} {w : World} (h' : ∀ b, b < w.heap.size → G b → G' b) : ∀ (kv : Value) (f : Ft), KsB G w kv f → KsB G' w kv f
  | kv, .mk _ _ _ k, h => by
    rw [KsB] at h ⊢
    obtain ⟨a, cap, hv, hl, h | ⟨b, off, ha, hB, hlt, hk⟩⟩ := h
    · exact ⟨a, cap, hv, hl, .inl h⟩
    · exact ⟨a, cap, hv, hl, .inr ⟨b, off, ha, h' b hlt hB, hlt, KbAt.mono h' b off k hk⟩⟩
theorem KbAt.mono {G G' : Nat → Prop} {w : World} (h' : ∀ b, b < w.heap.size → G b → G' b) (b : Nat) : ∀ (off : Nat) (l : List Ft), KbAt G w b off l → KbAt G' w b off l
  | _, [], _ => by rw [KbAt]; trivial
  | off, x :: r, h => by
    rw [KbAt] at h ⊢
    obtain ⟨⟨kv, h0, h1, h2, h3, h4⟩, h5⟩ := h
    exact ⟨⟨kv, h0, h1, h2, h3, KsB.mono h' kv x h4⟩, KbAt.mono h' b (off + 4) r h5⟩
end

mutual
theorem KsB.at {G : Nat → Prop} {w : World} : ∀ (kv : Value) (f : Ft), KsB G w kv f → KsAt w kv f
  | kv, .mk _ _ _ k, h => by
    rw [KsB] at h
    rw [KsAt]
    obtain ⟨a, cap, hv, hl, h | ⟨b, off, ha, hB, hlt, hk⟩⟩ := h
    · exact ⟨a, cap, hv, hl, .inl h⟩
    · exact ⟨a, cap, hv, hl, .inr ⟨b, off, ha, hlt, KbAt.at b off k hk⟩⟩
theorem KbAt.at {G : Nat → Prop} {w : World} (b : Nat) : ∀ (off : Nat) (l : List Ft), KbAt G w b off l → KAt w b off l
  | _, [], _ => by rw [KAt]; trivial
  | off, x :: r, h => by
    rw [KbAt] at h
    rw [KAt]
    obtain ⟨⟨kv, h0, h1, h2, h3, h4⟩, h5⟩ := h
    exact ⟨⟨kv, h0, h1, h2, h3, KsB.at kv x h4⟩, KbAt.at b (off + 4) r h5⟩
end

theorem KsB.nil (G : Nat → Prop) (w : World) (o : Int) (n t : ByteArray) : KsB G w (.slice none 0 0) (.mk o n t []) := by
  rw [KsB]
  exact ⟨none, 0, rfl, by simp, .inl rfl⟩

/-- Kids and their slices, as cells. -/
def flatK : List (Value × Ft) → List Value
  | [] => []
  | p :: r => [.int .i64 p.2.op, .string p.2.name, .string p.2.text, p.1] ++ flatK r

theorem flatK_append : ∀ R S : List (Value × Ft), flatK (R ++ S) = flatK R ++ flatK S
  | [], _ => rfl
  | p :: r, S => by simp only [List.cons_append, flatK, flatK_append r S, List.append_assoc]

/-- A row of kids that the call owns. -/
theorem KbAt.of_cells {G : Nat → Prop} {w : World} {b : Nat} : ∀ (off : Nat) (R : List (Value × Ft)), (∀ j, j < (flatK R).length → w.cell? ⟨b, off + j, none⟩ = (flatK R)[j]?) → (∀ p ∈ R, KsB G w p.1 p.2) → KbAt G w b off (R.map (·.2))
  | _, [], _, _ => by rw [List.map_nil, KbAt]; trivial
  | off, p :: r, hc, hk => by
    rw [List.map_cons, KbAt]
    have hl : (flatK (p :: r)).length = 4 + (flatK r).length := by simp only [flatK, List.length_append, List.length_cons, List.length_nil]
    refine ⟨⟨p.1, hc 0 (by omega), hc 1 (by omega), hc 2 (by omega), hc 3 (by omega), hk p (by simp)⟩, KbAt.of_cells (off + 4) r (fun j hj => ?_) fun q hq => hk q (by simp [hq])⟩
    have := hc (4 + j) (by omega)
    rw [show off + (4 + j) = off + 4 + j by omega] at this
    rw [this]
    simp only [flatK]
    rw [List.getElem?_append_right (by simp)]
    simp

theorem KsB.of_rk {G G0 : Nat → Prop} (hG : ∀ b, G b → G0 b) {w : World} {kv : Value} {R : List (Value × Ft)} (h : Rk 4 G w kv R.length (flatK R)) (hk : ∀ p ∈ R, KsB G0 w p.1 p.2) (hl : R.length ≤ 1000) (o : Int) (n t : ByteArray) : KsB G0 w kv (.mk o n t (R.map (·.2))) := by
  rw [KsB]
  obtain ⟨_, ⟨rfl, h0⟩ | ⟨g, cap, rfl, hg, hlt, _, _, hc, _⟩⟩ := h
  · obtain rfl := List.eq_nil_of_length_eq_zero h0
    exact ⟨none, 0, rfl, by simp, .inl rfl⟩
  · refine ⟨_, _, by rw [List.length_map], by rw [List.length_map]; omega, .inr ⟨g, 0, rfl, hG g hg, hlt, KbAt.of_cells 0 R (fun j hj => ?_) hk⟩⟩
    rw [Nat.zero_add]
    exact hc j hj

theorem info26 : (Try.prog.info? 29).map (fun i => (i.zero, i.size, i.bytes)) = some (some (.agg #[.int .i64 0, .string ⟨#[]⟩, .string ⟨#[]⟩, .slice none 0 0]), 4, 64) := by kernel_rfl

theorem elem26 : ∃ i z, Elem Try.prog 27 29 i z 4 64 := by
  obtain ⟨i, hi, hz, hs, hb⟩ := info_parts info26
  exact ⟨i, _, Try.underlying27, hi, hz, hs, hb, by kernel_rfl⟩

theorem src_kid (w : World) (g : Nat) (hg : g = w.heap.size) (p : Value × Ft) (h1 : p.1.oneCell' = true) : Src Try.prog 4 27 (.slice (some ⟨g, 0, none⟩) 1 1) 1 (flatK [p]) (w.alloc (.cells #[.int .i64 p.2.op, .string p.2.name, .string p.2.text, p.1] 29)) := by
  subst hg
  have e : flatK [p] = [.int .i64 p.2.op, .string p.2.name, .string p.2.text, p.1] := rfl
  rw [e]
  refine Src.ofSlice _ Try.underlying27 ⟨w.heap.size, 0, none⟩ 1 1 _ rfl (fun j u hu => ?_) (fun u hu => ?_)
  · rw [add_lit0]
    rw [World.cell?_alloc_new]
    simpa using hu
  · simp only [List.mem_cons, List.not_mem_nil, or_false] at hu
    rcases hu with rfl | rfl | rfl | rfl <;> first | rfl | exact h1

/-- A kid put behind the others. -/
theorem app_kid {B : Nat} {W : World} {a : Option Addr} {c : Nat} {R : List (Value × Ft)} (h : Rk 4 (fun b => B ≤ b) W (.slice a R.length c) R.length (flatK R)) (hB : B ≤ W.heap.size) (hn : R.length ≤ 1000) (p : Value × Ft) (h1 : p.1.oneCell' = true) :
    ∃ a7 c7 w7, (Builtin.append_ #[27, 27] 27 #[.slice a R.length c, .slice (some ⟨W.heap.size, 0, none⟩) 1 1]).run Try.prog (W.alloc (.cells #[.int .i64 p.2.op, .string p.2.name, .string p.2.text, p.1] 29)) = .ok (.slice a7 (R.length + 1) c7) w7 ∧
      Rk 4 (fun b => B ≤ b ∧ (At (.slice a R.length c) b ∨ W.heap.size + 1 ≤ b)) w7 (.slice a7 (R.length + 1) c7) (R ++ [p]).length (flatK (R ++ [p])) ∧ Keep (At (.slice a R.length c)) (W.alloc (.cells #[.int .i64 p.2.op, .string p.2.name, .string p.2.text, p.1] 29)) w7 := by
  obtain ⟨i26, z26, E26⟩ := elem26
  obtain ⟨v7, w7, hrun, hrk, hk⟩ := run_append_rk E26 (h.alloc _) (fun k hk => by simp at hk; omega) 27 27 _ 1 _ (src_kid W _ rfl p h1) (by omega) (by omega)
  obtain ⟨a7, c7, rfl⟩ := hrk.shape
  refine ⟨a7, c7, w7, hrun, ?_, hk⟩
  rw [flatK_append, List.length_append]
  exact hrk.mono fun b hb _ => ⟨hb.1, hb.2.imp id fun h => by simpa using h⟩

/-! ### What is made, case by case -/
namespace Ft

def nd (d : Nat) : Nat := if d = 0 then 5 else 8

theorem make_word {l : List Int} {d p : Nat} (h : (next l (nd d) p).1 ≤ 1) : make l d p = (mk 3 ⟨#[]⟩ (textOf (next l 12 (next l (nd d) p).2).1) [], (next l 12 (next l (nd d) p).2).2) := by
  cases d <;> simp [nd] at h <;> simp [make, nd, h]
theorem make_has {l : List Int} {d p : Nat} (h : (next l (nd d) p).1 = 2) : make l d p = (mk 4 ⟨#[]⟩ (textOf (next l 12 (next l (nd d) p).2).1) [], (next l 12 (next l (nd d) p).2).2) := by
  cases d <;> simp [nd] at h <;> simp [make, nd, h]
theorem make_field {l : List Int} {d p : Nat} (h : (next l (nd d) p).1 = 3) : make l d p = (mk 5 (nameOf (next l 3 (next l (nd d) p).2).1) (textOf (next l 12 (next l 3 (next l (nd d) p).2).2).1) [], (next l 12 (next l 3 (next l (nd d) p).2).2).2) := by
  cases d <;> simp [nd] at h <;> simp [make, nd, h]
theorem make_bool {l : List Int} {d p : Nat} (h : (next l (nd d) p).1 = 4) : make l d p = (mk (1 + (next l 2 (next l (nd d) p).2).1) ⟨#[]⟩ ⟨#[]⟩ [], (next l 2 (next l (nd d) p).2).2) := by
  cases d <;> simp [nd] at h <;> simp [make, nd, h]
theorem make_not {l : List Int} {d p : Nat} (h : (next l 8 p).1 = 5) : make l (d + 1) p = (mk 6 ⟨#[]⟩ ⟨#[]⟩ [(make l d (next l 8 p).2).1], (make l d (next l 8 p).2).2) := by
  simp [make, h]
theorem make_and {l : List Int} {d p : Nat} (h : 6 ≤ (next l 8 p).1) : make l (d + 1) p =
    (mk (7 + (next l 2 (next l 8 p).2).1) ⟨#[]⟩ ⟨#[]⟩ (several (make l d) (2 + (next l 2 (next l 2 (next l 8 p).2).2).1) (next l 2 (next l 2 (next l 8 p).2).2).2).1,
     (several (make l d) (2 + (next l 2 (next l 2 (next l 8 p).2).2).1) (next l 2 (next l 2 (next l 8 p).2).2).2).2) := by
  have h1 : ¬ (next l 8 p).1 ≤ 1 := by omega
  have h2 : ¬ (next l 8 p).1 = 2 := by omega
  have h3 : ¬ (next l 8 p).1 = 3 := by omega
  have h4 : ¬ (next l 8 p).1 = 4 := by omega
  have h5 : ¬ (next l 8 p).1 = 5 := by omega
  simp [make, h1, h2, h3, h4, h5]
end Ft

theorem Srcs.carry {w w' : World} {g : Nat} {v : Value} {l : List Int} {p : Nat} (h : Srcs w g v l p) (hs : w.heap.size ≤ w'.heap.size) (hg : w'.heap[g]? = w.heap[g]?) (hi : ∀ b off n c, v = .slice (some ⟨b, off, none⟩) n c → l ≠ [] → w'.heap[b]? = w.heap[b]?) : Srcs w' g v l p where
  lt := Nat.lt_of_lt_of_le h.lt hs
  c0 := (World.cell?_of_block (a := ⟨g, 0, none⟩) hg).trans h.c0
  c1 := (World.cell?_of_block (a := ⟨g, 1, none⟩) hg).trans h.c1
  f1 := (World.frozen?_of_block (a := ⟨g, 1, none⟩) hg).trans h.f1
  ints := by
    obtain ⟨a, cap, hv, hl, h0 | ⟨b, off, ha, hlt, hc⟩⟩ := h.ints
    · exact ⟨a, cap, hv, hl, .inl h0⟩
    · refine ⟨a, cap, hv, hl, ?_⟩
      by_cases h0 : l = []
      · exact .inl h0
      · exact .inr ⟨b, off, ha, Nat.lt_of_lt_of_le hlt hs, fun i hi' => (World.cell?_of_block (a := ⟨b, off + i, none⟩) (hi b off _ _ (by rw [hv, ha]) h0)).trans (hc i hi')⟩
  off := h.off
  le := h.le

theorem Srcs.below {w : World} {g : Nat} {v : Value} {l : List Int} {p : Nat} (h : Srcs w g v l p) : ∀ b off n c, v = .slice (some ⟨b, off, none⟩) n c → l ≠ [] → b < w.heap.size := by
  intro b off n c hv hl
  obtain ⟨a, cap, hv', _, h0 | ⟨b', off', ha, hlt, _⟩⟩ := h.ints
  · exact absurd h0 hl
  · rw [hv', ha] at hv
    cases hv
    exact hlt

end Go.Proofs.Ytidjodplimkmgaa
