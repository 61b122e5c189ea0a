/-
  VALUES THAT ARE KNOWN, AND SOME THAT LIE IN MEMORY, as the operations of a region leave them.
  WHAT THE DOCUMENT TELLS OF norm: the laws' first test.
-/
import Derived.Test.YtkckgjanfiiieaaDoorQryA6
import Derived.Test.YtkckgjanfiiieaaDoorPp10
namespace Go.Proofs.YtkckgjanfiiieaaDoor
open Go.RowKit Go

/-- What an operation leaves: a value that is known, or (of those in S) one of which something is known. -/
def GV (cs : List (Option Value)) (S : List Nat) (sp : Nat → Value → World → Prop) (j : Nat) (ys : Nat → Value) (w : World) : Prop :=
  if j ∈ S then sp j (ys j) w else ∀ v, cs.getD j none = some v → ys j = v

theorem GV.keep {cs : List (Option Value)} {S : List Nat} {sp : Nat → Value → World → Prop} (hsp : ∀ j v w w', sp j v w → Below w.heap.size w w' → sp j v w') {i j : Nat} {ys : Nat → Value} {v : Value} {w w' : World} (hij : i ≠ j) (h : GV cs S sp j ys w) (hb : Below w.heap.size w w') : GV cs S sp j (upd ys i v) w' := by
  unfold GV at h ⊢
  by_cases hS : j ∈ S
  · rw [if_pos hS] at h ⊢
    rw [upd_other ys v (Ne.symm hij)]
    exact hsp _ _ _ _ h hb
  · rw [if_neg hS] at h ⊢
    intro u hu
    rw [upd_other ys v (Ne.symm hij)]
    exact h u hu

theorem GV.val {cs : List (Option Value)} {S : List Nat} {sp : Nat → Value → World → Prop} {j : Nat} {ys : Nat → Value} {w : World} {v : Value} (h : GV cs S sp j ys w) (hj : j ∉ S) (hv : cs.getD j none = some v) : ys j = v := by
  unfold GV at h
  rw [if_neg hj] at h
  exact h v hv

theorem GV.of {cs : List (Option Value)} {S : List Nat} {sp : Nat → Value → World → Prop} {j : Nat} {ys : Nat → Value} {w : World} {v : Value} (hj : j ∉ S) (hv : ∀ u, cs.getD j none = some u → u = v) : GV cs S sp j (upd ys j v) w := by
  unfold GV
  rw [if_neg hj]
  intro u hu
  rw [upd_same, hv u hu]

theorem GV.sp {cs : List (Option Value)} {S : List Nat} {sp : Nat → Value → World → Prop} {j : Nat} {ys : Nat → Value} {w : World} (h : GV cs S sp j ys w) (hj : j ∈ S) : sp j (ys j) w := by
  unfold GV at h
  rwa [if_pos hj] at h

theorem GV.ofsp {cs : List (Option Value)} {S : List Nat} {sp : Nat → Value → World → Prop} {j : Nat} {ys : Nat → Value} {w : World} {v : Value} (hj : j ∈ S) (h : sp j v w) : GV cs S sp j (upd ys j v) w := by
  unfold GV
  rw [if_pos hj, upd_same]
  exact h

theorem puts_defers {ys : Nat → Value} : ∀ (l : List Oper) (k : Nat) (a : Act), (putsFrom ys l k a).defers = a.defers
  | [], _, _ => rfl
  | o :: r, k, a => by
    rw [putsFrom, puts_defers r (k + 1)]
    cases o.dst <;> rfl

/-- Behind a region of which one slot alone is read. -/
theorem fin_of (d : Nat) {ops : List Oper} {ys : Nat → Value} {a0 : Act} {K : Act → World → Prop} {Q : Exit → Act → World → Prop} {w : World} {v : Value} (h : ∀ P : Act, P.tmps.getD d undef = v → P.defers = a0.defers → K P w) (hs : d < a0.tmps.size) (hv : slotFrom ys d ops 0 (a0.tmps.getD d undef) = v) : Exit.then K Q .normal (putsFrom ys ops 0 a0) w :=
  h _ ((getD_puts ops 0 a0 hs).trans hv) (puts_defers ops 0 a0)

/-- A structure's value, as a variable. -/
theorem IntsAt.belowN {w w' : World} {v : Value} {l : List Int} (h : IntsAt w v l) (hb : Below w.heap.size w w') : IntsAt w' v l := by
  obtain ⟨a, cap, hv, h1, h | ⟨b, off, ha, hlt, hc⟩⟩ := h
  · exact ⟨a, cap, hv, h1, .inl h⟩
  · exact ⟨a, cap, hv, h1, .inr ⟨b, off, ha, Nat.lt_of_lt_of_le hlt hb.size, fun i hi => (hb.cell hlt).trans (hc i hi)⟩⟩

end Go.Proofs.YtkckgjanfiiieaaDoor

namespace Go.Proofs.YtkckgjanfiiieaaDoor
open Go.RowKit Go

def wordA : Ft := .mk 3 ⟨#[]⟩ ⟨#[97]⟩ []
def hasB : Ft := .mk 4 ⟨#[]⟩ ⟨#[98]⟩ []
def nab : Ft := .mk 6 Nr.e0 Nr.e0 [.mk 7 Nr.e0 Nr.e0 [wordA, .mk 6 Nr.e0 Nr.e0 [hasB]]]
theorem nab_gd : Nr.Gd nab := by
  refine .not _ (.row 7 _ (.inl rfl) (by decide) fun x hx => ?_)
  simp only [List.mem_cons, List.not_mem_nil, or_false] at hx
  rcases hx with rfl | rfl
  · exact .leaf 3 _ _ (.inl rfl)
  · exact .not _ (.leaf 4 _ _ (.inr (.inl rfl)))
theorem nab_norm : Nr.norm nab = .mk 8 Nr.e0 Nr.e0 [.mk 6 Nr.e0 Nr.e0 [wordA], hasB] := by kernel_rfl
theorem nab_count : nab.count ≤ 40000 := by decide

set_option maxHeartbeats 4000000 in
set_option maxRecDepth 100000 in
theorem alive_any (w : World) : Calls Tryd.prog 6 #[] w fun e w' => e = .returned (.bool true) ∧ Lay w w' := by
  have hc := fun W kv hk => ownNorm_any nab_gd nab_count W kv hk
  rw [nab_norm] at hc
  have HC := Lib.hid hc
  clear hc
  simp only [show ∀ kv, nab.val kv = .agg #[.int .i64 6, .string ⟨#[]⟩, .string ⟨#[]⟩, kv] from fun _ => rfl] at HC
  go_enter Tryd.func6, Tryd.ntmps6
  go_wp2_with fail
  refine (HC.out _ (.slice (some ⟨w.heap.size + 1 + 1 + 1 + 1, 0, none⟩) 1 1) ?hk).mono ?_
  case hk =>
    unfold nab
    rw [KsAt]
    refine ⟨_, _, rfl, by simp, .inr ⟨_, _, rfl, by simp, ?_⟩⟩
    rw [KAt, KAt]
    refine ⟨⟨.slice (some ⟨w.heap.size + 1 + 1 + 1, 0, none⟩) 2 2, by go_simp; rfl, by go_simp; rfl, by go_simp; rfl, by go_simp, ?_⟩, trivial⟩
    rw [KsAt]
    refine ⟨_, _, rfl, by simp, .inr ⟨_, _, rfl, by simp, ?_⟩⟩
    rw [KAt, KAt, KAt]
    refine ⟨⟨.slice none 0 0, by go_simp; rfl, by go_simp; rfl, by go_simp; rfl, by go_simp, ?_⟩, ⟨.slice (some ⟨w.heap.size + 1 + 1, 0, none⟩) 1 1, by go_simp; rfl, by go_simp; rfl, by go_simp; rfl, by go_simp, ?_⟩, trivial⟩
    · unfold wordA
      rw [KsAt]
      exact ⟨none, 0, rfl, by simp, .inl rfl⟩
    · rw [KsAt]
      refine ⟨_, _, rfl, by simp, .inr ⟨_, _, rfl, by simp, ?_⟩⟩
      rw [KAt, KAt]
      refine ⟨⟨.slice none 0 0, by go_simp; rfl, by go_simp; rfl, by go_simp; rfl, by go_simp, ?_⟩, trivial⟩
      unfold hasB
      rw [KsAt]
      exact ⟨none, 0, rfl, by simp, .inl rfl⟩
  rintro e w1 ⟨kv, rfl, hkb, hl⟩
  obtain ⟨ak, ck, rfl⟩ := (KsB.at _ _ hkb).shape
  have hk := KsB.at _ _ hkb
  rw [KsAt] at hk
  obtain ⟨a', cap, he, hl63, h0 | ⟨bk, off, rfl, hbl, hka⟩⟩ := hk
  · cases h0
  obtain ⟨hak, hck⟩ : ak = some ⟨bk, off, none⟩ ∧ ck = cap := by simpa [Ft.kids] using he
  subst hak hck
  obtain ⟨k0, x0, x1, x2, x3, x4⟩ := KAt.get hka 0 (by simp)
  obtain ⟨k1, y0, y1, y2, y3, y4⟩ := KAt.get hka 1 (by simp)
  simp only [Nat.zero_mul, Nat.add_zero, Nat.one_mul, List.getElem_cons_zero, List.getElem_cons_succ, wordA, hasB, Ft.op] at x0 y0
  have HL := Lib.hid hl
  have hbl2 : bk < w1.heap.size := hbl
  clear hl hka x1 x2 x3 x4 y1 y2 y3 y4 he hkb hl63
  simp only [Ft.val, Ft.op, Ft.name, Ft.text, Ft.kids, List.length_cons, List.length_nil]
  go_wp2_with fail
  go_ret
  refine ⟨rfl, ?_⟩
  exact (((((((Keep.refl _ _).alloc _).alloc _).alloc _).alloc _).alloc _).trans HL.out).alloc _

end Go.Proofs.YtkckgjanfiiieaaDoor
