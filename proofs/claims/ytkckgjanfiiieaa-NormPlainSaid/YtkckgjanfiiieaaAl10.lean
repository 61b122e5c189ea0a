/-
  WHAT THE DOCUMENT TELLS OF norm: the laws' first test.
-/
import Derived.Test.YtkckgjanfiiieaaPp10
namespace Go.Proofs.Ytkckgjanfiiieaa
open Go.RowKit Go

def wordA : Ft := .mk 3 ⟨#[]⟩ ⟨#[97]⟩ []
def hasB : Ft := .mk 4 ⟨#[]⟩ ⟨#[98]⟩ []
def nab : Ft := .mk 6 Nr.e0 Nr.e0 [.mk 7 Nr.e0 Nr.e0 [wordA, .mk 6 Nr.e0 Nr.e0 [hasB]]]
theorem nab_gd : Nr.Gd nab := by
  refine .not _ (.row 7 _ (.inl rfl) (by decide) fun x hx => ?_)
  simp only [List.mem_cons, List.not_mem_nil, or_false] at hx
  rcases hx with rfl | rfl
  · exact .leaf 3 _ _ (.inl rfl)
  · exact .not _ (.leaf 4 _ _ (.inr (.inl rfl)))
theorem nab_norm : Nr.norm nab = .mk 8 Nr.e0 Nr.e0 [.mk 6 Nr.e0 Nr.e0 [wordA], hasB] := by kernel_rfl
theorem nab_count : nab.count ≤ 40000 := by decide

set_option maxHeartbeats 4000000 in
set_option maxRecDepth 100000 in
theorem alive_any (w : World) : Calls Try.prog 4 #[] w fun e w' => e = .returned (.bool true) ∧ Lay w w' := by
  have hc := fun W kv hk => ownNorm_any nab_gd nab_count W kv hk
  rw [nab_norm] at hc
  have HC := Lib.hid hc
  clear hc
  simp only [show ∀ kv, nab.val kv = .agg #[.int .i64 6, .string ⟨#[]⟩, .string ⟨#[]⟩, kv] from fun _ => rfl] at HC
  go_enter Try.func4, Try.ntmps4
  go_wp2_with fail
  refine (HC.out _ (.slice (some ⟨w.heap.size + 1 + 1 + 1 + 1, 0, none⟩) 1 1) ?hk).mono ?_
  case hk =>
    unfold nab
    rw [KsAt]
    refine ⟨_, _, rfl, by simp, .inr ⟨_, _, rfl, by simp, ?_⟩⟩
    rw [KAt, KAt]
    refine ⟨⟨.slice (some ⟨w.heap.size + 1 + 1 + 1, 0, none⟩) 2 2, by go_simp; rfl, by go_simp; rfl, by go_simp; rfl, by go_simp, ?_⟩, trivial⟩
    rw [KsAt]
    refine ⟨_, _, rfl, by simp, .inr ⟨_, _, rfl, by simp, ?_⟩⟩
    rw [KAt, KAt, KAt]
    refine ⟨⟨.slice none 0 0, by go_simp; rfl, by go_simp; rfl, by go_simp; rfl, by go_simp, ?_⟩, ⟨.slice (some ⟨w.heap.size + 1 + 1, 0, none⟩) 1 1, by go_simp; rfl, by go_simp; rfl, by go_simp; rfl, by go_simp, ?_⟩, trivial⟩
    · unfold wordA
      rw [KsAt]
      exact ⟨none, 0, rfl, by simp, .inl rfl⟩
    · rw [KsAt]
      refine ⟨_, _, rfl, by simp, .inr ⟨_, _, rfl, by simp, ?_⟩⟩
      rw [KAt, KAt]
      refine ⟨⟨.slice none 0 0, by go_simp; rfl, by go_simp; rfl, by go_simp; rfl, by go_simp, ?_⟩, trivial⟩
      unfold hasB
      rw [KsAt]
      exact ⟨none, 0, rfl, by simp, .inl rfl⟩
  rintro e w1 ⟨kv, rfl, hkb, hl⟩
  obtain ⟨ak, ck, rfl⟩ := (KsB.at _ _ hkb).shape
  have hk := KsB.at _ _ hkb
  rw [KsAt] at hk
  obtain ⟨a', cap, he, hl63, h0 | ⟨bk, off, rfl, hbl, hka⟩⟩ := hk
  · cases h0
  obtain ⟨hak, hck⟩ : ak = some ⟨bk, off, none⟩ ∧ ck = cap := by simpa [Ft.kids] using he
  subst hak hck
  obtain ⟨k0, x0, x1, x2, x3, x4⟩ := KAt.get hka 0 (by simp)
  obtain ⟨k1, y0, y1, y2, y3, y4⟩ := KAt.get hka 1 (by simp)
  simp only [Nat.zero_mul, Nat.add_zero, Nat.one_mul, List.getElem_cons_zero, List.getElem_cons_succ, wordA, hasB, Ft.op] at x0 y0
  have HL := Lib.hid hl
  have hbl2 : bk < w1.heap.size := hbl
  clear hl hka x1 x2 x3 x4 y1 y2 y3 y4 he hkb hl63
  simp only [Ft.val, Ft.op, Ft.name, Ft.text, Ft.kids, List.length_cons, List.length_nil]
  go_wp2_with fail
  go_ret
  refine ⟨rfl, ?_⟩
  exact (((((((Keep.refl _ _).alloc _).alloc _).alloc _).alloc _).alloc _).trans HL.out).alloc _

end Go.Proofs.Ytkckgjanfiiieaa
