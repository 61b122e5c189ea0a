/-
  magpielaw06.alive; what tree's calls do stands ahead of it ('TreeCalls').
-/
import Derived.Test.YtgmahdeaggjjgaaLawF6
import Derived.Shelf.SlSortCmp.QuietGrown
namespace Go.Proofs.Ytgmahdeaggjjgaa
open Go.RowKit Go

/-- A callee's contract, met in a world of the class. -/
theorem grown_of_lay {f : Nat} {args : Array Value} {w : World} {n : Nat} {os : Array Obj} {v : Value} (h : Calls Try.prog f args (Sort.grow (w.drewN n) os) fun e w' => e = .returned v ∧ Lay (Sort.grow (w.drewN n) os) w') :
    Calls Try.prog f args (Sort.grow (w.drewN n) os) fun e w'' => e = .returned v ∧ ∃ p : GrownBy, w'' = Sort.grow (w.drewN p.n) p.os :=
  Calls.grown_of (h.mono fun _ _ ⟨he, hl⟩ => ⟨he, hl.grown⟩)

/-- not word "a". -/
def fW : Ft := .mk 3 ⟨#[]⟩ ⟨#[97]⟩ []
def fN : Ft := .mk 6 ⟨#[]⟩ ⟨#[]⟩ [fW]

theorem fN_good : Ft.good fN = true := by decide
theorem fN_count : fN.count = 2 := rfl
theorem fN_ne : fN ≠ fW := by intro h; cases h

theorem FAt.lay {w w' : World} {v : Value} {f : Ft} (h : FAt w v f) (hl : Lay w w') : FAt w' v f := h.below hl.below

set_option maxHeartbeats 4000000 in
set_option maxRecDepth 100000 in
theorem alive_any (H : TreeCalls) (w : World) : Calls Try.prog 9 #[] w fun e w' => e = .returned (.bool true) ∧ Lay w w' := by
  have hmx : Try.prog.follows .mixedOrders = true := by kernel_rfl
  obtain ⟨W, hW⟩ : ∃ W, W = (w.alloc (.cells #[.int .i64 3, .string ⟨#[]⟩, .string ⟨#[97]⟩, .slice none 0 0] 26)).alloc (.cells #[.int .i64 6, .string ⟨#[]⟩, .string ⟨#[]⟩, .slice (some ⟨w.heap.size, 0, none⟩) 1 1] 26) := ⟨_, rfl⟩
  have hl : Lay w W := by rw [hW]; exact ((Keep.refl _ _).alloc _).alloc _
  have k0 : W.cell? ⟨w.heap.size, 0, none⟩ = some (.int .i64 3) := by rw [hW]; go_simp
  have k1 : W.cell? ⟨w.heap.size, 1, none⟩ = some (.string ⟨#[]⟩) := by rw [hW]; go_simp
  have k2 : W.cell? ⟨w.heap.size, 2, none⟩ = some (.string ⟨#[97]⟩) := by rw [hW]; go_simp
  have k3 : W.cell? ⟨w.heap.size, 3, none⟩ = some (.slice none 0 0) := by rw [hW]; go_simp
  have j0 : W.cell? ⟨w.heap.size + 1, 0, none⟩ = some (.int .i64 6) := by rw [hW]; go_simp
  have j1 : W.cell? ⟨w.heap.size + 1, 1, none⟩ = some (.string ⟨#[]⟩) := by rw [hW]; go_simp
  have j2 : W.cell? ⟨w.heap.size + 1, 2, none⟩ = some (.string ⟨#[]⟩) := by rw [hW]; go_simp
  have j3 : W.cell? ⟨w.heap.size + 1, 3, none⟩ = some (.slice (some ⟨w.heap.size, 0, none⟩) 1 1) := by rw [hW]; go_simp
  have hs : W.heap.size = w.heap.size + 2 := by rw [hW]; simp
  have hfw : FAt W (.agg #[.int .i64 3, .string ⟨#[]⟩, .string ⟨#[97]⟩, .slice none 0 0]) fW := ⟨.slice none 0 0, rfl, by unfold fW; rw [KsAt]; exact ⟨none, 0, rfl, by simp, .inl rfl⟩⟩
  have hfn : FAt W (.agg #[.int .i64 6, .string ⟨#[]⟩, .string ⟨#[]⟩, .slice (some ⟨w.heap.size, 0, none⟩) 1 1]) fN := by
    refine ⟨.slice (some ⟨w.heap.size, 0, none⟩) 1 1, rfl, ?_⟩
    unfold fN
    rw [KsAt]
    refine ⟨_, _, rfl, by simp, .inr ⟨w.heap.size, 0, rfl, by omega, ?_⟩⟩
    rw [KAt, KAt]
    obtain ⟨kv, hv, hk⟩ := hfw
    cases hv
    exact ⟨⟨_, k0, k1, k2, k3, hk⟩, trivial⟩
  have lt0 : w.heap.size < W.heap.size := by omega
  have lt1 : w.heap.size + 1 < W.heap.size := by omega
  have hgr : ∀ n os, Lay W (Sort.grow (W.drewN n) os) := fun n os => Lay.of_grown n os
  have hG : ∀ n os, Calls Try.prog 20 #[.agg #[.int .i64 6, .string ⟨#[]⟩, .string ⟨#[]⟩, .slice (some ⟨w.heap.size, 0, none⟩) 1 1]] (Sort.grow (W.drewN n) os) fun e w'' => e = .returned (.bool true) ∧ ∃ p : GrownBy, w'' = Sort.grow (W.drewN p.n) p.os := fun n os =>
    grown_of_lay (by rw [← fN_good]; exact H.good fN (by decide) _ _ (hfn.lay (hgr n os)))
  have hC : ∀ n os, Calls Try.prog 13 #[.agg #[.int .i64 6, .string ⟨#[]⟩, .string ⟨#[]⟩, .slice (some ⟨w.heap.size, 0, none⟩) 1 1]] (Sort.grow (W.drewN n) os) fun e w'' => e = .returned (.int .i64 2) ∧ ∃ p : GrownBy, w'' = Sort.grow (W.drewN p.n) p.os := fun n os =>
    grown_of_lay (H.count fN (by decide) _ _ (hfn.lay (hgr n os)))
  have hFF : ∀ n os, Calls Try.prog 15 #[.agg #[.int .i64 6, .string ⟨#[]⟩, .string ⟨#[]⟩, .slice (some ⟨w.heap.size, 0, none⟩) 1 1], .agg #[.int .i64 6, .string ⟨#[]⟩, .string ⟨#[]⟩, .slice (some ⟨w.heap.size, 0, none⟩) 1 1]] (Sort.grow (W.drewN n) os) fun e w'' => e = .returned (.bool true) ∧ ∃ p : GrownBy, w'' = Sort.grow (W.drewN p.n) p.os := fun n os =>
    grown_of_lay ((H.filter fN fN (by decide) (by decide) _ _ _ (hfn.lay (hgr n os)) (hfn.lay (hgr n os))).mono fun e w' ⟨b, he, hb, hl⟩ => ⟨by rw [he, hb.2 rfl], hl⟩)
  have hFW : ∀ n os, Calls Try.prog 15 #[.agg #[.int .i64 6, .string ⟨#[]⟩, .string ⟨#[]⟩, .slice (some ⟨w.heap.size, 0, none⟩) 1 1], .agg #[.int .i64 3, .string ⟨#[]⟩, .string ⟨#[97]⟩, .slice none 0 0]] (Sort.grow (W.drewN n) os) fun e w'' => e = .returned (.bool false) ∧ ∃ p : GrownBy, w'' = Sort.grow (W.drewN p.n) p.os := fun n os =>
    grown_of_lay ((H.filter fN fW (by decide) (by decide) _ _ _ (hfn.lay (hgr n os)) (hfw.lay (hgr n os))).mono fun e w' ⟨b, he, hb, hl⟩ => ⟨by
      have : b = false := Bool.eq_false_iff.2 fun h => fN_ne (hb.1 h)
      rw [he, this], hl⟩)
  have HW := Lib.hid hW
  have HL := Lib.hid hl
  clear hW hl hfw hfn hgr hs
  go_enter Try.func9, Try.ntmps9
  go_wp2_with fail
  simp only [← HW.out]
  have g0 := cell_grown (w := W) (a := ⟨w.heap.size, 0, none⟩) lt0 k0
  have g1 := cell_grown (w := W) (a := ⟨w.heap.size, 1, none⟩) lt0 k1
  have g2 := cell_grown (w := W) (a := ⟨w.heap.size, 2, none⟩) lt0 k2
  have g3 := cell_grown (w := W) (a := ⟨w.heap.size, 3, none⟩) lt0 k3
  have i0 := cell_grown (w := W) (a := ⟨w.heap.size + 1, 0, none⟩) lt1 j0
  have i1 := cell_grown (w := W) (a := ⟨w.heap.size + 1, 1, none⟩) lt1 j1
  have i2 := cell_grown (w := W) (a := ⟨w.heap.size + 1, 2, none⟩) lt1 j2
  have i3 := cell_grown (w := W) (a := ⟨w.heap.size + 1, 3, none⟩) lt1 j3
  clear HW k0 k1 k2 k3 j0 j1 j2 j3
  go_quiet_grown (first | (go_at_call 20; with_reducible exact hG _ _) | (go_at_call 13; with_reducible exact hC _ _) | (go_at_call 15; with_reducible (first | exact hFF _ _ | exact hFW _ _)))
  go_wp2_with fail
  go_ret
  exact ⟨rfl, HL.out.trans (Lay.of_grown _ _)⟩

end Go.Proofs.Ytgmahdeaggjjgaa
