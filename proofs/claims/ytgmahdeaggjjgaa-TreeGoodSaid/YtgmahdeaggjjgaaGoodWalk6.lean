/-
  magpielaw06.TreeGood: the walk; what tree's calls do stands ahead of it ('TreeCalls').
-/
import Derived.Test.YtgmahdeaggjjgaaAlive6
import Derived.Test.YtgmahdeaggjjgaaGood6
import Derived.Test.YtgmahdeaggjjgaaSize6
namespace Go.Proofs.Ytgmahdeaggjjgaa
open Go.RowKit Go

set_option maxHeartbeats 4000000 in
set_option maxRecDepth 100000 in
theorem good_walk (H : TreeCalls) (f : Ft) (w : World) (v : Value) (hf : FAt w v f) : Calls Try.prog 6 #[v] w fun e w' => e = .returned (.bool true) ∧ Lay w w' := by
  have hmx : Try.prog.follows .mixedOrders = true := by kernel_rfl
  obtain ⟨kv, rfl, hks⟩ := id hf
  obtain ⟨a, c, rfl⟩ := hks.shape
  simp only [Ft.val] at hf ⊢
  obtain ⟨W, hW⟩ : ∃ W, W = w.alloc (.cells #[.int .i64 f.op, .string f.name, .string f.text, .slice a f.kids.length c] 26) := ⟨_, rfl⟩
  have hl : Lay w W := by rw [hW]; exact (Keep.refl _ _).alloc _
  have hs : w.heap.size < W.heap.size := by rw [hW]; simp
  have k0 : W.cell? ⟨w.heap.size, 0, none⟩ = some (.int .i64 f.op) := by rw [hW]; go_simp
  have k1 : W.cell? ⟨w.heap.size, 1, none⟩ = some (.string f.name) := by rw [hW]; go_simp
  have k2 : W.cell? ⟨w.heap.size, 2, none⟩ = some (.string f.text) := by rw [hW]; go_simp
  have k3 : W.cell? ⟨w.heap.size, 3, none⟩ = some (.slice a f.kids.length c) := by rw [hW]; go_simp
  have HW := Lib.hid hW.symm
  have HF := Lib.hid hf
  have HL := Lib.hid hl
  have HH := Lib.hid H
  have HA := Lib.hid (alive_any H W)
  clear hW hf hl hks H
  go_enter Try.func6, Try.ntmps6
  go_wp2_with fail
  rw [HW.out]
  refine HA.out.mono ?_
  rintro e w1 ⟨rfl, hl1⟩
  have HL1 := Lib.hid (HL.out.trans hl1)
  have m0 := (hl1.cell hs).trans k0
  have m1 := (hl1.cell hs).trans k1
  have m2 := (hl1.cell hs).trans k2
  have m3 := (hl1.cell hs).trans k3
  have hs1 : w.heap.size < w1.heap.size := Nat.lt_of_lt_of_le hs hl1.size
  have HG := Lib.hid (great_any f w1 _ (HF.out.lay HL1.out))
  clear hl1 k0 k1 k2 k3 hs HA HW
  go_wp2_with fail
  refine HG.out.mono ?_
  rintro e w2 ⟨rfl, hl2⟩
  have HL2 := Lib.hid (HL1.out.trans hl2)
  have n0 := (hl2.cell hs1).trans m0
  have n1 := (hl2.cell hs1).trans m1
  have n2 := (hl2.cell hs1).trans m2
  have n3 := (hl2.cell hs1).trans m3
  have hs2 : w.heap.size < w2.heap.size := Nat.lt_of_lt_of_le hs1 hl2.size
  clear hl2 m0 m1 m2 m3 hs1 HG
  by_cases hg : 500 < Ft.size 30 f
  · have hd : decide (500 < Ft.size 30 f) = true := decide_eq_true hg
    go_wp2_with fail
    go_ret
    exact ⟨rfl, HL2.out⟩
  · have hd : decide (500 < Ft.size 30 f) = false := decide_eq_false hg
    have hcount : f.count ≤ 100000 := by
      have := Ft.size_count 30 f (by omega)
      omega
    have hgr : ∀ n os, Lay w2 (Sort.grow (w2.drewN n) os) := fun n os => Lay.of_grown n os
    obtain ⟨b, hb⟩ : ∃ b, Ft.good f = b := ⟨_, rfl⟩
    have hG : ∀ n os, Calls Try.prog 20 #[.agg #[.int .i64 f.op, .string f.name, .string f.text, .slice a f.kids.length c]] (Sort.grow (w2.drewN n) os) fun e w'' => e = .returned (.bool b) ∧ ∃ p : GrownBy, w'' = Sort.grow (w2.drewN p.n) p.os := fun n os =>
      grown_of_lay (by rw [← hb]; exact HH.out.good f hcount _ _ (HF.out.lay (HL2.out.trans (hgr n os))))
    have hR : ∀ n os, Calls Try.prog 21 #[.agg #[.int .i64 f.op, .string f.name, .string f.text, .slice a f.kids.length c]] (Sort.grow (w2.drewN n) os) fun e w'' => e = .returned (.bool b) ∧ ∃ p : GrownBy, w'' = Sort.grow (w2.drewN p.n) p.os := fun n os =>
      grown_of_lay (by rw [← hb]; exact refGood_any f _ _ (HF.out.lay (HL2.out.trans (hgr n os))) hcount)
    clear hb hgr hg
    go_wp2_with fail
    have g0 := cell_grown (w := w2) (a := ⟨w.heap.size, 0, none⟩) hs2 n0
    have g1 := cell_grown (w := w2) (a := ⟨w.heap.size, 1, none⟩) hs2 n1
    have g2 := cell_grown (w := w2) (a := ⟨w.heap.size, 2, none⟩) hs2 n2
    have g3 := cell_grown (w := w2) (a := ⟨w.heap.size, 3, none⟩) hs2 n3
    clear n0 n1 n2 n3
    go_quiet_grown (first | (go_at_call 20; with_reducible exact hG _ _) | (go_at_call 21; with_reducible exact hR _ _))
    go_wp2_with fail
    go_ret
    exact ⟨ret_bool (by simp), HL2.out.trans (Lay.of_grown _ _)⟩

end Go.Proofs.Ytgmahdeaggjjgaa
