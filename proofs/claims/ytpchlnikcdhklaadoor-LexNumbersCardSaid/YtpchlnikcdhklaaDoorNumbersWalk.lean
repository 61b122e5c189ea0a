/-
  magpielaw05.LexNumbers: the walk; what package lex's calls do stands ahead of it ('LexCalls').
-/
import Derived.Test.YtpchlnikcdhklaaDoorGrown
import Derived.Lib.SmallJoins
import Derived.Lib.ItoaMem
namespace Go.Proofs.YtpchlnikcdhklaaDoor
open Go.RowKit Go

theorem itoa_call {w : World} (hT : Lib.TabIs Tryd.prog w "internal/strconv.uint64pow10" .u64 Lib.pow10Tab) (n : Int) (h0 : -9223372036854775808 ≤ n) (h1 : n ≤ 9223372036854775807) (W : World) (hb : Below w.heap.size w W) :
    Calls Tryd.prog 17 #[.int .i64 n] W fun e w' => e = .returned (.string ⟨(Lib.itoa n).toArray⟩) ∧ Lay W w' := by
  have hg : Tryd.prog.globalNamed "internal/strconv.uint64pow10" = some 4 := by kernel_rfl
  refine (Tryd.strconv_Itoa n h0 h1 W (Joins.tab_stays hg hT hb (Nat.le_refl _))).mono ?_
  rintro e w' ⟨he, k, os, rfl⟩
  exact ⟨he, Lay.of_grown _ _⟩

set_option maxHeartbeats 8000000 in
set_option maxRecDepth 100000 in
theorem numbers_walk (H : LexCalls) (n : Int) (h0 : -9223372036854775808 ≤ n) (h1 : n ≤ 9223372036854775807) (w : World) (hT : Tabs w) (hP : Lib.TabIs Tryd.prog w "internal/strconv.uint64pow10" .u64 Lib.pow10Tab) :
    Calls Tryd.prog 6 #[.int .i64 n] w fun e w' => e = .returned (.bool true) ∧ Below w.heap.size w w' := by
  have HT := Lib.hid hT
  have HH := Lib.hid H
  have hmx : Tryd.prog.follows .mixedOrders = true := by kernel_rfl
  have HA := Lib.hid (alive_any H w hT)
  have HI := Lib.hid (itoa_call hP n h0 h1)
  have HL := Lib.hid (LX.lex_itoa n h0 h1)
  have hlen := (LX.itoa_parts n h0 h1).2.1
  obtain ⟨X, hX⟩ : ∃ X : ByteArray, X = ⟨(Lib.itoa n).toArray⟩ := ⟨_, rfl⟩
  have HX : Hid (X.data.toList = Lib.itoa n) := Lib.hid (by rw [hX])
  have hxs : X.size ≤ 20 := by rw [Lib.size_eq, HX.out]; exact hlen
  rw [← hX] at HI
  have HXE := Lib.hid hX
  clear hT hP hX hlen h0 h1
  go_enter Tryd.func6, Tryd.ntmps6
  go_wp2_with (go_at_call 8; refine HA.out.mono ?_; rintro e w1 ⟨rfl, hb1⟩)
  have HB1 := Lib.hid hb1
  clear hb1
  refine (HI.out _ HB1.out).mono ?_
  rintro e w2 ⟨rfl, hl2⟩
  have HB2 := Lib.hid (HB1.out.trans (hl2.below.mono HB1.out.size))
  clear hl2
  go_wp2_with fail
  refine (HH.out.ok HX.out (by omega) HL.out w2 (Tabs.next HT.out HB2.out)).mono ?_
  rintro e w3 ⟨v, rfl, ht, hb3⟩
  have HB3 := Lib.hid (HB2.out.trans (hb3.mono HB2.out.size))
  obtain ⟨a, c, rfl, hn | ⟨b, off, rfl, hlt, hc⟩⟩ := ht
  · cases hn
  have t0 := (hc 0 (by simp)).1
  have t1 := (hc 0 (by simp)).2.1
  have t2 := (hc 0 (by simp)).2.2.1
  simp only [List.getElem_cons_zero, Nat.zero_mul, Nat.add_zero] at t0 t1 t2
  rw [← HXE.out] at t1
  clear hb3 hc
  obtain ⟨W4, hW4⟩ : ∃ W4, W4 = w3.alloc (.cells #[.int .i64 0, .int .i64 0] 26) := ⟨_, rfl⟩
  have HB4 : Hid (Below w.heap.size w W4) := Lib.hid (by rw [hW4]; exact HB3.out.alloc HB3.out.size _)
  have hs4 : b < W4.heap.size := by rw [hW4]; simp; omega
  have hs5 : w3.heap.size < W4.heap.size := by rw [hW4]; simp
  have u0 : W4.cell? ⟨b, off, none⟩ = some (.int .i64 3) := by rw [hW4, World.cell?_of_block (a := ⟨b, off, none⟩) (Below.heap_alloc _ _ _ hlt)]; exact t0
  have u1 : W4.cell? ⟨b, off + 1, none⟩ = some (.string X) := by rw [hW4, World.cell?_of_block (a := ⟨b, off + 1, none⟩) (Below.heap_alloc _ _ _ hlt)]; exact t1
  have u2 : W4.cell? ⟨b, off + 2, none⟩ = some (.int .i64 n) := by rw [hW4, World.cell?_of_block (a := ⟨b, off + 2, none⟩) (Below.heap_alloc _ _ _ hlt)]; exact t2
  have q0 : W4.cell? ⟨w3.heap.size, 0, none⟩ = some (.int .i64 0) := by rw [hW4]; exact World.cell?_alloc_new ..
  have q1 : W4.cell? ⟨w3.heap.size, 1, none⟩ = some (.int .i64 0) := by rw [hW4]; exact World.cell?_alloc_new ..
  clear t0 t1 t2 hlt
  go_wp2_with fail
  simp only [← hW4]
  clear hW4
  generalize w3.heap.size = g at q0 q1 hs5 ⊢
  have fu0 := cell_grown (w := W4) (a := ⟨b, off, none⟩) hs4 u0
  have fu1 := cell_grown (w := W4) (a := ⟨b, off + 1, none⟩) hs4 u1
  have fu2 := cell_grown (w := W4) (a := ⟨b, off + 2, none⟩) hs4 u2
  have fq0 := cell_grown (w := W4) (a := ⟨g, 0, none⟩) hs5 q0
  have fq1 := cell_grown (w := W4) (a := ⟨g, 1, none⟩) hs5 q1
  have hS : ∀ q os, Calls Tryd.prog 17 #[.int .i64 n] (Sort.grow (W4.drewN q) os) fun e w'' => e = .returned (.string X) ∧ ∃ p : GrownBy, w'' = Sort.grow (W4.drewN p.n) p.os := fun q os => grown_of_lay (HI.out _ (HB4.out.trans (((Lay.of_grown (w := W4) q os).below).mono HB4.out.size)))
  clear u0 u1 u2 q0 q1 hs4 hs5
  go_quiet_grown ((go_at_call 17; with_reducible exact hS _ _))
  go_wp2_with fail
  go_ret
  exact ⟨rfl, HB4.out.trans (((Lay.of_grown (w := W4) nq osq).below).mono HB4.out.size)⟩

end Go.Proofs.YtpchlnikcdhklaaDoor
