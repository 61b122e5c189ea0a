/-
  magpielaw05.LexIs: the walk; what package lex's calls do stands ahead of it ('LexCalls').
-/
import Derived.Test.YtpchlnikcdhklaaDoorLexed
namespace Go.Proofs.YtpchlnikcdhklaaDoor
open Go.RowKit Go

set_option maxHeartbeats 8000000 in
set_option maxRecDepth 100000 in
theorem is_walk (H : LexCalls) (s : ByteArray) (w : World) (hT : Tabs w) : Calls Tryd.prog 3 #[.string s] w fun e w' => e = .returned (.bool true) ∧ Below w.heap.size w w' := by
  have HT := Lib.hid hT
  have HH := Lib.hid H
  have hmx : Tryd.prog.follows .mixedOrders = true := by kernel_rfl
  have HA := Lib.hid (alive_any H w hT)
  clear hT
  by_cases h2048 : 2048 < s.size
  · have hd : decide (2048 < (s.size : Int)) = true := by simp; omega
    go_enter Tryd.func3, Tryd.ntmps3
    go_wp2_with (go_at_call 8; refine HA.out.mono ?_; rintro e w1 ⟨rfl, hb1⟩)
    go_ret
    exact ⟨rfl, hb1⟩
  have hd : decide (2048 < (s.size : Int)) = false := by simp; omega
  cases hL : LX.lex s.data.toList with
  | error p =>
    obtain ⟨p1, p2⟩ := p
    have HL := Lib.hid hL
    clear hL
    go_enter Tryd.func3, Tryd.ntmps3
    go_wp2_with (go_at_call 8; refine HA.out.mono ?_; rintro e w1 ⟨rfl, hb1⟩)
    refine (HH.out.err rfl (by omega) HL.out w1 (Tabs.next HT.out hb1)).mono ?_
    rintro e w2 ⟨a, c, rfl, hb2⟩
    have HB2 := Lib.hid (hb1.trans (hb2.mono hb1.size))
    clear hb1 hb2
    obtain ⟨W3, hW3⟩ : ∃ W3, W3 = w2.alloc (.cells #[.int .i64 (p1 : Nat), .int .i64 (p2 : Nat)] 26) := ⟨_, rfl⟩
    have hb3 : Below w2.heap.size w2 W3 := by rw [hW3]; exact (Below.refl _ _).alloc (Nat.le_refl _) _
    have HB3 := Lib.hid (HB2.out.trans (hb3.mono HB2.out.size))
    have q0 : W3.cell? ⟨w2.heap.size, 0, none⟩ = some (.int .i64 (p1 : Nat)) := by rw [hW3]; exact World.cell?_alloc_new ..
    have q1 : W3.cell? ⟨w2.heap.size, 1, none⟩ = some (.int .i64 (p2 : Nat)) := by rw [hW3]; exact World.cell?_alloc_new ..
    have hs3 : w2.heap.size < W3.heap.size := by rw [hW3]; simp
    clear hb3
    go_wp2_with fail
    rw [← hW3]
    clear hW3
    generalize w2.heap.size = g at q0 q1 hs3 ⊢
    refine (ref_err rfl (by omega) HL.out W3 (Tabs.next HT.out HB3.out)).mono ?_
    rintro e w4 ⟨rfl, hb4⟩
    have r0 : w4.cell? ⟨g, 0, none⟩ = some (.int .i64 (p1 : Nat)) := (World.cell?_of_block (a := ⟨g, 0, none⟩) (hb4.block _ hs3)).trans q0
    have r1 : w4.cell? ⟨g, 1, none⟩ = some (.int .i64 (p2 : Nat)) := (World.cell?_of_block (a := ⟨g, 1, none⟩) (hb4.block _ hs3)).trans q1
    have HB4 := Lib.hid (HB3.out.trans (hb4.mono HB3.out.size))
    clear hb4 q0 q1 hs3
    go_wp2_with fail
    go_loopw [45] (fun vi wr => vi = .int .i64 0 ∧ wr = w4) (fun _ _ => 0)
    case atStart => exact ⟨rfl, rfl⟩
    case round =>
      obtain ⟨rfl, rfl⟩ := hrel
      go_wp2_with fail
      go_ret
      exact ⟨rfl, HB4.out⟩
  | ok ts =>
    have HL := Lib.hid hL
    have hcount := LX.lex_count hL
    clear hL
    go_enter Tryd.func3, Tryd.ntmps3
    go_wp2_with (go_at_call 8; refine HA.out.mono ?_; rintro e w1 ⟨rfl, hb1⟩)
    refine (HH.out.ok rfl (by omega) HL.out w1 (Tabs.next HT.out hb1)).mono ?_
    rintro e w2 ⟨v2, rfl, ht2, hb2⟩
    have HB2 := Lib.hid (hb1.trans (hb2.mono hb1.size))
    have HT2 := Lib.hid ht2
    obtain ⟨a2, c2, rfl, _⟩ := ht2
    clear hb1 hb2
    obtain ⟨W3, hW3⟩ : ∃ W3, W3 = w2.alloc (.cells #[.int .i64 0, .int .i64 0] 26) := ⟨_, rfl⟩
    have hb3 : Below w2.heap.size w2 W3 := by rw [hW3]; exact (Below.refl _ _).alloc (Nat.le_refl _) _
    have HB3 := Lib.hid (HB2.out.trans (hb3.mono HB2.out.size))
    have HT3 := Lib.hid (HT2.out.next hb3)
    have q0 : W3.cell? ⟨w2.heap.size, 0, none⟩ = some (.int .i64 0) := by rw [hW3]; exact World.cell?_alloc_new ..
    have q1 : W3.cell? ⟨w2.heap.size, 1, none⟩ = some (.int .i64 0) := by rw [hW3]; exact World.cell?_alloc_new ..
    have hs3 : w2.heap.size < W3.heap.size := by rw [hW3]; simp
    clear hb3
    go_wp2_with fail
    rw [← hW3]
    clear hW3
    generalize w2.heap.size = g at q0 q1 hs3 ⊢
    refine (ref_ok rfl (by omega) HL.out W3 (Tabs.next HT.out HB3.out)).mono ?_
    rintro e w4 ⟨v4, rfl, ht4, hb4⟩
    have r0 : w4.cell? ⟨g, 0, none⟩ = some (.int .i64 0) := (World.cell?_of_block (a := ⟨g, 0, none⟩) (hb4.block _ hs3)).trans q0
    have r1 : w4.cell? ⟨g, 1, none⟩ = some (.int .i64 0) := (World.cell?_of_block (a := ⟨g, 1, none⟩) (hb4.block _ hs3)).trans q1
    have HB4 := Lib.hid (HB3.out.trans (hb4.mono HB3.out.size))
    have HX := Lib.hid (HT3.out.next hb4)
    have HY := Lib.hid ht4
    obtain ⟨a4, c4, rfl, _⟩ := ht4
    clear hb4 q0 q1 hs3 HT2 HT3
    go_wp2_with fail
    clear r0 r1
    go_loopw [45] (fun vi wr => ∃ k : Nat, vi = .int .i64 k ∧ k ≤ ts.length ∧ Below w4.heap.size w4 wr) (fun vi _ => ts.length - (intOf vi).toNat)
    case atStart => exact ⟨0, rfl, Nat.zero_le _, Below.refl _ _⟩
    case round =>
      obtain ⟨k, rfl, hk, hb⟩ := hrel
      have HB := Lib.hid hb
      by_cases hlt : k < ts.length
      · obtain ⟨_, _, hv, h0 | ⟨bx, ox, rfl, hbx, hcx⟩⟩ := HX.out.next hb
        · rw [h0] at hlt; simp at hlt
        simp only [Value.slice.injEq] at hv
        obtain ⟨rfl, _, rfl⟩ := hv
        obtain ⟨_, _, hv, h0 | ⟨by', oy, rfl, hby, hcy⟩⟩ := HY.out.next hb
        · rw [h0] at hlt; simp at hlt
        simp only [Value.slice.injEq] at hv
        obtain ⟨rfl, _, rfl⟩ := hv
        obtain ⟨x0, x1, x2, x3⟩ := hcx k hlt
        obtain ⟨y0, y1, y2, y3⟩ := hcy k hlt
        generalize ts[k] = t at x0 x1 x2 x3 y0 y1 y2 y3
        obtain ⟨kd, says, n, pl⟩ := t
        simp only at x0 x1 x2 x3 y0 y1 y2 y3
        generalize (⟨says.toArray⟩ : ByteArray) = z at x1 y1
        have hne : ¬ by' = wr.heap.size := by omega
        clear hcx hcy hb
        go_wp2_with fail
        go_quiet (fail)
        go_wp2_with fail
        go_roundw
        case rel => exact ⟨k + 1, by go_num, by omega, below_drewN (HB.out.alloc HB.out.size _) _⟩
        case measure => simp [intOf]; omega
      · obtain rfl : k = ts.length := by omega
        go_wp2_with fail
        go_ret
        exact ⟨rfl, HB4.out.trans (HB.out.mono HB4.out.size)⟩

end Go.Proofs.YtpchlnikcdhklaaDoor
