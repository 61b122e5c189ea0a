/-
  magpielaw06.TreeCounts: the walk; what tree's calls do stands ahead of it ('TreeCalls').
-/
import Derived.Test.YtgmahdeaggjjgaaAlive6
import Derived.Test.YtgmahdeaggjjgaaMakeC6
namespace Go.Proofs.Ytgmahdeaggjjgaa
open Go.RowKit Go

set_option maxHeartbeats 8000000 in
set_option maxRecDepth 100000 in
theorem counts_walk (H : TreeCalls) (l : List Int) (w : World) (v : Value) (h : IntsAt w v l) : Calls Try.prog 8 #[v] w fun e w' => e = .returned (.bool true) ∧ Lay w w' := by
  obtain ⟨a, cap, rfl, hl63, _⟩ := id h
  have HI := Lib.hid h
  have HH := Lib.hid H
  have HA := Lib.hid (alive_any H w)
  clear h H
  go_enter Try.func8, Try.ntmps8
  go_wp2_with fail
  refine HA.out.mono ?_
  rintro e w1 ⟨rfl, hl1⟩
  have HL1 := Lib.hid hl1
  by_cases h300 : 300 < l.length
  · have hd : decide (300 < (l.length : Int)) = true := by simp; omega
    go_wp2_with fail
    go_ret
    exact ⟨rfl, HL1.out⟩
  have hd : decide (300 < (l.length : Int)) = false := by simp; omega
  have hf := law_filter l w1 _ (HI.out.lay hl1)
  unfold FilterP at hf
  have hmc := Ft.make_count l 4 0
  have hmg := Ft.make_good l 4 0 (by decide)
  obtain ⟨X, hX⟩ : ∃ X, X = (Ft.make l 4 0).1 := ⟨_, rfl⟩
  rw [← hX] at hf hmc hmg
  have HF := Lib.hid hf
  have hxc : X.count ≤ 256 := hmc
  have HXG := Lib.hid hmg
  clear hl1 hf hX hmc hmg HA
  go_wp2_with fail
  refine HF.out.mono ?_
  rintro e w2 ⟨kv, rfl, hkb, hl2⟩
  have hks := KsB.at _ _ hkb
  obtain ⟨o, nm, t, ks⟩ := X
  obtain ⟨ak, ck, rfl⟩ := hks.shape
  have hfx : FAt w2 (.agg #[.int .i64 o, .string nm, .string t, .slice ak ks.length ck]) (.mk o nm t ks) := ⟨_, rfl, hks⟩
  have hxcc : 1 + Ft.counts ks ≤ 256 := by rw [Ft.count] at hxc; exact hxc
  rw [KsAt] at hks
  obtain ⟨a', cap', hv', hkl63, hks⟩ := hks
  cases hv'
  have HKS := Lib.hid hks
  have HFX := Lib.hid hfx
  have HL2 := Lib.hid (HL1.out.trans hl2)
  simp only [Ft.val, Ft.op, Ft.name, Ft.text, Ft.kids]
  -- the filter's block
  obtain ⟨W, hW⟩ : ∃ W, W = w2.alloc (.cells #[.int .i64 o, .string nm, .string t, .slice ak ks.length ck] 26) := ⟨_, rfl⟩
  have hlW : Lay w2 W := by rw [hW]; exact (Keep.refl _ _).alloc _
  have k0 : W.cell? ⟨w2.heap.size, 0, none⟩ = some (.int .i64 o) := by rw [hW]; go_simp
  have k1 : W.cell? ⟨w2.heap.size, 1, none⟩ = some (.string nm) := by rw [hW]; go_simp
  have k2 : W.cell? ⟨w2.heap.size, 2, none⟩ = some (.string t) := by rw [hW]; go_simp
  have k3 : W.cell? ⟨w2.heap.size, 3, none⟩ = some (.slice ak ks.length ck) := by rw [hW]; go_simp
  have hsW : w2.heap.size < W.heap.size := by rw [hW]; simp
  have HW := Lib.hid hW.symm
  have HLW := Lib.hid hlW
  have HK := Lib.hid (And.intro k0 (And.intro k1 (And.intro k2 k3)))
  clear hks hfx hkb hl2 hW hlW HF hxc HI
  go_wp2_with fail
  rw [HW.out]
  go_loopw [4, 17] (fun vn vi wr => ∃ i : Nat, vi = .int .i64 i ∧ i ≤ ks.length ∧ vn = .int .i64 ((1 + Ft.counts (ks.take i) : Nat) : Int) ∧ Lay W wr) (fun _ vi _ => ks.length - (intOf vi).toNat)
  case atStart => exact ⟨0, rfl, Nat.zero_le _, rfl, Keep.refl _ _⟩
  case round =>
    obtain ⟨i, rfl, hi, rfl, hlr⟩ := hrel
    have HLR := Lib.hid hlr
    clear hlr
    by_cases hlt : i < ks.length
    · rcases HKS.out with h0 | ⟨b, off, rfl, hbl, hka⟩
      · exact absurd hlt (by rw [h0]; simp)
      have hbW : b < wr.heap.size := Nat.lt_of_lt_of_le hbl (Nat.le_trans HLW.out.size HLR.out.size)
      obtain ⟨kv, x0, x1, x2, x3, x4⟩ := KAt.get (KAt.below (Lay.below (HLW.out.trans HLR.out)) b hbl off ks hka) i hlt
      have hcm := Ft.counts_mem' ks i hlt
      have HCT := Lib.hid (Ft.counts_take ks i hlt)
      have hgx : Ft.good ks[i] = true := Ft.good_kid HXG.out (List.getElem_mem hlt)
      have hct := Ft.counts_take ks i hlt
      have hcl : Ft.counts (ks.take i) ≤ 256 := by
        have : ∀ (l : List Ft) (i : Nat), Ft.counts (l.take i) ≤ Ft.counts l := by
          intro l
          induction l with
          | nil => intro i; simp
          | cons x r ih =>
            intro i
            cases i with
            | zero => simp [Ft.counts]
            | succ i => simp only [List.take_succ_cons, Ft.counts]; have := ih i; omega
        have := this ks i
        omega
      clear hct
      generalize ks[i] = x at x0 x1 x2 x3 x4 hcm hgx HCT
      obtain ⟨ax, cx, rfl⟩ := x4.shape
      obtain ⟨W2, hW2⟩ : ∃ W2, W2 = wr.alloc (.cells #[.int .i64 x.op, .string x.name, .string x.text, .slice ax x.kids.length cx] 26) := ⟨_, rfl⟩
      have hl2 : Lay wr W2 := by rw [hW2]; exact (Keep.refl _ _).alloc _
      have j0 : W2.cell? ⟨wr.heap.size, 0, none⟩ = some (.int .i64 x.op) := by rw [hW2]; go_simp
      have j1 : W2.cell? ⟨wr.heap.size, 1, none⟩ = some (.string x.name) := by rw [hW2]; go_simp
      have j2 : W2.cell? ⟨wr.heap.size, 2, none⟩ = some (.string x.text) := by rw [hW2]; go_simp
      have j3 : W2.cell? ⟨wr.heap.size, 3, none⟩ = some (.slice ax x.kids.length cx) := by rw [hW2]; go_simp
      have hs2 : wr.heap.size < W2.heap.size := by rw [hW2]; simp
      have hfx : FAt W2 (.agg #[.int .i64 x.op, .string x.name, .string x.text, .slice ax x.kids.length cx]) x := ⟨_, rfl, KsAt.below hl2.below _ x x4⟩
      have HC := Lib.hid (HH.out.count x (by omega) W2 _ hfx)
      have HG := Lib.hid fun W3 (hl3 : Lay W2 W3) => HH.out.good x (by omega) W3 _ (hfx.lay hl3)
      rw [hgx] at HG
      have HW2 := Lib.hid hW2.symm
      have HLR2 := Lib.hid (HLR.out.trans hl2)
      clear hW2 hl2 hfx x4 hgx hka
      go_wp2_with fail
      rw [HW2.out]
      refine HC.out.mono ?_
      rintro e w3 ⟨rfl, hl3⟩
      have HG3 := Lib.hid (HG.out w3 hl3)
      have m0 := (hl3.cell hs2).trans j0
      have m1 := (hl3.cell hs2).trans j1
      have m2 := (hl3.cell hs2).trans j2
      have m3 := (hl3.cell hs2).trans j3
      have HLR3 := Lib.hid (HLR2.out.trans hl3)
      clear hl3 j0 j1 j2 j3 HC HG HW2
      go_wp2_with fail
      refine HG3.out.mono ?_
      rintro e w4 ⟨rfl, hl4⟩
      have HLR4 := Lib.hid (HLR3.out.trans hl4)
      clear hl4 HG3
      go_wp2_with fail
      go_roundw
      case rel =>
        refine ⟨i + 1, by go_num, by omega, ?_, HLR4.out⟩
        rw [HCT.out]
        congr 1
        omega
      case measure => simp [intOf]; omega
    · obtain rfl : i = ks.length := by omega
      obtain ⟨k0, k1, k2, k3⟩ := HK.out
      have n0 := (HLR.out.cell hsW).trans k0
      have n1 := (HLR.out.cell hsW).trans k1
      have n2 := (HLR.out.cell hsW).trans k2
      have n3 := (HLR.out.cell hsW).trans k3
      have hswr : w2.heap.size < wr.heap.size := Nat.lt_of_lt_of_le hsW HLR.out.size
      have HWR := Lib.hid ((HL2.out.trans HLW.out).trans HLR.out)
      have hfr := HFX.out.lay (HLW.out.trans HLR.out)
      have hcnt : (Ft.mk o nm t ks).count = 1 + Ft.counts ks := by rw [Ft.count]
      have hc0 := HH.out.count (.mk o nm t ks) (by omega) wr _ hfr
      rw [hcnt] at hc0
      have HC := Lib.hid hc0
      have HG := Lib.hid fun W3 (hl3 : Lay wr W3) => HH.out.good (.mk o nm t ks) (by omega) W3 _ (hfr.lay hl3)
      rw [HXG.out] at HG
      have htk : ks.take ks.length = ks := List.take_length
      rw [htk]
      clear hfr hcnt hc0 htk k0 k1 k2 k3
      go_wp2_with fail
      refine HC.out.mono ?_
      rintro e w3 ⟨rfl, hl3⟩
      have HG3 := Lib.hid (HG.out w3 hl3)
      have m0 := (hl3.cell hswr).trans n0
      have m1 := (hl3.cell hswr).trans n1
      have m2 := (hl3.cell hswr).trans n2
      have m3 := (hl3.cell hswr).trans n3
      have HW3 := Lib.hid (HWR.out.trans hl3)
      clear hl3 n0 n1 n2 n3 HC HG
      go_wp2_with fail
      refine HG3.out.mono ?_
      rintro e w4 ⟨rfl, hl4⟩
      have HW4 := Lib.hid (HW3.out.trans hl4)
      clear hl4 HG3
      go_wp2_with fail
      go_ret
      exact ⟨rfl, HW4.out⟩

end Go.Proofs.Ytgmahdeaggjjgaa
