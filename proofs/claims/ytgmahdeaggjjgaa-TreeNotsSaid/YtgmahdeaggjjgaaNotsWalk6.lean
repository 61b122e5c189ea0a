/-
  magpielaw06.TreeNots: the walk; what tree's calls do stands ahead of it ('TreeCalls').
-/
import Derived.Test.YtgmahdeaggjjgaaAlive6
import Derived.Test.YtgmahdeaggjjgaaNots0
import Derived.Test.YtgmahdeaggjjgaaGood6
namespace Go.Proofs.Ytgmahdeaggjjgaa
open Go.RowKit Go

/-- A filter that is kept at a place, and so many nots around it. -/
structure NotsAt (W : World) (F : Nat) (X : Ft) (k : Nat) (kv : Value) (wr : World) : Prop where
  bx : Bx wr F (.int .i64 (Ft.nots k X).op) (.string (Ft.nots k X).name) (.string (Ft.nots k X).text) kv
  ks : KsB (fun b => b ≠ F) wr kv (Ft.nots k X)
  keep : Keep (fun b => b = F) W wr

theorem NotsAt.step {W wr : World} {F : Nat} {X : Ft} {k : Nat} {kv : Value} (h : NotsAt W F X k kv wr) (hF : F < W.heap.size) :
    NotsAt W F X (k + 1) (.slice (some ⟨wr.heap.size, 0, none⟩) 1 1)
      ((stored wr F (.int .i64 6) (.string ⟨#[]⟩) (.string ⟨#[]⟩) (.slice (some ⟨wr.heap.size, 0, none⟩) 1 1)).alloc (.cells #[.int .i64 (Ft.nots k X).op, .string (Ft.nots k X).name, .string (Ft.nots k X).text, kv] 26)) := by
  have hFr : F < wr.heap.size := Nat.lt_of_lt_of_le hF h.keep.size
  obtain ⟨hbx, hks, hkp⟩ := h
  have hn : Ft.nots (k + 1) X = .mk 6 ⟨#[]⟩ ⟨#[]⟩ [Ft.nots k X] := rfl
  obtain ⟨S, hS⟩ : ∃ S, S = stored wr F (.int .i64 6) (.string ⟨#[]⟩) (.string ⟨#[]⟩) (.slice (some ⟨wr.heap.size, 0, none⟩) 1 1) := ⟨_, rfl⟩
  have hz : S.heap.size = wr.heap.size := by rw [hS]; exact stored_size _ _ _ _
  have hb := hbx.all (.int .i64 6) (.string ⟨#[]⟩) (.string ⟨#[]⟩) (.slice (some ⟨wr.heap.size, 0, none⟩) 1 1)
  have hk : Keep (fun b => b = F) W S := by rw [hS]; exact (((hkp.setCell (p := ⟨F, 0, none⟩) (.inr rfl) _).setCell (p := ⟨F, 1, none⟩) (.inr rfl) _).setCell (p := ⟨F, 2, none⟩) (.inr rfl) _).setCell (p := ⟨F, 3, none⟩) (.inr rfl) _
  have ho : ∀ b, b ≠ F → S.heap[b]? = wr.heap[b]? := fun b hb => by rw [hS]; exact stored_other hb _ _ _ _
  rw [← hS] at hb ⊢
  generalize Ft.nots k X = Y at hbx hks hn ⊢
  have hl : Lay S (S.alloc (.cells #[.int .i64 Y.op, .string Y.name, .string Y.text, kv] 26)) := (Keep.refl _ _).alloc _
  have hr := rk_new 4 S 1 (flatK [(kv, Y)]) 26 rfl (by omega)
  rw [hz] at hr
  refine ⟨?_, ?_, hk.alloc _⟩
  · rw [hn]
    exact hb.carry (hl.block (by omega))
  · rw [hn]
    have hy : KsB (fun b => b ≠ F) (S.alloc (.cells #[.int .i64 Y.op, .string Y.name, .string Y.text, kv] 26)) kv Y :=
      KsB.keep hl.size (fun b _ hb => hl.block hb) _ _ (KsB.keep (Nat.le_of_eq hz.symm) (fun b hb _ => ho b hb) _ _ hks)
    exact KsB.of_rk (R := [(kv, Y)]) (fun b hb => by rw [hb]; omega) hr (fun p hp => by rw [List.mem_singleton.1 hp]; exact hy) (by simp) 6 ⟨#[]⟩ ⟨#[]⟩

theorem NotsAt.lay {w W wr : World} {F : Nat} {X : Ft} {k : Nat} {kv : Value} (h : NotsAt W F X k kv wr) (hl : Lay w W) (hF : w.heap.size ≤ F) : Lay w wr :=
  ⟨h.keep.os.trans hl.os, h.keep.tape.trans hl.tape, h.keep.output.trans hl.output, Nat.le_trans hl.size h.keep.size, Nat.le_trans hl.drawn h.keep.drawn, fun b hb _ =>
    (h.keep.block b (Nat.lt_of_lt_of_le hb hl.size) (fun hv => by subst hv; omega)).trans (hl.block hb)⟩

set_option maxHeartbeats 8000000 in
set_option maxRecDepth 100000 in
theorem nots_walk (H : TreeCalls) (l : List Int) (n : Int) (w : World) (v : Value) (h : IntsAt w v l) : Calls Try.prog 7 #[v, .int .i64 n] w fun e w' => e = .returned (.bool true) ∧ Lay w w' := by
  obtain ⟨a, cap, rfl, hl63, _⟩ := id h
  have HI := Lib.hid h
  have HH := Lib.hid H
  have HA := Lib.hid (alive_any H w)
  clear h H
  go_enter Try.func7, Try.ntmps7
  go_wp2_with fail
  refine HA.out.mono ?_
  rintro e w1 ⟨rfl, hl1⟩
  have HL1 := Lib.hid hl1
  by_cases h300 : 300 < l.length
  · have hd : decide (300 < (l.length : Int)) = true := by simp; omega
    go_wp2_with fail
    go_ret
    exact ⟨rfl, HL1.out⟩
  have hd : decide (300 < (l.length : Int)) = false := by simp; omega
  by_cases hn0 : n < 0
  · have hd0 : decide (n < 0) = true := decide_eq_true hn0
    go_wp2_with fail
    go_ret
    exact ⟨rfl, HL1.out⟩
  have hd0 : decide (n < 0) = false := decide_eq_false hn0
  by_cases hn1 : 20 < n
  · have hd1 : decide (20 < n) = true := decide_eq_true hn1
    go_wp2_with fail
    go_ret
    exact ⟨rfl, HL1.out⟩
  have hd1 : decide (20 < n) = false := decide_eq_false hn1
  obtain ⟨N, rfl⟩ : ∃ N : Nat, n = N := ⟨n.toNat, by omega⟩
  have hf := law_filter l w1 _ (HI.out.lay hl1)
  unfold FilterP at hf
  have hmc := Ft.make_count l 4 0
  have hmg := Ft.make_good l 4 0 (by decide)
  obtain ⟨X, hX⟩ : ∃ X, X = (Ft.make l 4 0).1 := ⟨_, rfl⟩
  rw [← hX] at hf hmc hmg
  have HF := Lib.hid hf
  have hxc : X.count ≤ 256 := hmc
  have HXG := Lib.hid hmg
  clear hl1 hf hX hmc hmg HA
  go_wp2_with fail
  refine HF.out.mono ?_
  rintro e w2 ⟨kv, rfl, hkb, hl2⟩
  have hks := KsB.at _ _ hkb
  have HKB := Lib.hid hkb
  obtain ⟨o, nm, t, ks⟩ := X
  obtain ⟨ak, ck, rfl⟩ := hks.shape
  have hfx : FAt w2 (.agg #[.int .i64 o, .string nm, .string t, .slice ak ks.length ck]) (.mk o nm t ks) := ⟨_, rfl, hks⟩
  have hxcc : 1 + Ft.counts ks ≤ 256 := by rw [Ft.count] at hxc; exact hxc
  rw [KsAt] at hks
  obtain ⟨a', cap', hv', hkl63, hks⟩ := hks
  cases hv'
  have HKS := Lib.hid hks
  have HFX := Lib.hid hfx
  have HL2 := Lib.hid (HL1.out.trans hl2)
  simp only [Ft.val, Ft.op, Ft.name, Ft.text, Ft.kids]
  -- the filter's block
  obtain ⟨W, hW⟩ : ∃ W, W = w2.alloc (.cells #[.int .i64 o, .string nm, .string t, .slice ak ks.length ck] 26) := ⟨_, rfl⟩
  have hlW : Lay w2 W := by rw [hW]; exact (Keep.refl _ _).alloc _
  have hbF : Bx W w2.heap.size (.int .i64 o) (.string nm) (.string t) (.slice ak ks.length ck) := by rw [hW]; exact ⟨by go_simp, by go_simp, by go_simp, by go_simp, by go_simp, by go_simp, by go_simp, by go_simp⟩
  have HBF := Lib.hid hbF
  have k0 : W.cell? ⟨w2.heap.size, 0, none⟩ = some (.int .i64 o) := by rw [hW]; go_simp
  have k1 : W.cell? ⟨w2.heap.size, 1, none⟩ = some (.string nm) := by rw [hW]; go_simp
  have k2 : W.cell? ⟨w2.heap.size, 2, none⟩ = some (.string t) := by rw [hW]; go_simp
  have k3 : W.cell? ⟨w2.heap.size, 3, none⟩ = some (.slice ak ks.length ck) := by rw [hW]; go_simp
  have hsW : w2.heap.size < W.heap.size := by rw [hW]; simp
  have HW := Lib.hid hW.symm
  have HLW := Lib.hid hlW
  have HK := Lib.hid (And.intro k0 (And.intro k1 (And.intro k2 k3)))
  clear hks hfx hkb hl2 hW hlW HF hxc HI hbF
  have HC := Lib.hid (HH.out.count (.mk o nm t ks) (by rw [Ft.count]; omega) W _ (HFX.out.lay HLW.out))
  obtain ⟨k0, k1, k2, k3⟩ := id HK.out
  go_wp2_with fail
  rw [HW.out]
  go_wp2_with fail
  refine HC.out.mono ?_
  rintro e w3 ⟨rfl, hl3⟩
  have m0 := (hl3.cell hsW).trans k0
  have m1 := (hl3.cell hsW).trans k1
  have m2 := (hl3.cell hsW).trans k2
  have m3 := (hl3.cell hsW).trans k3
  have HL3 := Lib.hid (HLW.out.trans hl3)
  have HLW3 := Lib.hid hl3
  have hxc2 : (Ft.mk o nm t ks).count ≤ 256 := by rw [Ft.count]; omega
  have HR := Lib.hid (rows_any (Ft.mk o nm t ks).count (.mk o nm t ks) 0 w3 _ (Nat.le_refl _) (by omega) (by omega) (HFX.out.lay (HLW.out.trans hl3)))
  obtain ⟨RS, hRS⟩ : ∃ RS, RS = Ft.rows 0 (.mk o nm t ks) := ⟨_, rfl⟩
  have hrl : RS.length ≤ 256 := by rw [hRS, Ft.rows_length]; exact hxc2
  rw [← hRS] at HR
  have HRS := Lib.hid hRS
  clear hl3 HC hRS k0 k1 k2 k3
  go_wp2_with fail
  refine HR.out.mono ?_
  rintro e w4 ⟨vr, rfl, hrk, hl4⟩
  obtain ⟨ar, cr, rfl⟩ := hrk.shape
  have HRK := Lib.hid hrk
  have HLW4 := Lib.hid (HLW3.out.trans hl4)
  clear hrk hl4 HR m0 m1 m2 m3
  go_wp2_with fail
  have hdp : ∀ i, Ft.deepest (RS.take i) ≤ 18 := fun i => (Ft.deepest_le 18 _).2 fun r hr => (Ft.deepest_le 18 RS).1 (by rw [HRS.out]; exact Ft.deepest_good _ HXG.out) r (List.mem_of_mem_take hr)
  obtain ⟨ar', cr', hvr, hrow⟩ := HRK.out.rowAt
  cases hvr
  have HROW := Lib.hid hrow
  have HDP := Lib.hid hdp
  clear hrow hdp k0 k1 k2 k3
  go_loopw [7, 31] (fun vd vi wr => ∃ i : Nat, vi = .int .i64 i ∧ i ≤ RS.length ∧ vd = .int .i64 (Ft.deepest (RS.take i) : Nat) ∧ Lay w4 wr) (fun _ vi _ => RS.length - (intOf vi).toNat)
  case atStart => exact ⟨0, rfl, Nat.zero_le _, rfl, Keep.refl _ _⟩
  case round =>
    obtain ⟨i, rfl, hi, rfl, hlr⟩ := hrel
    by_cases hlt : i < RS.length
    · rcases HROW.out with h0 | ⟨b, rfl, hg, hb, hc⟩
      · exact absurd hlt (by rw [h0]; simp)
      obtain ⟨x0, x1, x2, x3, x4⟩ := hc i hlt
      have y0 := (hlr.cell hb).trans x0
      have y1 := (hlr.cell hb).trans x1
      have y2 := (hlr.cell hb).trans x2
      have y3 := (hlr.cell hb).trans x3
      have y4 := (hlr.cell hb).trans x4
      have hd18 : Ft.deepest (RS.take i) ≤ 18 := HDP.out i
      have hd18' : Ft.deepest (RS.take (i + 1)) ≤ 18 := HDP.out (i + 1)
      rw [Ft.deepest_take RS i hlt] at hd18'
      have HSN := Lib.hid (Ft.deepest_take RS i hlt)
      have hbr : b < wr.heap.size := Nat.lt_of_lt_of_le hb hlr.size
      generalize RS[i] = r at y0 y1 y2 y3 y4 HSN hd18'
      obtain ⟨ro, rn, rt, rk, rd⟩ := r
      simp only at y0 y1 y2 y3 y4 HSN hd18'
      have HLR := Lib.hid hlr
      clear hc x0 x1 x2 x3 x4 hlr
      go_wp2_with fail
      go_roundw
      case rel =>
        refine ⟨i + 1, by go_num, by omega, ?_, HLR.out.alloc _⟩
        rw [HSN.out]
        go_num
      case measure => simp [intOf]; omega
    · obtain rfl : i = RS.length := by omega
      have hds : Ft.deepest RS ≤ 18 := by have := HDP.out RS.length; rwa [List.take_length] at this
      rw [List.take_length]
      have hww : Lay W wr := HLW4.out.trans hlr
      have hn0 : NotsAt W w2.heap.size (.mk o nm t ks) 0 (.slice ak ks.length ck) wr := by
        have hlw : Lay w2 wr := HLW.out.trans hww
        refine ⟨HBF.out.carry (hww.block hsW), KsB.keep hlw.size (fun b _ hb => hlw.block hb) _ _ (KsB.mono (fun b hb _ => Nat.ne_of_lt hb) _ _ HKB.out), Keep.into hww fun _ _ h => h.elim⟩
      have HN0 := Lib.hid hn0
      clear hn0 hww hlr HROW
      go_wp2_with fail
      go_loopw [10] (fun vk wr => ∃ (k : Nat) (kv : Value), vk = .int .i64 k ∧ k ≤ N ∧ NotsAt W w2.heap.size (.mk o nm t ks) k kv wr) (fun vk _ => N - (intOf vk).toNat)
      case atStart => exact ⟨0, _, rfl, Nat.zero_le _, HN0.out⟩
      case round =>
        rename_i wr0 _ _ _ _ _ _ wr
        obtain ⟨k, kv, rfl, hk, hn⟩ := hrel
        by_cases hlt : k < N
        · obtain ⟨c0, c1, c2, c3, f0, f1, f2, f3⟩ := hn.bx
          have hsr : w2.heap.size < wr.heap.size := Nat.lt_of_lt_of_le hsW hn.keep.size
          have HN := Lib.hid (hn.step hsW)
          clear hn
          go_wp2_with fail
          go_roundw
          case rel => exact ⟨k + 1, _, by go_num, by omega, HN.out⟩
          case measure => simp [intOf]; omega
        · obtain rfl : k = N := by omega
          have hsr : w2.heap.size < wr.heap.size := Nat.lt_of_lt_of_le hsW hn.keep.size
          have hfa : FAt wr (.agg #[.int .i64 (Ft.nots k (.mk o nm t ks)).op, .string (Ft.nots k (.mk o nm t ks)).name, .string (Ft.nots k (.mk o nm t ks)).text, kv]) (Ft.nots k (.mk o nm t ks)) := ⟨_, rfl, KsB.at _ _ hn.ks⟩
          have hct : (Ft.nots k (.mk o nm t ks)).count = (Ft.mk o nm t ks).count + k := Ft.nots_count k _
          have hgd := Ft.nots_good k _ HXG.out
          rw [← HRS.out] at hgd
          have HCT := Lib.hid hct
          have HLZ := Lib.hid (hn.lay (HL2.out.trans HLW.out) HL2.out.size)
          obtain ⟨c0, c1, c2, c3, _, _, _, _⟩ := hn.bx
          generalize Ft.nots k (.mk o nm t ks) = Y at c0 c1 c2 c3 hfa hct hgd HCT
          have hc0 := HH.out.count Y (by omega) wr _ hfa
          rw [hct] at hc0
          have HC := Lib.hid hc0
          have HG := Lib.hid fun W3 (hl3 : Lay wr W3) => HH.out.good Y (by omega) W3 _ (hfa.lay hl3)
          rw [hgd] at HG
          clear hn hfa hct hgd hc0
          generalize (Ft.mk o nm t ks).count = C at HC hxc2 ⊢
          go_wp2_with fail
          refine HC.out.mono ?_
          rintro e w5 ⟨rfl, hl5⟩
          have HG5 := Lib.hid (HG.out w5 hl5)
          have m0 := (hl5.cell hsr).trans c0
          have m1 := (hl5.cell hsr).trans c1
          have m2 := (hl5.cell hsr).trans c2
          have m3 := (hl5.cell hsr).trans c3
          have HL5 := Lib.hid (HLZ.out.trans hl5)
          clear hl5 c0 c1 c2 c3 HC HG
          go_wp2_with fail
          refine HG5.out.mono ?_
          rintro e w6 ⟨rfl, hl6⟩
          have HL6 := Lib.hid (HL5.out.trans hl6)
          have hdd : decide (Ft.deepest RS + k ≤ 18) = decide ((Ft.deepest RS : Int) + (k : Int) ≤ 18) := by
            rw [decide_eq_decide]; omega
          rw [hdd]
          clear hl6 HG5 hdd
          go_wp2_with fail
          go_ret
          exact ⟨rfl, HL6.out⟩

end Go.Proofs.Ytgmahdeaggjjgaa
