/-
  stream.New, (*Engine).Len; AN ENGINE WITH ENTRIES (the law's filled).
-/
import Derived.Test.YtgfjbboeappemaaGreatDoorAd14
namespace Go.Proofs.YtgfjbboeappemaaGreatDoor.E4
open Go.RowKit Go

/-- Len. -/
theorem len_any (w : World) (B gb : Nat) (es : List Ent) (h : EngAt w B gb es) : Calls Tryz.prog 15 #[.pointer (some ⟨gb, 0, none⟩)] w fun e w' => e = .returned (.int .i64 es.length) ∧ w' = w := by
  obtain ⟨κ, ω, mb, n, f, h, _⟩ := h
  have c1 := h.c.cell 1
  simp only [List.getElem?_toArray, List.getElem?_cons_succ, List.getElem?_cons_zero] at c1
  clear h
  go_enter Tryz.func15, Tryz.ntmps15
  go_wp2_with fail
  go_ret
  exact ⟨rfl, rfl⟩

theorem len_nil (w : World) : Calls Tryz.prog 15 #[.pointer none] w fun e w' => e = .returned (.int .i64 0) ∧ w' = w := by
  go_enter Tryz.func15, Tryz.ntmps15
  go_wp2_with fail
  go_ret
  exact ⟨rfl, rfl⟩

/-- New. -/
theorem new_any (w : World) : Calls Tryz.prog 20 #[] w fun e w' => e = .returned (.pointer (some ⟨w.heap.size + 1, 0, none⟩)) ∧ EngAt w' w.heap.size (w.heap.size + 1) [] ∧ Lay w w' := by
  have hm := @run_makeMap Tryz.prog
  obtain ⟨w1, hw1⟩ : ∃ w1, w1 = w.alloc (.map #[] 0) := ⟨_, rfl⟩
  obtain ⟨w3, hw3⟩ : ∃ w3, w3 = w1.alloc (.cells #[.map (some w.heap.size), .int .i64 0] 77) := ⟨_, rfl⟩
  have hs1 : w1.heap.size = w.heap.size + 1 := by rw [hw1]; simp
  have hl1 : Lay w w1 := by rw [hw1]; exact (Keep.refl _ w).alloc _
  have hl3 : Lay w1 w3 := by rw [hw3]; exact (Keep.refl _ w1).alloc _
  have hm1 : MapAt Tryz.prog 9 w1 w.heap.size 0 (fun _ => none) := by rw [hw1]; exact MapAt.made _ _ _
  have hg3 : Bl w3 (w.heap.size + 1) 77 #[.map (some w.heap.size), .int .i64 0] := by rw [hw3, ← hs1]; exact Bl.new w1 _ _
  have hm13 : MapAt Tryz.prog 9 w3 w.heap.size 0 (fun _ => none) := hm1.carry ((Lay.block hl3 hm1.lt))
  have HE : Hid (EngAt w3 w.heap.size (w.heap.size + 1) []) := Lib.hid ⟨fun b => if b = w.heap.size then 2 else 1, fun _ => ⟨#[]⟩, w.heap.size, 0, fun _ => none, ⟨hg3, hm13, fun s t h => (by cases h), fun x => (by simp), ⟨by omega, by simp⟩, ⟨Nat.le_refl _, by simp⟩⟩, Nat.le_refl _⟩
  have HL := Lib.hid (Keep.trans hl1 hl3)
  rw [hw1] at hw3
  have HW3 := Lib.hid hw3.symm
  clear hm1 hg3 hm13 hl1 hl3 hs1 hw1 hw3
  go_enter Tryz.func20, Tryz.ntmps20
  go_wp2_with fail
  rw [HW3.out]
  go_ret
  exact ⟨rfl, HE.out, HL.out⟩

set_option maxHeartbeats 4000000 in
set_option maxRecDepth 100000 in
theorem filled_any {w : World} {v : Value} {es : List Ent} {G L : Nat → Prop} (h : EntsAt G L w v es) (hf : Fine13 es) :
    Calls Tryz.prog 10 #[v] w fun x w' => ∃ gb, x = .returned (.pointer (some ⟨gb, 0, none⟩)) ∧ EngAt w' w.heap.size gb (addAll [] es) ∧ Below w.heap.size w w' := by
  obtain ⟨a, c, rfl, h63, hc⟩ := id h
  have HC := Lib.hid hc
  have HF := Lib.hid hf
  have hnew := fun W => new_any W
  clear h hc hf
  go_enter Tryz.func10, Tryz.ntmps10
  go_wp2_with fail
  refine (hnew _).mono ?_
  rintro x w1 ⟨rfl, he1, hl1⟩
  have HE1 := Lib.hid he1
  have HB1 := Lib.hid (lay_below hl1)
  clear he1 hl1 hnew
  go_wp2_with fail
  go_loopw [9] (fun vi wr => ∃ i : Nat, vi = .int .i64 i ∧ i ≤ es.length ∧ EngAt wr w.heap.size (w.heap.size + 1) (addAll [] (es.take i)) ∧ Below w.heap.size w wr) (fun vi _ => es.length - (intOf vi).toNat)
  case atStart => exact ⟨0, rfl, Nat.zero_le _, by simpa [addAll] using HE1.out, HB1.out⟩
  case round =>
    obtain ⟨i, rfl, hi, he, hb⟩ := hrel
    have HE := Lib.hid he
    have HB := Lib.hid hb
    clear he
    by_cases hlt : i < es.length
    · rcases HC.out with h0 | ⟨be, oe, rfl, _, hbe, hce⟩
      · exact absurd hlt (by rw [h0]; simp)
      obtain ⟨lv, x0, x1, x2, x3⟩ := hce i hlt
      have hmem := List.getElem_mem hlt
      have htk := addAll_take [] es i hlt
      have hmd := HF.out.m _ hmem
      have hlen : (addAll [] (es.take i)).length ≤ 1000 := Nat.le_trans addAll_len (by have := HF.out.n; rw [List.length_take, List.length_nil]; omega)
      generalize es[i] = e at x0 x1 x2 x3 hmem htk hmd
      obtain ⟨al, cl, rfl, hl63, _⟩ := id x3
      have y0 : wr.cell? ⟨be, oe + i * 3, none⟩ = _ := (hb.cell hbe).trans x0
      have y1 : wr.cell? ⟨be, oe + i * 3 + 1, none⟩ = _ := (hb.cell hbe).trans x1
      have y2 : wr.cell? ⟨be, oe + i * 3 + 2, none⟩ = _ := (hb.cell hbe).trans x2
      have hb2 : Below wr.heap.size wr (wr.alloc (.cells #[.int .i64 e.tm, .slice al e.labs.length cl, .string e.line] 29)) := (Below.refl _ wr).alloc (Nat.le_refl _) _
      have hbw : w.heap.size ≤ wr.heap.size := hb.size
      have HA := Lib.hid (add_any (e := e) (HE.out.below hb2) (Nat.le_trans hbw hb2.size) (((x3.mono (H := fun b => b < w.heap.size) fun b _ hlt => hlt).carry hbw fun b hb3 hlt => hb.block b hb3).below1 hb2) hmd hlen)
      have HB2 := Lib.hid hb2
      have HTK := Lib.hid htk
      have HBW := Lib.hid hbw
      simp only [Ent.val] at HA
      clear x0 x1 x2 x3 hmem htk hmd hlen hce hb2 hb hbw
      go_wp2_with fail
      refine HA.out.mono ?_
      rintro x w3 ⟨rfl, he3, hb3⟩
      have HE3 := Lib.hid he3
      have HB3 := Lib.hid ((HB.out.trans (HB2.out.mono HBW.out)).trans hb3)
      clear he3 hb3 y0 y1 y2 HA
      go_wp2
      go_roundw
      case rel => exact ⟨i + 1, by go_num, by omega, by rw [HTK.out]; exact HE3.out, HB3.out⟩
      case measure => simp [intOf]; omega
    · obtain rfl : i = es.length := by omega
      clear hb
      go_wp2_with fail
      go_ret
      exact ⟨_, rfl, by have := HE.out; rwa [List.take_of_length_le (Nat.le_refl _)] at this, HB.out⟩

end Go.Proofs.YtgfjbboeappemaaGreatDoor.E4
