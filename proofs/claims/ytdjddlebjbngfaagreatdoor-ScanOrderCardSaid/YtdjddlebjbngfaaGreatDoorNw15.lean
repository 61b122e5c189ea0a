/-
  scan.New, (*Engine).Len; AN ENGINE WITH ENTRIES (the law's filled).
-/
import Derived.Test.YtdjddlebjbngfaaGreatDoorAd15
namespace Go.Proofs.YtdjddlebjbngfaaGreatDoor.E4
open Go.RowKit Go

/-- Len. -/
theorem len_any (w : World) (B gb : Nat) (es : List Ent) (h : EngAt w B gb es) : Calls Tryz.prog 14 #[.pointer (some ⟨gb, 0, none⟩)] w fun e w' => e = .returned (.int .i64 es.length) ∧ w' = w := by
  obtain ⟨tv, h⟩ := h
  have c1 := h.c.cell 1
  simp only [List.getElem?_toArray, List.getElem?_cons_succ, List.getElem?_cons_zero] at c1
  clear h
  go_enter Tryz.func14, Tryz.ntmps14
  go_wp2_with fail
  go_ret
  exact ⟨rfl, rfl⟩

theorem len_nil (w : World) : Calls Tryz.prog 14 #[.pointer none] w fun e w' => e = .returned (.int .i64 0) ∧ w' = w := by
  go_enter Tryz.func14, Tryz.ntmps14
  go_wp2_with fail
  go_ret
  exact ⟨rfl, rfl⟩

/-- New. -/
theorem new_any (w : World) (hm : MaxI w) : Calls Tryz.prog 20 #[] w fun e w' => e = .returned (.pointer (some ⟨w.heap.size, 0, none⟩)) ∧ EngAt w' w.heap.size w.heap.size [] ∧ Lay w w' := by
  obtain ⟨w1, hw1⟩ : ∃ w1, w1 = w.alloc (.cells #[.slice none 0 0, .int .i64 0] 69) := ⟨_, rfl⟩
  have hl1 : Lay w w1 := by rw [hw1]; exact (Keep.refl _ w).alloc _
  have hg1 : Bl w1 w.heap.size 69 #[.slice none 0 0, .int .i64 0] := by rw [hw1]; exact Bl.new w _ _
  have HE : Hid (EngAt w1 w.heap.size w.heap.size []) := Lib.hid ⟨.slice none 0 0, hg1, Rk.nil 1 _ _, hm.pos, Nat.le_refl _, (fun x hx => by cases hx), List.Pairwise.nil, hm.below1 (lay_below hl1)⟩
  have HL := Lib.hid hl1
  have HW1 := Lib.hid hw1.symm
  clear hg1 hl1 hw1 hm
  go_enter Tryz.func20, Tryz.ntmps20
  go_wp2_with fail
  rw [HW1.out]
  go_ret
  exact ⟨rfl, HE.out, HL.out⟩

set_option maxHeartbeats 4000000 in
set_option maxRecDepth 100000 in
theorem filled_any {w : World} {v : Value} {es : List Ent} {G L : Nat → Prop} (h : EntsAt G L w v es) (hf : es.length ≤ 120) (hm : MaxI w) :
    Calls Tryz.prog 9 #[v] w fun x w' => ∃ gb, x = .returned (.pointer (some ⟨gb, 0, none⟩)) ∧ EngAt w' w.heap.size gb (addAll [] es) ∧ Below w.heap.size w w' := by
  obtain ⟨a, c, rfl, h63, hc⟩ := id h
  have HC := Lib.hid hc
  have HF := Lib.hid hf
  have hnew := new_any w hm
  clear h hc hf hm
  go_enter Tryz.func9, Tryz.ntmps9
  go_wp2_with fail
  refine hnew.mono ?_
  rintro x w1 ⟨rfl, he1, hl1⟩
  have HE1 := Lib.hid he1
  have HB1 := Lib.hid (lay_below hl1)
  clear he1 hl1 hnew
  go_wp2_with fail
  go_loopw [9] (fun vi wr => ∃ i : Nat, vi = .int .i64 i ∧ i ≤ es.length ∧ EngAt wr w.heap.size w.heap.size (addAll [] (es.take i)) ∧ Below w.heap.size w wr) (fun vi _ => es.length - (intOf vi).toNat)
  case atStart => exact ⟨0, rfl, Nat.zero_le _, by simpa [addAll] using HE1.out, HB1.out⟩
  case round =>
    obtain ⟨i, rfl, hi, he, hb⟩ := hrel
    have HE := Lib.hid he
    have HB := Lib.hid hb
    clear he
    by_cases hlt : i < es.length
    · rcases HC.out with h0 | ⟨be, oe, rfl, _, hbe, hce⟩
      · exact absurd hlt (by rw [h0]; simp)
      obtain ⟨lv, x0, x1, x2, x3⟩ := hce i hlt
      have hmem := List.getElem_mem hlt
      have htk := addAll_take [] es i hlt
      have hlen : (addAll [] (es.take i)).length ≤ 1000 := Nat.le_trans addAll_len (by have := HF.out; rw [List.length_take, List.length_nil]; omega)
      generalize es[i] = e at x0 x1 x2 x3 hmem htk
      obtain ⟨al, cl, rfl, hl63, _⟩ := id x3
      have y0 : wr.cell? ⟨be, oe + i * 3, none⟩ = _ := (hb.cell hbe).trans x0
      have y1 : wr.cell? ⟨be, oe + i * 3 + 1, none⟩ = _ := (hb.cell hbe).trans x1
      have y2 : wr.cell? ⟨be, oe + i * 3 + 2, none⟩ = _ := (hb.cell hbe).trans x2
      have hb2 : Below wr.heap.size wr (wr.alloc (.cells #[.int .i64 e.tm, .slice al e.labs.length cl, .string e.line] 29)) := (Below.refl _ wr).alloc (Nat.le_refl _) _
      have hbw : w.heap.size ≤ wr.heap.size := hb.size
      have HA := Lib.hid (add_any (e := e) (HE.out.below hb2) (((x3.mono (H := fun b => b < w.heap.size) fun b _ hlt => hlt).carry hbw fun b hb3 hlt => hb.block b hb3).below1 hb2) (fun _ h => h) hlen)
      have HB2 := Lib.hid hb2
      have HTK := Lib.hid htk
      have HBW := Lib.hid hbw
      simp only [Ent.val] at HA
      clear x0 x1 x2 x3 hmem htk hlen hce hb2 hb hbw
      go_wp2_with fail
      refine HA.out.mono ?_
      rintro x w3 ⟨rfl, he3, hb3⟩
      have HE3 := Lib.hid he3
      have HB3 := Lib.hid ((HB.out.trans (HB2.out.mono HBW.out)).trans hb3)
      clear he3 hb3 y0 y1 y2 HA
      go_wp2
      go_roundw
      case rel => exact ⟨i + 1, by go_num, by omega, by rw [HTK.out]; exact HE3.out, HB3.out⟩
      case measure => simp [intOf]; omega
    · obtain rfl : i = es.length := by omega
      clear hb
      go_wp2_with fail
      go_ret
      exact ⟨_, rfl, by have := HE.out; rwa [List.take_of_length_le (Nat.le_refl _)] at this, HB.out⟩

end Go.Proofs.YtdjddlebjbngfaaGreatDoor.E4
