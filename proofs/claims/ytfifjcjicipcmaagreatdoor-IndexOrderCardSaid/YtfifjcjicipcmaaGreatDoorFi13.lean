/-
  AN ENGINE WITH ENTRIES (the law's filled).
-/
import Derived.Test.YtfifjcjicipcmaaGreatDoorAd13
namespace Go.Proofs.YtfifjcjicipcmaaGreatDoor.E4
open Go.RowKit Go
open Go.Sort (grow)

/-- Entries that are no more than is played. -/
structure Fine13 (es : List Ent) : Prop where
  m : ∀ x ∈ es, x.Mod
  l : ∀ x ∈ es, x.line.size ≤ 1000
  n : es.length ≤ 1000

theorem addAll_fine {es : List Ent} (h : ∀ x ∈ es, x.Mod) (i : Nat) : ∀ x ∈ addAll [] (es.take i), x.Mod := fun x hx => by
  rcases addAll_mem.1 hx with h1 | h1
  · cases h1
  · exact h x (List.mem_of_mem_take h1.1)

set_option maxHeartbeats 4000000 in
set_option maxRecDepth 100000 in
theorem filled_any {w : World} {v : Value} {es : List Ent} {G L : Nat → Prop} (h : EntsAt G L w v es) (hf : Fine13 es) :
    Calls Tryz.prog 9 #[v] w fun x w' => ∃ gb, x = .returned (.pointer (some ⟨gb, 0, none⟩)) ∧ EngAt w' w.heap.size gb (addAll [] es) ∧ Below w.heap.size w w' := by
  obtain ⟨a, c, rfl, h63, hc⟩ := id h
  have HC := Lib.hid hc
  have HH := Lib.hid h
  have HF := Lib.hid hf
  have hnew := fun W => new_any W
  clear h hc hf
  go_enter Tryz.func9, Tryz.ntmps9
  go_wp2_with fail
  refine (hnew _).mono ?_
  rintro x w1 ⟨rfl, he1, hl1⟩
  have HE1 := Lib.hid he1
  have HB1 := Lib.hid (lay_below hl1)
  clear he1 hl1 hnew
  go_wp2_with fail
  go_loopw [9] (fun vi wr => ∃ i : Nat, vi = .int .i64 i ∧ i ≤ es.length ∧ EngAt wr w.heap.size (w.heap.size + 2) (addAll [] (es.take i)) ∧ Below w.heap.size w wr) (fun vi _ => es.length - (intOf vi).toNat)
  case atStart => exact ⟨0, rfl, Nat.zero_le _, by simpa [addAll] using HE1.out, HB1.out⟩
  case round =>
    obtain ⟨i, rfl, hi, he, hb⟩ := hrel
    have HE := Lib.hid he
    have HB := Lib.hid hb
    clear he
    by_cases hlt : i < es.length
    · rcases HC.out with h0 | ⟨be, oe, rfl, _, hbe, hce⟩
      · exact absurd hlt (by rw [h0]; simp)
      obtain ⟨lv, x0, x1, x2, x3⟩ := hce i hlt
      have hmem := List.getElem_mem hlt
      have htk := addAll_take [] es i hlt
      have hmd := HF.out.m _ hmem
      have hln := HF.out.l _ hmem
      have hlen : (addAll [] (es.take i)).length ≤ 1000 := Nat.le_trans addAll_len (by have := HF.out.n; rw [List.length_take, List.length_nil]; omega)
      generalize es[i] = e at x0 x1 x2 x3 hmem htk hmd hln
      obtain ⟨al, cl, rfl, hl63, _⟩ := id x3
      have y0 : wr.cell? ⟨be, oe + i * 3, none⟩ = _ := (hb.cell hbe).trans x0
      have y1 : wr.cell? ⟨be, oe + i * 3 + 1, none⟩ = _ := (hb.cell hbe).trans x1
      have y2 : wr.cell? ⟨be, oe + i * 3 + 2, none⟩ = _ := (hb.cell hbe).trans x2
      have hb2 : Below wr.heap.size wr (wr.alloc (.cells #[.int .i64 e.tm, .slice al e.labs.length cl, .string e.line] 29)) := (Below.refl _ wr).alloc (Nat.le_refl _) _
      have hbw : w.heap.size ≤ wr.heap.size := hb.size
      have HA := Lib.hid (add_any (e := e) (HE.out.below hb2) (Nat.le_trans hbw hb2.size) (((x3.mono (H := fun b => b < w.heap.size) fun b _ hlt => hlt).carry hbw fun b hb3 hlt => hb.block b hb3).below1 hb2) hmd hln (addAll_fine HF.out.m i) hlen)
      have HB2 := Lib.hid hb2
      have HTK := Lib.hid htk
      have HBW := Lib.hid hbw
      simp only [Ent.val] at HA
      clear x0 x1 x2 x3 hmem htk hmd hln hlen hce hb2 hb hbw
      go_wp2_with fail
      refine HA.out.mono ?_
      rintro x w3 ⟨rfl, he3, hb3⟩
      have HE3 := Lib.hid he3
      have HB3 := Lib.hid ((HB.out.trans (HB2.out.mono HBW.out)).trans hb3)
      clear he3 hb3 y0 y1 y2 HA
      go_wp2
      go_roundw
      case rel => exact ⟨i + 1, by go_num, by omega, by rw [HTK.out]; exact HE3.out, HB3.out⟩
      case measure => simp [intOf]; omega
    · obtain rfl : i = es.length := by omega
      clear hb
      go_wp2_with fail
      go_ret
      exact ⟨_, rfl, by have := HE.out; rwa [List.take_of_length_le (Nat.le_refl _)] at this, HB.out⟩

end Go.Proofs.YtfifjcjicipcmaaGreatDoor.E4
