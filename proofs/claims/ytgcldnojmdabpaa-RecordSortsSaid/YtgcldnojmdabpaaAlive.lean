/-
  magpielaw04.alive.
-/
import Derived.Test.YtgcldnojmdabpaaSort
import Derived.Test.YtgcldnojmdabpaaGood
import Derived.Test.YtgcldnojmdabpaaPutE
namespace Go.Proofs.Ytgcldnojmdabpaa
open Go.RowKit Go

def eA : Ent := ⟨5, [], ⟨#[98]⟩⟩
def eB : Ent := ⟨6, [⟨⟨#[97, 112, 112]⟩, ⟨#[120]⟩⟩], ⟨#[97]⟩⟩

theorem ab : entC eA eB = -1 := by
  unfold entC eA eB intC Lib.compareInt orI
  simp

theorem eB_ok : eB.ok = true := by kernel_rfl

theorem eA_len : eA.bytes.length = 4 := by
  unfold Ent.bytes eA labsB labsF textB Lib.zigzag
  simp [Lib.uvarint_small]

theorem eA_mod : eA.Mod := ⟨by decide, by decide, ⟨by decide, fun x hx => by simp [eA] at hx⟩, by decide⟩

theorem sorted_ab {out : List Ent} (h : Sorts (ordC true) [eA, eB, eA] out) : out = [eB, eA] := by
  refine h.unique (ordC_lc true) (fs := [eA, eB, eA]) ⟨?_, fun x => ?_⟩ fun x => Iff.rfl
  · refine List.pairwise_cons.2 ⟨fun b hb => ?_, List.pairwise_singleton _ _⟩
    rw [List.mem_singleton.1 hb]
    exact ab
  · simp only [List.mem_cons, List.not_mem_nil, or_false]
    constructor
    · rintro (h | h)
      · exact .inr (.inl h)
      · exact .inl h
    · rintro (h | h | h)
      · exact .inr h
      · exact .inl h
      · exact .inr h

theorem aliveW (w : World) : ∃ W4, W4 = ((((w.alloc (.cells #[.string ⟨#[97, 112, 112]⟩, .string ⟨#[120]⟩] 55)).alloc (.cells #[.int .i64 5, .slice none 0 0, .string ⟨#[98]⟩] 24)).alloc (.cells #[.int .i64 6, .slice (some ⟨w.heap.size, 0, none⟩) 1 1, .string ⟨#[97]⟩] 24)).alloc (.cells #[.int .i64 5, .slice none 0 0, .string ⟨#[98]⟩, .int .i64 6, .slice (some ⟨w.heap.size, 0, none⟩) 1 1, .string ⟨#[97]⟩, .int .i64 5, .slice none 0 0, .string ⟨#[98]⟩] 24)) ∧ Lay w W4 ∧ LabsAt (fun _ => True) W4 (.slice (some ⟨w.heap.size, 0, none⟩) 1 1) eB.labs ∧ EntsAt (fun _ => True) (fun _ => True) W4 (.slice (some ⟨w.heap.size + 1 + 1 + 1, 0, none⟩) 3 3) [eA, eB, eA] ∧
    (∀ W, Lay W4 W → W.cell? ⟨w.heap.size + 1, 0, none⟩ = some (.int .i64 5) ∧ W.cell? ⟨w.heap.size + 1, 1, none⟩ = some (.slice none 0 0) ∧ W.cell? ⟨w.heap.size + 1, 2, none⟩ = some (.string ⟨#[98]⟩) ∧
      W.cell? ⟨w.heap.size + 1 + 1, 0, none⟩ = some (.int .i64 6) ∧ W.cell? ⟨w.heap.size + 1 + 1, 1, none⟩ = some (.slice (some ⟨w.heap.size, 0, none⟩) 1 1) ∧ W.cell? ⟨w.heap.size + 1 + 1, 2, none⟩ = some (.string ⟨#[97]⟩)) := by
  have hlab : LabsAt (fun _ => True) ((((w.alloc (.cells #[.string ⟨#[97, 112, 112]⟩, .string ⟨#[120]⟩] 55)).alloc (.cells #[.int .i64 5, .slice none 0 0, .string ⟨#[98]⟩] 24)).alloc (.cells #[.int .i64 6, .slice (some ⟨w.heap.size, 0, none⟩) 1 1, .string ⟨#[97]⟩] 24)).alloc (.cells #[.int .i64 5, .slice none 0 0, .string ⟨#[98]⟩, .int .i64 6, .slice (some ⟨w.heap.size, 0, none⟩) 1 1, .string ⟨#[97]⟩, .int .i64 5, .slice none 0 0, .string ⟨#[98]⟩] 24)) (.slice (some ⟨w.heap.size, 0, none⟩) 1 1) eB.labs := by
    refine ⟨_, 1, rfl, by decide, .inr ⟨w.heap.size, 0, rfl, trivial, by simp; omega, fun i hi => ?_⟩⟩
    match i, hi with
    | 0, _ => exact ⟨by simp only [Nat.zero_mul, Nat.add_zero]; go_simp; rfl, by simp only [Nat.zero_mul, Nat.add_zero, Nat.zero_add]; go_simp; rfl⟩
  refine ⟨_, rfl, ((((Keep.refl _ _).alloc _).alloc _).alloc _).alloc _, hlab, ⟨_, 3, rfl, by decide, .inr ⟨w.heap.size + 1 + 1 + 1, 0, rfl, trivial, by simp, fun i hi => ?_⟩⟩, fun W hl => ?_⟩
  · match i, hi with
    | 0, _ => exact ⟨.slice none 0 0, by simp only [Nat.zero_mul, Nat.add_zero]; go_simp; rfl, by simp only [Nat.zero_mul, Nat.add_zero, Nat.zero_add]; go_simp, by simp only [Nat.zero_mul, Nat.add_zero, Nat.zero_add]; go_simp; rfl, LabsAt.nil _ _⟩
    | 1, _ => exact ⟨.slice (some ⟨w.heap.size, 0, none⟩) 1 1, by simp only [Nat.one_mul, Nat.zero_add]; go_simp; rfl, by simp only [Nat.one_mul, Nat.zero_add]; go_simp, by simp only [Nat.one_mul, Nat.zero_add]; go_simp; rfl, hlab⟩
    | 2, _ => exact ⟨.slice none 0 0, by simp only [Nat.zero_add, Nat.reduceMul]; go_simp; rfl, by simp only [Nat.zero_add, Nat.reduceMul, Nat.reduceAdd]; go_simp, by simp only [Nat.zero_add, Nat.reduceMul, Nat.reduceAdd]; go_simp; rfl, LabsAt.nil _ _⟩
  · refine ⟨(hl.cell (by simp; try omega)).trans ?_, (hl.cell (by simp; try omega)).trans ?_, (hl.cell (by simp; try omega)).trans ?_, (hl.cell (by simp; try omega)).trans ?_, (hl.cell (by simp; try omega)).trans ?_, (hl.cell (by simp; try omega)).trans ?_⟩
    all_goals go_simp

set_option maxHeartbeats 8000000 in
set_option maxRecDepth 100000 in
theorem alive_any (w : World) : Calls Try.prog 10 #[] w fun e w' => e = .returned (.bool true) ∧ Lay w w' := by
  obtain ⟨W4, hW4, hl4, hlab, hents, hbox⟩ := aliveW w
  have HS := Lib.hid (sort_any true hents (by decide))
  have HW := Lib.hid hW4
  have HL4 := Lib.hid hl4
  have HLAB := Lib.hid hlab
  have HBOX := Lib.hid hbox
  clear hl4 hlab hents hbox
  go_enter Try.func10, Try.ntmps10
  go_wp2_with fail
  rw [← hW4]
  clear hW4
  refine HS.out.mono ?_
  rintro e w5 hp
  obtain ⟨v5, out, rfl, he5, hs5, hl5⟩ := hp.ents
  obtain rfl := sorted_ab hs5
  obtain ⟨a5, c5, rfl, _, h0 | ⟨b5, o5, rfl, _, hb5, hc5⟩⟩ := id he5
  · cases h0
  obtain ⟨_, t5, _⟩ := hc5 0 (by decide)
  rw [Nat.zero_mul, Nat.add_zero] at t5
  obtain ⟨q0, q1, q2, q3, q4, q5⟩ := HBOX.out w5 hl5
  have HT5 := Lib.hid t5
  have HB5 := Lib.hid hb5
  have HL5 := Lib.hid hl5
  have HG := Lib.hid (good_any (e := eB) (HLAB.out.lay hl5))
  clear hp he5 hs5 hl5 hc5 t5 hb5 HS q0 q1 q2
  go_wp2_with fail
  refine HG.out.mono ?_
  rintro e w6 ⟨rfl, hl6⟩
  rw [eB_ok]
  obtain ⟨q0, q1, q2, q3, q4, q5⟩ := HBOX.out w6 (Keep.trans HL5.out hl6)
  have HL6 := Lib.hid (Keep.trans HL5.out hl6)
  have HB6 := Lib.hid (Nat.lt_of_lt_of_le HB5.out hl6.size)
  have HT6 := Lib.hid ((Lay.cell hl6 HB5.out).trans HT5.out)
  have HCM := Lib.hid (compare_any (x := eA) (y := eB) (LabsAt.nil (fun _ => True) w6) ((HLAB.out.lay HL5.out).lay hl6))
  rw [ab] at HCM
  clear hl6 HG HT5 HB5
  go_wp2_with fail
  refine HCM.out.mono ?_
  rintro e w7 ⟨rfl, hl7⟩
  obtain ⟨q0, q1, q2, _⟩ := HBOX.out w7 (Keep.trans HL6.out hl7)
  have HL7 := Lib.hid (Keep.trans HL6.out hl7)
  have t7 : w7.cell? ⟨b5, o5, none⟩ = some (.int .i64 6) := (Lay.cell hl7 HB6.out).trans HT6.out
  have hno : ∀ b, ¬ At (.slice none 0 0) b := fun b ha => by obtain ⟨n, c, e⟩ := ha; cases e
  have hnil : By (fun _ => True) w7 (.slice none 0 0) [] := Rk.nil 1 (fun _ => True) _
  have HP := Lib.hid (put_any (sv := .slice none 0 0) (l := []) (e := eA) hnil (LabsAt.nil (fun _ => True) w7) (fun b _ _ ha => hno b ha) eA_mod (by decide))
  have HNO := Lib.hid hno
  clear hl7 HCM hno hnil HT6 HB6
  go_wp2_with fail
  refine HP.out.mono ?_
  rintro e w8 ⟨v8, rfl, hb8, hk8⟩
  rw [List.nil_append] at hb8
  obtain ⟨a8, c8, rfl⟩ := hb8.shape
  rw [eA_len]
  have HL8 := Lib.hid (Keep.trans HL4.out (Keep.trans HL7.out (hk8.into (H := fun _ => False) fun b _ ha => HNO.out b ha)))
  clear hb8 hk8 HP
  go_wp2_with fail
  go_ret
  exact ⟨rfl, HL8.out⟩

end Go.Proofs.Ytgcldnojmdabpaa
