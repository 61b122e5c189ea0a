/-
  WHAT THE DOCUMENT TELLS OF match: the laws' first test.
-/
import Derived.Test.YtbcpcahfafghkaaDoorLb9
namespace Go.Proofs.YtbcpcahfafghkaaDoor
open Go.RowKit Go

theorem IntsAt.below9 {w w' : World} {v : Value} {l : List Int} (h : IntsAt w v l) (hb : Below w.heap.size w w') : IntsAt w' v l := by
  obtain ⟨a, cap, hv, h1, h | ⟨b, off, ha, hlt, hc⟩⟩ := h
  · exact ⟨a, cap, hv, h1, .inl h⟩
  · exact ⟨a, cap, hv, h1, .inr ⟨b, off, ha, Nat.lt_of_lt_of_le hlt hb.size, fun i hi => (hb.cell hlt).trans (hc i hi)⟩⟩

def getF : Ft := .mk 3 ⟨#[]⟩ ⟨#[103, 101, 116]⟩ []
theorem get_kept : keeps ⟨#[71, 69, 84, 32, 103, 101, 116]⟩ getF = true := by unfold getF; rw [keeps_word]; kernel_rfl
theorem get_not : keeps ⟨#[103, 101, 116, 116, 105, 110, 103]⟩ getF = false := by unfold getF; rw [keeps_word]; kernel_rfl
theorem getF_at (w : World) : KsAt w (.slice none 0 0) getF := by unfold getF; rw [KsAt]; exact ⟨none, 0, rfl, by simp, .inl rfl⟩
theorem getF_fit : Fit getF := fit_leaf _ _ _ (by decide) fit_nil (by decide)

set_option maxHeartbeats 4000000 in
set_option maxRecDepth 100000 in
theorem alive_any (w : World) (hSh : w.ShapedOpen Tryd.prog) : Calls Tryd.prog 5 #[] w fun e w' => e = .returned (.bool true) ∧ Below w.heap.size w w' := by
  have h1 := fun W (h : W.ShapedOpen Tryd.prog) => line_any ⟨#[71, 69, 84, 32, 103, 101, 116]⟩ (by decide) getF getF_fit W (getF.val (.slice none 0 0)) ⟨_, rfl, getF_at W⟩ h
  have h2 := fun W (h : W.ShapedOpen Tryd.prog) => line_any ⟨#[103, 101, 116, 116, 105, 110, 103]⟩ (by decide) getF getF_fit W (getF.val (.slice none 0 0)) ⟨_, rfl, getF_at W⟩ h
  have h3 := fun W => label_any ⟨⟨#[97, 112, 112]⟩, true, ⟨#[120]⟩⟩ ⟨0, [], ⟨#[]⟩⟩ (.slice none 0 0) W ⟨none, 0, rfl, by simp, .inl rfl⟩
  rw [show keepsM ⟨0, [], ⟨#[]⟩⟩ ⟨⟨#[97, 112, 112]⟩, true, ⟨#[120]⟩⟩ = true by kernel_rfl] at h3
  rw [get_kept] at h1
  rw [get_not] at h2
  have H1 := Lib.hid h1
  have H2 := Lib.hid h2
  have H3' := Lib.hid h3
  clear h1 h2 h3
  simp only [getF, Ft.val, Ft.op, Ft.name, Ft.text, E4.Ent.val] at H1 H2 H3'
  go_enter Tryd.func5, Tryd.ntmps5
  go_wp2_with fail
  have hb0 : Below w.heap.size w (w.alloc (.cells #[.int .i64 3, .string ⟨#[]⟩, .string ⟨#[103, 101, 116]⟩, .slice none 0 0] 30)) := (Below.refl _ w).alloc (Nat.le_refl _) _
  have hn := CB.new w 30 #[.int .i64 3, .string ⟨#[]⟩, .string ⟨#[103, 101, 116]⟩, .slice none 0 0]
  refine (H1.out _ (shaped_below hSh hb0)).mono ?_
  rintro u w1 ⟨rfl, hb1⟩
  have hn1 := (hb1.block _ (by simp)).trans hn
  have c0 := CB.cell hn1 0
  have c1 := CB.cell hn1 1
  have c2 := CB.cell hn1 2
  have c3 := CB.cell hn1 3
  have HB1 := Lib.hid (hb0.trans (hb1.mono hb0.size))
  have HS1 := Lib.hid (shaped_below hSh HB1.out)
  clear hb0 hn hb1 hn1 hSh H1
  simp only [List.getElem?_toArray, List.getElem?_cons_succ, List.getElem?_cons_zero] at c0 c1 c2 c3
  go_wp2_with fail
  refine (H2.out _ HS1.out).mono ?_
  rintro u w2 ⟨rfl, hb2⟩
  have HB2 := Lib.hid (HB1.out.trans (hb2.mono HB1.out.size))
  clear hb2 c0 c1 c2 c3
  go_wp2_with fail
  refine (H3'.out _).mono ?_
  rintro u w3 ⟨rfl, hb3⟩
  have HB3 := Lib.hid (HB2.out.trans (hb3.mono HB2.out.size))
  clear hb3
  go_wp2_with fail
  go_ret
  exact ⟨rfl, HB3.out⟩

end Go.Proofs.YtbcpcahfafghkaaDoor
