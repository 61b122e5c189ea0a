/-
  record.Stream: OF WHAT AN ENTRY IS, AS A TEXT.
-/
import Derived.Test.YtgfjbboeappemaaGreatDoorBb14
namespace Go.Proofs.YtgfjbboeappemaaGreatDoor.E4
open Go.RowKit Go

/-- Labels, as a key. -/
def keyL (ls : List Lab) : ByteArray := ⟨(labsB ls).toArray⟩

theorem keyL_inj {l m : List Lab} (hl : LabsMod l) (hm : LabsMod m) (h : keyL l = keyL m) : l = m := by
  have h1 : labsB l = labsB m := by
    have := congrArg (fun b : ByteArray => b.data.toList) h
    simpa [keyL] using this
  have h2 : labsB l ++ [] = labsB m ++ [] := by rw [h1]
  exact (labsB_inj hl hm h2).1

theorem keyL_size {l : List Lab} (h : LabsMod l) : (keyL l).size ≤ maxLen := by
  have h1 := labsB_len h
  have h2 : (keyL l).size = (labsB l).length := by show (labsB l).toArray.size = _; simp
  have h3 := h.1
  unfold maxLen
  omega

set_option maxHeartbeats 1000000 in
set_option maxRecDepth 100000 in
theorem stream_any {G : Nat → Prop} {w : World} {e : Ent} {lv : Value} (h : LabsAt G w lv e.labs) (hm : LabsMod e.labs) :
    Calls Tryz.prog 35 #[e.val lv] w fun x w' => x = .returned (.string (keyL e.labs)) ∧ Lay w w' := by
  obtain ⟨a, ca, rfl, _, _⟩ := id h
  obtain ⟨w1, hw1⟩ : ∃ w1, w1 = w.alloc (.cells #[.int .i64 e.tm, .slice a e.labs.length ca, .string e.line] 29) := ⟨_, rfl⟩
  have hl1 : Lay w w1 := by rw [hw1]; exact (Keep.refl _ w).alloc _
  have hk1 : Bl w1 w.heap.size 29 #[.int .i64 e.tm, .slice a e.labs.length ca, .string e.line] := by rw [hw1]; exact Bl.new w 29 _
  have HP := Lib.hid (putLabels_any (sv := .slice none 0 0) (l := []) (H := fun _ => True) (Rk.nil 1 _ w1) (h.lay hl1) (fun b _ _ ha => by obtain ⟨_, _, ha⟩ := ha; simp at ha) hm (by simp))
  have c1 := hk1.cell 1
  simp only [List.getElem?_toArray, List.getElem?_cons_succ, List.getElem?_cons_zero] at c1
  have HL1 := Lib.hid hl1
  have HW1 := Lib.hid hw1.symm
  clear h hl1 hk1 hw1 hm
  simp only [Ent.val, List.nil_append] at HP ⊢
  go_enter Tryz.func35, Tryz.ntmps35
  go_upto_region 1 with fail
  rw [HW1.out]
  go_wp2_with fail
  refine HP.out.mono ?_
  rintro x w2 ⟨bv, rfl, hby, hk2⟩
  have hcv : (convert 101 9 bv).run Tryz.prog w2 = .ok (.string (keyL e.labs)) w2 := bs_string hby.bs
  have HL2 := Lib.hid (Keep.trans HL1.out (hk2.into (H := fun _ => False) fun b _ ha => by obtain ⟨_, _, ha⟩ := ha; simp at ha))
  clear hby hk2 HP
  go_wp2_with fail
  go_ret
  exact ⟨rfl, HL2.out⟩

end Go.Proofs.YtgfjbboeappemaaGreatDoor.E4
