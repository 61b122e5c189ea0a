/-
  THE DOCUMENT'S OWN Label, Labels, Query: DOES A QUERY KEEP AN ENTRY?
-/
import Derived.Test.YtgfjbboeappemaaGreatDoorKe9
import Derived.Test.YtgfjbboeappemaaGreatDoorShelf
import Derived.WalkKit
import Derived.Lib.QuietBelow
import Derived.Test.YtgfjbboeappemaaGreatDoorHr
import Derived.Test.YtgfjbboeappemaaGreatDoorLb9
namespace Go.Proofs.YtgfjbboeappemaaGreatDoor
open Go.RowKit Go

set_option maxHeartbeats 4000000 in
set_option maxRecDepth 100000 in
theorem refLabel_any (m : Mt) (e : E4.Ent) (lv : Value) (w : World) (h : E4.LabsAt (fun _ => True) w lv e.labs) :
    Calls Tryz.prog 86 #[.agg #[.string m.name, .bool m.not, .string m.value], e.val lv] w fun x w' => x = .returned (.bool (keepsM e m)) ∧ Below w.heap.size w w' := by
  obtain ⟨a, ca, rfl, _, _⟩ := id h
  have hb0 : Below w.heap.size w ((w.alloc (.cells #[.string m.name, .bool m.not, .string m.value] 59)).alloc (.cells #[.int .i64 e.tm, .slice a e.labs.length ca, .string e.line] 29)) := ((Below.refl _ w).alloc (Nat.le_refl _) _).alloc (by simp) _
  have HV := Lib.hid (E4.refValue_any (e := e) m.name (E4.labs_below h hb0))
  have HB0 := Lib.hid hb0
  clear h hb0
  unfold keepsM
  generalize (E4.valOf m.name e.labs) = r at HV ⊢
  obtain ⟨x, y⟩ := r
  simp only [E4.Ent.val] at HV ⊢
  go_enter Tryz.func86, Tryz.ntmps86
  go_wp2_with fail
  refine HV.out.mono ?_
  rintro u w1 ⟨rfl, hl⟩
  have hm0 := CB.new w 59 #[.string m.name, .bool m.not, .string m.value]
  have hm1 : CB w1 w.heap.size 59 #[.string m.name, .bool m.not, .string m.value] := ((E4.lay_below hl).block _ (by simp; omega)).trans ((Below.heap_alloc _ _ _ (by simp)).trans hm0)
  have g1 := hm1.cell 1
  have g2 := hm1.cell 2
  have HB1 := Lib.hid (HB0.out.trans ((E4.lay_below hl).mono HB0.out.size))
  clear hl hm0 hm1
  simp only [List.getElem?_toArray, List.getElem?_cons_succ, List.getElem?_cons_zero] at g1 g2
  cases hn : m.not with
  | true =>
    rw [hn] at g1
    go_wp2_with fail
    go_ret
    exact ⟨by show Ending.returned (.bool _) = Ending.returned (.bool _); congr 2; rw [hn]; cases (x.toList == m.value.toList) <;> rfl, HB1.out⟩
  | false =>
    rw [hn] at g1
    go_wp2_with fail
    go_ret
    exact ⟨by show Ending.returned (.bool _) = Ending.returned (.bool _); congr 2; rw [hn]; cases (x.toList == m.value.toList) <;> rfl, HB1.out⟩

set_option maxHeartbeats 4000000 in
set_option maxRecDepth 100000 in
theorem refLabels_any (l : List Mt) (mv : Value) (e : E4.Ent) (lv : Value) (w : World) (hm : MsAt w mv l) (h : E4.LabsAt (fun _ => True) w lv e.labs) :
    Calls Tryz.prog 53 #[mv, e.val lv] w fun x w' => x = .returned (.bool (l.all (keepsM e))) ∧ Below w.heap.size w w' := by
  obtain ⟨a, ca, rfl, _, _⟩ := id h
  obtain ⟨am, cm, rfl, hm63, _⟩ := id hm
  have hb0 : Below w.heap.size w (w.alloc (.cells #[.int .i64 e.tm, .slice a e.labs.length ca, .string e.line] 29)) := (Below.refl _ w).alloc (Nat.le_refl _) _
  have he0 := CB.new w 29 #[.int .i64 e.tm, .slice a e.labs.length ca, .string e.line]
  obtain ⟨p, hp⟩ : ∃ p, p = keepsM e := ⟨_, rfl⟩
  have HM := Lib.hid (hm.below9 hb0)
  have HL := Lib.hid (E4.labs_below h hb0)
  have HB0 := Lib.hid hb0
  have HE := Lib.hid he0
  have HPP := Lib.hid hp
  rw [← hp]
  clear hm h hb0 he0 hp
  simp only [E4.Ent.val]
  go_enter Tryz.func53, Tryz.ntmps53
  go_wp2_with fail
  go_loopw [9] (fun vi wr => ∃ i : Nat, vi = .int .i64 i ∧ i ≤ l.length ∧ (l.take i).all p = true ∧ Below (w.alloc (.cells #[.int .i64 e.tm, .slice a e.labs.length ca, .string e.line] 29)).heap.size (w.alloc (.cells #[.int .i64 e.tm, .slice a e.labs.length ca, .string e.line] 29)) wr) (fun vi _ => l.length - (intOf vi).toNat)
  case atStart => exact ⟨0, rfl, Nat.zero_le _, rfl, Below.refl _ _⟩
  case round =>
    obtain ⟨i, rfl, hi, hal, hb⟩ := hrel
    have HB := Lib.hid hb
    have HBW := Lib.hid (HB0.out.trans (hb.mono HB0.out.size))
    have HAL := Lib.hid hal
    clear hal
    by_cases hlt : i < l.length
    · obtain ⟨a', cap', hev, _, h0 | ⟨bm, off, rfl, hbl, hka⟩⟩ := HM.out.below9 hb
      · exact absurd hlt (by rw [h0]; simp)
      obtain ⟨rfl, rfl⟩ : am = some ⟨bm, off, none⟩ ∧ cm = cap' := by simpa using hev
      obtain ⟨y0, y1, y2⟩ := hka i hlt
      have HT : Hid ((l.take (i + 1)).all p = ((l.take i).all p && p l[i])) := Lib.hid (by rw [List.take_succ_eq_append_getElem hlt, List.all_append, List.all_cons, List.all_nil, Bool.and_true])
      have HF : Hid (p l[i] = false → l.all p = false) := Lib.hid fun h => by
        rw [Bool.eq_false_iff]
        intro ht
        rw [List.all_eq_true] at ht
        rw [ht _ (List.getElem_mem hlt)] at h
        cases h
      generalize l[i] = x at y0 y1 y2 HT HF
      have hb6 : Below wr.heap.size wr (wr.alloc (.cells #[.string x.name, .bool x.not, .string x.value] 59)) := (Below.refl _ wr).alloc (Nat.le_refl _) _
      have hb06 := hb.trans (hb6.mono hb.size)
      have he6 := (hb06.block _ (CB.lt HE.out)).trans HE.out
      have b0 := CB.cell he6 0
      have b1 := CB.cell he6 1
      have b2 := CB.cell he6 2
      simp only [List.getElem?_toArray, List.getElem?_cons_succ, List.getElem?_cons_zero] at b0 b1 b2
      have HLB := Lib.hid (refLabel_any x e _ _ (E4.labs_below HL.out hb06))
      have HB6 := Lib.hid hb06
      have HB6W := Lib.hid (HB0.out.trans (hb06.mono HB0.out.size))
      rw [← HPP.out] at HLB
      clear hka hev hb6 hb06 he6 hb
      simp only [E4.Ent.val] at HLB
      cases hk : p x with
      | true =>
        rw [hk] at HLB HT
        go_wp2_with (go_at_call 86; refine HLB.out.mono ?_; rintro r w7 ⟨rfl, hb7⟩)
        go_roundw
        case rel => exact ⟨i + 1, by go_num, by omega, by rw [HT.out, HAL.out]; rfl, HB6.out.trans (hb7.mono HB6.out.size)⟩
        case measure => simp [intOf] <;> omega
      | false =>
        rw [hk] at HLB HF
        have HF2 := Lib.hid (HF.out rfl)
        clear HF
        go_wp2_with (go_at_call 86; refine HLB.out.mono ?_; rintro r w7 ⟨rfl, hb7⟩)
        go_ret
        exact ⟨by rw [HF2.out]; rfl, HB6W.out.trans (hb7.mono HB6W.out.size)⟩
    · obtain rfl : i = l.length := by omega
      have hal := HAL.out
      rw [List.take_length] at hal
      have HA := Lib.hid hal
      clear hal hb
      go_wp2_with fail
      go_ret
      exact ⟨by rw [HA.out]; rfl, HBW.out⟩

end Go.Proofs.YtgfjbboeappemaaGreatDoor
