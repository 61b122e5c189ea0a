/-
  BOTH Values: the value of the first label of a name.
-/
import Derived.Test.YtgcldnojmdabpaaNames
namespace Go.Proofs.Ytgcldnojmdabpaa
open Go.RowKit Go

/-- The value of the first label of a name, and whether there is one. -/
def valOf (s : ByteArray) : List Lab → ByteArray × Bool
  | [] => (⟨#[]⟩, false)
  | x :: r => if x.n.toList == s.toList then (x.v, true) else valOf s r


set_option maxHeartbeats 4000000 in
set_option maxRecDepth 100000 in
theorem value_any {G : Nat → Prop} {w : World} {e : Ent} {lv : Value} (s : ByteArray) (h : LabsAt G w lv e.labs) :
    Calls Try.prog 12 #[e.val lv, .string s] w fun x w' => x = .returned (.tuple #[.string (valOf s e.labs).1, .bool (valOf s e.labs).2]) ∧ Lay w w' := by
  obtain ⟨a, ca, rfl, hl63, ha⟩ := h
  obtain ⟨tm, labs, line⟩ := e
  have HA := Lib.hid ha
  have HL0 : Hid (Lay w (w.alloc (.cells #[.int .i64 tm, .slice a labs.length ca, .string line] 24))) := Lib.hid ((Keep.refl _ _).alloc _)
  unfold Ent.val
  clear ha
  simp only [] at hl63 HA ⊢
  go_enter Try.func12, Try.ntmps12
  go_wp2_with fail
  go_loopw [11] (fun vi wr => ∃ k : Nat, vi = .int .i64 k ∧ k ≤ labs.length ∧ Lay w wr ∧ valOf s labs = valOf s (labs.drop k)) (fun vi _ => labs.length - (intOf vi).toNat)
  case atStart => exact ⟨0, rfl, Nat.zero_le _, HL0.out, by simp⟩
  case round =>
    obtain ⟨k, rfl, hk, hl, hz⟩ := hrel
    have HZ := Lib.hid hz
    have HL := Lib.hid hl
    clear hz
    by_cases hlt : k < labs.length
    · rcases HA.out with h0 | ⟨bx, ox, rfl, hgx, hbx, hcx⟩
      · exact absurd hlt (by rw [h0]; simp)
      obtain ⟨x0, x1⟩ := hcx k hlt
      have g0 := (hl.cell hbx).trans x0
      have g1 := (hl.cell hbx).trans x1
      have hdx := Lib.hid (List.drop_eq_getElem_cons hlt)
      generalize labs[k] = x at g0 g1 hdx x0 x1
      clear x0 x1 hcx hl
      cases hn : (x.n.toList == s.toList) with
      | true =>
        have HN := Lib.hid hn
        go_wp2_with fail
        go_ret2
        refine ⟨?_, HL.out.alloc _⟩
        rw [HZ.out, hdx.out, valOf, if_pos HN.out]
        rfl
      | false =>
        have HN := Lib.hid hn
        go_wp2_with fail
        go_roundw
        case rel => exact ⟨k + 1, by go_num, by omega, HL.out.alloc _, by rw [HZ.out, hdx.out, valOf, HN.out]; rfl⟩
        case measure => simp [intOf]; omega
    · obtain rfl : k = labs.length := by omega
      go_wp2_with fail
      go_ret2
      refine ⟨?_, HL.out⟩
      rw [HZ.out, List.drop_length]
      rfl

set_option maxHeartbeats 4000000 in
set_option maxRecDepth 100000 in
theorem refValue_any {G : Nat → Prop} {w : World} {e : Ent} {lv : Value} (s : ByteArray) (h : LabsAt G w lv e.labs) :
    Calls Try.prog 13 #[e.val lv, .string s] w fun x w' => x = .returned (.tuple #[.string (valOf s e.labs).1, .bool (valOf s e.labs).2]) ∧ Lay w w' := by
  obtain ⟨a, ca, rfl, hl63, ha⟩ := h
  obtain ⟨tm, labs, line⟩ := e
  have HA := Lib.hid ha
  have HL0 : Hid (Lay w (w.alloc (.cells #[.int .i64 tm, .slice a labs.length ca, .string line] 24))) := Lib.hid ((Keep.refl _ _).alloc _)
  unfold Ent.val
  clear ha
  simp only [] at hl63 HA ⊢
  go_enter Try.func13, Try.ntmps13
  go_wp2_with fail
  go_loopw [11] (fun vi wr => ∃ k : Nat, vi = .int .i64 k ∧ k ≤ labs.length ∧ Lay w wr ∧ valOf s labs = valOf s (labs.drop k)) (fun vi _ => labs.length - (intOf vi).toNat)
  case atStart => exact ⟨0, rfl, Nat.zero_le _, HL0.out, by simp⟩
  case round =>
    obtain ⟨k, rfl, hk, hl, hz⟩ := hrel
    have HZ := Lib.hid hz
    have HL := Lib.hid hl
    clear hz
    by_cases hlt : k < labs.length
    · rcases HA.out with h0 | ⟨bx, ox, rfl, hgx, hbx, hcx⟩
      · exact absurd hlt (by rw [h0]; simp)
      obtain ⟨x0, x1⟩ := hcx k hlt
      have g0 := (hl.cell hbx).trans x0
      have g1 := (hl.cell hbx).trans x1
      have hdx := Lib.hid (List.drop_eq_getElem_cons hlt)
      generalize labs[k] = x at g0 g1 hdx x0 x1
      clear x0 x1 hcx hl
      cases hn : (x.n.toList == s.toList) with
      | true =>
        have HN := Lib.hid hn
        go_wp2_with fail
        go_ret2
        refine ⟨?_, HL.out.alloc _⟩
        rw [HZ.out, hdx.out, valOf, if_pos HN.out]
        rfl
      | false =>
        have HN := Lib.hid hn
        go_wp2_with fail
        go_roundw
        case rel => exact ⟨k + 1, by go_num, by omega, HL.out.alloc _, by rw [HZ.out, hdx.out, valOf, HN.out]; rfl⟩
        case measure => simp [intOf]; omega
    · obtain rfl : k = labs.length := by omega
      go_wp2_with fail
      go_ret2
      refine ⟨?_, HL.out⟩
      rw [HZ.out, List.drop_length]
      rfl

end Go.Proofs.Ytgcldnojmdabpaa
