/-
  magpielaw03.alive ANSWERS TRUE, and turns nothing that was there.
-/
import Derived.Test.YtgjlbcmejanfaaaDoorHas
namespace Go.Proofs.YtgjlbcmejanfaaaDoor
open Go.RowKit Go Go.Shelf

/-- gone, of Words. -/
theorem gone_words (s : ByteArray) (hlen : s.size ≤ 1048576) (w : World) (m : Int) :
    Calls Tryd.prog 9 #[.func (.func 18) #[] #[.pointer (some ⟨w.heap.size, 0, none⟩)], .int .i64 m] (w.alloc (.cells #[.string s] 9)) fun e w' => ∃ v, e = .returned v ∧ Rs (From w.heap.size) w' v (strs ((wordsB s).take m.toNat)) ∧ Below w.heap.size w w' := by
  have hb := Box.new w 9 (.string s)
  refine (gone_any (C := fun k => k = w.heap.size) (enters_of Tryd.func18 (by kernel_rfl) rfl) _ (fun k hk => by subst hk; exact hb.lt) (words_gives s (by omega) w.heap.size _ hb) m (Nat.le_trans (wordsB_length s) (by omega))).mono ?_
  rintro e w' ⟨v, he, hr, hbl⟩
  refine ⟨v, he, hr.mono (fun k h _ => ?_), ((Below.refl _ w).alloc (Nat.le_refl _) _).trans (hbl.mono (by simp))⟩
  have h : (w.alloc (.cells #[.string s] 9)).heap.size ≤ k := h
  simp at h
  show w.heap.size ≤ k
  omega

/-- gone, of Inner. -/
theorem gone_inner (s : ByteArray) (hlen : s.size ≤ 1048576) (w : World) (m : Int) :
    Calls Tryd.prog 9 #[.func (.func 20) #[] #[.pointer (some ⟨w.heap.size, 0, none⟩)], .int .i64 m] (w.alloc (.cells #[.string s] 9)) fun e w' => ∃ v, e = .returned v ∧ Rs (From w.heap.size) w' v (strs ((innerB s).take m.toNat)) ∧ Below w.heap.size w w' := by
  have hb := Box.new w 9 (.string s)
  refine (gone_any (C := fun k => k = w.heap.size) (enters_of Tryd.func20 (by kernel_rfl) rfl) _ (fun k hk => by subst hk; exact hb.lt) (inner_gives s (by omega) w.heap.size _ hb) m (Nat.le_trans (innerB_length s) (by omega))).mono ?_
  rintro e w' ⟨v, he, hr, hbl⟩
  refine ⟨v, he, hr.mono (fun k h _ => ?_), ((Below.refl _ w).alloc (Nat.le_refl _) _).trans (hbl.mono (by simp))⟩
  have h : (w.alloc (.cells #[.string s] 9)).heap.size ≤ k := h
  simp at h
  show w.heap.size ≤ k
  omega

theorem alive1 : (wordsB ⟨#[97, 98, 45, 99, 100, 32, 55]⟩).take (9 : Int).toNat = [⟨#[97, 98]⟩, ⟨#[99, 100]⟩, ⟨#[55]⟩] := by decide +kernel
theorem alive2 : (innerB ⟨#[97, 98, 45, 99, 100, 32, 55]⟩).take (9 : Int).toNat = [⟨#[99, 100]⟩] := by decide +kernel
theorem alive3 : hasB ⟨#[97, 32, 98]⟩ ⟨#[98]⟩ = true := by decide +kernel
theorem alive4 : M.is (ByteArray.mk #[195, 169, 95, 49]).data.toList = true := by decide +kernel

theorem same_true {v1 v2 : Value} {l : List ByteArray} {G1 G2 : Nat → Prop} {w : World} (h1 : Rs G1 w v1 (strs l)) (h2 : Rs G2 w v2 (strs l)) (hlim : l.length ≤ 70368744177664) :
    Calls Tryd.prog 8 #[v1, v2] w fun e w' => e = .returned (.bool true) ∧ Still w w' :=
  (same_any h1 h2 hlim).mono fun _ _ h => ⟨h.1.trans (ret_bool (decide_eq_true rfl)), h.2⟩

set_option maxHeartbeats 2000000 in
theorem alive_any (w : World) : Calls Tryd.prog 5 #[] w fun e w' => e = .returned (.bool true) ∧ Below w.heap.size w w' := by
  have HG := Lib.hid (fun (w : World) => gone_words ⟨#[97, 98, 45, 99, 100, 32, 55]⟩ (by decide) w 9)
  have HI := Lib.hid (fun (w : World) => gone_inner ⟨#[97, 98, 45, 99, 100, 32, 55]⟩ (by decide) w 9)
  rw [alive1] at HG
  rw [alive2] at HI
  go_enter Tryd.func5, Tryd.ntmps5
  go_wp2_with (go_at_call 10; refine (words_any _ _).mono ?_; rintro e w' ⟨rfl, rfl⟩)
  refine (HG.out w).mono ?_
  rintro e w1 ⟨v1, rfl, hr1, hb1⟩
  have HS1 := Lib.hid (same_true (hr1.alloc (.cells #[.string ⟨#[97, 98]⟩, .string ⟨#[99, 100]⟩, .string ⟨#[55]⟩] 9)) (rs_new (P := Tryd.prog) w1 (strs [⟨#[97, 98]⟩, ⟨#[99, 100]⟩, ⟨#[55]⟩]) 9 (by decide)) (by decide))
  have HB1 := Lib.hid (hb1.alloc hb1.size (.cells #[.string ⟨#[97, 98]⟩, .string ⟨#[99, 100]⟩, .string ⟨#[55]⟩] 9))
  clear hr1 hb1
  go_wp2_with fail
  refine HS1.out.mono ?_
  rintro e w2 ⟨rfl, hs2⟩
  have HB2 := Lib.hid (HB1.out.trans (hs2.below.mono HB1.out.size))
  clear hs2
  go_wp2_with (go_at_call 11; refine (inner_any _ _).mono ?_; rintro e w' ⟨rfl, rfl⟩)
  refine (HI.out w2).mono ?_
  rintro e w3 ⟨v3, rfl, hr3, hb3⟩
  have HS3 := Lib.hid (same_true (hr3.alloc (.cells #[.string ⟨#[99, 100]⟩] 9)) (rs_new (P := Tryd.prog) w3 (strs [⟨#[99, 100]⟩]) 9 (by decide)) (by decide))
  have hb4 := HB2.out.trans (hb3.mono HB2.out.size)
  have HB3 := Lib.hid (hb4.alloc hb4.size (.cells #[.string ⟨#[99, 100]⟩] 9))
  clear hr3 hb3 hb4
  go_wp2_with fail
  refine HS3.out.mono ?_
  rintro e w4 ⟨rfl, hs4⟩
  have HB4 := Lib.hid (HB3.out.trans (hs4.below.mono HB3.out.size))
  clear hs4
  have HH := has_any ⟨#[97, 32, 98]⟩ ⟨#[98]⟩ (by decide) w4
  rw [alive3] at HH
  have HH := Lib.hid HH
  go_wp2_with fail
  refine HH.out.mono ?_
  rintro e w5 ⟨rfl, hb5⟩
  have HB5 := Lib.hid (HB4.out.trans (hb5.mono HB4.out.size))
  have HA := is_any ⟨#[195, 169, 95, 49]⟩ (by decide) w5
  rw [alive4] at HA
  have HA := Lib.hid HA
  clear hb5
  go_wp2_with fail
  refine HA.out.mono ?_
  rintro e w6 ⟨rfl, hb6⟩
  have HB6 := Lib.hid (HB5.out.trans (hb6.mono HB5.out.size))
  clear hb6
  go_wp2_with fail
  go_ret
  exact ⟨rfl, HB6.out⟩

end Go.Proofs.YtgjlbcmejanfaaaDoor
