/-
  magpieref03.Same: ARE TWO ROWS OF TEXTS THE SAME?
-/
import Derived.Test.YtgjlbcmejanfaaaDoorGone
import Derived.Deep.QuietTactic
import Derived.BigQuiet
namespace Go.Proofs.YtgjlbcmejanfaaaDoor
open Go.RowKit Go

/-- Nothing old has turned. -/
abbrev Still (w w' : World) : Prop := Keep (fun _ => False) w w'
theorem Still.drewN {w w' : World} (h : Still w w') (n : Nat) : Still w (w'.drewN n) := h.trans ⟨rfl, rfl, rfl, Nat.le_refl _, fun _ _ _ => rfl⟩
theorem Still.below {w w' : World} (h : Still w w') : Below w.heap.size w w' := Keep.below h (fun _ h => h.elim) (Nat.le_refl _)

theorem same_len (v1 v2 : Value) (l1 l2 : List ByteArray) (a1 a2 : Option Addr) (c1 c2 : Nat) (h1 : v1 = .slice a1 l1.length c1) (h2 : v2 = .slice a2 l2.length c2) (hne : l1.length ≠ l2.length) (w : World) :
    Calls Tryd.prog 8 #[v1, v2] w fun e w' => e = .returned (.bool (decide (l1 = l2))) ∧ Still w w' := by
  have hd : decide (l1 = l2) = false := by
    rw [decide_eq_false_iff_not]
    intro e
    exact hne (by rw [e])
  rw [hd]
  have hn : ((l1.length : Int) != (l2.length : Int)) = true := by simp; omega
  subst h1 h2
  go_enter Tryd.func8, Tryd.ntmps8
  go_wp2
  all_goals
    go_ret
    exact ⟨rfl, Keep.refl _ _⟩

theorem bytes_ne {s t : ByteArray} (h : s ≠ t) : (s.toList == t.toList) = false := by
  rw [beq_eq_false_iff_ne, ByteArray.toList_eq, ByteArray.toList_eq]
  exact fun e => h (ByteArray.ext (Array.toList_inj.1 e))

/-- One element read. -/
theorem Rs.at_cell {G : Nat → Prop} {w w' : World} {g c : Nat} {n : Nat} {l : List ByteArray} (h : Rs G w (.slice (some ⟨g, 0, none⟩) n c) (strs l)) (hs : Still w w') (k : Nat) (hk : k < l.length) : w'.cell? ⟨g, k, none⟩ = some (.string l[k]) := by
  have h' := h.keep hs (fun _ _ _ _ h => h)
  rcases h' with ⟨h, _⟩ | ⟨g', cap, hv, _, _, _, _, hc, _⟩
  · cases h
  · obtain rfl : g = g' := by
      have : (some (⟨g, 0, none⟩ : Addr)) = some ⟨g', 0, none⟩ := by injection hv
      simpa using this
    rw [hc k (by rw [strs_length]; exact hk), strs, List.getElem?_map, List.getElem?_eq_getElem hk]
    rfl

theorem Rs.block {G : Nat → Prop} {w : World} {v : Value} {l : List ByteArray} (h : Rs G w v (strs l)) (hl : 0 < l.length) : ∃ g c, v = .slice (some ⟨g, 0, none⟩) l.length c := by
  rcases h with ⟨_, h⟩ | ⟨g, cap, hv, _⟩
  · rw [← strs_length, h] at hl; cases hl
  · rw [strs_length] at hv; exact ⟨g, cap, hv⟩

set_option maxHeartbeats 1000000 in
theorem same_blocks (g1 g2 c1 c2 : Nat) (l1 l2 : List ByteArray) (G1 G2 : Nat → Prop) (w : World) (h1 : Rs G1 w (.slice (some ⟨g1, 0, none⟩) l1.length c1) (strs l1)) (h2 : Rs G2 w (.slice (some ⟨g2, 0, none⟩) l1.length c2) (strs l2)) (he : l2.length = l1.length) (hlim : l1.length ≤ 70368744177664) :
    Calls Tryd.prog 8 #[.slice (some ⟨g1, 0, none⟩) l1.length c1, .slice (some ⟨g2, 0, none⟩) l1.length c2] w fun e w' => e = .returned (.bool (decide (l1 = l2))) ∧ Still w w' := by
  have HE := Lib.hid he
  have H1 := Lib.hid h1
  have H2 := Lib.hid h2
  obtain ⟨n, hn⟩ : ∃ n, n = l1.length := ⟨_, rfl⟩
  rw [← hn] at hlim ⊢
  have HN := Lib.hid hn
  clear he h1 h2 hn
  go_enter Tryd.func8, Tryd.ntmps8
  go_wp2
  go_loopw [13] (fun vi wr => ∃ k : Nat, vi = .int .i64 k ∧ k ≤ n ∧ l1.take k = l2.take k ∧ Still w wr) (fun vi _ => n - (intOf vi).toNat)
  case atStart => exact ⟨0, rfl, by omega, rfl, Keep.refl _ _⟩
  case round =>
    obtain ⟨k, rfl, hk, ht, hst⟩ := hrel
    have HT := Lib.hid ht
    have HST := Lib.hid hst
    clear ht hst
    by_cases hkn : k < n
    · have hk1 : k < l1.length := by rw [← HN.out]; exact hkn
      have hk2 : k < l2.length := by rw [HE.out]; exact hk1
      have hc1 := H1.out.at_cell HST.out k hk1
      have hc2 := H2.out.at_cell HST.out k hk2
      obtain ⟨s, hs⟩ : ∃ s, s = l1[k] := ⟨_, rfl⟩
      obtain ⟨t, ht⟩ : ∃ t, t = l2[k] := ⟨_, rfl⟩
      rw [← hs] at hc1
      rw [← ht] at hc2
      have HS := Lib.hid hs
      have HTT := Lib.hid ht
      clear hs ht
      by_cases hst : s = t
      · subst hst
        go_wp2
        go_quiet (fail)
        go_wp2
        go_roundw
        case rel => exact ⟨k + 1, by go_num, by omega, by rw [List.take_succ_eq_append_getElem (by rw [← HN.out]; exact hkn), List.take_succ_eq_append_getElem (by rw [HE.out, ← HN.out]; exact hkn), HT.out, ← HS.out, ← HTT.out], HST.out.drewN _⟩
        case measure => simp [intOf]; omega
      · have hne := bytes_ne hst
        go_wp2
        go_quiet (fail)
        go_wp2
        go_ret
        refine ⟨ret_bool ?_, HST.out.drewN _⟩
        symm
        rw [decide_eq_false_iff_not]
        intro e
        subst e
        exact hst (HS.out.trans HTT.out.symm)
    · obtain rfl : k = n := by omega
      go_wp2
      go_ret
      refine ⟨ret_bool ?_, HST.out⟩
      symm
      rw [decide_eq_true_eq]
      have := HT.out
      rwa [List.take_of_length_le (by rw [← HN.out]; exact Nat.le_refl _), List.take_of_length_le (by rw [HE.out, ← HN.out]; exact Nat.le_refl _)] at this

theorem same_nil (v1 v2 : Value) (a1 a2 : Option Addr) (c1 c2 : Nat) (h1 : v1 = .slice a1 0 c1) (h2 : v2 = .slice a2 0 c2) (w : World) :
    Calls Tryd.prog 8 #[v1, v2] w fun e w' => e = .returned (.bool true) ∧ Still w w' := by
  subst h1 h2
  go_enter Tryd.func8, Tryd.ntmps8
  go_wp2
  go_loop [13] (fun vi => vi = .int .i64 0) (fun _ => 0)
  case atStart => rfl
  case round =>
    subst hrel
    go_wp2
    go_ret
    exact ⟨rfl, Keep.refl _ _⟩

/-- magpieref03.Same. -/
theorem same_any {v1 v2 : Value} {l1 l2 : List ByteArray} {G1 G2 : Nat → Prop} {w : World} (h1 : Rs G1 w v1 (strs l1)) (h2 : Rs G2 w v2 (strs l2)) (hlim : l1.length ≤ 70368744177664) :
    Calls Tryd.prog 8 #[v1, v2] w fun e w' => e = .returned (.bool (decide (l1 = l2))) ∧ Still w w' := by
  obtain ⟨a1, c1, e1⟩ := h1.shape
  obtain ⟨a2, c2, e2⟩ := h2.shape
  rw [strs_length] at e1 e2
  by_cases he : l1.length = l2.length
  · by_cases h0 : 0 < l1.length
    · obtain ⟨g1, c1, rfl⟩ := h1.block h0
      obtain ⟨g2, c2, rfl⟩ := h2.block (by omega)
      rw [← he] at h2 ⊢
      exact same_blocks g1 g2 c1 c2 l1 l2 G1 G2 w h1 h2 he.symm hlim
    · obtain rfl : l1 = [] := List.length_eq_zero_iff.1 (by omega)
      obtain rfl : l2 = [] := List.length_eq_zero_iff.1 he.symm
      exact same_nil v1 v2 a1 a2 c1 c2 e1 e2 w
  · exact same_len v1 v2 l1 l2 a1 a2 c1 c2 e1 e2 he w

end Go.Proofs.YtgjlbcmejanfaaaDoor
