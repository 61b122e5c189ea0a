/-
  magpieref03.Has, Is: THE DOCUMENT's ANSWERS.
-/
import Derived.Test.YtgjlbcmejanfaaaDoorRefInner
namespace Go.Proofs.YtgjlbcmejanfaaaDoor
open Go.RowKit Go

theorem hasB_take {s t : ByteArray} {L : List ByteArray} (hL : L = wordsB s) {k : Nat} (hk : k = L.length) (h : ∀ x ∈ L.take k, x ≠ t) : hasB s t = false := by
  rw [Bool.eq_false_iff]
  intro hb
  have hm := (hasB_iff s t).1 hb
  rw [← hL] at hm
  exact h t (by rw [List.take_of_length_le (by omega)]; exact hm) rfl

set_option maxHeartbeats 1000000 in
theorem refHas_any (s t : ByteArray) (hlen : s.size ≤ 1048576) (w : World) (hT : Lib.Utf8Tabs 1 2 w) :
    Calls Tryd.prog 13 #[.string s, .string t] w fun e w' => e = .returned (.bool (hasB s t)) ∧ Below w.heap.size w w' := by
  obtain ⟨L, hL⟩ : ∃ L, L = wordsB s := ⟨_, rfl⟩
  have HL := Lib.hid hL
  have hll : L.length ≤ 1048576 := by rw [hL]; have := wordsB_length s; omega
  clear hL
  go_enter Tryd.func13, Tryd.ntmps13
  go_wp2_with fail
  refine (refWords_any s hlen w hT).mono ?_
  rintro e w1 ⟨v, rfl, hr, hb1⟩
  rw [← HL.out] at hr
  obtain ⟨n, hn⟩ : ∃ n, n = L.length := ⟨_, rfl⟩
  obtain ⟨a, c, hv⟩ : ∃ a c, v = .slice a n c := by
    have := hr.shape
    rwa [strs_length, ← hn] at this
  subst hv
  have HR := Lib.hid hr
  have HB := Lib.hid hb1
  have HN := Lib.hid hn
  have hnb : n ≤ 1048576 := by omega
  clear hr hb1 hn
  go_wp2_with fail
  go_loop [10] (fun vi => ∃ k : Nat, vi = .int .i64 k ∧ k ≤ n ∧ ∀ x ∈ L.take k, x ≠ t) (fun vi => n - (intOf vi).toNat)
  case atStart => exact ⟨0, rfl, Nat.zero_le _, fun x hx => by simp at hx⟩
  case round =>
    obtain ⟨k, rfl, hk, hnot⟩ := hrel
    have HNOT := Lib.hid hnot
    clear hnot
    by_cases hkn : k < n
    · have hkl : k < L.length := by rw [← HN.out]; exact hkn
      obtain ⟨g, c', hgc⟩ := HR.out.block (by omega)
      obtain rfl : a = some ⟨g, 0, none⟩ := by injection hgc
      have hc := HR.out.at_cell (Keep.refl _ _) k hkl
      obtain ⟨x, hx⟩ : ∃ x, x = L[k] := ⟨_, rfl⟩
      rw [← hx] at hc
      have HX := Lib.hid hx
      clear hx hgc
      by_cases hxt : x = t
      · have hbq := bytes_eq hxt
        have HH : Hid (hasB s t = true) := Lib.hid ((hasB_iff s t).2 (by rw [← HL.out, ← hxt, HX.out]; exact List.getElem_mem hkl))
        clear hxt
        go_wp2
        go_ret
        exact ⟨ret_bool HH.out.symm, HB.out⟩
      · have hbq := bytes_ne hxt
        have HT' : Hid (∀ y ∈ L.take (k + 1), y ≠ t) := Lib.hid fun y hy => by
          rw [List.take_succ_eq_append_getElem hkl, ← HX.out] at hy
          rcases List.mem_append.1 hy with h | h
          · exact HNOT.out y h
          · rw [List.mem_singleton.1 h]; exact hxt
        clear hxt
        go_wp2
        go_round
        case rel => exact ⟨k + 1, by go_num, by omega, HT'.out⟩
        case measure => simp [intOf]; omega
    · obtain rfl : k = n := by omega
      go_wp2
      go_ret
      exact ⟨ret_bool (hasB_take HL.out HN.out HNOT.out).symm, HB.out⟩

theorem is_words (s : ByteArray) : M.is s.data.toList = true ↔ wordsB s = [s] := by
  rw [M.is_iff, wordsB_eq]
  constructor
  · intro h; rw [h]; rfl
  · intro h
    have h2 := congrArg (List.map fun x => x.data.toList) h
    rw [List.map_map] at h2
    have e : ((fun x : ByteArray => x.data.toList) ∘ bs) = id := rfl
    rw [e, List.map_id] at h2
    exact h2

set_option maxHeartbeats 1000000 in
theorem refIs_any (s : ByteArray) (hlen : s.size ≤ 1048576) (w : World) (hT : Lib.Utf8Tabs 1 2 w) :
    Calls Tryd.prog 15 #[.string s] w fun e w' => e = .returned (.bool (M.is s.data.toList)) ∧ Below w.heap.size w w' := by
  obtain ⟨L, hL⟩ : ∃ L, L = wordsB s := ⟨_, rfl⟩
  have HL := Lib.hid hL
  have hll : L.length ≤ 1048576 := by rw [hL]; have := wordsB_length s; omega
  clear hL
  go_enter Tryd.func15, Tryd.ntmps15
  go_wp2_with fail
  refine (refWords_any s hlen w hT).mono ?_
  rintro e w1 ⟨v, rfl, hr, hb1⟩
  rw [← HL.out] at hr
  have HB := Lib.hid hb1
  by_cases h1 : L.length = 1
  · obtain ⟨x, hx⟩ := List.length_eq_one_iff.1 h1
    obtain ⟨g, c, hv⟩ := hr.block (by omega)
    rw [h1] at hv
    subst hv
    have hc := hr.at_cell (Keep.refl _ _) 0 (by omega)
    have h0 : L[0]'(by omega) = x := by simp [hx]
    rw [h0] at hc
    clear hr hb1 h0
    by_cases hxs : x = s
    · have hbq := bytes_eq hxs
      have HI : Hid (M.is s.data.toList = true) := Lib.hid ((is_words s).2 (by rw [← HL.out, hx, hxs]))
      clear hxs hx h1
      go_wp2
      go_ret
      exact ⟨ret_bool HI.out.symm, HB.out⟩
    · have hbq := bytes_ne hxs
      have HI : Hid (M.is s.data.toList = false) := Lib.hid (by
        rw [Bool.eq_false_iff]
        intro h
        have := (is_words s).1 h
        rw [← HL.out, hx] at this
        exact hxs (by simpa using this))
      clear hxs hx h1
      go_wp2
      go_ret
      exact ⟨ret_bool HI.out.symm, HB.out⟩
  · obtain ⟨a, c, hv⟩ := hr.shape
    rw [strs_length] at hv
    have hne : ((L.length : Int) == 1) = false := by simp; omega
    subst hv
    have HI : Hid (M.is s.data.toList = false) := Lib.hid (by
      rw [Bool.eq_false_iff]
      intro h
      have := (is_words s).1 h
      rw [← HL.out] at this
      exact h1 (by rw [this]; rfl))
    clear hr hb1 h1
    go_wp2
    go_ret
    exact ⟨ret_bool HI.out.symm, HB.out⟩

end Go.Proofs.YtgjlbcmejanfaaaDoor
