/-
  magpielaw02.SumIs: the walk.
-/
import Derived.Test.YtacekhjmfjcppaaSealsWalk
import Derived.Test.YtacekhjmfjcppaaRef
namespace Go.Proofs.Ytacekhjmfjcppaa
open Go.RowKit Go

theorem Bs.and {G H : Nat → Prop} {w : World} {v : Value} {l : List UInt8} (h : Bs G w v l) (hH : ∀ k, At v k → H k) : Bs (fun k => G k ∧ H k) w v l := by
  rcases h with h | ⟨g, cap, hv, h1, hr⟩
  · exact .inl h
  · exact .inr ⟨g, cap, hv, ⟨h1, hH g ⟨_, _, hv⟩⟩, hr⟩

/-- What an operation turns. -/
def IR (i : Nat) (ys : Nat → Value) (W W' : World) : Prop := Keep (fun k => i = 8 ∧ At (ys 7) k) W W'

theorem IR.of {i : Nat} {ys : Nat → Value} {W W' : World} (h : Below W.heap.size W W') : IR i ys W W' :=
  ⟨h.os, h.tape, h.output, h.size, fun k hk _ => h.block k hk⟩

/-- What the operations leave. -/
def IV (w : World) (s p t : ByteArray) (b : Bool) (n : Nat) : Nat → Value → World → Prop
  | 0, v, _ | 2, v, _ | 6, v, _ | 10, v, _ => v = .string s
  | 1, v, _ | 3, v, _ => v = .int .u32 n
  | 7, v, W => Bs (fun k => At v k ∧ w.heap.size ≤ k) W v s.data.toList
  | 8, v, W => Bs (At v) W v (M.shut s.data.toList)
  | 9, v, _ | 11, v, _ => v = .string p
  | 15, v, _ | 16, v, _ => v = .string t
  | 20, v, _ | 21, v, _ => v = .bool b
  | _, v, _ => v = .bool true

theorem IV_pure {w : World} {s p t : ByteArray} {b : Bool} {n : Nat} {j : Nat} {v : Value} {W W' : World} (h : IV w s p t b n j v W) (h7 : j ≠ 7) (h8 : j ≠ 8) : IV w s p t b n j v W' := by
  unfold IV at h ⊢
  split at h <;> first | exact h | (exfalso; first | exact h7 rfl | exact h8 rfl)

set_option maxHeartbeats 4000000 in
set_option maxRecDepth 100000 in
theorem is_walk (s : ByteArray) (w : World) :
    Calls Try.prog 3 #[.string s] w fun e w' => e = .returned (.bool true) ∧ Below w.heap.size w w' := by
  by_cases hls : 4096 < s.size
  · go_enter Try.func3, Try.ntmps3
    go_wp2_with fail
    refine (alive_any w).mono ?_
    rintro e w1 ⟨rfl, hb1⟩
    go_wp2
    go_ret
    exact ⟨rfl, hb1⟩
  have hsl : s.data.toList.length = s.size := (Lib.size_eq s).symm
  obtain ⟨p, hp⟩ := text_of (M.shut s.data.toList)
  obtain ⟨n, hn⟩ : ∃ n, n = M.of s.data.toList := ⟨_, rfl⟩
  have HP := Lib.hid hp
  have HSL := Lib.hid hsl
  have C10 : Hid (∀ W, Calls Try.prog 10 #[.string s] W fun e w' => e = .returned (.int .u32 n) ∧ W = w') := Lib.hid fun W => by rw [hn]; exact of_any s (by omega) W
  have C11 : Hid (∀ W, Calls Try.prog 11 #[.string s] W fun e w' => e = .returned (.int .u32 n) ∧ W = w') := Lib.hid fun W => by rw [hn]; exact refOf_any s (by omega) W
  have C13 : Hid (∀ W, Calls Try.prog 13 #[.string s] W fun e w' => (∃ p : ByteArray, e = .returned (.string p) ∧ p.data.toList = M.shut s.data.toList) ∧ Below W.heap.size W w') := Lib.hid fun W => refShut_any s (by omega) W
  have hcv := cv_run s
  clear hp hsl hn
  go_enter Try.func3, Try.ntmps3
  go_wp2_with fail
  refine (alive_any w).mono ?_
  rintro e w1 ⟨rfl, hb1⟩
  go_wp2_with fail
  refine (open_any s (by omega) w1).mono ?_
  rintro e w2 ⟨⟨t, b, rfl, hor⟩, hb2⟩
  have HB2 := Lib.hid (hb1.trans (hb2.mono hb1.size))
  have HOR := Lib.hid hor
  clear hb1 hb2 hor
  go_wp2_with fail
  refine (refOpen_any s (by omega) w2).mono ?_
  rintro e w3 ⟨⟨t', b', rfl, hor⟩, hb3⟩
  obtain ⟨rfl, rfl⟩ := HOR.out.det hor
  have HB3 := Lib.hid (HB2.out.trans (hb3.mono HB2.out.size))
  clear hb3 hor
  go_upto_region 7 with fail
  refine wp_region_flow (by kernel_rfl) (fun _ W => Below w.heap.size w W) IR (IV w s p t' b' n) (fun j => j == 24) (by kernel_rfl) (by kernel_rfl) ?hst ?hI ?step ?fin
  case hst =>
    intro i j ys W W' hne hanc hneed hV hI hR
    by_cases j7 : j = 7
    · subst j7
      refine Bs.keep (show Bs (fun k => At (ys 7) k ∧ w.heap.size ≤ k) W (ys 7) s.data.toList from hV) hR ?_
      rintro k hk _ ⟨rfl, _⟩
      cases (Eq.symm hneed).trans (by kernel_rfl : _ = false)
    by_cases j8 : j = 8
    · subst j8
      refine Bs.keep (show Bs (At (ys 8)) W (ys 8) (M.shut s.data.toList) from hV) hR ?_
      rintro k hk _ ⟨rfl, _⟩
      exact hne rfl
    exact IV_pure hV j7 j8
  case hI => exact HB3.out.drew
  case step =>
    refine ⟨?_, ?_, ?_, ?_, ?_, ?_, ?_, ?_, ?_, ?_, ?_, ?_, ?_, ?_, ?_, ?_, ?_, ?_, ?_, ?_, ?_, ?_, ?_, ?_, ?_, trivial⟩
    · intro ys A W hA hI hd K hK
      have e0 : A.tmps.getD 0 undef = .string s := hA 0 (Nat.le_of_ble_eq_true rfl)
      refine step_run (.inl rfl) ?_
      clear hA hd
      go_simp
      exact hK _ _ hI (Keep.refl _ _) rfl
    · intro ys A W hA hI hd K hK
      have e22 : A.tmps.getD 22 undef = .string s := (hA 22 (Nat.le_of_ble_eq_true rfl)).trans (hd ⟨0, .data⟩ (by simp) rfl)
      refine step_run (.inl rfl) ?_
      clear hA hd
      go_simp
      refine (C10.out W).mono ?_
      rintro e W' ⟨rfl, rfl⟩
      exact hK _ _ hI (Keep.refl _ _) rfl
    · intro ys A W hA hI hd K hK
      have e0 : A.tmps.getD 0 undef = .string s := hA 0 (Nat.le_of_ble_eq_true rfl)
      refine step_run (.inl rfl) ?_
      clear hA hd
      go_simp
      exact hK _ _ hI (Keep.refl _ _) rfl
    · intro ys A W hA hI hd K hK
      have e24 : A.tmps.getD 24 undef = .string s := (hA 24 (Nat.le_of_ble_eq_true rfl)).trans (hd ⟨2, .data⟩ (by simp) rfl)
      refine step_run (.inl rfl) ?_
      clear hA hd
      go_simp
      refine (C11.out W).mono ?_
      rintro e W' ⟨rfl, rfl⟩
      exact hK _ _ hI (Keep.refl _ _) rfl
    · intro ys A W hA hI hd K hK
      have e23 : A.tmps.getD 23 undef = .int .u32 n := (hA 23 (Nat.le_of_ble_eq_true rfl)).trans (hd ⟨1, .data⟩ (by simp) rfl)
      have e25 : A.tmps.getD 25 undef = .int .u32 n := (hA 25 (Nat.le_of_ble_eq_true rfl)).trans (hd ⟨3, .data⟩ (by simp) rfl)
      refine step_run (.inl rfl) ?_
      clear hA hd
      go_simp
      exact hK _ _ hI (Keep.refl _ _) rfl
    · intro ys A W hA hI hd K hK
      have e26 : A.tmps.getD 26 undef = .bool true := (hA 26 (Nat.le_of_ble_eq_true rfl)).trans (hd ⟨4, .data⟩ (by simp) rfl)
      refine step_run (.inl rfl) ?_
      clear hA hd
      go_simp
      exact hK _ _ hI (Keep.refl _ _) rfl
    · intro ys A W hA hI hd K hK
      have e0 : A.tmps.getD 0 undef = .string s := hA 0 (Nat.le_of_ble_eq_true rfl)
      refine step_run (.inr ⟨5, 27, true, rfl, rfl, (hA 27 (Nat.le_of_ble_eq_true rfl)).trans (hd ⟨5, .guard⟩ (by simp) rfl)⟩) ?_
      clear hA hd
      go_simp
      exact hK _ _ hI (Keep.refl _ _) rfl
    · intro ys A W hA hI hd K hK
      have e28 : A.tmps.getD 28 undef = .string s := (hA 28 (Nat.le_of_ble_eq_true rfl)).trans (hd ⟨6, .data⟩ (by simp) rfl)
      refine step_run (.inr ⟨5, 27, true, rfl, rfl, (hA 27 (Nat.le_of_ble_eq_true rfl)).trans (hd ⟨5, .guard⟩ (by simp) rfl)⟩) ?_
      clear hA hd
      go_simp
      obtain ⟨h1, h2⟩ := cv_bs s (by omega) W
      refine hK _ _ (hI.trans (h2.mono hI.size)) (IR.of h2) (h1.own.and fun k hk => ?_)
      have := cv_at hk
      have := hI.size
      omega
    · intro ys A W hA hI hd K hK
      have e29 : A.tmps.getD 29 undef = ys 7 := hA 29 (Nat.le_of_ble_eq_true rfl)
      have hV : Bs (fun k => At (ys 7) k ∧ w.heap.size ≤ k) W (ys 7) s.data.toList := hd ⟨7, .data⟩ (by simp) rfl
      refine step_run (.inr ⟨5, 27, true, rfl, rfl, (hA 27 (Nat.le_of_ble_eq_true rfl)).trans (hd ⟨5, .guard⟩ (by simp) rfl)⟩) ?_
      clear hA hd
      go_simp
      refine (shut_any (fun k => At (ys 7) k ∧ w.heap.size ≤ k ∨ W.heap.size ≤ k) (ys 7) _ W (hV.mono fun k hk => .inl hk) (fun k hk => .inr hk) (by rw [HSL.out]; omega)).mono ?_
      rintro e W' ⟨v', rfl, hs, hk⟩
      refine hK _ _ (hI.trans (hk.below ?_ hI.size)) (hk.into ?_) hs.own
      · rintro k (⟨_, h1⟩ | h1)
        · exact h1
        · exact Nat.le_trans hI.size h1
      · rintro k hlt (⟨h1, _⟩ | h1)
        · exact ⟨rfl, h1⟩
        · omega
    · intro ys A W hA hI hd K hK
      have e30 : A.tmps.getD 30 undef = ys 8 := hA 30 (Nat.le_of_ble_eq_true rfl)
      have hV : Bs (At (ys 8)) W (ys 8) (M.shut s.data.toList) := hd ⟨8, .data⟩ (by simp) rfl
      have hc := bs_string_of hV p HP.out
      refine step_run (.inr ⟨5, 27, true, rfl, rfl, (hA 27 (Nat.le_of_ble_eq_true rfl)).trans (hd ⟨5, .guard⟩ (by simp) rfl)⟩) ?_
      clear hA hd
      go_simp
      exact hK _ _ hI (Keep.refl _ _) rfl
    · intro ys A W hA hI hd K hK
      have e0 : A.tmps.getD 0 undef = .string s := hA 0 (Nat.le_of_ble_eq_true rfl)
      refine step_run (.inr ⟨5, 27, true, rfl, rfl, (hA 27 (Nat.le_of_ble_eq_true rfl)).trans (hd ⟨5, .guard⟩ (by simp) rfl)⟩) ?_
      clear hA hd
      go_simp
      exact hK _ _ hI (Keep.refl _ _) rfl
    · intro ys A W hA hI hd K hK
      have e32 : A.tmps.getD 32 undef = .string s := (hA 32 (Nat.le_of_ble_eq_true rfl)).trans (hd ⟨10, .data⟩ (by simp) rfl)
      refine step_run (.inr ⟨5, 27, true, rfl, rfl, (hA 27 (Nat.le_of_ble_eq_true rfl)).trans (hd ⟨5, .guard⟩ (by simp) rfl)⟩) ?_
      clear hA hd
      go_simp
      refine (C13.out W).mono ?_
      rintro e W' ⟨⟨p', rfl, hp'⟩, hb⟩
      obtain rfl : p' = p := bytes_ext (hp'.trans HP.out.symm)
      exact hK _ _ (hI.trans (hb.mono hI.size)) (IR.of hb) rfl
    · intro ys A W hA hI hd K hK
      have e31 : A.tmps.getD 31 undef = .string p := (hA 31 (Nat.le_of_ble_eq_true rfl)).trans (hd ⟨9, .data⟩ (by simp) rfl)
      have e33 : A.tmps.getD 33 undef = .string p := (hA 33 (Nat.le_of_ble_eq_true rfl)).trans (hd ⟨11, .data⟩ (by simp) rfl)
      refine step_run (.inr ⟨5, 27, true, rfl, rfl, (hA 27 (Nat.le_of_ble_eq_true rfl)).trans (hd ⟨5, .guard⟩ (by simp) rfl)⟩) ?_
      clear hA hd
      go_simp
      exact hK _ _ hI (Keep.refl _ _) rfl
    · intro ys A W hA hI hd K hK
      have e27 : A.tmps.getD 27 undef = .bool true := (hA 27 (Nat.le_of_ble_eq_true rfl)).trans (hd ⟨5, .data⟩ (by simp) rfl)
      have e34 : A.tmps.getD 34 undef = .bool true := (hA 34 (Nat.le_of_ble_eq_true rfl)).trans (hd ⟨12, .data⟩ (by simp) rfl)
      refine step_run (.inl rfl) ?_
      clear hA hd
      go_simp
      exact hK _ _ hI (Keep.refl _ _) rfl
    · intro ys A W hA hI hd K hK
      have e35 : A.tmps.getD 35 undef = .bool true := (hA 35 (Nat.le_of_ble_eq_true rfl)).trans (hd ⟨13, .data⟩ (by simp) rfl)
      refine step_run (.inl rfl) ?_
      clear hA hd
      go_simp
      exact hK _ _ hI (Keep.refl _ _) rfl
    · intro ys A W hA hI hd K hK
      have e3 : A.tmps.getD 3 undef = .string t' := hA 3 (Nat.le_of_ble_eq_true rfl)
      refine step_run (.inr ⟨14, 36, true, rfl, rfl, (hA 36 (Nat.le_of_ble_eq_true rfl)).trans (hd ⟨14, .guard⟩ (by simp) rfl)⟩) ?_
      clear hA hd
      go_simp
      exact hK _ _ hI (Keep.refl _ _) rfl
    · intro ys A W hA hI hd K hK
      have e5 : A.tmps.getD 5 undef = .string t' := hA 5 (Nat.le_of_ble_eq_true rfl)
      refine step_run (.inr ⟨14, 36, true, rfl, rfl, (hA 36 (Nat.le_of_ble_eq_true rfl)).trans (hd ⟨14, .guard⟩ (by simp) rfl)⟩) ?_
      clear hA hd
      go_simp
      exact hK _ _ hI (Keep.refl _ _) rfl
    · intro ys A W hA hI hd K hK
      have e37 : A.tmps.getD 37 undef = .string t' := (hA 37 (Nat.le_of_ble_eq_true rfl)).trans (hd ⟨15, .data⟩ (by simp) rfl)
      have e38 : A.tmps.getD 38 undef = .string t' := (hA 38 (Nat.le_of_ble_eq_true rfl)).trans (hd ⟨16, .data⟩ (by simp) rfl)
      refine step_run (.inr ⟨14, 36, true, rfl, rfl, (hA 36 (Nat.le_of_ble_eq_true rfl)).trans (hd ⟨14, .guard⟩ (by simp) rfl)⟩) ?_
      clear hA hd
      go_simp
      exact hK _ _ hI (Keep.refl _ _) rfl
    · intro ys A W hA hI hd K hK
      have e36 : A.tmps.getD 36 undef = .bool true := (hA 36 (Nat.le_of_ble_eq_true rfl)).trans (hd ⟨14, .data⟩ (by simp) rfl)
      have e39 : A.tmps.getD 39 undef = .bool true := (hA 39 (Nat.le_of_ble_eq_true rfl)).trans (hd ⟨17, .data⟩ (by simp) rfl)
      refine step_run (.inl rfl) ?_
      clear hA hd
      go_simp
      exact hK _ _ hI (Keep.refl _ _) rfl
    · intro ys A W hA hI hd K hK
      have e40 : A.tmps.getD 40 undef = .bool true := (hA 40 (Nat.le_of_ble_eq_true rfl)).trans (hd ⟨18, .data⟩ (by simp) rfl)
      refine step_run (.inl rfl) ?_
      clear hA hd
      go_simp
      exact hK _ _ hI (Keep.refl _ _) rfl
    · intro ys A W hA hI hd K hK
      have e4 : A.tmps.getD 4 undef = .bool b' := hA 4 (Nat.le_of_ble_eq_true rfl)
      refine step_run (.inr ⟨19, 41, true, rfl, rfl, (hA 41 (Nat.le_of_ble_eq_true rfl)).trans (hd ⟨19, .guard⟩ (by simp) rfl)⟩) ?_
      clear hA hd
      go_simp
      exact hK _ _ hI (Keep.refl _ _) rfl
    · intro ys A W hA hI hd K hK
      have e6 : A.tmps.getD 6 undef = .bool b' := hA 6 (Nat.le_of_ble_eq_true rfl)
      refine step_run (.inr ⟨19, 41, true, rfl, rfl, (hA 41 (Nat.le_of_ble_eq_true rfl)).trans (hd ⟨19, .guard⟩ (by simp) rfl)⟩) ?_
      clear hA hd
      go_simp
      exact hK _ _ hI (Keep.refl _ _) rfl
    · intro ys A W hA hI hd K hK
      have e42 : A.tmps.getD 42 undef = .bool b' := (hA 42 (Nat.le_of_ble_eq_true rfl)).trans (hd ⟨20, .data⟩ (by simp) rfl)
      have e43 : A.tmps.getD 43 undef = .bool b' := (hA 43 (Nat.le_of_ble_eq_true rfl)).trans (hd ⟨21, .data⟩ (by simp) rfl)
      refine step_run (.inr ⟨19, 41, true, rfl, rfl, (hA 41 (Nat.le_of_ble_eq_true rfl)).trans (hd ⟨19, .guard⟩ (by simp) rfl)⟩) ?_
      clear hA hd
      go_simp
      exact hK _ _ hI (Keep.refl _ _) rfl
    · intro ys A W hA hI hd K hK
      have e41 : A.tmps.getD 41 undef = .bool true := (hA 41 (Nat.le_of_ble_eq_true rfl)).trans (hd ⟨19, .data⟩ (by simp) rfl)
      have e44 : A.tmps.getD 44 undef = .bool true := (hA 44 (Nat.le_of_ble_eq_true rfl)).trans (hd ⟨22, .data⟩ (by simp) rfl)
      refine step_run (.inl rfl) ?_
      clear hA hd
      go_simp
      exact hK _ _ hI (Keep.refl _ _) rfl
    · intro ys A W hA hI hd K hK
      have e45 : A.tmps.getD 45 undef = .bool true := (hA 45 (Nat.le_of_ble_eq_true rfl)).trans (hd ⟨23, .data⟩ (by simp) rfl)
      refine step_run (.inl rfl) ?_
      clear hA hd
      go_simp
      exact hK _ _ hI (Keep.refl _ _) rfl
  case fin =>
    intro ys wz hI hF
    have h24 : ys 24 = .bool true := hF 24 (by decide) rfl
    have HB := Lib.hid hI
    clear hI hF
    simp only [putsFrom]
    simp only [h24, Act.put, List.setIfInBounds_toArray, List.set_cons_succ, List.set_cons_zero]
    go_wp2_with fail
    go_ret
    exact ⟨rfl, HB.out⟩

end Go.Proofs.Ytacekhjmfjcppaa
