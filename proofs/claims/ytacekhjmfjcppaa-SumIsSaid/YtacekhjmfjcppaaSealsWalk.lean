/-
  magpielaw02.SumSeals: the walk.
-/
import Derived.Test.YtacekhjmfjcppaaAlive
import Derived.Test.YtacekhjmfjcppaaFlow
import Derived.Deep.DeepCutAuto
namespace Go.Proofs.Ytacekhjmfjcppaa
open Go.RowKit Go

/-- []byte(s): the value, and the world behind it; not laid open. -/
def cv (w : World) (s : ByteArray) : Value := .slice (some ⟨w.heap.size, 0, none⟩) s.size (grownCap w s.size 0 5)
def cw (w : World) (s : ByteArray) : World := Lib.bytesWorld w 5 s

theorem cv_run (s : ByteArray) (w : World) : (convert 9 27 (.string s)).run Try.prog w = .ok (cv w s) (cw w s) :=
  Lib.run_convert_string_bytes (P := Try.prog) w 9 27 5 s Try.underlying9 Try.underlying27 Try.underlying5

theorem cv_bs (s : ByteArray) (hs : s.size ≤ 140737488355328) (w : World) : Bs (fun k => k = w.heap.size) (cw w s) (cv w s) s.data.toList ∧ Below w.heap.size w (cw w s) := by
  obtain ⟨v, w', h, h1, h2⟩ := bytes_bs w s hs
  rw [cv_run s w] at h
  cases h
  exact ⟨h1, h2⟩

/-- What holds all the time: the two slices, and what is made of them, lie in blocks of their own. -/
structure SI (w : World) (ys : Nat → Value) (W : World) : Prop where
  bel : Below w.heap.size w W
  one : ∀ k, At (ys 1) k ∨ At (ys 2) k → w.heap.size ≤ k ∧ k < W.heap.size
  two : ∀ k, At (ys 5) k ∨ At (ys 6) k → w.heap.size ≤ k ∧ k < W.heap.size
  apart : ∀ k, At (ys 1) k ∨ At (ys 2) k → ¬ (At (ys 5) k ∨ At (ys 6) k)

theorem SI.pure {w W : World} {ys : Nat → Value} (h : SI w ys W) (i : Nat) (v : Value) (h1 : 1 ≠ i) (h2 : 2 ≠ i) (h5 : 5 ≠ i) (h6 : 6 ≠ i) : SI w (upd ys i v) W := by
  have e1 := upd_other ys v h1
  have e2 := upd_other ys v h2
  have e5 := upd_other ys v h5
  have e6 := upd_other ys v h6
  exact ⟨h.bel, by rw [e1, e2]; exact h.one, by rw [e5, e6]; exact h.two, by rw [e1, e2, e5, e6]; exact h.apart⟩

/-- A new slice, or one that lies where the slice was. -/
theorem SI.one_put {w W W' : World} {ys : Nat → Value} (h : SI w ys W) (i : Nat) (hi : i = 1 ∨ i = 2) (v : Value) (hb : Below w.heap.size W W') (hv : ∀ k, At v k → At (ys 1) k ∨ At (ys 2) k ∨ (W.heap.size ≤ k ∧ k < W'.heap.size)) : SI w (upd ys i v) W' := by
  have e5 : upd ys i v 5 = ys 5 := upd_other ys v (by omega)
  have e6 : upd ys i v 6 = ys 6 := upd_other ys v (by omega)
  have hbs := h.bel.size
  have hsz := hb.size
  have key : ∀ k, At (upd ys i v 1) k ∨ At (upd ys i v 2) k → (At (ys 1) k ∨ At (ys 2) k) ∨ (W.heap.size ≤ k ∧ k < W'.heap.size) := by
    intro k hk
    rcases hi with rfl | rfl
    · rw [upd_same, upd_other ys v (by decide)] at hk
      rcases hk with hk | hk
      · rcases hv k hk with h1 | h1 | h1
        · exact .inl (.inl h1)
        · exact .inl (.inr h1)
        · exact .inr h1
      · exact .inl (.inr hk)
    · rw [upd_same, upd_other ys v (by decide)] at hk
      rcases hk with hk | hk
      · exact .inl (.inl hk)
      · rcases hv k hk with h1 | h1 | h1
        · exact .inl (.inl h1)
        · exact .inl (.inr h1)
        · exact .inr h1
  refine ⟨h.bel.trans hb, fun k hk => ?_, fun k hk => ?_, fun k hk hk2 => ?_⟩
  · rcases key k hk with h1 | h1
    · have := h.one k h1; omega
    · omega
  · rw [e5, e6] at hk
    have := h.two k hk; omega
  · rw [e5, e6] at hk2
    rcases key k hk with h1 | h1
    · exact h.apart k h1 hk2
    · have := h.two k hk2; omega

theorem SI.two_put {w W W' : World} {ys : Nat → Value} (h : SI w ys W) (i : Nat) (hi : i = 5 ∨ i = 6) (v : Value) (hb : Below w.heap.size W W') (hv : ∀ k, At v k → At (ys 5) k ∨ At (ys 6) k ∨ (W.heap.size ≤ k ∧ k < W'.heap.size)) : SI w (upd ys i v) W' := by
  have e1 : upd ys i v 1 = ys 1 := upd_other ys v (by omega)
  have e2 : upd ys i v 2 = ys 2 := upd_other ys v (by omega)
  have hbs := h.bel.size
  have hsz := hb.size
  have key : ∀ k, At (upd ys i v 5) k ∨ At (upd ys i v 6) k → (At (ys 5) k ∨ At (ys 6) k) ∨ (W.heap.size ≤ k ∧ k < W'.heap.size) := by
    intro k hk
    rcases hi with rfl | rfl
    · rw [upd_same, upd_other ys v (by decide)] at hk
      rcases hk with hk | hk
      · rcases hv k hk with h1 | h1 | h1
        · exact .inl (.inl h1)
        · exact .inl (.inr h1)
        · exact .inr h1
      · exact .inl (.inr hk)
    · rw [upd_same, upd_other ys v (by decide)] at hk
      rcases hk with hk | hk
      · exact .inl (.inl hk)
      · rcases hv k hk with h1 | h1 | h1
        · exact .inl (.inl h1)
        · exact .inl (.inr h1)
        · exact .inr h1
  refine ⟨h.bel.trans hb, fun k hk => ?_, fun k hk => ?_, fun k hk hk2 => ?_⟩
  · rw [e1, e2] at hk
    have := h.one k hk; omega
  · rcases key k hk with h1 | h1
    · have := h.two k h1; omega
    · omega
  · rw [e1, e2] at hk
    rcases key k hk2 with h1 | h1
    · exact h.apart k hk h1
    · have := h.one k hk; omega

/-- What an operation turns: a call that seals may turn the block of its slice. -/
def SR (i : Nat) (ys : Nat → Value) (W W' : World) : Prop := Keep (fun k => (i = 2 ∧ At (ys 1) k) ∨ (i = 6 ∧ At (ys 5) k)) W W'

theorem Keep.into {G H : Nat → Prop} {w w' : World} (h : Keep G w w') (hG : ∀ k, k < w.heap.size → G k → H k) : Keep H w w' :=
  ⟨h.os, h.tape, h.output, h.size, fun k hk hn => h.block k hk (fun hg => hn (hG k hk hg))⟩

theorem SR.of {i : Nat} {ys : Nat → Value} {W W' : World} (h : Below W.heap.size W W') : SR i ys W W' :=
  ⟨h.os, h.tape, h.output, h.size, fun k hk _ => h.block k hk⟩

/-- What the operations leave. -/
def SV (a b p q : ByteArray) : Nat → Value → World → Prop
  | 0, v, _ => v = .string a
  | 4, v, _ => v = .string b
  | 1, v, W => Bs (At v) W v a.data.toList
  | 5, v, W => Bs (At v) W v b.data.toList
  | 2, v, W => Bs (At v) W v (M.shut a.data.toList)
  | 6, v, W => Bs (At v) W v (M.shut b.data.toList)
  | 3, v, _ | 8, v, _ => v = .string p
  | _, v, _ => v = .string q

theorem SV_pure {a b p q : ByteArray} {j : Nat} {v : Value} {W W' : World} (h : SV a b p q j v W) (h1 : j ≠ 1) (h2 : j ≠ 2) (h5 : j ≠ 5) (h6 : j ≠ 6) : SV a b p q j v W' := by
  unfold SV at h ⊢
  split at h <;> first | exact h | (exfalso; first | exact h1 rfl | exact h2 rfl | exact h5 rfl | exact h6 rfl)

theorem cv_at {w : World} {s : ByteArray} {k : Nat} (h : At (cv w s) k) : k = w.heap.size := by
  obtain ⟨n, c, e⟩ := h
  unfold cv at e
  have : (some (⟨w.heap.size, 0, none⟩ : Addr)) = some ⟨k, 0, none⟩ := by injection e
  have h2 : w.heap.size = k := by simpa using this
  exact h2.symm

set_option maxHeartbeats 4000000 in
set_option maxRecDepth 100000 in
theorem seals_walk (a b : ByteArray) (w : World) :
    Calls Try.prog 6 #[.string a, .string b] w fun e w' => e = .returned (.bool true) ∧ Below w.heap.size w w' := by
  by_cases hla : 4096 < a.size
  · go_enter Try.func6, Try.ntmps6
    go_wp2_with fail
    refine (alive_any w).mono ?_
    rintro e w1 ⟨rfl, hb1⟩
    go_wp2
    go_ret
    exact ⟨rfl, hb1⟩
  by_cases hlb : 4096 < b.size
  · go_enter Try.func6, Try.ntmps6
    go_wp2_with fail
    refine (alive_any w).mono ?_
    rintro e w1 ⟨rfl, hb1⟩
    go_wp2
    go_ret
    exact ⟨rfl, hb1⟩
  have hal : a.data.toList.length = a.size := (Lib.size_eq a).symm
  have hbl : b.data.toList.length = b.size := (Lib.size_eq b).symm
  obtain ⟨p, hp⟩ := text_of (M.shut a.data.toList)
  obtain ⟨q, hq⟩ := text_of (M.shut b.data.toList)
  have hps : p.size = a.size + 4 := by rw [Lib.size_eq, hp, M.shut_length, hal]
  have hpe : p.extract 0 a.size = a := by
    apply bytes_ext
    rw [Lib.extract_data, hp, List.drop_zero, Nat.sub_zero, ← hal]
    exact List.take_left
  have hpq : (p.toList == q.toList) = (a.toList == b.toList) := by
    rw [Lib.toList_data, Lib.toList_data, Lib.toList_data, Lib.toList_data, hp, hq, Bool.eq_iff_iff]
    simp only [beq_iff_eq]
    exact ⟨fun h => M.shut_inj h, fun h => by rw [h]⟩
  have HP := Lib.hid hp
  have HQ := Lib.hid hq
  have HAL := Lib.hid hal
  have HBL := Lib.hid hbl
  have HPS := Lib.hid hps
  have HPE := Lib.hid hpe
  have HPQ := Lib.hid hpq
  have hcva := cv_run a
  have hcvb := cv_run b
  clear hp hq hal hbl hps hpe hpq
  go_enter Try.func6, Try.ntmps6
  go_wp2_with fail
  refine (alive_any w).mono ?_
  rintro e w1 ⟨rfl, hb1⟩
  go_upto_region 5 with fail
  refine wp_region_flow (by kernel_rfl) (SI w) SR (SV a b p q) (fun j => j == 8 || j == 9) (by kernel_rfl) (by kernel_rfl) ?hst ?hI ?step ?fin
  case hst =>
    intro i j ys W W' hne hanc hneed hV hI hR
    by_cases j1 : j = 1
    · subst j1
      refine Bs.keep (show Bs (At (ys 1)) W (ys 1) a.data.toList from hV) hR ?_
      rintro k hk _ (⟨rfl, _⟩ | ⟨rfl, h5⟩)
      · cases (Eq.symm hneed).trans (by kernel_rfl : _ = false)
      · exact hI.apart k (.inl hk) (.inl h5)
    by_cases j2 : j = 2
    · subst j2
      refine Bs.keep (show Bs (At (ys 2)) W (ys 2) (M.shut a.data.toList) from hV) hR ?_
      rintro k hk _ (⟨rfl, _⟩ | ⟨rfl, h5⟩)
      · exact hne rfl
      · exact hI.apart k (.inr hk) (.inl h5)
    by_cases j5 : j = 5
    · subst j5
      refine Bs.keep (show Bs (At (ys 5)) W (ys 5) b.data.toList from hV) hR ?_
      rintro k hk _ (⟨rfl, h1⟩ | ⟨rfl, _⟩)
      · exact hI.apart k (.inl h1) (.inl hk)
      · cases (Eq.symm hneed).trans (by kernel_rfl : _ = false)
    by_cases j6 : j = 6
    · subst j6
      refine Bs.keep (show Bs (At (ys 6)) W (ys 6) (M.shut b.data.toList) from hV) hR ?_
      rintro k hk _ (⟨rfl, h1⟩ | ⟨rfl, _⟩)
      · exact hI.apart k (.inl h1) (.inr hk)
      · exact hne rfl
    exact SV_pure hV j1 j2 j5 j6
  case hI =>
    have hno : ∀ k, ¬ At undef k := by rintro k ⟨n, c, e⟩; cases e
    refine ⟨hb1.drew, ?_, ?_, ?_⟩
    · rintro k (hk | hk)
      · exact absurd hk (hno k)
      · exact absurd hk (hno k)
    · rintro k (hk | hk)
      · exact absurd hk (hno k)
      · exact absurd hk (hno k)
    · rintro k (hk | hk)
      · exact absurd hk (hno k)
      · exact absurd hk (hno k)
  case step =>
    refine ⟨?_, ?_, ?_, ?_, ?_, ?_, ?_, ?_, ?_, ?_, trivial⟩
    · intro ys A W hA hI hd K hK
      have e0 : A.tmps.getD 0 undef = .string a := hA 0 (Nat.le_of_ble_eq_true rfl)
      refine step_run (.inl rfl) ?_
      clear hA hd
      go_simp
      exact hK _ _ (hI.pure 0 _ (by decide) (by decide) (by decide) (by decide)) (SR.of (Below.refl _ _)) rfl
    · intro ys A W hA hI hd K hK
      have e17 : A.tmps.getD 17 undef = .string a := (hA 17 (Nat.le_of_ble_eq_true rfl)).trans (hd ⟨0, .data⟩ (by simp) rfl)
      refine step_run (.inl rfl) ?_
      clear hA hd
      go_simp
      obtain ⟨h1, h2⟩ := cv_bs a (by omega) W
      refine hK _ _ (hI.one_put 1 (.inl rfl) _ (h2.mono hI.bel.size) (fun k hk => .inr (.inr ?_))) (SR.of h2) h1.own
      have := (h1.at hk).2
      have := cv_at hk
      omega
    · intro ys A W hA hI hd K hK
      have hV : Bs (At (ys 1)) W (ys 1) a.data.toList := hd ⟨1, .data⟩ (by simp) rfl
      have e18 : A.tmps.getD 18 undef = ys 1 := hA 18 (Nat.le_of_ble_eq_true rfl)
      refine step_run (.inl rfl) ?_
      clear hA hd
      go_simp
      refine (shut_any (fun k => At (ys 1) k ∨ W.heap.size ≤ k) (ys 1) _ W (hV.mono fun k hk => .inl hk) (fun k hk => .inr hk) (by rw [HAL.out]; omega)).mono ?_
      rintro e W' ⟨v', rfl, hs, hk⟩
      refine hK _ _ (hI.one_put 2 (.inr rfl) _ (hk.below ?_ hI.bel.size) (fun k hk2 => ?_)) (hk.into ?_) hs.own
      · rintro k (h1 | h1)
        · exact (hI.one k (.inl h1)).1
        · exact Nat.le_trans hI.bel.size h1
      · obtain ⟨h1 | h1, h2⟩ := hs.at hk2
        · exact .inl h1
        · exact .inr (.inr ⟨h1, h2⟩)
      · rintro k hlt (h1 | h1)
        · exact .inl ⟨rfl, h1⟩
        · omega
    · intro ys A W hA hI hd K hK
      have hV : Bs (At (ys 2)) W (ys 2) (M.shut a.data.toList) := hd ⟨2, .data⟩ (by simp) rfl
      have e19 : A.tmps.getD 19 undef = ys 2 := hA 19 (Nat.le_of_ble_eq_true rfl)
      have hc := bs_string_of hV p HP.out
      refine step_run (.inl rfl) ?_
      clear hA hd
      go_simp
      exact hK _ _ (hI.pure 3 _ (by decide) (by decide) (by decide) (by decide)) (SR.of (Below.refl _ _)) rfl
    · intro ys A W hA hI hd K hK
      have e1 : A.tmps.getD 1 undef = .string b := hA 1 (Nat.le_of_ble_eq_true rfl)
      refine step_run (.inl rfl) ?_
      clear hA hd
      go_simp
      exact hK _ _ (hI.pure 4 _ (by decide) (by decide) (by decide) (by decide)) (SR.of (Below.refl _ _)) rfl
    · intro ys A W hA hI hd K hK
      have e21 : A.tmps.getD 21 undef = .string b := (hA 21 (Nat.le_of_ble_eq_true rfl)).trans (hd ⟨4, .data⟩ (by simp) rfl)
      refine step_run (.inl rfl) ?_
      clear hA hd
      go_simp
      obtain ⟨h1, h2⟩ := cv_bs b (by omega) W
      refine hK _ _ (hI.two_put 5 (.inl rfl) _ (h2.mono hI.bel.size) (fun k hk => .inr (.inr ?_))) (SR.of h2) h1.own
      have := (h1.at hk).2
      have := cv_at hk
      omega
    · intro ys A W hA hI hd K hK
      have hV : Bs (At (ys 5)) W (ys 5) b.data.toList := hd ⟨5, .data⟩ (by simp) rfl
      have e22 : A.tmps.getD 22 undef = ys 5 := hA 22 (Nat.le_of_ble_eq_true rfl)
      refine step_run (.inl rfl) ?_
      clear hA hd
      go_simp
      refine (shut_any (fun k => At (ys 5) k ∨ W.heap.size ≤ k) (ys 5) _ W (hV.mono fun k hk => .inl hk) (fun k hk => .inr hk) (by rw [HBL.out]; omega)).mono ?_
      rintro e W' ⟨v', rfl, hs, hk⟩
      refine hK _ _ (hI.two_put 6 (.inr rfl) _ (hk.below ?_ hI.bel.size) (fun k hk2 => ?_)) (hk.into ?_) hs.own
      · rintro k (h1 | h1)
        · exact (hI.two k (.inl h1)).1
        · exact Nat.le_trans hI.bel.size h1
      · obtain ⟨h1 | h1, h2⟩ := hs.at hk2
        · exact .inl h1
        · exact .inr (.inr ⟨h1, h2⟩)
      · rintro k hlt (h1 | h1)
        · exact .inr ⟨rfl, h1⟩
        · omega
    · intro ys A W hA hI hd K hK
      have hV : Bs (At (ys 6)) W (ys 6) (M.shut b.data.toList) := hd ⟨6, .data⟩ (by simp) rfl
      have e23 : A.tmps.getD 23 undef = ys 6 := hA 23 (Nat.le_of_ble_eq_true rfl)
      have hc := bs_string_of hV q HQ.out
      refine step_run (.inl rfl) ?_
      clear hA hd
      go_simp
      exact hK _ _ (hI.pure 7 _ (by decide) (by decide) (by decide) (by decide)) (SR.of (Below.refl _ _)) rfl
    · intro ys A W hA hI hd K hK
      have e20 : A.tmps.getD 20 undef = .string p := (hA 20 (Nat.le_of_ble_eq_true rfl)).trans (hd ⟨3, .data⟩ (by simp) rfl)
      refine step_run (.inl rfl) ?_
      clear hA hd
      go_simp
      exact hK _ _ (hI.pure 8 _ (by decide) (by decide) (by decide) (by decide)) (SR.of (Below.refl _ _)) rfl
    · intro ys A W hA hI hd K hK
      have e24 : A.tmps.getD 24 undef = .string q := (hA 24 (Nat.le_of_ble_eq_true rfl)).trans (hd ⟨7, .data⟩ (by simp) rfl)
      refine step_run (.inl rfl) ?_
      clear hA hd
      go_simp
      exact hK _ _ (hI.pure 9 _ (by decide) (by decide) (by decide) (by decide)) (SR.of (Below.refl _ _)) rfl
  case fin =>
    intro ys wz hI hF
    have h8 : ys 8 = .string p := hF 8 (by decide) rfl
    have h9 : ys 9 = .string q := hF 9 (by decide) rfl
    have HB := Lib.hid hI.bel
    clear hI hF
    simp only [putsFrom]
    simp only [h8, h9, Act.put, List.setIfInBounds_toArray, List.set_cons_succ, List.set_cons_zero]
    have hps := HPS.out
    have hpe := HPE.out
    have hpq := HPQ.out
    go_wp2_with fail
    go_ret
    exact ⟨rfl, HB.out⟩

end Go.Proofs.Ytacekhjmfjcppaa
