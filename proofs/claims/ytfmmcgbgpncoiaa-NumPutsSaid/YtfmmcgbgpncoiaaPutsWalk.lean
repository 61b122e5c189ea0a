/-
  magpielaw01.NumPuts: the walk.
-/
import Derived.Test.YtfmmcgbgpncoiaaRef
import Derived.Deep.DeepCutAuto
import Derived.Test.YtfmmcgbgpncoiaaFlow
namespace Go.Proofs.Ytfmmcgbgpncoiaa
open Go.RowKit Go

/-- []byte(s): the value, and the world behind it; not laid open. -/
def cv (w : World) (s : ByteArray) : Value := .slice (some ⟨w.heap.size, 0, none⟩) s.size (grownCap w s.size 0 5)
def cw (w : World) (s : ByteArray) : World := Lib.bytesWorld w 5 s

theorem cv_run (s : ByteArray) (w : World) : (convert 9 24 (.string s)).run Try.prog w = .ok (cv w s) (cw w s) :=
  Lib.run_convert_string_bytes (P := Try.prog) w 9 24 5 s Try.underlying9 Try.underlying24 Try.underlying5

theorem cv_bs (s : ByteArray) (hs : s.size ≤ 140737488355328) (w : World) : Bs w.heap.size (cw w s) (cv w s) s.data.toList ∧ Below w.heap.size w (cw w s) := by
  obtain ⟨v, w', h, h1, h2⟩ := bytes_bs w s hs
  rw [cv_run s w] at h
  cases h
  exact ⟨h1, h2⟩

theorem below_via {w a c : World} (h : Below w.heap.size w a) (k : Below a.heap.size a c) : Below w.heap.size w c := h.trans (k.mono h.size)
theorem below_via2 {w a b c : World} (h : Below w.heap.size w a) (h2 : Below w.heap.size w b) (k : Below b.heap.size a c) : Below w.heap.size w c := h.trans (k.mono h2.size)
theorem cw_via {w a : World} {s : ByteArray} (hs : s.size ≤ 140737488355328) (h : Below w.heap.size w a) : Below w.heap.size w (cw a s) := below_via h (cv_bs s hs a).2

/-- The slice of the conversion made in w0 holds s's bytes still. -/
def Soon (w0 : World) (s : ByteArray) (w : World) : Prop := s.size ≤ 140737488355328 → Bs w0.heap.size w (cv w0 s) s.data.toList ∧ w0.heap.size ≤ w.heap.size

theorem Soon.here (w0 : World) (s : ByteArray) : Soon w0 s (cw w0 s) := fun hs => ⟨(cv_bs s hs w0).1, (cv_bs s hs w0).2.size⟩
theorem Soon.later {w0 w : World} {s : ByteArray} (h : Below (cw w0 s).heap.size (cw w0 s) w) : Soon w0 s w := fun hs =>
  ⟨(cv_bs s hs w0).1.below (Nat.le_refl _) h, Nat.le_trans (cv_bs s hs w0).2.size h.size⟩

/-- v holds the bytes of t. -/
def Str (w : World) (v : Value) (t : ByteArray) : Prop := ∃ B l, Bs B w v l ∧ t.data.toList = l
theorem Str.run {w : World} {v : Value} {t : ByteArray} (h : Str w v t) : (convert 24 9 v).run Try.prog w = .ok (.string t) w := by
  obtain ⟨B, l, h, ht⟩ := h
  exact bs_string_of h t ht
theorem Str.later {w w' : World} {v : Value} {t : ByteArray} (h : Str w v t) (hb : Below w.heap.size w w') : Str w' v t := by
  obtain ⟨B, l, h, ht⟩ := h
  exact ⟨B, l, h.below (Nat.le_refl _) hb, ht⟩

theorem str_of (b p : ByteArray) (l : List UInt8) (hp : p = ⟨l.toArray⟩) : (b ++ p).data.toList = b.data.toList ++ l := by
  rw [append_data, hp]

/-- What a call that puts gives, behind []byte(b). -/
def Put (b p : ByteArray) (w0 w : World) (e : Ending) (w' : World) : Prop :=
  ∃ v', e = .returned v' ∧ Str w' v' (b ++ p) ∧ Below w0.heap.size w w'

theorem put_mk {b p : ByteArray} {w0 w : World} {e : Ending} {w' : World} {v' : Value} {l : List UInt8} (hp : p = ⟨l.toArray⟩) (he : e = .returned v') (h : Bs w0.heap.size w' v' (b.data.toList ++ l)) (hb : Below w0.heap.size w w') : Put b p w0 w e w' :=
  ⟨v', he, ⟨_, _, h, str_of b p l hp⟩, hb⟩

/-- What the operations of the first test leave. -/
def V5 (b p q : ByteArray) (x : Nat) (k : Int) (W : World) : Nat → Value → World → Prop
  | 1, v, w => ∃ w0, v = cv w0 b ∧ Soon w0 b w ∧ W.heap.size ≤ w0.heap.size
  | 20, v, w => ∃ w0, v = cv w0 b ∧ Soon w0 b w ∧ W.heap.size ≤ w0.heap.size
  | 3, v, w => Str w v (b ++ p)
  | 22, v, w => Str w v (b ++ q)
  | 0, v, _ | 5, v, _ | 19, v, _ | 24, v, _ => v = .string b
  | 2, v, _ | 6, v, _ | 11, v, _ | 13, v, _ => v = .int .u64 x
  | 21, v, _ | 25, v, _ => v = .int .i64 k
  | 7, v, _ | 14, v, _ => v = .string p
  | 26, v, _ => v = .string q
  | 4, v, _ | 8, v, _ => v = .string (b ++ p)
  | 23, v, _ | 27, v, _ => v = .string (b ++ q)
  | 12, v, _ | 15, v, _ => v = .int .i64 p.size
  | _, v, _ => v = .bool false

def R5 : Nat → World → World → Prop
  | 3, _, _ => True
  | 22, _, _ => True
  | _, w, w' => Below w.heap.size w w'

theorem Soon.on {w0 w w' : World} {s : ByteArray} (h : Soon w0 s w) (hb : Below w.heap.size w w') : Soon w0 s w' := fun hs =>
  ⟨(h hs).1.below (Nat.le_refl _) hb, Nat.le_trans (h hs).2 hb.size⟩

theorem R5_else {i : Nat} {w w' : World} (h3 : i ≠ 3) (h22 : i ≠ 22) (h : R5 i w w') : Below w.heap.size w w' := by
  unfold R5 at h
  split at h
  · exact absurd rfl h3
  · exact absurd rfl h22
  · exact h

theorem V5_pure {b p q : ByteArray} {x : Nat} {k : Int} {W : World} {j : Nat} {v : Value} {w w' : World} (h : V5 b p q x k W j v w) (h1 : j ≠ 1) (h3 : j ≠ 3) (h20 : j ≠ 20) (h22 : j ≠ 22) : V5 b p q x k W j v w' := by
  unfold V5 at h ⊢
  split at h <;> first | exact h | (exfalso; first | exact h1 rfl | exact h3 rfl | exact h20 rfl | exact h22 rfl)

theorem V5_below {b p q : ByteArray} {x : Nat} {k : Int} {W : World} {j : Nat} {v : Value} {w w' : World} (h : V5 b p q x k W j v w) (hb : Below w.heap.size w w') : V5 b p q x k W j v w' := by
  by_cases h1 : j = 1
  · subst h1
    obtain ⟨w0, a, c, d⟩ := h
    exact ⟨w0, a, c.on hb, d⟩
  by_cases h20 : j = 20
  · subst h20
    obtain ⟨w0, a, c, d⟩ := h
    exact ⟨w0, a, c.on hb, d⟩
  by_cases h3 : j = 3
  · subst h3
    exact Str.later (show Str w v (b ++ p) from h) hb
  by_cases h22 : j = 22
  · subst h22
    exact Str.later (show Str w v (b ++ q) from h) hb
  exact V5_pure h h1 h3 h20 h22

/-- What the operations of the last line leave. -/
def V7 (b s ts tb : ByteArray) (is : Bool) (W : World) : Nat → Value → World → Prop
  | 1, v, w => ∃ w0, v = cv w0 b ∧ Soon w0 b w ∧ W.heap.size ≤ w0.heap.size
  | 12, v, w => ∃ w0, v = cv w0 b ∧ Soon w0 b w ∧ W.heap.size ≤ w0.heap.size
  | 3, v, w => Str w v (b ++ ts)
  | 14, v, w => Str w v (b ++ tb)
  | 0, v, _ | 5, v, _ | 11, v, _ | 16, v, _ => v = .string b
  | 2, v, _ | 6, v, _ => v = .string s
  | 13, v, _ | 17, v, _ => v = .bool is
  | 7, v, _ => v = .string ts
  | 18, v, _ => v = .string tb
  | 4, v, _ | 8, v, _ => v = .string (b ++ ts)
  | 15, v, _ | 19, v, _ => v = .string (b ++ tb)
  | _, v, _ => v = .bool true

def R7 : Nat → World → World → Prop
  | 3, _, _ => True
  | 14, _, _ => True
  | _, w, w' => Below w.heap.size w w'

theorem R7_else {i : Nat} {w w' : World} (h3 : i ≠ 3) (h14 : i ≠ 14) (h : R7 i w w') : Below w.heap.size w w' := by
  unfold R7 at h
  split at h
  · exact absurd rfl h3
  · exact absurd rfl h14
  · exact h

theorem V7_pure {b s ts tb : ByteArray} {is : Bool} {W : World} {j : Nat} {v : Value} {w w' : World} (h : V7 b s ts tb is W j v w) (h1 : j ≠ 1) (h3 : j ≠ 3) (h12 : j ≠ 12) (h14 : j ≠ 14) : V7 b s ts tb is W j v w' := by
  unfold V7 at h ⊢
  split at h <;> first | exact h | (exfalso; first | exact h1 rfl | exact h3 rfl | exact h12 rfl | exact h14 rfl)

theorem V7_below {b s ts tb : ByteArray} {is : Bool} {W : World} {j : Nat} {v : Value} {w w' : World} (h : V7 b s ts tb is W j v w) (hb : Below w.heap.size w w') : V7 b s ts tb is W j v w' := by
  by_cases h1 : j = 1
  · subst h1
    obtain ⟨w0, a, c, d⟩ := h
    exact ⟨w0, a, c.on hb, d⟩
  by_cases h12 : j = 12
  · subst h12
    obtain ⟨w0, a, c, d⟩ := h
    exact ⟨w0, a, c.on hb, d⟩
  by_cases h3 : j = 3
  · subst h3
    exact Str.later (show Str w v (b ++ ts) from h) hb
  by_cases h14 : j = 14
  · subst h14
    exact Str.later (show Str w v (b ++ tb) from h) hb
  exact V7_pure h h1 h3 h12 h14

set_option maxHeartbeats 4000000 in
set_option maxRecDepth 100000 in
theorem puts_walk (b : ByteArray) (x : Nat) (hx : x < 18446744073709551616) (k : Int) (h0 : -9223372036854775808 ≤ k) (h1 : k ≤ 9223372036854775807) (s : ByteArray) (is : Bool) (w : World) :
    Calls Try.prog 3 #[.string b, .int .u64 x, .int .i64 k, .string s, .bool is] w fun e w' => e = .returned (.bool true) ∧ Below w.heap.size w w' := by
  by_cases hb1 : 1000 < b.size
  · go_enter Try.func3, Try.ntmps3
    go_wp2_with fail
    refine (alive_any w).mono ?_
    rintro e w1 ⟨rfl, hb1⟩
    go_wp2
    go_ret
    exact ⟨rfl, hb1⟩
  by_cases hs1 : 1000 < s.size
  · go_enter Try.func3, Try.ntmps3
    go_wp2_with fail
    refine (alive_any w).mono ?_
    rintro e w1 ⟨rfl, hb1⟩
    go_wp2
    go_ret
    exact ⟨rfl, hb1⟩
  have hbl : b.data.toList.length = b.size := (Lib.size_eq b).symm
  have hbs : b.size ≤ 140737488355328 := by omega
  obtain ⟨p, hp⟩ : ∃ p : ByteArray, p = ⟨(Lib.uvarint x).toArray⟩ := ⟨_, rfl⟩
  have hpl : (Lib.uvarint x).length = p.size := by rw [Lib.size_eq, hp]
  have hps : p.size ≤ 10 := by rw [← hpl]; exact Lib.uvarint_length64 hx
  obtain ⟨q, hq⟩ : ∃ q : ByteArray, q = ⟨(Lib.uvarint (Lib.zigzag k)).toArray⟩ := ⟨_, rfl⟩
  have hqs : q.size ≤ 10 := by rw [Lib.size_eq, hq]; exact Lib.uvarint_length64 (Lib.zigzag_lt h0 h1)
  have C10 : Hid (∀ w0 w, Soon w0 b w → Calls Try.prog 10 #[cv w0 b, .int .u64 x] w (Put b p w0 w)) := Lib.hid fun w0 w hs =>
    (uint_any w0.heap.size x hx _ _ w (hs hbs).1 (hs hbs).2 (by rw [hbl]; omega)).mono fun e w' ⟨v', h1, h2, h3⟩ => put_mk hp h1 h2 h3
  have C13 : Hid (∀ w0 w, Soon w0 b w → Calls Try.prog 13 #[cv w0 b, .int .i64 k] w (Put b q w0 w)) := Lib.hid fun w0 w hs =>
    (int_any w0.heap.size k h0 h1 _ _ w (hs hbs).1 (hs hbs).2 (by rw [hbl]; omega)).mono fun e w' ⟨v', h1, h2, h3⟩ => put_mk hq h1 h2 h3
  have C11 : Hid (∀ w, Calls Try.prog 11 #[.int .u64 x] w fun e w' => e = .returned (.string p) ∧ Below w.heap.size w w') := Lib.hid fun w => by rw [hp]; exact ref_uint x hx w
  have C14 : Hid (∀ w, Calls Try.prog 14 #[.int .i64 k] w fun e w' => e = .returned (.string q) ∧ Below w.heap.size w w') := Lib.hid fun w => by rw [hq]; exact ref_int k h0 h1 w
  have C12 : Hid (∀ w, Calls Try.prog 12 #[.int .u64 x] w fun e w' => e = .returned (.int .i64 p.size) ∧ w = w') := Lib.hid fun w => by rw [← hpl]; exact size_any x hx w
  obtain ⟨ts, hts⟩ : ∃ ts : ByteArray, ts = ⟨(textB s.data.toList).toArray⟩ := ⟨_, rfl⟩
  have htl : ts.size ≤ 2000 := by
    have a : s.data.toList.length = s.size := (Lib.size_eq s).symm
    have c := Lib.uvarint_length64 (x := s.data.toList.length) (by omega)
    rw [Lib.size_eq, hts]
    simp only [textB, List.length_append]
    omega
  obtain ⟨tb, htb⟩ : ∃ tb : ByteArray, tb = ⟨[if is then 1 else 0].toArray⟩ := ⟨_, rfl⟩
  have htbs : tb.size ≤ 1 := by rw [Lib.size_eq, htb]; simp
  have C15 : Hid (∀ w0 w, Soon w0 b w → Calls Try.prog 15 #[cv w0 b, .string s] w (Put b ts w0 w)) := Lib.hid fun w0 w hs =>
    (text_any w0.heap.size s (by omega) _ _ w (hs hbs).1 (hs hbs).2 (by rw [hbl]; omega)).mono fun e w' ⟨v', h1, h2, h3⟩ => put_mk hts h1 h2 h3
  have C17 : Hid (∀ w0 w, Soon w0 b w → Calls Try.prog 17 #[cv w0 b, .bool is] w (Put b tb w0 w)) := Lib.hid fun w0 w hs =>
    (bool_any w0.heap.size is _ _ w (hs hbs).1 (hs hbs).2 (by rw [hbl]; omega)).mono fun e w' ⟨v', h1, h2, h3⟩ => put_mk htb h1 h2 h3
  have C16 : Hid (∀ w, Calls Try.prog 16 #[.string s] w fun e w' => e = .returned (.string ts) ∧ Below w.heap.size w w') := Lib.hid fun w => by rw [hts]; exact ref_text s (by omega) w
  have C18 : Hid (∀ w, Calls Try.prog 18 #[.bool is] w fun e w' => e = .returned (.string tb) ∧ w = w') := Lib.hid fun w => by rw [htb]; exact ref_bool is w
  have hcv := cv_run b
  have HBS := Lib.hid hbs
  clear hp hpl hq hbl hbs hts htb
  go_enter Try.func3, Try.ntmps3
  go_wp2_with fail
  refine (alive_any w).mono ?_
  rintro e w1 ⟨rfl, hbw⟩
  go_upto_region 5 with fail
  go_cut [50] (fun v wc => v = .bool false ∧ Below w.heap.size w wc)
  case first =>
    go_wp2_with fail
    refine wp_region_flow (by kernel_rfl) (fun w' => Below w.heap.size w w') R5 (V5 b p q x k w) (fun j => j == 29) (by kernel_rfl) (by kernel_rfl) ?hst ?hI ?step ?fin
    case hst =>
      intro i j v w1 w2 hne hanc hneed hV hI hR
      by_cases h3 : i = 3
      · subst h3
        by_cases j1 : j = 1
        · subst j1
          cases (Eq.symm hneed).trans (by kernel_rfl : _ = false)
        by_cases j20 : j = 20
        · subst j20
          cases (Eq.symm hanc).trans (by kernel_rfl : _ = true)
        by_cases j22 : j = 22
        · subst j22
          cases (Eq.symm hanc).trans (by kernel_rfl : _ = true)
        exact V5_pure hV j1 (Ne.symm hne) j20 j22
      by_cases h22 : i = 22
      · subst h22
        by_cases j1 : j = 1
        · subst j1
          cases (Eq.symm hneed).trans (by kernel_rfl : _ = false)
        by_cases j20 : j = 20
        · subst j20
          cases (Eq.symm hneed).trans (by kernel_rfl : _ = false)
        by_cases j3 : j = 3
        · subst j3
          cases (Eq.symm hneed).trans (by kernel_rfl : _ = false)
        exact V5_pure hV j1 j3 j20 (Ne.symm hne)
      exact V5_below hV (R5_else h3 h22 hR)
    case hI => exact hbw.drew
    case step =>
      refine ⟨?_, ?_, ?_, ?_, ?_, ?_, ?_, ?_, ?_, ?_, ?_, ?_, ?_, ?_, ?_, ?_, ?_, ?_, ?_, ?_, ?_, ?_, ?_, ?_, ?_, ?_, ?_, ?_, ?_, ?_, trivial⟩
      · intro ys A W hA hI hd K hK
        have e0 : A.tmps.getD 0 undef = .string b := hA 0 (Nat.le_of_ble_eq_true rfl)
        refine step_run (.inl rfl) ?_
        clear hA hd
        go_simp
        exact hK _ _ hI (Below.refl _ _) rfl
      · intro ys A W hA hI hd K hK
        have e21 : A.tmps.getD 21 undef = .string b := (hA 21 (Nat.le_of_ble_eq_true rfl)).trans (hd ⟨0, .data⟩ (by simp) rfl)
        refine step_run (.inl rfl) ?_
        clear hA hd
        go_simp
        exact hK _ _ (cw_via HBS.out hI) (cv_bs b HBS.out W).2 ⟨W, rfl, Soon.here W b, hI.size⟩
      · intro ys A W hA hI hd K hK
        have e1 : A.tmps.getD 1 undef = .int .u64 x := hA 1 (Nat.le_of_ble_eq_true rfl)
        refine step_run (.inl rfl) ?_
        clear hA hd
        go_simp
        exact hK _ _ hI (Below.refl _ _) rfl
      · intro ys A W hA hI hd K hK
        obtain ⟨w0, hy, hso, hle⟩ : ∃ w0, ys 1 = cv w0 b ∧ Soon w0 b W ∧ w.heap.size ≤ w0.heap.size := hd ⟨1, .data⟩ (by simp) rfl
        have e22 : A.tmps.getD 22 undef = cv w0 b := (hA 22 (Nat.le_of_ble_eq_true rfl)).trans hy
        have e23 : A.tmps.getD 23 undef = .int .u64 x := (hA 23 (Nat.le_of_ble_eq_true rfl)).trans (hd ⟨2, .data⟩ (by simp) rfl)
        refine step_run (.inl rfl) ?_
        clear hA hd
        go_simp
        refine (C10.out _ _ hso).mono ?_
        rintro e w' ⟨v', rfl, hst, hb⟩
        exact hK _ _ (hI.trans (hb.mono hle)) trivial hst
      · intro ys A W hA hI hd K hK
        have hst : Str W (ys 3) (b ++ p) := hd ⟨3, .data⟩ (by simp) rfl
        have e24 : A.tmps.getD 24 undef = ys 3 := hA 24 (Nat.le_of_ble_eq_true rfl)
        have hc := hst.run
        refine step_run (.inl rfl) ?_
        clear hA hd
        go_simp
        exact hK _ _ hI (Below.refl _ _) rfl
      · intro ys A W hA hI hd K hK
        have e0 : A.tmps.getD 0 undef = .string b := hA 0 (Nat.le_of_ble_eq_true rfl)
        refine step_run (.inl rfl) ?_
        clear hA hd
        go_simp
        exact hK _ _ hI (Below.refl _ _) rfl
      · intro ys A W hA hI hd K hK
        have e1 : A.tmps.getD 1 undef = .int .u64 x := hA 1 (Nat.le_of_ble_eq_true rfl)
        refine step_run (.inl rfl) ?_
        clear hA hd
        go_simp
        exact hK _ _ hI (Below.refl _ _) rfl
      · intro ys A W hA hI hd K hK
        have e27 : A.tmps.getD 27 undef = .int .u64 x := (hA 27 (Nat.le_of_ble_eq_true rfl)).trans (hd ⟨6, .data⟩ (by simp) rfl)
        refine step_run (.inl rfl) ?_
        clear hA hd
        go_simp
        refine (C11.out _).mono ?_
        rintro e w' ⟨rfl, hb⟩
        exact hK _ _ (below_via hI hb) hb rfl
      · intro ys A W hA hI hd K hK
        have e26 : A.tmps.getD 26 undef = .string b := (hA 26 (Nat.le_of_ble_eq_true rfl)).trans (hd ⟨5, .data⟩ (by simp) rfl)
        have e28 : A.tmps.getD 28 undef = .string p := (hA 28 (Nat.le_of_ble_eq_true rfl)).trans (hd ⟨7, .data⟩ (by simp) rfl)
        refine step_run (.inl rfl) ?_
        clear hA hd
        have hsum : ¬ 9223372036854775807 < b.size + p.size := by omega
        go_simp
        exact hK _ _ hI (Below.refl _ _) rfl
      · intro ys A W hA hI hd K hK
        have e25 : A.tmps.getD 25 undef = .string (b ++ p) := (hA 25 (Nat.le_of_ble_eq_true rfl)).trans (hd ⟨4, .data⟩ (by simp) rfl)
        have e29 : A.tmps.getD 29 undef = .string (b ++ p) := (hA 29 (Nat.le_of_ble_eq_true rfl)).trans (hd ⟨8, .data⟩ (by simp) rfl)
        refine step_run (.inl rfl) ?_
        clear hA hd
        go_simp
        exact hK _ _ hI (Below.refl _ _) rfl
      · intro ys A W hA hI hd K hK
        have e30 : A.tmps.getD 30 undef = .bool false := (hA 30 (Nat.le_of_ble_eq_true rfl)).trans (hd ⟨9, .data⟩ (by simp) rfl)
        refine step_run (.inl rfl) ?_
        clear hA hd
        go_simp
        exact hK _ _ hI (Below.refl _ _) rfl
      · intro ys A W hA hI hd K hK
        have e1 : A.tmps.getD 1 undef = .int .u64 x := hA 1 (Nat.le_of_ble_eq_true rfl)
        refine step_run (.inr ⟨10, 31, false, rfl, rfl, (hA 31 (Nat.le_of_ble_eq_true rfl)).trans (hd ⟨10, .guard⟩ (by simp) rfl)⟩) ?_
        clear hA hd
        go_simp
        exact hK _ _ hI (Below.refl _ _) rfl
      · intro ys A W hA hI hd K hK
        have e32 : A.tmps.getD 32 undef = .int .u64 x := (hA 32 (Nat.le_of_ble_eq_true rfl)).trans (hd ⟨11, .data⟩ (by simp) rfl)
        refine step_run (.inr ⟨10, 31, false, rfl, rfl, (hA 31 (Nat.le_of_ble_eq_true rfl)).trans (hd ⟨10, .guard⟩ (by simp) rfl)⟩) ?_
        clear hA hd
        go_simp
        refine (C12.out _).mono ?_
        rintro e w' ⟨rfl, rfl⟩
        exact hK _ _ hI (Below.refl _ _) rfl
      · intro ys A W hA hI hd K hK
        have e1 : A.tmps.getD 1 undef = .int .u64 x := hA 1 (Nat.le_of_ble_eq_true rfl)
        refine step_run (.inr ⟨10, 31, false, rfl, rfl, (hA 31 (Nat.le_of_ble_eq_true rfl)).trans (hd ⟨10, .guard⟩ (by simp) rfl)⟩) ?_
        clear hA hd
        go_simp
        exact hK _ _ hI (Below.refl _ _) rfl
      · intro ys A W hA hI hd K hK
        have e34 : A.tmps.getD 34 undef = .int .u64 x := (hA 34 (Nat.le_of_ble_eq_true rfl)).trans (hd ⟨13, .data⟩ (by simp) rfl)
        refine step_run (.inr ⟨10, 31, false, rfl, rfl, (hA 31 (Nat.le_of_ble_eq_true rfl)).trans (hd ⟨10, .guard⟩ (by simp) rfl)⟩) ?_
        clear hA hd
        go_simp
        refine (C11.out _).mono ?_
        rintro e w' ⟨rfl, hb⟩
        exact hK _ _ (below_via hI hb) hb rfl
      · intro ys A W hA hI hd K hK
        have e35 : A.tmps.getD 35 undef = .string p := (hA 35 (Nat.le_of_ble_eq_true rfl)).trans (hd ⟨14, .data⟩ (by simp) rfl)
        refine step_run (.inr ⟨10, 31, false, rfl, rfl, (hA 31 (Nat.le_of_ble_eq_true rfl)).trans (hd ⟨10, .guard⟩ (by simp) rfl)⟩) ?_
        clear hA hd
        go_simp
        exact hK _ _ hI (Below.refl _ _) rfl
      · intro ys A W hA hI hd K hK
        have e33 : A.tmps.getD 33 undef = .int .i64 p.size := (hA 33 (Nat.le_of_ble_eq_true rfl)).trans (hd ⟨12, .data⟩ (by simp) rfl)
        have e36 : A.tmps.getD 36 undef = .int .i64 p.size := (hA 36 (Nat.le_of_ble_eq_true rfl)).trans (hd ⟨15, .data⟩ (by simp) rfl)
        refine step_run (.inr ⟨10, 31, false, rfl, rfl, (hA 31 (Nat.le_of_ble_eq_true rfl)).trans (hd ⟨10, .guard⟩ (by simp) rfl)⟩) ?_
        clear hA hd
        go_simp
        exact hK _ _ hI (Below.refl _ _) rfl
      · intro ys A W hA hI hd K hK
        have e31 : A.tmps.getD 31 undef = .bool false := (hA 31 (Nat.le_of_ble_eq_true rfl)).trans (hd ⟨10, .data⟩ (by simp) rfl)
        have e37 : A.tmps.getD 37 undef = .bool false := (hA 37 (Nat.le_of_ble_eq_true rfl)).trans (hd ⟨16, .data⟩ (by simp) rfl)
        refine step_run (.inl rfl) ?_
        clear hA hd
        go_simp
        exact hK _ _ hI (Below.refl _ _) rfl
      · intro ys A W hA hI hd K hK
        have e38 : A.tmps.getD 38 undef = .bool false := (hA 38 (Nat.le_of_ble_eq_true rfl)).trans (hd ⟨17, .data⟩ (by simp) rfl)
        refine step_run (.inl rfl) ?_
        clear hA hd
        go_simp
        exact hK _ _ hI (Below.refl _ _) rfl
      · intro ys A W hA hI hd K hK
        have e0 : A.tmps.getD 0 undef = .string b := hA 0 (Nat.le_of_ble_eq_true rfl)
        refine step_run (.inr ⟨18, 39, false, rfl, rfl, (hA 39 (Nat.le_of_ble_eq_true rfl)).trans (hd ⟨18, .guard⟩ (by simp) rfl)⟩) ?_
        clear hA hd
        go_simp
        exact hK _ _ hI (Below.refl _ _) rfl
      · intro ys A W hA hI hd K hK
        have e40 : A.tmps.getD 40 undef = .string b := (hA 40 (Nat.le_of_ble_eq_true rfl)).trans (hd ⟨19, .data⟩ (by simp) rfl)
        refine step_run (.inr ⟨18, 39, false, rfl, rfl, (hA 39 (Nat.le_of_ble_eq_true rfl)).trans (hd ⟨18, .guard⟩ (by simp) rfl)⟩) ?_
        clear hA hd
        go_simp
        exact hK _ _ (cw_via HBS.out hI) (cv_bs b HBS.out W).2 ⟨W, rfl, Soon.here W b, hI.size⟩
      · intro ys A W hA hI hd K hK
        have e2 : A.tmps.getD 2 undef = .int .i64 k := hA 2 (Nat.le_of_ble_eq_true rfl)
        refine step_run (.inr ⟨18, 39, false, rfl, rfl, (hA 39 (Nat.le_of_ble_eq_true rfl)).trans (hd ⟨18, .guard⟩ (by simp) rfl)⟩) ?_
        clear hA hd
        go_simp
        exact hK _ _ hI (Below.refl _ _) rfl
      · intro ys A W hA hI hd K hK
        obtain ⟨w0, hy, hso, hle⟩ : ∃ w0, ys 20 = cv w0 b ∧ Soon w0 b W ∧ w.heap.size ≤ w0.heap.size := hd ⟨20, .data⟩ (by simp) rfl
        have e41 : A.tmps.getD 41 undef = cv w0 b := (hA 41 (Nat.le_of_ble_eq_true rfl)).trans hy
        have e42 : A.tmps.getD 42 undef = .int .i64 k := (hA 42 (Nat.le_of_ble_eq_true rfl)).trans (hd ⟨21, .data⟩ (by simp) rfl)
        refine step_run (.inr ⟨18, 39, false, rfl, rfl, (hA 39 (Nat.le_of_ble_eq_true rfl)).trans (hd ⟨18, .guard⟩ (by simp) rfl)⟩) ?_
        clear hA hd
        go_simp
        refine (C13.out _ _ hso).mono ?_
        rintro e w' ⟨v', rfl, hst, hb⟩
        exact hK _ _ (hI.trans (hb.mono hle)) trivial hst
      · intro ys A W hA hI hd K hK
        have hst : Str W (ys 22) (b ++ q) := hd ⟨22, .data⟩ (by simp) rfl
        have e43 : A.tmps.getD 43 undef = ys 22 := hA 43 (Nat.le_of_ble_eq_true rfl)
        have hc := hst.run
        refine step_run (.inr ⟨18, 39, false, rfl, rfl, (hA 39 (Nat.le_of_ble_eq_true rfl)).trans (hd ⟨18, .guard⟩ (by simp) rfl)⟩) ?_
        clear hA hd
        go_simp
        exact hK _ _ hI (Below.refl _ _) rfl
      · intro ys A W hA hI hd K hK
        have e0 : A.tmps.getD 0 undef = .string b := hA 0 (Nat.le_of_ble_eq_true rfl)
        refine step_run (.inr ⟨18, 39, false, rfl, rfl, (hA 39 (Nat.le_of_ble_eq_true rfl)).trans (hd ⟨18, .guard⟩ (by simp) rfl)⟩) ?_
        clear hA hd
        go_simp
        exact hK _ _ hI (Below.refl _ _) rfl
      · intro ys A W hA hI hd K hK
        have e2 : A.tmps.getD 2 undef = .int .i64 k := hA 2 (Nat.le_of_ble_eq_true rfl)
        refine step_run (.inr ⟨18, 39, false, rfl, rfl, (hA 39 (Nat.le_of_ble_eq_true rfl)).trans (hd ⟨18, .guard⟩ (by simp) rfl)⟩) ?_
        clear hA hd
        go_simp
        exact hK _ _ hI (Below.refl _ _) rfl
      · intro ys A W hA hI hd K hK
        have e46 : A.tmps.getD 46 undef = .int .i64 k := (hA 46 (Nat.le_of_ble_eq_true rfl)).trans (hd ⟨25, .data⟩ (by simp) rfl)
        refine step_run (.inr ⟨18, 39, false, rfl, rfl, (hA 39 (Nat.le_of_ble_eq_true rfl)).trans (hd ⟨18, .guard⟩ (by simp) rfl)⟩) ?_
        clear hA hd
        go_simp
        refine (C14.out _).mono ?_
        rintro e w' ⟨rfl, hb⟩
        exact hK _ _ (below_via hI hb) hb rfl
      · intro ys A W hA hI hd K hK
        have e45 : A.tmps.getD 45 undef = .string b := (hA 45 (Nat.le_of_ble_eq_true rfl)).trans (hd ⟨24, .data⟩ (by simp) rfl)
        have e47 : A.tmps.getD 47 undef = .string q := (hA 47 (Nat.le_of_ble_eq_true rfl)).trans (hd ⟨26, .data⟩ (by simp) rfl)
        refine step_run (.inr ⟨18, 39, false, rfl, rfl, (hA 39 (Nat.le_of_ble_eq_true rfl)).trans (hd ⟨18, .guard⟩ (by simp) rfl)⟩) ?_
        clear hA hd
        have hsum : ¬ 9223372036854775807 < b.size + q.size := by omega
        go_simp
        exact hK _ _ hI (Below.refl _ _) rfl
      · intro ys A W hA hI hd K hK
        have e44 : A.tmps.getD 44 undef = .string (b ++ q) := (hA 44 (Nat.le_of_ble_eq_true rfl)).trans (hd ⟨23, .data⟩ (by simp) rfl)
        have e48 : A.tmps.getD 48 undef = .string (b ++ q) := (hA 48 (Nat.le_of_ble_eq_true rfl)).trans (hd ⟨27, .data⟩ (by simp) rfl)
        refine step_run (.inr ⟨18, 39, false, rfl, rfl, (hA 39 (Nat.le_of_ble_eq_true rfl)).trans (hd ⟨18, .guard⟩ (by simp) rfl)⟩) ?_
        clear hA hd
        go_simp
        exact hK _ _ hI (Below.refl _ _) rfl
      · intro ys A W hA hI hd K hK
        have e39 : A.tmps.getD 39 undef = .bool false := (hA 39 (Nat.le_of_ble_eq_true rfl)).trans (hd ⟨18, .data⟩ (by simp) rfl)
        have e49 : A.tmps.getD 49 undef = .bool false := (hA 49 (Nat.le_of_ble_eq_true rfl)).trans (hd ⟨28, .data⟩ (by simp) rfl)
        refine step_run (.inl rfl) ?_
        clear hA hd
        go_simp
        exact hK _ _ hI (Below.refl _ _) rfl
    case fin =>
      intro ys wz hI hF
      have h29 : ys 29 = .bool false := hF 29 (by decide) rfl
      simp only [putsFrom]
      go_wp2_with fail
      simp only [h29, Act.put, List.setIfInBounds_toArray, List.set_cons_succ, List.set_cons_zero]
      go_meet
      exact ⟨rfl, hI⟩
  case rest =>
    obtain ⟨rfl, hbc⟩ := hcut
    go_upto_region 7 with fail
    refine wp_region_flow (by kernel_rfl) (fun w' => Below w.heap.size w w') R7 (V7 b s ts tb is w) (fun j => j == 22) (by kernel_rfl) (by kernel_rfl) ?hst ?hI ?step ?fin
    case hst =>
      intro i j v w1 w2 hne hanc hneed hV hI hR
      by_cases h3 : i = 3
      · subst h3
        by_cases j1 : j = 1
        · subst j1
          cases (Eq.symm hneed).trans (by kernel_rfl : _ = false)
        by_cases j12 : j = 12
        · subst j12
          cases (Eq.symm hanc).trans (by kernel_rfl : _ = true)
        by_cases j14 : j = 14
        · subst j14
          cases (Eq.symm hanc).trans (by kernel_rfl : _ = true)
        exact V7_pure hV j1 (Ne.symm hne) j12 j14
      by_cases h14 : i = 14
      · subst h14
        by_cases j1 : j = 1
        · subst j1
          cases (Eq.symm hneed).trans (by kernel_rfl : _ = false)
        by_cases j12 : j = 12
        · subst j12
          cases (Eq.symm hneed).trans (by kernel_rfl : _ = false)
        by_cases j3 : j = 3
        · subst j3
          cases (Eq.symm hneed).trans (by kernel_rfl : _ = false)
        exact V7_pure hV j1 j3 j12 (Ne.symm hne)
      exact V7_below hV (R7_else h3 h14 hR)
    case hI => exact hbc.drew
    case step =>
      refine ⟨?_, ?_, ?_, ?_, ?_, ?_, ?_, ?_, ?_, ?_, ?_, ?_, ?_, ?_, ?_, ?_, ?_, ?_, ?_, ?_, ?_, ?_, ?_, trivial⟩
      · intro ys A W hA hI hd K hK
        have e0 : A.tmps.getD 0 undef = .string b := hA 0 (Nat.le_of_ble_eq_true rfl)
        refine step_run (.inl rfl) ?_
        clear hA hd
        go_simp
        exact hK _ _ hI (Below.refl _ _) rfl
      · intro ys A W hA hI hd K hK
        have e51 : A.tmps.getD 51 undef = .string b := (hA 51 (Nat.le_of_ble_eq_true rfl)).trans (hd ⟨0, .data⟩ (by simp) rfl)
        refine step_run (.inl rfl) ?_
        clear hA hd
        go_simp
        exact hK _ _ (cw_via HBS.out hI) (cv_bs b HBS.out W).2 ⟨W, rfl, Soon.here W b, hI.size⟩
      · intro ys A W hA hI hd K hK
        have e3 : A.tmps.getD 3 undef = .string s := hA 3 (Nat.le_of_ble_eq_true rfl)
        refine step_run (.inl rfl) ?_
        clear hA hd
        go_simp
        exact hK _ _ hI (Below.refl _ _) rfl
      · intro ys A W hA hI hd K hK
        obtain ⟨w0, hy, hso, hle⟩ : ∃ w0, ys 1 = cv w0 b ∧ Soon w0 b W ∧ w.heap.size ≤ w0.heap.size := hd ⟨1, .data⟩ (by simp) rfl
        have e52 : A.tmps.getD 52 undef = cv w0 b := (hA 52 (Nat.le_of_ble_eq_true rfl)).trans hy
        have e53 : A.tmps.getD 53 undef = .string s := (hA 53 (Nat.le_of_ble_eq_true rfl)).trans (hd ⟨2, .data⟩ (by simp) rfl)
        refine step_run (.inl rfl) ?_
        clear hA hd
        go_simp
        refine (C15.out _ _ hso).mono ?_
        rintro e w' ⟨v', rfl, hst, hb⟩
        exact hK _ _ (hI.trans (hb.mono hle)) trivial hst
      · intro ys A W hA hI hd K hK
        have hst : Str W (ys 3) (b ++ ts) := hd ⟨3, .data⟩ (by simp) rfl
        have e54 : A.tmps.getD 54 undef = ys 3 := hA 54 (Nat.le_of_ble_eq_true rfl)
        have hc := hst.run
        refine step_run (.inl rfl) ?_
        clear hA hd
        go_simp
        exact hK _ _ hI (Below.refl _ _) rfl
      · intro ys A W hA hI hd K hK
        have e0 : A.tmps.getD 0 undef = .string b := hA 0 (Nat.le_of_ble_eq_true rfl)
        refine step_run (.inl rfl) ?_
        clear hA hd
        go_simp
        exact hK _ _ hI (Below.refl _ _) rfl
      · intro ys A W hA hI hd K hK
        have e3 : A.tmps.getD 3 undef = .string s := hA 3 (Nat.le_of_ble_eq_true rfl)
        refine step_run (.inl rfl) ?_
        clear hA hd
        go_simp
        exact hK _ _ hI (Below.refl _ _) rfl
      · intro ys A W hA hI hd K hK
        have e57 : A.tmps.getD 57 undef = .string s := (hA 57 (Nat.le_of_ble_eq_true rfl)).trans (hd ⟨6, .data⟩ (by simp) rfl)
        refine step_run (.inl rfl) ?_
        clear hA hd
        go_simp
        refine (C16.out _).mono ?_
        rintro e w' ⟨rfl, hb⟩
        exact hK _ _ (below_via hI hb) hb rfl
      · intro ys A W hA hI hd K hK
        have e56 : A.tmps.getD 56 undef = .string b := (hA 56 (Nat.le_of_ble_eq_true rfl)).trans (hd ⟨5, .data⟩ (by simp) rfl)
        have e58 : A.tmps.getD 58 undef = .string ts := (hA 58 (Nat.le_of_ble_eq_true rfl)).trans (hd ⟨7, .data⟩ (by simp) rfl)
        refine step_run (.inl rfl) ?_
        clear hA hd
        have hsum : ¬ 9223372036854775807 < b.size + ts.size := by omega
        go_simp
        exact hK _ _ hI (Below.refl _ _) rfl
      · intro ys A W hA hI hd K hK
        have e55 : A.tmps.getD 55 undef = .string (b ++ ts) := (hA 55 (Nat.le_of_ble_eq_true rfl)).trans (hd ⟨4, .data⟩ (by simp) rfl)
        have e59 : A.tmps.getD 59 undef = .string (b ++ ts) := (hA 59 (Nat.le_of_ble_eq_true rfl)).trans (hd ⟨8, .data⟩ (by simp) rfl)
        refine step_run (.inl rfl) ?_
        clear hA hd
        go_simp
        exact hK _ _ hI (Below.refl _ _) rfl
      · intro ys A W hA hI hd K hK
        have e60 : A.tmps.getD 60 undef = .bool true := (hA 60 (Nat.le_of_ble_eq_true rfl)).trans (hd ⟨9, .data⟩ (by simp) rfl)
        refine step_run (.inl rfl) ?_
        clear hA hd
        go_simp
        exact hK _ _ hI (Below.refl _ _) rfl
      · intro ys A W hA hI hd K hK
        have e0 : A.tmps.getD 0 undef = .string b := hA 0 (Nat.le_of_ble_eq_true rfl)
        refine step_run (.inr ⟨10, 61, true, rfl, rfl, (hA 61 (Nat.le_of_ble_eq_true rfl)).trans (hd ⟨10, .guard⟩ (by simp) rfl)⟩) ?_
        clear hA hd
        go_simp
        exact hK _ _ hI (Below.refl _ _) rfl
      · intro ys A W hA hI hd K hK
        have e62 : A.tmps.getD 62 undef = .string b := (hA 62 (Nat.le_of_ble_eq_true rfl)).trans (hd ⟨11, .data⟩ (by simp) rfl)
        refine step_run (.inr ⟨10, 61, true, rfl, rfl, (hA 61 (Nat.le_of_ble_eq_true rfl)).trans (hd ⟨10, .guard⟩ (by simp) rfl)⟩) ?_
        clear hA hd
        go_simp
        exact hK _ _ (cw_via HBS.out hI) (cv_bs b HBS.out W).2 ⟨W, rfl, Soon.here W b, hI.size⟩
      · intro ys A W hA hI hd K hK
        have e4 : A.tmps.getD 4 undef = .bool is := hA 4 (Nat.le_of_ble_eq_true rfl)
        refine step_run (.inr ⟨10, 61, true, rfl, rfl, (hA 61 (Nat.le_of_ble_eq_true rfl)).trans (hd ⟨10, .guard⟩ (by simp) rfl)⟩) ?_
        clear hA hd
        go_simp
        exact hK _ _ hI (Below.refl _ _) rfl
      · intro ys A W hA hI hd K hK
        obtain ⟨w0, hy, hso, hle⟩ : ∃ w0, ys 12 = cv w0 b ∧ Soon w0 b W ∧ w.heap.size ≤ w0.heap.size := hd ⟨12, .data⟩ (by simp) rfl
        have e63 : A.tmps.getD 63 undef = cv w0 b := (hA 63 (Nat.le_of_ble_eq_true rfl)).trans hy
        have e64 : A.tmps.getD 64 undef = .bool is := (hA 64 (Nat.le_of_ble_eq_true rfl)).trans (hd ⟨13, .data⟩ (by simp) rfl)
        refine step_run (.inr ⟨10, 61, true, rfl, rfl, (hA 61 (Nat.le_of_ble_eq_true rfl)).trans (hd ⟨10, .guard⟩ (by simp) rfl)⟩) ?_
        clear hA hd
        go_simp
        refine (C17.out _ _ hso).mono ?_
        rintro e w' ⟨v', rfl, hst, hb⟩
        exact hK _ _ (hI.trans (hb.mono hle)) trivial hst
      · intro ys A W hA hI hd K hK
        have hst : Str W (ys 14) (b ++ tb) := hd ⟨14, .data⟩ (by simp) rfl
        have e65 : A.tmps.getD 65 undef = ys 14 := hA 65 (Nat.le_of_ble_eq_true rfl)
        have hc := hst.run
        refine step_run (.inr ⟨10, 61, true, rfl, rfl, (hA 61 (Nat.le_of_ble_eq_true rfl)).trans (hd ⟨10, .guard⟩ (by simp) rfl)⟩) ?_
        clear hA hd
        go_simp
        exact hK _ _ hI (Below.refl _ _) rfl
      · intro ys A W hA hI hd K hK
        have e0 : A.tmps.getD 0 undef = .string b := hA 0 (Nat.le_of_ble_eq_true rfl)
        refine step_run (.inr ⟨10, 61, true, rfl, rfl, (hA 61 (Nat.le_of_ble_eq_true rfl)).trans (hd ⟨10, .guard⟩ (by simp) rfl)⟩) ?_
        clear hA hd
        go_simp
        exact hK _ _ hI (Below.refl _ _) rfl
      · intro ys A W hA hI hd K hK
        have e4 : A.tmps.getD 4 undef = .bool is := hA 4 (Nat.le_of_ble_eq_true rfl)
        refine step_run (.inr ⟨10, 61, true, rfl, rfl, (hA 61 (Nat.le_of_ble_eq_true rfl)).trans (hd ⟨10, .guard⟩ (by simp) rfl)⟩) ?_
        clear hA hd
        go_simp
        exact hK _ _ hI (Below.refl _ _) rfl
      · intro ys A W hA hI hd K hK
        have e68 : A.tmps.getD 68 undef = .bool is := (hA 68 (Nat.le_of_ble_eq_true rfl)).trans (hd ⟨17, .data⟩ (by simp) rfl)
        refine step_run (.inr ⟨10, 61, true, rfl, rfl, (hA 61 (Nat.le_of_ble_eq_true rfl)).trans (hd ⟨10, .guard⟩ (by simp) rfl)⟩) ?_
        clear hA hd
        go_simp
        refine (C18.out _).mono ?_
        rintro e w' ⟨rfl, rfl⟩
        exact hK _ _ hI (Below.refl _ _) rfl
      · intro ys A W hA hI hd K hK
        have e67 : A.tmps.getD 67 undef = .string b := (hA 67 (Nat.le_of_ble_eq_true rfl)).trans (hd ⟨16, .data⟩ (by simp) rfl)
        have e69 : A.tmps.getD 69 undef = .string tb := (hA 69 (Nat.le_of_ble_eq_true rfl)).trans (hd ⟨18, .data⟩ (by simp) rfl)
        refine step_run (.inr ⟨10, 61, true, rfl, rfl, (hA 61 (Nat.le_of_ble_eq_true rfl)).trans (hd ⟨10, .guard⟩ (by simp) rfl)⟩) ?_
        clear hA hd
        have hsum : ¬ 9223372036854775807 < b.size + tb.size := by omega
        go_simp
        exact hK _ _ hI (Below.refl _ _) rfl
      · intro ys A W hA hI hd K hK
        have e66 : A.tmps.getD 66 undef = .string (b ++ tb) := (hA 66 (Nat.le_of_ble_eq_true rfl)).trans (hd ⟨15, .data⟩ (by simp) rfl)
        have e70 : A.tmps.getD 70 undef = .string (b ++ tb) := (hA 70 (Nat.le_of_ble_eq_true rfl)).trans (hd ⟨19, .data⟩ (by simp) rfl)
        refine step_run (.inr ⟨10, 61, true, rfl, rfl, (hA 61 (Nat.le_of_ble_eq_true rfl)).trans (hd ⟨10, .guard⟩ (by simp) rfl)⟩) ?_
        clear hA hd
        go_simp
        exact hK _ _ hI (Below.refl _ _) rfl
      · intro ys A W hA hI hd K hK
        have e61 : A.tmps.getD 61 undef = .bool true := (hA 61 (Nat.le_of_ble_eq_true rfl)).trans (hd ⟨10, .data⟩ (by simp) rfl)
        have e71 : A.tmps.getD 71 undef = .bool true := (hA 71 (Nat.le_of_ble_eq_true rfl)).trans (hd ⟨20, .data⟩ (by simp) rfl)
        refine step_run (.inl rfl) ?_
        clear hA hd
        go_simp
        exact hK _ _ hI (Below.refl _ _) rfl
      · intro ys A W hA hI hd K hK
        have e72 : A.tmps.getD 72 undef = .bool true := (hA 72 (Nat.le_of_ble_eq_true rfl)).trans (hd ⟨21, .data⟩ (by simp) rfl)
        refine step_run (.inl rfl) ?_
        clear hA hd
        go_simp
        exact hK _ _ hI (Below.refl _ _) rfl
    case fin =>
      intro ys wz hI hF
      have h22 : ys 22 = .bool true := hF 22 (by decide) rfl
      simp only [putsFrom]
      go_wp2_with fail
      simp only [h22, Act.put, List.setIfInBounds_toArray, List.set_cons_succ, List.set_cons_zero]
      go_ret
      exact ⟨rfl, hI⟩

end Go.Proofs.Ytfmmcgbgpncoiaa
