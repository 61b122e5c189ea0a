/-
  PACKAGE parse: atom.
  PACKAGE parse: atom, and, or: whole.
  PACKAGE parse: find, desc, limit, page, end.
  PACKAGE parse: matcher.
  PACKAGE parse: matchers.
-/
import Derived.Test.YtmodiemmcdocdaaGreatDoorQPrB
import Derived.Test.YtmodiemmcdocdaaGreatDoorQPxA
import Derived.Test.YtmodiemmcdocdaaGreatDoorQPrA
import Derived.Test.YtmodiemmcdocdaaGreatDoorQQyA
import Derived.Test.YtmodiemmcdocdaaGreatDoorQMkA
namespace Go.Proofs.YtmodiemmcdocdaaGreatDoor
open Go.RowKit Go
open PX (tk isT)

theorem isT_other {t : LX.Tok} {a b : List UInt8} (h : isT t a = true) (hab : a ≠ b) : isT t b = false := by
  unfold isT at h ⊢
  simp only [Bool.and_eq_true, decide_eq_true_eq] at h
  rw [h.2, decide_eq_false hab, Bool.and_false]

/-- A text behind its word. -/
def textX (ts : List LX.Tok) (o : Int) (nm : ByteArray) (i : Nat) : PX.PR Ft :=
  match PX.token ts 4 i with
  | .error e => .error e
  | .ok (t, j) => .ok (.mk o nm (PX.bs t.says) [], j)

/-- An atom, by what a not's and a bracket's are. -/
def atomX (ts : List LX.Tok) (rn rb : PX.PR Ft) (i : Nat) : PX.PR Ft :=
  if isT (tk ts i) PX.wNot = true then rn else if isT (tk ts i) PX.wOpen = true then rb else PX.leaf ts i

set_option maxHeartbeats 4000000 in
set_option maxRecDepth 100000 in
theorem atom_at_wTrue (P g c : Nat) (ts : List LX.Tok) (deep : Nat) (rn rb : PX.PR Ft) (i : Nat) (he : PX.Ended ts) (hT : isT (tk ts i) PX.wTrue = true) (w : World) (h : PQS P g c ts i deep w) :
    Calls Tryz.prog 135 #[.pointer (some ⟨P, 0, none⟩)] w (OneQ P g c ts deep (atomX ts rn rb i) w) := by
  obtain ⟨w0, hW⟩ : ∃ W, W = newF w := ⟨_, rfl⟩
  have hlw := newF_lay w
  have hbx := newF_bx w
  have hsz := newF_size w
  rw [← hW] at hlw hbx hsz
  have HW := Lib.hid (show w.alloc (.cells #[.int .i64 0, .string ⟨#[]⟩, .string ⟨#[]⟩, .slice none 0 0] 26) = w0 from hW.symm)
  clear hW
  have hPl := h.cb.lt
  have hgl := h.gl
  have HQ0 := Lib.hid (h.lay hlw)
  have HK0 := Lib.hid (Lay.keep (G := fun k => k = P) hlw)
  have HX0 := Lib.hid hbx
  have HZ0 : Hid (w.heap.size + 1 ≤ w0.heap.size) := Lib.hid (Nat.le_of_eq hsz.symm)
  clear hlw hbx h hsz
  have HE := Lib.hid he
  have hF5 : isT (tk ts i) PX.wNot = false := isT_other hT (by decide)
  have hF6 : isT (tk ts i) PX.wOpen = false := isT_other hT (by decide)
  have HR : Hid (atomX ts rn rb i = .ok (.mk 1 ⟨#[]⟩ ⟨#[]⟩ [], i + 1)) := Lib.hid (by unfold atomX PX.leaf; rw [hF5, hF6, hT]; rfl)
  clear he
  go_enter Tryz.func135, Tryz.ntmps135
  have HS : Hid (Calls Tryz.prog 88 #[.pointer (some ⟨P, 0, none⟩), .string ⟨#[116, 114, 117, 101]⟩] w0 fun r w' => r = .returned (.bool true) ∧ PQS P g c ts (i + 1) deep w' ∧ Keep (fun k => k = P) w0 w') := Lib.hid (skip_run P g c ts i deep PX.wTrue w0 HQ0.out HE.out true (i + 1) hT rfl)
  go_wp2_with fail
  rw [HW.out]
  refine HS.out.mono ?_
  rintro e w1 ⟨rfl, hq, hk⟩
  have HQ1 := Lib.hid hq
  have HK1 := Lib.hid (HK0.out.trans hk)
  have HX1 := Lib.hid (HX0.out.carry (hk.block _ (by have := HZ0.out; omega) (by omega)))
  have HZ1 := Lib.hid (Nat.le_trans HZ0.out hk.size)
  clear hq hk HS HX0 HQ0 HK0
  obtain ⟨c0, c1, c2, c3, g0, g1, g2, g3⟩ := HX1.out
  go_wp2_with fail
  have hq := HX1.out.all (.int .i64 1) (.string ⟨#[]⟩) (.string ⟨#[]⟩) (.slice none 0 0)
  unfold Go.Proofs.YtmodiemmcdocdaaGreatDoor.stored at hq
  obtain ⟨q0, q1, q2, q3, _, _, _, _⟩ := hq
  refine bodyPost_ret (v := .tuple #[(Ft.val (.mk 1 ⟨#[]⟩ ⟨#[]⟩ []) (.slice none 0 0)), .nilIface]) (by simp [results, Tryz.results135, go_sem, Ft.val, Ft.op, Ft.name, Ft.text, q0, q1, q2, q3]) rfl ?_
  exact OneQ.good (x := .mk 1 ⟨#[]⟩ ⟨#[]⟩ []) (kv := .slice none 0 0) HR.out hPl hgl HQ1.out HK1.out (Nat.le_refl _) (leafKs _ _ _ _ _)

set_option maxHeartbeats 4000000 in
set_option maxRecDepth 100000 in
theorem atom_at_wFalse (P g c : Nat) (ts : List LX.Tok) (deep : Nat) (rn rb : PX.PR Ft) (i : Nat) (he : PX.Ended ts) (hT : isT (tk ts i) PX.wFalse = true) (w : World) (h : PQS P g c ts i deep w) :
    Calls Tryz.prog 135 #[.pointer (some ⟨P, 0, none⟩)] w (OneQ P g c ts deep (atomX ts rn rb i) w) := by
  obtain ⟨w0, hW⟩ : ∃ W, W = newF w := ⟨_, rfl⟩
  have hlw := newF_lay w
  have hbx := newF_bx w
  have hsz := newF_size w
  rw [← hW] at hlw hbx hsz
  have HW := Lib.hid (show w.alloc (.cells #[.int .i64 0, .string ⟨#[]⟩, .string ⟨#[]⟩, .slice none 0 0] 26) = w0 from hW.symm)
  clear hW
  have hPl := h.cb.lt
  have hgl := h.gl
  have HQ0 := Lib.hid (h.lay hlw)
  have HK0 := Lib.hid (Lay.keep (G := fun k => k = P) hlw)
  have HX0 := Lib.hid hbx
  have HZ0 : Hid (w.heap.size + 1 ≤ w0.heap.size) := Lib.hid (Nat.le_of_eq hsz.symm)
  clear hlw hbx h hsz
  have HE := Lib.hid he
  have hF0 : isT (tk ts i) PX.wTrue = false := isT_other hT (by decide)
  have hF5 : isT (tk ts i) PX.wNot = false := isT_other hT (by decide)
  have hF6 : isT (tk ts i) PX.wOpen = false := isT_other hT (by decide)
  have HR : Hid (atomX ts rn rb i = .ok (.mk 2 ⟨#[]⟩ ⟨#[]⟩ [], i + 1)) := Lib.hid (by unfold atomX PX.leaf; rw [hF5, hF6, hF0, hT]; rfl)
  clear he
  go_enter Tryz.func135, Tryz.ntmps135
  have HS0 : Hid (Calls Tryz.prog 88 #[.pointer (some ⟨P, 0, none⟩), .string ⟨#[116, 114, 117, 101]⟩] w0 fun r w' => r = .returned (.bool false) ∧ PQS P g c ts i deep w' ∧ Keep (fun k => k = P) w0 w') := Lib.hid (skip_run P g c ts i deep PX.wTrue w0 HQ0.out HE.out false i hF0 rfl)
  go_wp2_with fail
  rw [HW.out]
  refine HS0.out.mono ?_
  rintro e w1 ⟨rfl, hq, hk⟩
  have HQ1 := Lib.hid hq
  have HK1 := Lib.hid (HK0.out.trans hk)
  have HX1 := Lib.hid (HX0.out.carry (hk.block _ (by have := HZ0.out; omega) (by omega)))
  have HZ1 := Lib.hid (Nat.le_trans HZ0.out hk.size)
  clear hq hk HS0 HX0 HQ0 HK0
  have HS : Hid (Calls Tryz.prog 88 #[.pointer (some ⟨P, 0, none⟩), .string ⟨#[102, 97, 108, 115, 101]⟩] w1 fun r w' => r = .returned (.bool true) ∧ PQS P g c ts (i + 1) deep w' ∧ Keep (fun k => k = P) w1 w') := Lib.hid (skip_run P g c ts i deep PX.wFalse w1 HQ1.out HE.out true (i + 1) hT rfl)
  go_wp2_with fail
  refine HS.out.mono ?_
  rintro e w2 ⟨rfl, hq, hk⟩
  have HQ2 := Lib.hid hq
  have HK2 := Lib.hid (HK1.out.trans hk)
  have HX2 := Lib.hid (HX1.out.carry (hk.block _ (by have := HZ1.out; omega) (by omega)))
  have HZ2 := Lib.hid (Nat.le_trans HZ1.out hk.size)
  clear hq hk HS HX1 HQ1 HK1
  obtain ⟨c0, c1, c2, c3, g0, g1, g2, g3⟩ := HX2.out
  go_wp2_with fail
  have hq := HX2.out.all (.int .i64 2) (.string ⟨#[]⟩) (.string ⟨#[]⟩) (.slice none 0 0)
  unfold Go.Proofs.YtmodiemmcdocdaaGreatDoor.stored at hq
  obtain ⟨q0, q1, q2, q3, _, _, _, _⟩ := hq
  refine bodyPost_ret (v := .tuple #[(Ft.val (.mk 2 ⟨#[]⟩ ⟨#[]⟩ []) (.slice none 0 0)), .nilIface]) (by simp [results, Tryz.results135, go_sem, Ft.val, Ft.op, Ft.name, Ft.text, q0, q1, q2, q3]) rfl ?_
  exact OneQ.good (x := .mk 2 ⟨#[]⟩ ⟨#[]⟩ []) (kv := .slice none 0 0) HR.out hPl hgl HQ2.out HK2.out (Nat.le_refl _) (leafKs _ _ _ _ _)

set_option maxHeartbeats 4000000 in
set_option maxRecDepth 100000 in
theorem atom_at_wWord (P g c : Nat) (ts : List LX.Tok) (deep : Nat) (rn rb : PX.PR Ft) (i : Nat) (he : PX.Ended ts) (hT : isT (tk ts i) PX.wWord = true) (w : World) (h : PQS P g c ts i deep w) :
    Calls Tryz.prog 135 #[.pointer (some ⟨P, 0, none⟩)] w (OneQ P g c ts deep (atomX ts rn rb i) w) := by
  obtain ⟨w0, hW⟩ : ∃ W, W = newF w := ⟨_, rfl⟩
  have hlw := newF_lay w
  have hbx := newF_bx w
  have hsz := newF_size w
  rw [← hW] at hlw hbx hsz
  have HW := Lib.hid (show w.alloc (.cells #[.int .i64 0, .string ⟨#[]⟩, .string ⟨#[]⟩, .slice none 0 0] 26) = w0 from hW.symm)
  clear hW
  have hPl := h.cb.lt
  have hgl := h.gl
  have HQ0 := Lib.hid (h.lay hlw)
  have HK0 := Lib.hid (Lay.keep (G := fun k => k = P) hlw)
  have HX0 := Lib.hid hbx
  have HZ0 : Hid (w.heap.size + 1 ≤ w0.heap.size) := Lib.hid (Nat.le_of_eq hsz.symm)
  clear hlw hbx h hsz
  have HE := Lib.hid he
  have hF0 : isT (tk ts i) PX.wTrue = false := isT_other hT (by decide)
  have hF1 : isT (tk ts i) PX.wFalse = false := isT_other hT (by decide)
  have hF5 : isT (tk ts i) PX.wNot = false := isT_other hT (by decide)
  have hF6 : isT (tk ts i) PX.wOpen = false := isT_other hT (by decide)
  have HR : Hid (atomX ts rn rb i = textX ts 3 ⟨#[]⟩ (i + 1)) := Lib.hid (by unfold atomX PX.leaf textX; rw [hF5, hF6, hF0, hF1, hT]; rfl)
  clear he
  go_enter Tryz.func135, Tryz.ntmps135
  have HS0 : Hid (Calls Tryz.prog 88 #[.pointer (some ⟨P, 0, none⟩), .string ⟨#[116, 114, 117, 101]⟩] w0 fun r w' => r = .returned (.bool false) ∧ PQS P g c ts i deep w' ∧ Keep (fun k => k = P) w0 w') := Lib.hid (skip_run P g c ts i deep PX.wTrue w0 HQ0.out HE.out false i hF0 rfl)
  go_wp2_with fail
  rw [HW.out]
  refine HS0.out.mono ?_
  rintro e w1 ⟨rfl, hq, hk⟩
  have HQ1 := Lib.hid hq
  have HK1 := Lib.hid (HK0.out.trans hk)
  have HX1 := Lib.hid (HX0.out.carry (hk.block _ (by have := HZ0.out; omega) (by omega)))
  have HZ1 := Lib.hid (Nat.le_trans HZ0.out hk.size)
  clear hq hk HS0 HX0 HQ0 HK0
  have HS1 : Hid (Calls Tryz.prog 88 #[.pointer (some ⟨P, 0, none⟩), .string ⟨#[102, 97, 108, 115, 101]⟩] w1 fun r w' => r = .returned (.bool false) ∧ PQS P g c ts i deep w' ∧ Keep (fun k => k = P) w1 w') := Lib.hid (skip_run P g c ts i deep PX.wFalse w1 HQ1.out HE.out false i hF1 rfl)
  go_wp2_with fail
  refine HS1.out.mono ?_
  rintro e w2 ⟨rfl, hq, hk⟩
  have HQ2 := Lib.hid hq
  have HK2 := Lib.hid (HK1.out.trans hk)
  have HX2 := Lib.hid (HX1.out.carry (hk.block _ (by have := HZ1.out; omega) (by omega)))
  have HZ2 := Lib.hid (Nat.le_trans HZ1.out hk.size)
  clear hq hk HS1 HX1 HQ1 HK1
  have HS : Hid (Calls Tryz.prog 88 #[.pointer (some ⟨P, 0, none⟩), .string ⟨#[119, 111, 114, 100]⟩] w2 fun r w' => r = .returned (.bool true) ∧ PQS P g c ts (i + 1) deep w' ∧ Keep (fun k => k = P) w2 w') := Lib.hid (skip_run P g c ts i deep PX.wWord w2 HQ2.out HE.out true (i + 1) hT rfl)
  go_wp2_with fail
  refine HS.out.mono ?_
  rintro e w3 ⟨rfl, hq, hk⟩
  have HQ3 := Lib.hid hq
  have HK3 := Lib.hid (HK2.out.trans hk)
  have HX3 := Lib.hid (HX2.out.carry (hk.block _ (by have := HZ2.out; omega) (by omega)))
  have HZ3 := Lib.hid (Nat.le_trans HZ2.out hk.size)
  clear hq hk HS HX2 HQ2 HK2
  go_wp2_with fail
  refine (show Calls Tryz.prog 147 #[.pointer (some ⟨P, 0, none⟩), .agg #[.int .i64 3, .string ⟨#[]⟩, .string ⟨#[]⟩, .slice none 0 0]] w3 (OneQ P g c ts deep (textX ts 3 ⟨#[]⟩ (i + 1)) w3) from text_own P g c ts (i + 1) deep 3 ⟨#[]⟩ w3 HQ3.out HE.out).mono ?_
  rintro e w4 ⟨hk, ho⟩
  have HK4 := Lib.hid (HK3.out.trans hk)
  have HX4 := Lib.hid (HX3.out.carry (hk.block _ (by have := HZ3.out; omega) (by omega)))
  clear hk
  revert ho
  rcases hr : textX ts 3 ⟨#[]⟩ (i + 1) with p | ⟨x, j⟩
  · have HRR : Hid (atomX ts rn rb i = .error p) := Lib.hid (by rw [HR.out]; exact hr)
    clear hr
    rintro ⟨rfl, i', hq⟩
    have HQ4 := Lib.hid hq
    clear hq
    simp only [zeroF, errV]
    obtain ⟨c0, c1, c2, c3, g0, g1, g2, g3⟩ := HX4.out
    go_wp2_with fail
    have hq := HX4.out.all (.int .i64 0) (.string ⟨#[]⟩) (.string ⟨#[]⟩) (.slice none 0 0)
    unfold Go.Proofs.YtmodiemmcdocdaaGreatDoor.stored at hq
    obtain ⟨q0, q1, q2, q3, _, _, _, _⟩ := hq
    refine bodyPost_ret (v := .tuple #[zeroF, errV p]) (by simp [results, Tryz.results135, go_sem, zeroF, errV, q0, q1, q2, q3]) rfl ?_
    exact OneQ.bad HRR.out hPl hgl HQ4.out HK4.out (Nat.le_refl _)
  · have HRR : Hid (atomX ts rn rb i = .ok (x, j)) := Lib.hid (by rw [HR.out]; exact hr)
    clear hr
    rintro ⟨kv, rfl, hkb, hq⟩
    obtain ⟨ak, ck, rfl⟩ := hkb.shape
    have HQ4 := Lib.hid hq
    have HKB := Lib.hid hkb
    clear hq hkb
    simp only [Ft.val]
    obtain ⟨c0, c1, c2, c3, g0, g1, g2, g3⟩ := HX4.out
    go_wp2_with fail
    have hq := HX4.out.all (.int .i64 x.op) (.string x.name) (.string x.text) (.slice ak x.kids.length ck)
    unfold Go.Proofs.YtmodiemmcdocdaaGreatDoor.stored at hq
    obtain ⟨q0, q1, q2, q3, _, _, _, _⟩ := hq
    refine bodyPost_ret (v := .tuple #[x.val (.slice ak x.kids.length ck), .nilIface]) (by simp [results, Tryz.results135, go_sem, Ft.val, q0, q1, q2, q3]) rfl ?_
    refine OneQ.good HRR.out hPl hgl HQ4.out HK4.out (Nat.le_refl _) ?_
    exact KsB.mono (fun b _ hb => by have h1 : w3.heap.size ≤ b := hb; have := HZ3.out; exact ⟨by omega, by omega⟩) _ _ HKB.out

set_option maxHeartbeats 4000000 in
set_option maxRecDepth 100000 in
theorem atom_at_wHas (P g c : Nat) (ts : List LX.Tok) (deep : Nat) (rn rb : PX.PR Ft) (i : Nat) (he : PX.Ended ts) (hT : isT (tk ts i) PX.wHas = true) (w : World) (h : PQS P g c ts i deep w) :
    Calls Tryz.prog 135 #[.pointer (some ⟨P, 0, none⟩)] w (OneQ P g c ts deep (atomX ts rn rb i) w) := by
  obtain ⟨w0, hW⟩ : ∃ W, W = newF w := ⟨_, rfl⟩
  have hlw := newF_lay w
  have hbx := newF_bx w
  have hsz := newF_size w
  rw [← hW] at hlw hbx hsz
  have HW := Lib.hid (show w.alloc (.cells #[.int .i64 0, .string ⟨#[]⟩, .string ⟨#[]⟩, .slice none 0 0] 26) = w0 from hW.symm)
  clear hW
  have hPl := h.cb.lt
  have hgl := h.gl
  have HQ0 := Lib.hid (h.lay hlw)
  have HK0 := Lib.hid (Lay.keep (G := fun k => k = P) hlw)
  have HX0 := Lib.hid hbx
  have HZ0 : Hid (w.heap.size + 1 ≤ w0.heap.size) := Lib.hid (Nat.le_of_eq hsz.symm)
  clear hlw hbx h hsz
  have HE := Lib.hid he
  have hF0 : isT (tk ts i) PX.wTrue = false := isT_other hT (by decide)
  have hF1 : isT (tk ts i) PX.wFalse = false := isT_other hT (by decide)
  have hF2 : isT (tk ts i) PX.wWord = false := isT_other hT (by decide)
  have hF5 : isT (tk ts i) PX.wNot = false := isT_other hT (by decide)
  have hF6 : isT (tk ts i) PX.wOpen = false := isT_other hT (by decide)
  have HR : Hid (atomX ts rn rb i = textX ts 4 ⟨#[]⟩ (i + 1)) := Lib.hid (by unfold atomX PX.leaf textX; rw [hF5, hF6, hF0, hF1, hF2, hT]; rfl)
  clear he
  go_enter Tryz.func135, Tryz.ntmps135
  have HS0 : Hid (Calls Tryz.prog 88 #[.pointer (some ⟨P, 0, none⟩), .string ⟨#[116, 114, 117, 101]⟩] w0 fun r w' => r = .returned (.bool false) ∧ PQS P g c ts i deep w' ∧ Keep (fun k => k = P) w0 w') := Lib.hid (skip_run P g c ts i deep PX.wTrue w0 HQ0.out HE.out false i hF0 rfl)
  go_wp2_with fail
  rw [HW.out]
  refine HS0.out.mono ?_
  rintro e w1 ⟨rfl, hq, hk⟩
  have HQ1 := Lib.hid hq
  have HK1 := Lib.hid (HK0.out.trans hk)
  have HX1 := Lib.hid (HX0.out.carry (hk.block _ (by have := HZ0.out; omega) (by omega)))
  have HZ1 := Lib.hid (Nat.le_trans HZ0.out hk.size)
  clear hq hk HS0 HX0 HQ0 HK0
  have HS1 : Hid (Calls Tryz.prog 88 #[.pointer (some ⟨P, 0, none⟩), .string ⟨#[102, 97, 108, 115, 101]⟩] w1 fun r w' => r = .returned (.bool false) ∧ PQS P g c ts i deep w' ∧ Keep (fun k => k = P) w1 w') := Lib.hid (skip_run P g c ts i deep PX.wFalse w1 HQ1.out HE.out false i hF1 rfl)
  go_wp2_with fail
  refine HS1.out.mono ?_
  rintro e w2 ⟨rfl, hq, hk⟩
  have HQ2 := Lib.hid hq
  have HK2 := Lib.hid (HK1.out.trans hk)
  have HX2 := Lib.hid (HX1.out.carry (hk.block _ (by have := HZ1.out; omega) (by omega)))
  have HZ2 := Lib.hid (Nat.le_trans HZ1.out hk.size)
  clear hq hk HS1 HX1 HQ1 HK1
  have HS2 : Hid (Calls Tryz.prog 88 #[.pointer (some ⟨P, 0, none⟩), .string ⟨#[119, 111, 114, 100]⟩] w2 fun r w' => r = .returned (.bool false) ∧ PQS P g c ts i deep w' ∧ Keep (fun k => k = P) w2 w') := Lib.hid (skip_run P g c ts i deep PX.wWord w2 HQ2.out HE.out false i hF2 rfl)
  go_wp2_with fail
  refine HS2.out.mono ?_
  rintro e w3 ⟨rfl, hq, hk⟩
  have HQ3 := Lib.hid hq
  have HK3 := Lib.hid (HK2.out.trans hk)
  have HX3 := Lib.hid (HX2.out.carry (hk.block _ (by have := HZ2.out; omega) (by omega)))
  have HZ3 := Lib.hid (Nat.le_trans HZ2.out hk.size)
  clear hq hk HS2 HX2 HQ2 HK2
  have HS : Hid (Calls Tryz.prog 88 #[.pointer (some ⟨P, 0, none⟩), .string ⟨#[104, 97, 115]⟩] w3 fun r w' => r = .returned (.bool true) ∧ PQS P g c ts (i + 1) deep w' ∧ Keep (fun k => k = P) w3 w') := Lib.hid (skip_run P g c ts i deep PX.wHas w3 HQ3.out HE.out true (i + 1) hT rfl)
  go_wp2_with fail
  refine HS.out.mono ?_
  rintro e w4 ⟨rfl, hq, hk⟩
  have HQ4 := Lib.hid hq
  have HK4 := Lib.hid (HK3.out.trans hk)
  have HX4 := Lib.hid (HX3.out.carry (hk.block _ (by have := HZ3.out; omega) (by omega)))
  have HZ4 := Lib.hid (Nat.le_trans HZ3.out hk.size)
  clear hq hk HS HX3 HQ3 HK3
  go_wp2_with fail
  refine (show Calls Tryz.prog 147 #[.pointer (some ⟨P, 0, none⟩), .agg #[.int .i64 4, .string ⟨#[]⟩, .string ⟨#[]⟩, .slice none 0 0]] w4 (OneQ P g c ts deep (textX ts 4 ⟨#[]⟩ (i + 1)) w4) from text_own P g c ts (i + 1) deep 4 ⟨#[]⟩ w4 HQ4.out HE.out).mono ?_
  rintro e w5 ⟨hk, ho⟩
  have HK5 := Lib.hid (HK4.out.trans hk)
  have HX5 := Lib.hid (HX4.out.carry (hk.block _ (by have := HZ4.out; omega) (by omega)))
  clear hk
  revert ho
  rcases hr : textX ts 4 ⟨#[]⟩ (i + 1) with p | ⟨x, j⟩
  · have HRR : Hid (atomX ts rn rb i = .error p) := Lib.hid (by rw [HR.out]; exact hr)
    clear hr
    rintro ⟨rfl, i', hq⟩
    have HQ5 := Lib.hid hq
    clear hq
    simp only [zeroF, errV]
    obtain ⟨c0, c1, c2, c3, g0, g1, g2, g3⟩ := HX5.out
    go_wp2_with fail
    have hq := HX5.out.all (.int .i64 0) (.string ⟨#[]⟩) (.string ⟨#[]⟩) (.slice none 0 0)
    unfold Go.Proofs.YtmodiemmcdocdaaGreatDoor.stored at hq
    obtain ⟨q0, q1, q2, q3, _, _, _, _⟩ := hq
    refine bodyPost_ret (v := .tuple #[zeroF, errV p]) (by simp [results, Tryz.results135, go_sem, zeroF, errV, q0, q1, q2, q3]) rfl ?_
    exact OneQ.bad HRR.out hPl hgl HQ5.out HK5.out (Nat.le_refl _)
  · have HRR : Hid (atomX ts rn rb i = .ok (x, j)) := Lib.hid (by rw [HR.out]; exact hr)
    clear hr
    rintro ⟨kv, rfl, hkb, hq⟩
    obtain ⟨ak, ck, rfl⟩ := hkb.shape
    have HQ5 := Lib.hid hq
    have HKB := Lib.hid hkb
    clear hq hkb
    simp only [Ft.val]
    obtain ⟨c0, c1, c2, c3, g0, g1, g2, g3⟩ := HX5.out
    go_wp2_with fail
    have hq := HX5.out.all (.int .i64 x.op) (.string x.name) (.string x.text) (.slice ak x.kids.length ck)
    unfold Go.Proofs.YtmodiemmcdocdaaGreatDoor.stored at hq
    obtain ⟨q0, q1, q2, q3, _, _, _, _⟩ := hq
    refine bodyPost_ret (v := .tuple #[x.val (.slice ak x.kids.length ck), .nilIface]) (by simp [results, Tryz.results135, go_sem, Ft.val, q0, q1, q2, q3]) rfl ?_
    refine OneQ.good HRR.out hPl hgl HQ5.out HK5.out (Nat.le_refl _) ?_
    exact KsB.mono (fun b _ hb => by have h1 : w4.heap.size ≤ b := hb; have := HZ4.out; exact ⟨by omega, by omega⟩) _ _ HKB.out

set_option maxHeartbeats 4000000 in
set_option maxRecDepth 100000 in
theorem atom_at_wField (P g c : Nat) (ts : List LX.Tok) (deep : Nat) (rn rb : PX.PR Ft) (i : Nat) (he : PX.Ended ts) (hT : isT (tk ts i) PX.wField = true) (w : World) (h : PQS P g c ts i deep w) :
    Calls Tryz.prog 135 #[.pointer (some ⟨P, 0, none⟩)] w (OneQ P g c ts deep (atomX ts rn rb i) w) := by
  obtain ⟨w0, hW⟩ : ∃ W, W = newF w := ⟨_, rfl⟩
  have hlw := newF_lay w
  have hbx := newF_bx w
  have hsz := newF_size w
  rw [← hW] at hlw hbx hsz
  have HW := Lib.hid (show w.alloc (.cells #[.int .i64 0, .string ⟨#[]⟩, .string ⟨#[]⟩, .slice none 0 0] 26) = w0 from hW.symm)
  clear hW
  have hPl := h.cb.lt
  have hgl := h.gl
  have HQ0 := Lib.hid (h.lay hlw)
  have HK0 := Lib.hid (Lay.keep (G := fun k => k = P) hlw)
  have HX0 := Lib.hid hbx
  have HZ0 : Hid (w.heap.size + 1 ≤ w0.heap.size) := Lib.hid (Nat.le_of_eq hsz.symm)
  clear hlw hbx h hsz
  have HE := Lib.hid he
  have hF0 : isT (tk ts i) PX.wTrue = false := isT_other hT (by decide)
  have hF1 : isT (tk ts i) PX.wFalse = false := isT_other hT (by decide)
  have hF2 : isT (tk ts i) PX.wWord = false := isT_other hT (by decide)
  have hF3 : isT (tk ts i) PX.wHas = false := isT_other hT (by decide)
  have hF5 : isT (tk ts i) PX.wNot = false := isT_other hT (by decide)
  have hF6 : isT (tk ts i) PX.wOpen = false := isT_other hT (by decide)
  have HR : Hid (atomX ts rn rb i = fieldX ts (i + 1)) := Lib.hid (by unfold atomX PX.leaf fieldX PX.want; rw [hF5, hF6, hF0, hF1, hF2, hF3, hT]; rfl)
  clear he
  go_enter Tryz.func135, Tryz.ntmps135
  have HS0 : Hid (Calls Tryz.prog 88 #[.pointer (some ⟨P, 0, none⟩), .string ⟨#[116, 114, 117, 101]⟩] w0 fun r w' => r = .returned (.bool false) ∧ PQS P g c ts i deep w' ∧ Keep (fun k => k = P) w0 w') := Lib.hid (skip_run P g c ts i deep PX.wTrue w0 HQ0.out HE.out false i hF0 rfl)
  go_wp2_with fail
  rw [HW.out]
  refine HS0.out.mono ?_
  rintro e w1 ⟨rfl, hq, hk⟩
  have HQ1 := Lib.hid hq
  have HK1 := Lib.hid (HK0.out.trans hk)
  have HX1 := Lib.hid (HX0.out.carry (hk.block _ (by have := HZ0.out; omega) (by omega)))
  have HZ1 := Lib.hid (Nat.le_trans HZ0.out hk.size)
  clear hq hk HS0 HX0 HQ0 HK0
  have HS1 : Hid (Calls Tryz.prog 88 #[.pointer (some ⟨P, 0, none⟩), .string ⟨#[102, 97, 108, 115, 101]⟩] w1 fun r w' => r = .returned (.bool false) ∧ PQS P g c ts i deep w' ∧ Keep (fun k => k = P) w1 w') := Lib.hid (skip_run P g c ts i deep PX.wFalse w1 HQ1.out HE.out false i hF1 rfl)
  go_wp2_with fail
  refine HS1.out.mono ?_
  rintro e w2 ⟨rfl, hq, hk⟩
  have HQ2 := Lib.hid hq
  have HK2 := Lib.hid (HK1.out.trans hk)
  have HX2 := Lib.hid (HX1.out.carry (hk.block _ (by have := HZ1.out; omega) (by omega)))
  have HZ2 := Lib.hid (Nat.le_trans HZ1.out hk.size)
  clear hq hk HS1 HX1 HQ1 HK1
  have HS2 : Hid (Calls Tryz.prog 88 #[.pointer (some ⟨P, 0, none⟩), .string ⟨#[119, 111, 114, 100]⟩] w2 fun r w' => r = .returned (.bool false) ∧ PQS P g c ts i deep w' ∧ Keep (fun k => k = P) w2 w') := Lib.hid (skip_run P g c ts i deep PX.wWord w2 HQ2.out HE.out false i hF2 rfl)
  go_wp2_with fail
  refine HS2.out.mono ?_
  rintro e w3 ⟨rfl, hq, hk⟩
  have HQ3 := Lib.hid hq
  have HK3 := Lib.hid (HK2.out.trans hk)
  have HX3 := Lib.hid (HX2.out.carry (hk.block _ (by have := HZ2.out; omega) (by omega)))
  have HZ3 := Lib.hid (Nat.le_trans HZ2.out hk.size)
  clear hq hk HS2 HX2 HQ2 HK2
  have HS3 : Hid (Calls Tryz.prog 88 #[.pointer (some ⟨P, 0, none⟩), .string ⟨#[104, 97, 115]⟩] w3 fun r w' => r = .returned (.bool false) ∧ PQS P g c ts i deep w' ∧ Keep (fun k => k = P) w3 w') := Lib.hid (skip_run P g c ts i deep PX.wHas w3 HQ3.out HE.out false i hF3 rfl)
  go_wp2_with fail
  refine HS3.out.mono ?_
  rintro e w4 ⟨rfl, hq, hk⟩
  have HQ4 := Lib.hid hq
  have HK4 := Lib.hid (HK3.out.trans hk)
  have HX4 := Lib.hid (HX3.out.carry (hk.block _ (by have := HZ3.out; omega) (by omega)))
  have HZ4 := Lib.hid (Nat.le_trans HZ3.out hk.size)
  clear hq hk HS3 HX3 HQ3 HK3
  have HS : Hid (Calls Tryz.prog 88 #[.pointer (some ⟨P, 0, none⟩), .string ⟨#[102, 105, 101, 108, 100]⟩] w4 fun r w' => r = .returned (.bool true) ∧ PQS P g c ts (i + 1) deep w' ∧ Keep (fun k => k = P) w4 w') := Lib.hid (skip_run P g c ts i deep PX.wField w4 HQ4.out HE.out true (i + 1) hT rfl)
  go_wp2_with fail
  refine HS.out.mono ?_
  rintro e w5 ⟨rfl, hq, hk⟩
  have HQ5 := Lib.hid hq
  have HK5 := Lib.hid (HK4.out.trans hk)
  have HX5 := Lib.hid (HX4.out.carry (hk.block _ (by have := HZ4.out; omega) (by omega)))
  have HZ5 := Lib.hid (Nat.le_trans HZ4.out hk.size)
  clear hq hk HS HX4 HQ4 HK4
  go_wp2_with fail
  refine (field_own P g c ts (i + 1) deep w5 HQ5.out HE.out).mono ?_
  rintro e w6 ⟨hk, ho⟩
  have HK6 := Lib.hid (HK5.out.trans hk)
  have HX6 := Lib.hid (HX5.out.carry (hk.block _ (by have := HZ5.out; omega) (by omega)))
  clear hk
  revert ho
  rcases hr : fieldX ts (i + 1) with p | ⟨x, j⟩
  · have HRR : Hid (atomX ts rn rb i = .error p) := Lib.hid (by rw [HR.out]; exact hr)
    clear hr
    rintro ⟨rfl, i', hq⟩
    have HQ6 := Lib.hid hq
    clear hq
    simp only [zeroF, errV]
    obtain ⟨c0, c1, c2, c3, g0, g1, g2, g3⟩ := HX6.out
    go_wp2_with fail
    have hq := HX6.out.all (.int .i64 0) (.string ⟨#[]⟩) (.string ⟨#[]⟩) (.slice none 0 0)
    unfold Go.Proofs.YtmodiemmcdocdaaGreatDoor.stored at hq
    obtain ⟨q0, q1, q2, q3, _, _, _, _⟩ := hq
    refine bodyPost_ret (v := .tuple #[zeroF, errV p]) (by simp [results, Tryz.results135, go_sem, zeroF, errV, q0, q1, q2, q3]) rfl ?_
    exact OneQ.bad HRR.out hPl hgl HQ6.out HK6.out (Nat.le_refl _)
  · have HRR : Hid (atomX ts rn rb i = .ok (x, j)) := Lib.hid (by rw [HR.out]; exact hr)
    clear hr
    rintro ⟨kv, rfl, hkb, hq⟩
    obtain ⟨ak, ck, rfl⟩ := hkb.shape
    have HQ6 := Lib.hid hq
    have HKB := Lib.hid hkb
    clear hq hkb
    simp only [Ft.val]
    obtain ⟨c0, c1, c2, c3, g0, g1, g2, g3⟩ := HX6.out
    go_wp2_with fail
    have hq := HX6.out.all (.int .i64 x.op) (.string x.name) (.string x.text) (.slice ak x.kids.length ck)
    unfold Go.Proofs.YtmodiemmcdocdaaGreatDoor.stored at hq
    obtain ⟨q0, q1, q2, q3, _, _, _, _⟩ := hq
    refine bodyPost_ret (v := .tuple #[x.val (.slice ak x.kids.length ck), .nilIface]) (by simp [results, Tryz.results135, go_sem, Ft.val, q0, q1, q2, q3]) rfl ?_
    refine OneQ.good HRR.out hPl hgl HQ6.out HK6.out (Nat.le_refl _) ?_
    exact KsB.mono (fun b _ hb => by have h1 : w5.heap.size ≤ b := hb; have := HZ5.out; exact ⟨by omega, by omega⟩) _ _ HKB.out

set_option maxHeartbeats 4000000 in
set_option maxRecDepth 100000 in
theorem atom_at_wNot (P g c : Nat) (ts : List LX.Tok) (deep : Nat) (rn rb : PX.PR Ft) (i : Nat) (he : PX.Ended ts) (hT : isT (tk ts i) PX.wNot = true) (HN : ∀ w, PQS P g c ts i deep w → Calls Tryz.prog 149 #[.pointer (some ⟨P, 0, none⟩)] w (OneQ P g c ts deep rn w)) (w : World) (h : PQS P g c ts i deep w) :
    Calls Tryz.prog 135 #[.pointer (some ⟨P, 0, none⟩)] w (OneQ P g c ts deep (atomX ts rn rb i) w) := by
  obtain ⟨w0, hW⟩ : ∃ W, W = newF w := ⟨_, rfl⟩
  have hlw := newF_lay w
  have hbx := newF_bx w
  have hsz := newF_size w
  rw [← hW] at hlw hbx hsz
  have HW := Lib.hid (show w.alloc (.cells #[.int .i64 0, .string ⟨#[]⟩, .string ⟨#[]⟩, .slice none 0 0] 26) = w0 from hW.symm)
  clear hW
  have hPl := h.cb.lt
  have hgl := h.gl
  have HQ0 := Lib.hid (h.lay hlw)
  have HK0 := Lib.hid (Lay.keep (G := fun k => k = P) hlw)
  have HX0 := Lib.hid hbx
  have HZ0 : Hid (w.heap.size + 1 ≤ w0.heap.size) := Lib.hid (Nat.le_of_eq hsz.symm)
  clear hlw hbx h hsz
  have HE := Lib.hid he
  have hF0 : isT (tk ts i) PX.wTrue = false := isT_other hT (by decide)
  have hF1 : isT (tk ts i) PX.wFalse = false := isT_other hT (by decide)
  have hF2 : isT (tk ts i) PX.wWord = false := isT_other hT (by decide)
  have hF3 : isT (tk ts i) PX.wHas = false := isT_other hT (by decide)
  have hF4 : isT (tk ts i) PX.wField = false := isT_other hT (by decide)
  have HR : Hid (atomX ts rn rb i = rn) := Lib.hid (by unfold atomX; rw [if_pos hT])
  have HNN := Lib.hid HN
  clear HN
  clear he
  go_enter Tryz.func135, Tryz.ntmps135
  have HS0 : Hid (Calls Tryz.prog 88 #[.pointer (some ⟨P, 0, none⟩), .string ⟨#[116, 114, 117, 101]⟩] w0 fun r w' => r = .returned (.bool false) ∧ PQS P g c ts i deep w' ∧ Keep (fun k => k = P) w0 w') := Lib.hid (skip_run P g c ts i deep PX.wTrue w0 HQ0.out HE.out false i hF0 rfl)
  go_wp2_with fail
  rw [HW.out]
  refine HS0.out.mono ?_
  rintro e w1 ⟨rfl, hq, hk⟩
  have HQ1 := Lib.hid hq
  have HK1 := Lib.hid (HK0.out.trans hk)
  have HX1 := Lib.hid (HX0.out.carry (hk.block _ (by have := HZ0.out; omega) (by omega)))
  have HZ1 := Lib.hid (Nat.le_trans HZ0.out hk.size)
  clear hq hk HS0 HX0 HQ0 HK0
  have HS1 : Hid (Calls Tryz.prog 88 #[.pointer (some ⟨P, 0, none⟩), .string ⟨#[102, 97, 108, 115, 101]⟩] w1 fun r w' => r = .returned (.bool false) ∧ PQS P g c ts i deep w' ∧ Keep (fun k => k = P) w1 w') := Lib.hid (skip_run P g c ts i deep PX.wFalse w1 HQ1.out HE.out false i hF1 rfl)
  go_wp2_with fail
  refine HS1.out.mono ?_
  rintro e w2 ⟨rfl, hq, hk⟩
  have HQ2 := Lib.hid hq
  have HK2 := Lib.hid (HK1.out.trans hk)
  have HX2 := Lib.hid (HX1.out.carry (hk.block _ (by have := HZ1.out; omega) (by omega)))
  have HZ2 := Lib.hid (Nat.le_trans HZ1.out hk.size)
  clear hq hk HS1 HX1 HQ1 HK1
  have HS2 : Hid (Calls Tryz.prog 88 #[.pointer (some ⟨P, 0, none⟩), .string ⟨#[119, 111, 114, 100]⟩] w2 fun r w' => r = .returned (.bool false) ∧ PQS P g c ts i deep w' ∧ Keep (fun k => k = P) w2 w') := Lib.hid (skip_run P g c ts i deep PX.wWord w2 HQ2.out HE.out false i hF2 rfl)
  go_wp2_with fail
  refine HS2.out.mono ?_
  rintro e w3 ⟨rfl, hq, hk⟩
  have HQ3 := Lib.hid hq
  have HK3 := Lib.hid (HK2.out.trans hk)
  have HX3 := Lib.hid (HX2.out.carry (hk.block _ (by have := HZ2.out; omega) (by omega)))
  have HZ3 := Lib.hid (Nat.le_trans HZ2.out hk.size)
  clear hq hk HS2 HX2 HQ2 HK2
  have HS3 : Hid (Calls Tryz.prog 88 #[.pointer (some ⟨P, 0, none⟩), .string ⟨#[104, 97, 115]⟩] w3 fun r w' => r = .returned (.bool false) ∧ PQS P g c ts i deep w' ∧ Keep (fun k => k = P) w3 w') := Lib.hid (skip_run P g c ts i deep PX.wHas w3 HQ3.out HE.out false i hF3 rfl)
  go_wp2_with fail
  refine HS3.out.mono ?_
  rintro e w4 ⟨rfl, hq, hk⟩
  have HQ4 := Lib.hid hq
  have HK4 := Lib.hid (HK3.out.trans hk)
  have HX4 := Lib.hid (HX3.out.carry (hk.block _ (by have := HZ3.out; omega) (by omega)))
  have HZ4 := Lib.hid (Nat.le_trans HZ3.out hk.size)
  clear hq hk HS3 HX3 HQ3 HK3
  have HS4 : Hid (Calls Tryz.prog 88 #[.pointer (some ⟨P, 0, none⟩), .string ⟨#[102, 105, 101, 108, 100]⟩] w4 fun r w' => r = .returned (.bool false) ∧ PQS P g c ts i deep w' ∧ Keep (fun k => k = P) w4 w') := Lib.hid (skip_run P g c ts i deep PX.wField w4 HQ4.out HE.out false i hF4 rfl)
  go_wp2_with fail
  refine HS4.out.mono ?_
  rintro e w5 ⟨rfl, hq, hk⟩
  have HQ5 := Lib.hid hq
  have HK5 := Lib.hid (HK4.out.trans hk)
  have HX5 := Lib.hid (HX4.out.carry (hk.block _ (by have := HZ4.out; omega) (by omega)))
  have HZ5 := Lib.hid (Nat.le_trans HZ4.out hk.size)
  clear hq hk HS4 HX4 HQ4 HK4
  have HS : Hid (Calls Tryz.prog 85 #[.pointer (some ⟨P, 0, none⟩), .string ⟨#[110, 111, 116]⟩] w5 fun r w' => r = .returned (.bool true) ∧ Lay w5 w') := Lib.hid (is_run P g c ts i deep PX.wNot w5 HQ5.out true hT)
  go_wp2_with fail
  refine HS.out.mono ?_
  rintro e w6 ⟨rfl, hl⟩
  have hk : Keep (fun k => k = P) w5 w6 := Lay.keep hl
  have HQ6 := Lib.hid (HQ5.out.lay hl)
  have HK6 := Lib.hid (HK5.out.trans hk)
  have HX6 := Lib.hid (HX5.out.carry (hk.block _ (by have := HZ5.out; omega) (by omega)))
  have HZ6 := Lib.hid (Nat.le_trans HZ5.out hk.size)
  clear hl hk HS HX5 HQ5 HK5
  go_wp2_with fail
  refine (HNN.out w6 HQ6.out).mono ?_
  rintro e w7 ⟨hk, ho⟩
  have HK7 := Lib.hid (HK6.out.trans hk)
  have HX7 := Lib.hid (HX6.out.carry (hk.block _ (by have := HZ6.out; omega) (by omega)))
  clear hk
  revert ho
  rcases hr : rn with p | ⟨x, j⟩
  · have HRR : Hid (atomX ts rn rb i = .error p) := Lib.hid (by rw [HR.out]; exact hr)
    clear hr
    rintro ⟨rfl, i', hq⟩
    have HQ7 := Lib.hid hq
    clear hq
    simp only [zeroF, errV]
    obtain ⟨c0, c1, c2, c3, g0, g1, g2, g3⟩ := HX7.out
    go_wp2_with fail
    have hq := HX7.out.all (.int .i64 0) (.string ⟨#[]⟩) (.string ⟨#[]⟩) (.slice none 0 0)
    unfold Go.Proofs.YtmodiemmcdocdaaGreatDoor.stored at hq
    obtain ⟨q0, q1, q2, q3, _, _, _, _⟩ := hq
    refine bodyPost_ret (v := .tuple #[zeroF, errV p]) (by simp [results, Tryz.results135, go_sem, zeroF, errV, q0, q1, q2, q3]) rfl ?_
    exact OneQ.bad HRR.out hPl hgl HQ7.out HK7.out (Nat.le_refl _)
  · have HRR : Hid (atomX ts rn rb i = .ok (x, j)) := Lib.hid (by rw [HR.out]; exact hr)
    clear hr
    rintro ⟨kv, rfl, hkb, hq⟩
    obtain ⟨ak, ck, rfl⟩ := hkb.shape
    have HQ7 := Lib.hid hq
    have HKB := Lib.hid hkb
    clear hq hkb
    simp only [Ft.val]
    obtain ⟨c0, c1, c2, c3, g0, g1, g2, g3⟩ := HX7.out
    go_wp2_with fail
    have hq := HX7.out.all (.int .i64 x.op) (.string x.name) (.string x.text) (.slice ak x.kids.length ck)
    unfold Go.Proofs.YtmodiemmcdocdaaGreatDoor.stored at hq
    obtain ⟨q0, q1, q2, q3, _, _, _, _⟩ := hq
    refine bodyPost_ret (v := .tuple #[x.val (.slice ak x.kids.length ck), .nilIface]) (by simp [results, Tryz.results135, go_sem, Ft.val, q0, q1, q2, q3]) rfl ?_
    refine OneQ.good HRR.out hPl hgl HQ7.out HK7.out (Nat.le_refl _) ?_
    exact KsB.mono (fun b _ hb => by have h1 : w6.heap.size ≤ b := hb; have := HZ6.out; exact ⟨by omega, by omega⟩) _ _ HKB.out

set_option maxHeartbeats 4000000 in
set_option maxRecDepth 100000 in
theorem atom_at_wOpen (P g c : Nat) (ts : List LX.Tok) (deep : Nat) (rn rb : PX.PR Ft) (i : Nat) (he : PX.Ended ts) (hT : isT (tk ts i) PX.wOpen = true) (HB : ∀ w, PQS P g c ts i deep w → Calls Tryz.prog 150 #[.pointer (some ⟨P, 0, none⟩)] w (OneQ P g c ts deep rb w)) (w : World) (h : PQS P g c ts i deep w) :
    Calls Tryz.prog 135 #[.pointer (some ⟨P, 0, none⟩)] w (OneQ P g c ts deep (atomX ts rn rb i) w) := by
  obtain ⟨w0, hW⟩ : ∃ W, W = newF w := ⟨_, rfl⟩
  have hlw := newF_lay w
  have hbx := newF_bx w
  have hsz := newF_size w
  rw [← hW] at hlw hbx hsz
  have HW := Lib.hid (show w.alloc (.cells #[.int .i64 0, .string ⟨#[]⟩, .string ⟨#[]⟩, .slice none 0 0] 26) = w0 from hW.symm)
  clear hW
  have hPl := h.cb.lt
  have hgl := h.gl
  have HQ0 := Lib.hid (h.lay hlw)
  have HK0 := Lib.hid (Lay.keep (G := fun k => k = P) hlw)
  have HX0 := Lib.hid hbx
  have HZ0 : Hid (w.heap.size + 1 ≤ w0.heap.size) := Lib.hid (Nat.le_of_eq hsz.symm)
  clear hlw hbx h hsz
  have HE := Lib.hid he
  have hF0 : isT (tk ts i) PX.wTrue = false := isT_other hT (by decide)
  have hF1 : isT (tk ts i) PX.wFalse = false := isT_other hT (by decide)
  have hF2 : isT (tk ts i) PX.wWord = false := isT_other hT (by decide)
  have hF3 : isT (tk ts i) PX.wHas = false := isT_other hT (by decide)
  have hF4 : isT (tk ts i) PX.wField = false := isT_other hT (by decide)
  have hF5 : isT (tk ts i) PX.wNot = false := isT_other hT (by decide)
  have HR : Hid (atomX ts rn rb i = rb) := Lib.hid (by unfold atomX; rw [hF5, hT]; rfl)
  have HBB := Lib.hid HB
  clear HB
  clear he
  go_enter Tryz.func135, Tryz.ntmps135
  have HS0 : Hid (Calls Tryz.prog 88 #[.pointer (some ⟨P, 0, none⟩), .string ⟨#[116, 114, 117, 101]⟩] w0 fun r w' => r = .returned (.bool false) ∧ PQS P g c ts i deep w' ∧ Keep (fun k => k = P) w0 w') := Lib.hid (skip_run P g c ts i deep PX.wTrue w0 HQ0.out HE.out false i hF0 rfl)
  go_wp2_with fail
  rw [HW.out]
  refine HS0.out.mono ?_
  rintro e w1 ⟨rfl, hq, hk⟩
  have HQ1 := Lib.hid hq
  have HK1 := Lib.hid (HK0.out.trans hk)
  have HX1 := Lib.hid (HX0.out.carry (hk.block _ (by have := HZ0.out; omega) (by omega)))
  have HZ1 := Lib.hid (Nat.le_trans HZ0.out hk.size)
  clear hq hk HS0 HX0 HQ0 HK0
  have HS1 : Hid (Calls Tryz.prog 88 #[.pointer (some ⟨P, 0, none⟩), .string ⟨#[102, 97, 108, 115, 101]⟩] w1 fun r w' => r = .returned (.bool false) ∧ PQS P g c ts i deep w' ∧ Keep (fun k => k = P) w1 w') := Lib.hid (skip_run P g c ts i deep PX.wFalse w1 HQ1.out HE.out false i hF1 rfl)
  go_wp2_with fail
  refine HS1.out.mono ?_
  rintro e w2 ⟨rfl, hq, hk⟩
  have HQ2 := Lib.hid hq
  have HK2 := Lib.hid (HK1.out.trans hk)
  have HX2 := Lib.hid (HX1.out.carry (hk.block _ (by have := HZ1.out; omega) (by omega)))
  have HZ2 := Lib.hid (Nat.le_trans HZ1.out hk.size)
  clear hq hk HS1 HX1 HQ1 HK1
  have HS2 : Hid (Calls Tryz.prog 88 #[.pointer (some ⟨P, 0, none⟩), .string ⟨#[119, 111, 114, 100]⟩] w2 fun r w' => r = .returned (.bool false) ∧ PQS P g c ts i deep w' ∧ Keep (fun k => k = P) w2 w') := Lib.hid (skip_run P g c ts i deep PX.wWord w2 HQ2.out HE.out false i hF2 rfl)
  go_wp2_with fail
  refine HS2.out.mono ?_
  rintro e w3 ⟨rfl, hq, hk⟩
  have HQ3 := Lib.hid hq
  have HK3 := Lib.hid (HK2.out.trans hk)
  have HX3 := Lib.hid (HX2.out.carry (hk.block _ (by have := HZ2.out; omega) (by omega)))
  have HZ3 := Lib.hid (Nat.le_trans HZ2.out hk.size)
  clear hq hk HS2 HX2 HQ2 HK2
  have HS3 : Hid (Calls Tryz.prog 88 #[.pointer (some ⟨P, 0, none⟩), .string ⟨#[104, 97, 115]⟩] w3 fun r w' => r = .returned (.bool false) ∧ PQS P g c ts i deep w' ∧ Keep (fun k => k = P) w3 w') := Lib.hid (skip_run P g c ts i deep PX.wHas w3 HQ3.out HE.out false i hF3 rfl)
  go_wp2_with fail
  refine HS3.out.mono ?_
  rintro e w4 ⟨rfl, hq, hk⟩
  have HQ4 := Lib.hid hq
  have HK4 := Lib.hid (HK3.out.trans hk)
  have HX4 := Lib.hid (HX3.out.carry (hk.block _ (by have := HZ3.out; omega) (by omega)))
  have HZ4 := Lib.hid (Nat.le_trans HZ3.out hk.size)
  clear hq hk HS3 HX3 HQ3 HK3
  have HS4 : Hid (Calls Tryz.prog 88 #[.pointer (some ⟨P, 0, none⟩), .string ⟨#[102, 105, 101, 108, 100]⟩] w4 fun r w' => r = .returned (.bool false) ∧ PQS P g c ts i deep w' ∧ Keep (fun k => k = P) w4 w') := Lib.hid (skip_run P g c ts i deep PX.wField w4 HQ4.out HE.out false i hF4 rfl)
  go_wp2_with fail
  refine HS4.out.mono ?_
  rintro e w5 ⟨rfl, hq, hk⟩
  have HQ5 := Lib.hid hq
  have HK5 := Lib.hid (HK4.out.trans hk)
  have HX5 := Lib.hid (HX4.out.carry (hk.block _ (by have := HZ4.out; omega) (by omega)))
  have HZ5 := Lib.hid (Nat.le_trans HZ4.out hk.size)
  clear hq hk HS4 HX4 HQ4 HK4
  have HS5 : Hid (Calls Tryz.prog 85 #[.pointer (some ⟨P, 0, none⟩), .string ⟨#[110, 111, 116]⟩] w5 fun r w' => r = .returned (.bool false) ∧ Lay w5 w') := Lib.hid (is_run P g c ts i deep PX.wNot w5 HQ5.out false hF5)
  go_wp2_with fail
  refine HS5.out.mono ?_
  rintro e w6 ⟨rfl, hl⟩
  have hk : Keep (fun k => k = P) w5 w6 := Lay.keep hl
  have HQ6 := Lib.hid (HQ5.out.lay hl)
  have HK6 := Lib.hid (HK5.out.trans hk)
  have HX6 := Lib.hid (HX5.out.carry (hk.block _ (by have := HZ5.out; omega) (by omega)))
  have HZ6 := Lib.hid (Nat.le_trans HZ5.out hk.size)
  clear hl hk HS5 HX5 HQ5 HK5
  have HS : Hid (Calls Tryz.prog 85 #[.pointer (some ⟨P, 0, none⟩), .string ⟨#[40]⟩] w6 fun r w' => r = .returned (.bool true) ∧ Lay w6 w') := Lib.hid (is_run P g c ts i deep PX.wOpen w6 HQ6.out true hT)
  go_wp2_with fail
  refine HS.out.mono ?_
  rintro e w7 ⟨rfl, hl⟩
  have hk : Keep (fun k => k = P) w6 w7 := Lay.keep hl
  have HQ7 := Lib.hid (HQ6.out.lay hl)
  have HK7 := Lib.hid (HK6.out.trans hk)
  have HX7 := Lib.hid (HX6.out.carry (hk.block _ (by have := HZ6.out; omega) (by omega)))
  have HZ7 := Lib.hid (Nat.le_trans HZ6.out hk.size)
  clear hl hk HS HX6 HQ6 HK6
  go_wp2_with fail
  refine (HBB.out w7 HQ7.out).mono ?_
  rintro e w8 ⟨hk, ho⟩
  have HK8 := Lib.hid (HK7.out.trans hk)
  have HX8 := Lib.hid (HX7.out.carry (hk.block _ (by have := HZ7.out; omega) (by omega)))
  clear hk
  revert ho
  rcases hr : rb with p | ⟨x, j⟩
  · have HRR : Hid (atomX ts rn rb i = .error p) := Lib.hid (by rw [HR.out]; exact hr)
    clear hr
    rintro ⟨rfl, i', hq⟩
    have HQ8 := Lib.hid hq
    clear hq
    simp only [zeroF, errV]
    obtain ⟨c0, c1, c2, c3, g0, g1, g2, g3⟩ := HX8.out
    go_wp2_with fail
    have hq := HX8.out.all (.int .i64 0) (.string ⟨#[]⟩) (.string ⟨#[]⟩) (.slice none 0 0)
    unfold Go.Proofs.YtmodiemmcdocdaaGreatDoor.stored at hq
    obtain ⟨q0, q1, q2, q3, _, _, _, _⟩ := hq
    refine bodyPost_ret (v := .tuple #[zeroF, errV p]) (by simp [results, Tryz.results135, go_sem, zeroF, errV, q0, q1, q2, q3]) rfl ?_
    exact OneQ.bad HRR.out hPl hgl HQ8.out HK8.out (Nat.le_refl _)
  · have HRR : Hid (atomX ts rn rb i = .ok (x, j)) := Lib.hid (by rw [HR.out]; exact hr)
    clear hr
    rintro ⟨kv, rfl, hkb, hq⟩
    obtain ⟨ak, ck, rfl⟩ := hkb.shape
    have HQ8 := Lib.hid hq
    have HKB := Lib.hid hkb
    clear hq hkb
    simp only [Ft.val]
    obtain ⟨c0, c1, c2, c3, g0, g1, g2, g3⟩ := HX8.out
    go_wp2_with fail
    have hq := HX8.out.all (.int .i64 x.op) (.string x.name) (.string x.text) (.slice ak x.kids.length ck)
    unfold Go.Proofs.YtmodiemmcdocdaaGreatDoor.stored at hq
    obtain ⟨q0, q1, q2, q3, _, _, _, _⟩ := hq
    refine bodyPost_ret (v := .tuple #[x.val (.slice ak x.kids.length ck), .nilIface]) (by simp [results, Tryz.results135, go_sem, Ft.val, q0, q1, q2, q3]) rfl ?_
    refine OneQ.good HRR.out hPl hgl HQ8.out HK8.out (Nat.le_refl _) ?_
    exact KsB.mono (fun b _ hb => by have h1 : w7.heap.size ≤ b := hb; have := HZ7.out; exact ⟨by omega, by omega⟩) _ _ HKB.out

set_option maxHeartbeats 4000000 in
set_option maxRecDepth 100000 in
theorem atom_at_none (P g c : Nat) (ts : List LX.Tok) (deep : Nat) (rn rb : PX.PR Ft) (i : Nat) (he : PX.Ended ts) (hF0 : isT (tk ts i) PX.wTrue = false) (hF1 : isT (tk ts i) PX.wFalse = false) (hF2 : isT (tk ts i) PX.wWord = false) (hF3 : isT (tk ts i) PX.wHas = false) (hF4 : isT (tk ts i) PX.wField = false) (hF5 : isT (tk ts i) PX.wNot = false) (hF6 : isT (tk ts i) PX.wOpen = false) (w : World) (h : PQS P g c ts i deep w) :
    Calls Tryz.prog 135 #[.pointer (some ⟨P, 0, none⟩)] w (OneQ P g c ts deep (atomX ts rn rb i) w) := by
  obtain ⟨w0, hW⟩ : ∃ W, W = newF w := ⟨_, rfl⟩
  have hlw := newF_lay w
  have hbx := newF_bx w
  have hsz := newF_size w
  rw [← hW] at hlw hbx hsz
  have HW := Lib.hid (show w.alloc (.cells #[.int .i64 0, .string ⟨#[]⟩, .string ⟨#[]⟩, .slice none 0 0] 26) = w0 from hW.symm)
  clear hW
  have hPl := h.cb.lt
  have hgl := h.gl
  have HQ0 := Lib.hid (h.lay hlw)
  have HK0 := Lib.hid (Lay.keep (G := fun k => k = P) hlw)
  have HX0 := Lib.hid hbx
  have HZ0 : Hid (w.heap.size + 1 ≤ w0.heap.size) := Lib.hid (Nat.le_of_eq hsz.symm)
  clear hlw hbx h hsz
  have HE := Lib.hid he
  have HR : Hid (atomX ts rn rb i = .error (5, (tk ts i).place)) := Lib.hid (by unfold atomX PX.leaf PX.want; rw [hF5, hF6, hF0, hF1, hF2, hF3, hF4]; rfl)
  clear he
  go_enter Tryz.func135, Tryz.ntmps135
  have HS0 : Hid (Calls Tryz.prog 88 #[.pointer (some ⟨P, 0, none⟩), .string ⟨#[116, 114, 117, 101]⟩] w0 fun r w' => r = .returned (.bool false) ∧ PQS P g c ts i deep w' ∧ Keep (fun k => k = P) w0 w') := Lib.hid (skip_run P g c ts i deep PX.wTrue w0 HQ0.out HE.out false i hF0 rfl)
  go_wp2_with fail
  rw [HW.out]
  refine HS0.out.mono ?_
  rintro e w1 ⟨rfl, hq, hk⟩
  have HQ1 := Lib.hid hq
  have HK1 := Lib.hid (HK0.out.trans hk)
  have HX1 := Lib.hid (HX0.out.carry (hk.block _ (by have := HZ0.out; omega) (by omega)))
  have HZ1 := Lib.hid (Nat.le_trans HZ0.out hk.size)
  clear hq hk HS0 HX0 HQ0 HK0
  have HS1 : Hid (Calls Tryz.prog 88 #[.pointer (some ⟨P, 0, none⟩), .string ⟨#[102, 97, 108, 115, 101]⟩] w1 fun r w' => r = .returned (.bool false) ∧ PQS P g c ts i deep w' ∧ Keep (fun k => k = P) w1 w') := Lib.hid (skip_run P g c ts i deep PX.wFalse w1 HQ1.out HE.out false i hF1 rfl)
  go_wp2_with fail
  refine HS1.out.mono ?_
  rintro e w2 ⟨rfl, hq, hk⟩
  have HQ2 := Lib.hid hq
  have HK2 := Lib.hid (HK1.out.trans hk)
  have HX2 := Lib.hid (HX1.out.carry (hk.block _ (by have := HZ1.out; omega) (by omega)))
  have HZ2 := Lib.hid (Nat.le_trans HZ1.out hk.size)
  clear hq hk HS1 HX1 HQ1 HK1
  have HS2 : Hid (Calls Tryz.prog 88 #[.pointer (some ⟨P, 0, none⟩), .string ⟨#[119, 111, 114, 100]⟩] w2 fun r w' => r = .returned (.bool false) ∧ PQS P g c ts i deep w' ∧ Keep (fun k => k = P) w2 w') := Lib.hid (skip_run P g c ts i deep PX.wWord w2 HQ2.out HE.out false i hF2 rfl)
  go_wp2_with fail
  refine HS2.out.mono ?_
  rintro e w3 ⟨rfl, hq, hk⟩
  have HQ3 := Lib.hid hq
  have HK3 := Lib.hid (HK2.out.trans hk)
  have HX3 := Lib.hid (HX2.out.carry (hk.block _ (by have := HZ2.out; omega) (by omega)))
  have HZ3 := Lib.hid (Nat.le_trans HZ2.out hk.size)
  clear hq hk HS2 HX2 HQ2 HK2
  have HS3 : Hid (Calls Tryz.prog 88 #[.pointer (some ⟨P, 0, none⟩), .string ⟨#[104, 97, 115]⟩] w3 fun r w' => r = .returned (.bool false) ∧ PQS P g c ts i deep w' ∧ Keep (fun k => k = P) w3 w') := Lib.hid (skip_run P g c ts i deep PX.wHas w3 HQ3.out HE.out false i hF3 rfl)
  go_wp2_with fail
  refine HS3.out.mono ?_
  rintro e w4 ⟨rfl, hq, hk⟩
  have HQ4 := Lib.hid hq
  have HK4 := Lib.hid (HK3.out.trans hk)
  have HX4 := Lib.hid (HX3.out.carry (hk.block _ (by have := HZ3.out; omega) (by omega)))
  have HZ4 := Lib.hid (Nat.le_trans HZ3.out hk.size)
  clear hq hk HS3 HX3 HQ3 HK3
  have HS4 : Hid (Calls Tryz.prog 88 #[.pointer (some ⟨P, 0, none⟩), .string ⟨#[102, 105, 101, 108, 100]⟩] w4 fun r w' => r = .returned (.bool false) ∧ PQS P g c ts i deep w' ∧ Keep (fun k => k = P) w4 w') := Lib.hid (skip_run P g c ts i deep PX.wField w4 HQ4.out HE.out false i hF4 rfl)
  go_wp2_with fail
  refine HS4.out.mono ?_
  rintro e w5 ⟨rfl, hq, hk⟩
  have HQ5 := Lib.hid hq
  have HK5 := Lib.hid (HK4.out.trans hk)
  have HX5 := Lib.hid (HX4.out.carry (hk.block _ (by have := HZ4.out; omega) (by omega)))
  have HZ5 := Lib.hid (Nat.le_trans HZ4.out hk.size)
  clear hq hk HS4 HX4 HQ4 HK4
  have HS5 : Hid (Calls Tryz.prog 85 #[.pointer (some ⟨P, 0, none⟩), .string ⟨#[110, 111, 116]⟩] w5 fun r w' => r = .returned (.bool false) ∧ Lay w5 w') := Lib.hid (is_run P g c ts i deep PX.wNot w5 HQ5.out false hF5)
  go_wp2_with fail
  refine HS5.out.mono ?_
  rintro e w6 ⟨rfl, hl⟩
  have hk : Keep (fun k => k = P) w5 w6 := Lay.keep hl
  have HQ6 := Lib.hid (HQ5.out.lay hl)
  have HK6 := Lib.hid (HK5.out.trans hk)
  have HX6 := Lib.hid (HX5.out.carry (hk.block _ (by have := HZ5.out; omega) (by omega)))
  have HZ6 := Lib.hid (Nat.le_trans HZ5.out hk.size)
  clear hl hk HS5 HX5 HQ5 HK5
  have HS6 : Hid (Calls Tryz.prog 85 #[.pointer (some ⟨P, 0, none⟩), .string ⟨#[40]⟩] w6 fun r w' => r = .returned (.bool false) ∧ Lay w6 w') := Lib.hid (is_run P g c ts i deep PX.wOpen w6 HQ6.out false hF6)
  go_wp2_with fail
  refine HS6.out.mono ?_
  rintro e w7 ⟨rfl, hl⟩
  have hk : Keep (fun k => k = P) w6 w7 := Lay.keep hl
  have HQ7 := Lib.hid (HQ6.out.lay hl)
  have HK7 := Lib.hid (HK6.out.trans hk)
  have HX7 := Lib.hid (HX6.out.carry (hk.block _ (by have := HZ6.out; omega) (by omega)))
  have HZ7 := Lib.hid (Nat.le_trans HZ6.out hk.size)
  clear hl hk HS6 HX6 HQ6 HK6
  obtain ⟨o, n, m, ho, hn, hm, h0n, hnm, hgl1, hPl1, hPg, hcb, t0, t1, t2, t3⟩ := HQ7.out.open
  have x0 : w7.cell? ⟨P, 0, none⟩ = some (.slice (some ⟨g, o, none⟩) n m) := hcb.cell 0
  clear hcb ho hn hm
  go_wp2_with fail
  refine (at_run (tk ts i) 5 w7).mono ?_
  rintro e w8 ⟨rfl, hl2⟩
  have HX8 := Lib.hid (HX7.out.carry (hl2.block (by have := HZ7.out; omega)))
  have HQ8 := Lib.hid (HQ7.out.lay hl2)
  have HK8 := Lib.hid (HK7.out.trans (Lay.keep hl2))
  clear hl2 t0 t1 t2 t3 x0
  unfold errV
  obtain ⟨c0, c1, c2, c3, g0, g1, g2, g3⟩ := HX8.out
  go_wp2_with fail
  have hq := HX8.out.all (.int .i64 0) (.string ⟨#[]⟩) (.string ⟨#[]⟩) (.slice none 0 0)
  unfold Go.Proofs.YtmodiemmcdocdaaGreatDoor.stored at hq
  obtain ⟨q0, q1, q2, q3, _, _, _, _⟩ := hq
  refine bodyPost_ret (v := .tuple #[zeroF, errV (5, (tk ts i).place)]) (by simp [results, Tryz.results135, go_sem, zeroF, errV, q0, q1, q2, q3]) rfl ?_
  exact OneQ.bad HR.out hPl hgl HQ8.out HK8.out (Nat.le_refl _)

end Go.Proofs.YtmodiemmcdocdaaGreatDoor

namespace Go.Proofs.YtmodiemmcdocdaaGreatDoor
open Go.RowKit Go
open PX (tk isT)

theorem px_atom0 (ts : List LX.Tok) (i : Nat) : PX.atom ts 0 i = atomX ts (.error (6, (tk ts i).place)) (.error (6, (tk ts i).place)) i := by
  rw [PX.atom]; rfl
theorem px_atomS (ts : List LX.Tok) (d i : Nat) : PX.atom ts (d + 1) i = atomX ts (notX (PX.atom ts d (i + 1))) (shutX ts (PX.orF ts (PX.atom ts d) (i + 1))) i := by
  rw [PX.atom]; rfl

theorem one_mono {_ts : List LX.Tok} {one : SX.S → Ft × SX.S} {p : Nat → PX.PR Ft} (hr : SX.Rel one p) (hg : SX.Goes one) {i : Nat} {x : Ft} {j : Nat} (h : p i = .ok (x, j)) : i + 1 ≤ j := by
  have h1 := hr i 0
  rw [h] at h1
  obtain ⟨_, h2⟩ := h1
  have h3 := hg ⟨i, 0, 0⟩ rfl
  rw [h2] at h3
  exact h3.2 rfl

theorem atom_mono (ts : List LX.Tok) (d i : Nat) (x : Ft) (j : Nat) (h : PX.atom ts d i = .ok (x, j)) : i + 1 ≤ j := one_mono (_ts := ts) (SX.atom_rel ts d) (SX.atom_goes ts d) h
theorem and_mono (ts : List LX.Tok) (d i : Nat) (x : Ft) (j : Nat) (h : PX.andF ts (PX.atom ts d) i = .ok (x, j)) : i + 1 ≤ j :=
  one_mono (_ts := ts) (SX.row_rel ts (SX.atom_rel ts d) PX.wAnd 7) (SX.row_goes ts (w := PX.wAnd) (op := 7) (SX.atom_goes ts d)) h

theorem atom_cases (P g c : Nat) (ts : List LX.Tok) (deep : Nat) (rn rb : PX.PR Ft) (i : Nat) (he : PX.Ended ts)
    (HN : isT (tk ts i) PX.wNot = true → ∀ w, PQS P g c ts i deep w → Calls Tryz.prog 149 #[.pointer (some ⟨P, 0, none⟩)] w (OneQ P g c ts deep rn w))
    (HB : isT (tk ts i) PX.wOpen = true → ∀ w, PQS P g c ts i deep w → Calls Tryz.prog 150 #[.pointer (some ⟨P, 0, none⟩)] w (OneQ P g c ts deep rb w))
    (w : World) (h : PQS P g c ts i deep w) : Calls Tryz.prog 135 #[.pointer (some ⟨P, 0, none⟩)] w (OneQ P g c ts deep (atomX ts rn rb i) w) := by
  by_cases h0 : isT (tk ts i) PX.wTrue = true
  · exact atom_at_wTrue P g c ts deep rn rb i he h0 w h
  by_cases h1 : isT (tk ts i) PX.wFalse = true
  · exact atom_at_wFalse P g c ts deep rn rb i he h1 w h
  by_cases h2 : isT (tk ts i) PX.wWord = true
  · exact atom_at_wWord P g c ts deep rn rb i he h2 w h
  by_cases h3 : isT (tk ts i) PX.wHas = true
  · exact atom_at_wHas P g c ts deep rn rb i he h3 w h
  by_cases h4 : isT (tk ts i) PX.wField = true
  · exact atom_at_wField P g c ts deep rn rb i he h4 w h
  by_cases h5 : isT (tk ts i) PX.wNot = true
  · exact atom_at_wNot P g c ts deep rn rb i he h5 (HN h5) w h
  by_cases h6 : isT (tk ts i) PX.wOpen = true
  · exact atom_at_wOpen P g c ts deep rn rb i he h6 (HB h6) w h
  exact atom_at_none P g c ts deep rn rb i he (by simpa using h0) (by simpa using h1) (by simpa using h2) (by simpa using h3) (by simpa using h4) (by simpa using h5) (by simpa using h6) w h

theorem atom_own (P g c : Nat) (ts : List LX.Tok) (he : PX.Ended ts) (hfew : ts.length ≤ 1100) : ∀ (d i deep : Nat) (w : World), deep + d = 8 → PQS P g c ts i deep w →
    Calls Tryz.prog 135 #[.pointer (some ⟨P, 0, none⟩)] w (OneQ P g c ts deep (PX.atom ts d i) w)
  | 0, i, deep, w, hd, h => by
    obtain rfl : deep = 8 := by omega
    rw [px_atom0]
    refine atom_cases P g c ts 8 _ _ i he (fun hT w h => ?_) (fun hT w h => ?_) w h
    · exact not_own P g c ts i 8 (.error (6, (tk ts i).place)) w h fun w h => within_no_113 P g c ts i w h (he.next h.lt (PX.isT_kind hT))
    · exact bracket_own P g c ts i 8 (.error (6, (tk ts i).place)) he w h fun w h => within_no_76 P g c ts i w h (he.next h.lt (PX.isT_kind hT))
  | d + 1, i, deep, w, hd, h => by
    have IH := atom_own P g c ts he hfew d
    rw [px_atomS]
    refine atom_cases P g c ts deep _ _ i he (fun hT w h => ?_) (fun hT w h => ?_) w h
    · exact not_own P g c ts i deep (PX.atom ts d (i + 1)) w h fun w h => within_ok_113 P g c ts i deep _ w h (he.next h.lt (PX.isT_kind hT)) (by omega) fun w h => IH (i + 1) (deep + 1) w (by omega) h
    · refine bracket_own P g c ts i deep (PX.orF ts (PX.atom ts d) (i + 1)) he w h fun w h => within_ok_76 P g c ts i deep _ w h (he.next h.lt (PX.isT_kind hT)) (by omega) fun w h => ?_
      exact or_own P g c ts (deep + 1) (PX.andF ts (PX.atom ts d)) he hfew (and_mono ts d) (fun i w h => and_own P g c ts (deep + 1) (PX.atom ts d) he hfew (atom_mono ts d) (fun i w h => IH i (deep + 1) w (by omega) h) i w h) (i + 1) w h

/-- A filter. -/
theorem por_any (P g c : Nat) (ts : List LX.Tok) (he : PX.Ended ts) (hfew : ts.length ≤ 1100) (i : Nat) (w : World) (h : PQS P g c ts i 0 w) :
    Calls Tryz.prog 89 #[.pointer (some ⟨P, 0, none⟩)] w (OneQ P g c ts 0 (PX.orF ts (PX.atom ts 8) i) w) :=
  or_own P g c ts 0 (PX.andF ts (PX.atom ts 8)) he hfew (and_mono ts 8) (fun i w h => and_own P g c ts 0 (PX.atom ts 8) he hfew (atom_mono ts 8) (fun i w h => atom_own P g c ts he hfew 8 i 0 w (by omega) h) i w h) i w h

end Go.Proofs.YtmodiemmcdocdaaGreatDoor

namespace Go.Proofs.YtmodiemmcdocdaaGreatDoor
open Go.RowKit Go
open PX (tk isT)

/-- What a part that turns the query answers. -/
def PartR (P g c : Nat) (ts : List LX.Tok) (Q : Nat) (r : PX.PR (Array Value)) (w : World) (e : Ending) (w' : World) : Prop :=
  Keep (PQ P Q) w w' ∧ match r with
    | .error p => e = .returned (errV p)
    | .ok (arr, j) => e = .returned .nilIface ∧ PQS P g c ts j 0 w' ∧ CB w' Q 28 arr

theorem PartR.bad {P g c : Nat} {ts : List LX.Tok} {Q : Nat} {r : PX.PR (Array Value)} {w W : World} {p : Nat × Nat} (hr : r = .error p) (hk : Keep (PQ P Q) w W) : PartR P g c ts Q r w (.returned (errV p)) W := by
  subst hr; exact ⟨hk, rfl⟩
theorem PartR.good {P g c : Nat} {ts : List LX.Tok} {Q : Nat} {r : PX.PR (Array Value)} {w W : World} {arr : Array Value} {j : Nat} (hr : r = .ok (arr, j)) (hk : Keep (PQ P Q) w W) (hq : PQS P g c ts j 0 W) (hc : CB W Q 28 arr) : PartR P g c ts Q r w (.returned .nilIface) W := by
  subst hr; exact ⟨hk, rfl, hq, hc⟩

set_option maxHeartbeats 4000000 in
set_option maxRecDepth 100000 in
theorem desc_own (P g c : Nat) (ts : List LX.Tok) (i Q : Nat) (a0 a1 a2 a3 a4 a5 a6 a7 a8 a9 : Value) (w : World) (h : PQS P g c ts i 0 w) (he : PX.Ended ts) (hQ : CB w Q 28 #[a0, a1, a2, a3, a4, a5, a6, a7, a8, a9]) (h1 : Q ≠ P) (h2 : Q ≠ g) (y : Bool) (i' : Nat) (hy : isT (tk ts i) PX.wDesc = y) (hi' : (if y = true then i + 1 else i) = i') :
    Calls Tryz.prog 52 #[.pointer (some ⟨P, 0, none⟩), .pointer (some ⟨Q, 0, none⟩)] w (PartR P g c ts Q (.ok (#[a0, a1, a2, a3, a4, a5, a6, .bool y, a8, a9], i')) w) := by
  have hQl := hQ.lt
  have HS : Hid (Calls Tryz.prog 88 #[.pointer (some ⟨P, 0, none⟩), .string ⟨#[100, 101, 115, 99]⟩] w fun r w' => r = .returned (.bool y) ∧ PQS P g c ts i' 0 w' ∧ Keep (fun k => k = P) w w') := Lib.hid (skip_run P g c ts i 0 PX.wDesc w h he y i' hy hi')
  have HCB := Lib.hid hQ
  clear h he hQ hy hi'
  go_enter Tryz.func52, Tryz.ntmps52
  go_wp2_with fail
  refine HS.out.mono ?_
  rintro e w1 ⟨rfl, hq1, hk1⟩
  have HC1 := Lib.hid (HCB.out.keep hk1 h1)
  have HQ1 := Lib.hid hq1
  have HK1 := Lib.hid (Keep.pq (Q := Q) hk1)
  clear hq1 hk1
  have c7 := HC1.out.cell 7
  have g7 := HC1.out.frozen 7
  go_wp2_with fail
  go_ret
  exact PartR.good rfl (HK1.out.setQ 7 _) (HQ1.out.setQ h1 h2 7 _) (HC1.out.set 7 _)

/-- How many there are at most. -/
def limitX (ts : List LX.Tok) (a : Value → Array Value) (i : Nat) : PX.PR (Array Value) :=
  match numX ts PX.wLimit 1 50 i with
  | .error e => .error e
  | .ok ((_, n), j) => .ok (a (.int .i64 n), j)

set_option maxHeartbeats 4000000 in
set_option maxRecDepth 100000 in
theorem limit_own (P g c : Nat) (ts : List LX.Tok) (i Q : Nat) (a0 a1 a2 a3 a4 a5 a6 a7 a8 a9 : Value) (w : World) (h : PQS P g c ts i 0 w) (he : PX.Ended ts) (hQ : CB w Q 28 #[a0, a1, a2, a3, a4, a5, a6, a7, a8, a9]) (h1 : Q ≠ P) (h2 : Q ≠ g) :
    Calls Tryz.prog 53 #[.pointer (some ⟨P, 0, none⟩), .pointer (some ⟨Q, 0, none⟩)] w (PartR P g c ts Q (limitX ts (fun v => #[a0, a1, a2, a3, a4, a5, a6, a7, v, a9]) i) w) := by
  have hQl := hQ.lt
  have hmf : ∀ (fn : Fn) (first cap : Array Value) (w : World), (Instr.makeFunc fn first cap).run Tryz.prog w = .ok (.func fn first cap) w := fun _ _ _ _ => rfl
  have hN0 := (show Calls Tryz.prog 82 #[.pointer (some ⟨P, 0, none⟩), .string ⟨#[108, 105, 109, 105, 116]⟩, .func (.func 90) #[] #[]] w (NumR P g c ts 0 (numX ts PX.wLimit 1 50 i) w) from number_own_77 P g c ts i 0 PX.wLimit w h he)
  have HCB := Lib.hid hQ
  clear h he hQ
  rcases hr : numX ts PX.wLimit 1 50 i with p | ⟨⟨o1, n⟩, j⟩
  · have HN := Lib.hid (num_no hN0 hr)
    have HR : Hid (limitX ts (fun v => #[a0, a1, a2, a3, a4, a5, a6, a7, v, a9]) i = .error p) := Lib.hid (by unfold limitX; rw [hr])
    clear hr hN0
    go_enter Tryz.func53, Tryz.ntmps53
    go_wp2_with fail
    refine HN.out.mono ?_
    rintro e w1 ⟨rfl, hk1⟩
    have hl : Lay w1 (w1.alloc (.cells #[.int .i64 0, .string ⟨#[]⟩, .int .i64 0, .int .i64 0] 93)) := (Keep.refl _ w1).alloc _
    have HC1 := Lib.hid ((HCB.out.keep hk1 h1).keep hl (fun h => h))
    have HK := Lib.hid ((Keep.pq (Q := Q) hk1).alloc (.cells #[.int .i64 0, .string ⟨#[]⟩, .int .i64 0, .int .i64 0] 93))
    clear hk1 hl
    simp only [tokW, SX.zeroT, errV]
    have c8 := HC1.out.cell 8
    have g8 := HC1.out.frozen 8
    go_wp2_with fail
    go_ret
    exact PartR.bad HR.out (HK.out.setQ 8 _)
  · have HN := Lib.hid (num_ok hN0 hr)
    have HR : Hid (limitX ts (fun v => #[a0, a1, a2, a3, a4, a5, a6, a7, v, a9]) i = .ok (#[a0, a1, a2, a3, a4, a5, a6, a7, .int .i64 n, a9], j)) := Lib.hid (by unfold limitX; rw [hr])
    clear hr hN0
    go_enter Tryz.func53, Tryz.ntmps53
    go_wp2_with fail
    refine HN.out.mono ?_
    rintro e w1 ⟨rfl, hq1, hk1⟩
    have hl : Lay w1 (w1.alloc (.cells #[.int .i64 ((o1).kind : Nat), .string ⟨(o1).says.toArray⟩, .int .i64 (o1).n, .int .i64 ((o1).place : Nat)] 93)) := (Keep.refl _ w1).alloc _
    have HC1 := Lib.hid ((HCB.out.keep hk1 h1).keep hl (fun h => h))
    have HQ1 := Lib.hid (hq1.lay hl)
    have HK := Lib.hid ((Keep.pq (Q := Q) hk1).alloc (.cells #[.int .i64 ((o1).kind : Nat), .string ⟨(o1).says.toArray⟩, .int .i64 (o1).n, .int .i64 ((o1).place : Nat)] 93))
    clear hk1 hl hq1
    simp only [tokW]
    have c8 := HC1.out.cell 8
    have g8 := HC1.out.frozen 8
    go_wp2_with fail
    go_ret
    exact PartR.good HR.out (HK.out.setQ 8 _) (HQ1.out.setQ h1 h2 8 _) (HC1.out.set 8 _)

/-- The page. -/
def pageX (ts : List LX.Tok) (a9 : Value) (a : Value → Array Value) (i : Nat) : PX.PR (Array Value) :=
  if isT (tk ts i) PX.wPage = true then
    match PX.token ts 4 (i + 1) with
    | .error e => .error e
    | .ok (t, j) => .ok (a (.string (PX.bs t.says)), j)
  else .ok (a a9, i)

set_option maxHeartbeats 4000000 in
set_option maxRecDepth 100000 in
theorem page_own (P g c : Nat) (ts : List LX.Tok) (i Q : Nat) (a0 a1 a2 a3 a4 a5 a6 a7 a8 a9 : Value) (w : World) (h : PQS P g c ts i 0 w) (he : PX.Ended ts) (hQ : CB w Q 28 #[a0, a1, a2, a3, a4, a5, a6, a7, a8, a9]) (h1 : Q ≠ P) (h2 : Q ≠ g) :
    Calls Tryz.prog 54 #[.pointer (some ⟨P, 0, none⟩), .pointer (some ⟨Q, 0, none⟩)] w (PartR P g c ts Q (pageX ts a9 (fun v => #[a0, a1, a2, a3, a4, a5, a6, a7, a8, v]) i) w) := by
  have hQl := hQ.lt
  have HCB := Lib.hid hQ
  have HE := Lib.hid he
  by_cases hT : isT (tk ts i) PX.wPage = true
  · have HS : Hid (Calls Tryz.prog 88 #[.pointer (some ⟨P, 0, none⟩), .string ⟨#[112, 97, 103, 101]⟩] w fun r w' => r = .returned (.bool true) ∧ PQS P g c ts (i + 1) 0 w' ∧ Keep (fun k => k = P) w w') := Lib.hid (skip_run P g c ts i 0 PX.wPage w h he true (i + 1) hT rfl)
    have HR1 : Hid (pageX ts a9 (fun v => #[a0, a1, a2, a3, a4, a5, a6, a7, a8, v]) i = match PX.token ts 4 (i + 1) with
      | .error e => .error e
      | .ok (t, j) => .ok (#[a0, a1, a2, a3, a4, a5, a6, a7, a8, .string (PX.bs t.says)], j)) := Lib.hid (by unfold pageX; rw [if_pos hT])
    clear h he hQ hT
    go_enter Tryz.func54, Tryz.ntmps54
    go_wp2_with fail
    refine HS.out.mono ?_
    rintro e w1 ⟨rfl, hq1, hk1⟩
    have HC1 := Lib.hid (HCB.out.keep hk1 h1)
    have HQ1 := Lib.hid hq1
    have HK1 := Lib.hid (Keep.pq (Q := Q) hk1)
    clear hq1 hk1
    go_wp2_with fail
    rcases hr : PX.token ts 4 (i + 1) with p | ⟨t, j⟩
    · have HT := Lib.hid (take_no P g c ts (i + 1) 0 4 w1 HQ1.out HE.out (by decide) hr)
      have HR : Hid (pageX ts a9 (fun v => #[a0, a1, a2, a3, a4, a5, a6, a7, a8, v]) i = .error p) := Lib.hid (by rw [HR1.out, hr])
      clear hr HR1
      refine HT.out.mono ?_
      rintro e w2 ⟨rfl, _, hk2⟩
      have hl : Lay w2 (w2.alloc (.cells #[.int .i64 0, .string ⟨#[]⟩, .int .i64 0, .int .i64 0] 93)) := (Keep.refl _ w2).alloc _
      have HC2 := Lib.hid ((HC1.out.keep hk2 h1).keep hl (fun h => h))
      have HK2 := Lib.hid ((HK1.out.trans (Keep.pq hk2)).trans (Lay.keep hl))
      have HA2 : Hid (Bx (w2.alloc (.cells #[.int .i64 0, .string ⟨#[]⟩, .int .i64 0, .int .i64 0] 93)) w2.heap.size (.int .i64 0) (.string ⟨#[]⟩) (.int .i64 0) (.int .i64 0)) := Lib.hid ⟨by go_simp, by go_simp, by go_simp, by go_simp, by go_simp, by go_simp, by go_simp, by go_simp⟩
      clear hk2 hl
      simp only [tokW, SX.zeroT, errV]
      have c9 := HC2.out.cell 9
      have g9 := HC2.out.frozen 9
      obtain ⟨b0, b1, b2, b3, _, _, _, _⟩ := HA2.out
      go_wp2_with fail
      go_ret
      exact PartR.bad HR.out (HK2.out.setQ 9 _)
    · have HT := Lib.hid (take_ok P g c ts (i + 1) 0 4 w1 HQ1.out HE.out (by decide) hr)
      have HR : Hid (pageX ts a9 (fun v => #[a0, a1, a2, a3, a4, a5, a6, a7, a8, v]) i = .ok (#[a0, a1, a2, a3, a4, a5, a6, a7, a8, .string (PX.bs t.says)], j)) := Lib.hid (by rw [HR1.out, hr])
      clear hr HR1
      refine HT.out.mono ?_
      rintro e w2 ⟨rfl, hq2, hk2⟩
      have hl : Lay w2 (w2.alloc (.cells #[.int .i64 ((t).kind : Nat), .string ⟨(t).says.toArray⟩, .int .i64 (t).n, .int .i64 ((t).place : Nat)] 93)) := (Keep.refl _ w2).alloc _
      have HC2 := Lib.hid ((HC1.out.keep hk2 h1).keep hl (fun h => h))
      have HQ2 := Lib.hid (hq2.lay hl)
      have HK2 := Lib.hid ((HK1.out.trans (Keep.pq hk2)).trans (Lay.keep hl))
      have HA2 : Hid (Bx (w2.alloc (.cells #[.int .i64 ((t).kind : Nat), .string ⟨(t).says.toArray⟩, .int .i64 (t).n, .int .i64 ((t).place : Nat)] 93)) w2.heap.size (.int .i64 ((t).kind : Nat)) (.string ⟨(t).says.toArray⟩) (.int .i64 (t).n) (.int .i64 ((t).place : Nat))) := Lib.hid ⟨by go_simp, by go_simp, by go_simp, by go_simp, by go_simp, by go_simp, by go_simp, by go_simp⟩
      clear hk2 hl hq2
      simp only [tokW]
      have c9 := HC2.out.cell 9
      have g9 := HC2.out.frozen 9
      obtain ⟨b0, b1, b2, b3, _, _, _, _⟩ := HA2.out
      go_wp2_with fail
      go_ret
      exact PartR.good HR.out (HK2.out.setQ 9 _) (HQ2.out.setQ h1 h2 9 _) (HC2.out.set 9 _)
  · have hTf : isT (tk ts i) PX.wPage = false := by simpa using hT
    have HS : Hid (Calls Tryz.prog 88 #[.pointer (some ⟨P, 0, none⟩), .string ⟨#[112, 97, 103, 101]⟩] w fun r w' => r = .returned (.bool false) ∧ PQS P g c ts i 0 w' ∧ Keep (fun k => k = P) w w') := Lib.hid (skip_run P g c ts i 0 PX.wPage w h he false i hTf rfl)
    have HR : Hid (pageX ts a9 (fun v => #[a0, a1, a2, a3, a4, a5, a6, a7, a8, v]) i = .ok (#[a0, a1, a2, a3, a4, a5, a6, a7, a8, a9], i)) := Lib.hid (by unfold pageX; rw [if_neg hT])
    clear h he hQ hT hTf
    go_enter Tryz.func54, Tryz.ntmps54
    go_wp2_with fail
    refine HS.out.mono ?_
    rintro e w1 ⟨rfl, hq1, hk1⟩
    have HC1 := Lib.hid (HCB.out.keep hk1 h1)
    have HQ1 := Lib.hid hq1
    have HK1 := Lib.hid (Keep.pq (Q := Q) hk1)
    clear hq1 hk1
    go_wp2_with fail
    go_ret
    exact PartR.good HR.out HK1.out HQ1.out HC1.out

/-- The filter. -/
def findX (ts : List LX.Tok) (i : Nat) : PX.PR Ft := if isT (tk ts i) PX.wFind = true then PX.orF ts (PX.atom ts 8) (i + 1) else .ok (.mk 1 ⟨#[]⟩ ⟨#[]⟩ [], i)

def FindR (P g c : Nat) (ts : List LX.Tok) (Q : Nat) (a0 a1 a2 a7 a8 a9 : Value) (r : PX.PR Ft) (w : World) (e : Ending) (w' : World) : Prop :=
  Keep (PQ P Q) w w' ∧ match r with
    | .error p => e = .returned (errV p)
    | .ok (x, j) => e = .returned .nilIface ∧ PQS P g c ts j 0 w' ∧ ∃ kv, CB w' Q 28 #[a0, a1, a2, .int .i64 x.op, .string x.name, .string x.text, kv, a7, a8, a9] ∧ KsB (fun b => w.heap.size ≤ b) w' kv x

set_option maxHeartbeats 4000000 in
set_option maxRecDepth 100000 in
theorem find_own (P g c : Nat) (ts : List LX.Tok) (i Q : Nat) (a0 a1 a2 a7 a8 a9 : Value) (w : World) (h : PQS P g c ts i 0 w) (he : PX.Ended ts) (hfew : ts.length ≤ 1100) (hQ : CB w Q 28 #[a0, a1, a2, .int .i64 0, .string ⟨#[]⟩, .string ⟨#[]⟩, .slice none 0 0, a7, a8, a9]) (h1 : Q ≠ P) (h2 : Q ≠ g) :
    Calls Tryz.prog 51 #[.pointer (some ⟨P, 0, none⟩), .pointer (some ⟨Q, 0, none⟩)] w (FindR P g c ts Q a0 a1 a2 a7 a8 a9 (findX ts i) w) := by
  have hQl := hQ.lt
  have hPl := h.cb.lt
  have c3 := hQ.cell 3
  have g3 := hQ.frozen 3
  have HE := Lib.hid he
  have HFEW := Lib.hid hfew
  have HC0 := Lib.hid (hQ.set 3 (.int .i64 1))
  have HQ0 := Lib.hid (h.setQ h1 h2 3 (.int .i64 1))
  have HK0 := Lib.hid (Keep.setQ (P := P) (Q := Q) (Keep.refl _ w) 3 (.int .i64 1))
  have HZ0 : Hid (w.heap.size = (w.setCell ⟨Q, 3, none⟩ (.int .i64 1)).heap.size) := Lib.hid (by simp [World.setCell])
  clear h he hQ hfew
  by_cases hT : isT (tk ts i) PX.wFind = true
  · have HR1 : Hid (findX ts i = PX.orF ts (PX.atom ts 8) (i + 1)) := Lib.hid (by unfold findX; rw [if_pos hT])
    have HS : Hid (Calls Tryz.prog 88 #[.pointer (some ⟨P, 0, none⟩), .string ⟨#[102, 105, 110, 100]⟩] (w.setCell ⟨Q, 3, none⟩ (.int .i64 1)) fun r w' => r = .returned (.bool true) ∧ PQS P g c ts (i + 1) 0 w' ∧ Keep (fun k => k = P) (w.setCell ⟨Q, 3, none⟩ (.int .i64 1)) w') := Lib.hid (skip_run P g c ts i 0 PX.wFind _ HQ0.out HE.out true (i + 1) hT rfl)
    clear hT
    go_enter Tryz.func51, Tryz.ntmps51
    go_wp2_with fail
    refine HS.out.mono ?_
    rintro e w1 ⟨rfl, hq1, hk1⟩
    have HC1 := Lib.hid (HC0.out.keep hk1 h1)
    have HQ1 := Lib.hid hq1
    have HK1 := Lib.hid (HK0.out.trans (Keep.pq hk1))
    have HZ1 : Hid (w.heap.size ≤ w1.heap.size) := Lib.hid (by rw [HZ0.out]; exact hk1.size)
    clear hq1 hk1 c3 g3
    go_wp2_with fail
    refine (por_any P g c ts HE.out HFEW.out (i + 1) w1 HQ1.out).mono ?_
    rintro e w2 ⟨hk2, ho2⟩
    have HC2 := Lib.hid (HC1.out.keep hk2 h1)
    have HK2 := Lib.hid (HK1.out.trans (Keep.pq hk2))
    have HZ2 := Lib.hid (Nat.le_trans HZ1.out hk2.size)
    clear hk2
    revert ho2
    rcases hr : PX.orF ts (PX.atom ts 8) (i + 1) with p | ⟨x, j⟩
    · have HR : Hid (findX ts i = .error p) := Lib.hid (HR1.out.trans hr)
      clear hr
      rintro ⟨rfl, _, _⟩
      have hl : Lay w2 (w2.alloc (.cells #[.int .i64 0, .string ⟨#[]⟩, .string ⟨#[]⟩, .slice none 0 0] 26)) := (Keep.refl _ w2).alloc _
      have HC3 := Lib.hid (HC2.out.keep hl (fun h => h))
      have HK3 := Lib.hid (HK2.out.trans (Lay.keep hl))
      have HA3 : Hid (Bx (w2.alloc (.cells #[.int .i64 0, .string ⟨#[]⟩, .string ⟨#[]⟩, .slice none 0 0] 26)) w2.heap.size (.int .i64 0) (.string ⟨#[]⟩) (.string ⟨#[]⟩) (.slice none 0 0)) := Lib.hid ⟨by go_simp, by go_simp, by go_simp, by go_simp, by go_simp, by go_simp, by go_simp, by go_simp⟩
      clear hl
      simp only [zeroF, errV]
      have c3 := HC3.out.cell 3
      have c4 := HC3.out.cell 4
      have c5 := HC3.out.cell 5
      have c6 := HC3.out.cell 6
      have g3 := HC3.out.frozen 3
      have g4 := HC3.out.frozen 4
      have g5 := HC3.out.frozen 5
      have g6 := HC3.out.frozen 6
      obtain ⟨b0, b1, b2, b3, _, _, _, _⟩ := HA3.out
      go_wp2_with fail
      go_ret
      unfold FindR
      rw [HR.out]
      exact ⟨(((HK3.out.setQ 3 _).setQ 4 _).setQ 5 _).setQ 6 _, rfl⟩
    · have HR : Hid (findX ts i = .ok (x, j)) := Lib.hid (HR1.out.trans hr)
      clear hr
      rintro ⟨kv, rfl, hkb, hq2⟩
      obtain ⟨ak, ck, rfl⟩ := hkb.shape
      have hl : Lay w2 (w2.alloc (.cells #[.int .i64 x.op, .string x.name, .string x.text, .slice ak x.kids.length ck] 26)) := (Keep.refl _ w2).alloc _
      have HC3 := Lib.hid (HC2.out.keep hl (fun h => h))
      have HQ3 := Lib.hid (hq2.lay hl)
      have HK3 := Lib.hid (HK2.out.trans (Lay.keep hl))
      have HA3 : Hid (Bx (w2.alloc (.cells #[.int .i64 x.op, .string x.name, .string x.text, .slice ak x.kids.length ck] 26)) w2.heap.size (.int .i64 x.op) (.string x.name) (.string x.text) (.slice ak x.kids.length ck)) := Lib.hid ⟨by go_simp, by go_simp, by go_simp, by go_simp, by go_simp, by go_simp, by go_simp, by go_simp⟩
      have HB3 := Lib.hid (KsB.mono (G' := fun b => w.heap.size ≤ b) (fun b _ hb => Nat.le_trans HZ1.out hb) _ _ (KsB.keep hl.size (fun b _ hlt => hl.block hlt) _ _ hkb))
      clear hl hq2 hkb
      simp only [Ft.val]
      have c3 := HC3.out.cell 3
      have c4 := HC3.out.cell 4
      have c5 := HC3.out.cell 5
      have c6 := HC3.out.cell 6
      have g3 := HC3.out.frozen 3
      have g4 := HC3.out.frozen 4
      have g5 := HC3.out.frozen 5
      have g6 := HC3.out.frozen 6
      obtain ⟨b0, b1, b2, b3, _, _, _, _⟩ := HA3.out
      go_wp2_with fail
      go_ret
      unfold FindR
      rw [HR.out]
      refine ⟨(((HK3.out.setQ 3 _).setQ 4 _).setQ 5 _).setQ 6 _, rfl, (((HQ3.out.setQ h1 h2 3 _).setQ h1 h2 4 _).setQ h1 h2 5 _).setQ h1 h2 6 _, .slice ak x.kids.length ck, (((HC3.out.set 3 _).set 4 _).set 5 _).set 6 _, ?_⟩
      refine KsB.keep (Nat.le_of_eq (by simp [World.setCell])) (fun b hb _ => ?_) _ _ HB3.out
      have hb' : b ≠ Q := by have : w.heap.size ≤ b := hb; omega
      exact (((Below.heap_setCell _ ⟨Q, 6, none⟩ _ b hb').trans (Below.heap_setCell _ ⟨Q, 5, none⟩ _ b hb')).trans (Below.heap_setCell _ ⟨Q, 4, none⟩ _ b hb')).trans (Below.heap_setCell _ ⟨Q, 3, none⟩ _ b hb')
  · have hTf : isT (tk ts i) PX.wFind = false := by simpa using hT
    have HR : Hid (findX ts i = .ok (.mk 1 ⟨#[]⟩ ⟨#[]⟩ [], i)) := Lib.hid (by unfold findX; rw [if_neg hT])
    have HS : Hid (Calls Tryz.prog 88 #[.pointer (some ⟨P, 0, none⟩), .string ⟨#[102, 105, 110, 100]⟩] (w.setCell ⟨Q, 3, none⟩ (.int .i64 1)) fun r w' => r = .returned (.bool false) ∧ PQS P g c ts i 0 w' ∧ Keep (fun k => k = P) (w.setCell ⟨Q, 3, none⟩ (.int .i64 1)) w') := Lib.hid (skip_run P g c ts i 0 PX.wFind _ HQ0.out HE.out false i hTf rfl)
    clear hT hTf
    go_enter Tryz.func51, Tryz.ntmps51
    go_wp2_with fail
    refine HS.out.mono ?_
    rintro e w1 ⟨rfl, hq1, hk1⟩
    have HC1 := Lib.hid (HC0.out.keep hk1 h1)
    have HQ1 := Lib.hid hq1
    have HK1 := Lib.hid (HK0.out.trans (Keep.pq hk1))
    clear hq1 hk1 c3 g3
    go_wp2_with fail
    go_ret
    unfold FindR
    rw [HR.out]
    exact ⟨HK1.out, rfl, HQ1.out, .slice none 0 0, HC1.out, leafKs _ _ _ _ _⟩

set_option maxHeartbeats 4000000 in
set_option maxRecDepth 100000 in
/-- The last token is read. -/
theorem next_last (P g c : Nat) (ts : List LX.Tok) (i deep : Nat) (w : World) (h : PQS P g c ts i deep w) (hi : i + 1 = ts.length) :
    Calls Tryz.prog 86 #[.pointer (some ⟨P, 0, none⟩)] w fun r w' => r = .returned (tokW (tk ts i)) ∧ Keep (fun k => k = P) w w' := by
  obtain ⟨o, n, m, ho, hn, hm, h0n, hnm, hgl, hPl, hPg, hcb, t0, t1, t2, t3⟩ := h.open
  have x0 : w.cell? ⟨P, 0, none⟩ = some (.slice (some ⟨g, o, none⟩) n m) := hcb.cell 0
  have f0 := hcb.frozen 0
  have hn1 : n = 1 := by omega
  subst hn1
  clear hcb ho hn hm hi h
  by_cases hm1 : m = 1
  · subst hm1
    go_enter Tryz.func86, Tryz.ntmps86
    go_wp2_with fail
    refine bodyPost_ret (v := tokW (tk ts i)) (by simp [results, Tryz.results86, go_sem, tokW]) rfl ⟨rfl, ?_⟩
    exact (((Keep.refl (fun k => k = P) w).setCell (p := ⟨P, 0, none⟩) (.inr rfl) _).alloc _).alloc _
  · go_enter Tryz.func86, Tryz.ntmps86
    go_wp2_with fail
    refine bodyPost_ret (v := tokW (tk ts i)) (by simp [results, Tryz.results86, go_sem, tokW]) rfl ⟨rfl, ?_⟩
    exact (((Keep.refl (fun k => k = P) w).setCell (p := ⟨P, 0, none⟩) (.inr rfl) _).alloc _).alloc _

theorem next_own (P g c : Nat) (ts : List LX.Tok) (i deep : Nat) (w : World) (h : PQS P g c ts i deep w) :
    Calls Tryz.prog 86 #[.pointer (some ⟨P, 0, none⟩)] w fun r w' => r = .returned (tokW (tk ts i)) ∧ Keep (fun k => k = P) w w' := by
  by_cases hi : i + 1 < ts.length
  · exact (next_run P g c ts i deep w h hi).mono fun e w' ⟨a, b, d⟩ => ⟨a, d⟩
  · exact next_last P g c ts i deep w h (by have := h.lt; omega)

set_option maxHeartbeats 4000000 in
set_option maxRecDepth 100000 in
theorem take_end (P g c : Nat) (ts : List LX.Tok) (i deep : Nat) (w : World) (h : PQS P g c ts i deep w) :
    Calls Tryz.prog 91 #[.pointer (some ⟨P, 0, none⟩), .int .i64 0] w fun e w' => e = .returned (if (tk ts i).kind = 0 then .tuple #[tokW (tk ts i), .nilIface] else .tuple #[tokW SX.zeroT, errV (5, (tk ts i).place)]) ∧ Keep (fun k => k = P) w w' := by
  obtain ⟨W, hW⟩ : ∃ W, W = newT w := ⟨_, rfl⟩
  have hlw := newT_lay w
  have hbx := newT_bx w
  have hsz := newT_size w
  rw [← hW] at hlw hbx hsz
  have HW := Lib.hid (show w.alloc (.cells #[.int .i64 0, .string ⟨#[]⟩, .int .i64 0, .int .i64 0] 93) = W from hW.symm)
  clear hW
  have hPl := h.cb.lt
  have hgl := h.gl
  have HQ := Lib.hid (h.lay hlw)
  have HLW := Lib.hid hlw
  have HBX := Lib.hid hbx
  have HSZ := Lib.hid hsz
  obtain ⟨o, n, m, ho, hn, hm, h0n, hnm, _, _, hPg, hcb, t0, t1, t2, t3⟩ := h.open
  have x0 : w.cell? ⟨P, 0, none⟩ = some (.slice (some ⟨g, o, none⟩) n m) := hcb.cell 0
  clear hcb ho hn hm
  clear hlw hbx h hsz
  by_cases hT : (tk ts i).kind = 0
  · have hb : (((tk ts i).kind : Int) != 0) = false := by simp [hT]
    have HT := Lib.hid hT
    clear hT
    go_enter Tryz.func91, Tryz.ntmps91
    go_wp2_with fail
    rw [HW.out]
    refine (next_own P g c ts i deep W HQ.out).mono ?_
    rintro e w2 ⟨rfl, hk2⟩
    have HX2 := Lib.hid (HBX.out.carry (hk2.block _ (by rw [HSZ.out]; omega) (by omega)))
    have HK2 := Lib.hid ((Lay.keep HLW.out).trans hk2)
    clear hk2 t0 t1 t2 t3 x0 hb
    unfold tokW
    obtain ⟨c0, c1, c2, c3, g0, g1, g2, g3⟩ := HX2.out
    go_wp2_with fail
    have hq := HX2.out.all (.int .i64 0) (.string ⟨(tk ts i).says.toArray⟩) (.int .i64 (tk ts i).n) (.int .i64 ((tk ts i).place : Nat))
    unfold Go.Proofs.YtmodiemmcdocdaaGreatDoor.stored at hq
    obtain ⟨q0, q1, q2, q3, _, _, _, _⟩ := hq
    refine bodyPost_ret (v := .tuple #[.agg #[.int .i64 0, .string ⟨(tk ts i).says.toArray⟩, .int .i64 (tk ts i).n, .int .i64 ((tk ts i).place : Nat)], .nilIface]) (by simp [results, Tryz.results91, go_sem, q0, q1, q2, q3]) rfl ⟨?_, keep_stored HK2.out (Nat.le_refl _) _ _ _ _⟩
    simp [tokW, HT.out]
  · have hb : (((tk ts i).kind : Int) != 0) = true := by simp; omega
    have HT := Lib.hid hT
    clear hT
    go_enter Tryz.func91, Tryz.ntmps91
    go_wp2_with fail
    rw [HW.out]
    refine (at_run (tk ts i) 5 W).mono ?_
    rintro e w2 ⟨rfl, hl2⟩
    have HX2 := Lib.hid (HBX.out.carry (hl2.block (by rw [HSZ.out]; omega)))
    have HK2 := Lib.hid (Lay.keep (G := fun k => k = P) (Keep.trans HLW.out hl2))
    clear hl2 t0 t1 t2 t3 x0 hb
    unfold errV
    obtain ⟨c0, c1, c2, c3, g0, g1, g2, g3⟩ := HX2.out
    go_wp2_with fail
    have hq := HX2.out.all (.int .i64 0) (.string ⟨#[]⟩) (.int .i64 0) (.int .i64 0)
    unfold Go.Proofs.YtmodiemmcdocdaaGreatDoor.stored at hq
    obtain ⟨q0, q1, q2, q3, _, _, _, _⟩ := hq
    refine bodyPost_ret (v := .tuple #[tokW SX.zeroT, errV (5, (tk ts i).place)]) (by simp [results, Tryz.results91, go_sem, tokW, errV, SX.zeroT, q0, q1, q2, q3]) rfl ⟨?_, keep_stored HK2.out (Nat.le_refl _) _ _ _ _⟩
    first | rfl | (rw [if_neg HT.out])

set_option maxHeartbeats 4000000 in
set_option maxRecDepth 100000 in
theorem end_own (P g c : Nat) (ts : List LX.Tok) (i : Nat) (v : Value) (w : World) (h : PQS P g c ts i 0 w) :
    Calls Tryz.prog 55 #[.pointer (some ⟨P, 0, none⟩), v] w fun e w' => e = .returned (if (tk ts i).kind = 0 then .nilIface else errV (5, (tk ts i).place)) ∧ Keep (fun k => k = P) w w' := by
  have HT := Lib.hid (take_end P g c ts i 0 w h)
  clear h
  by_cases hk : (tk ts i).kind = 0
  · simp only [if_pos hk] at HT ⊢
    clear hk
    go_enter Tryz.func55, Tryz.ntmps55
    go_wp2_with fail
    refine HT.out.mono ?_
    rintro e w1 ⟨rfl, hk1⟩
    have HK := Lib.hid (hk1.alloc (.cells #[.int .i64 ((tk ts i).kind : Nat), .string ⟨(tk ts i).says.toArray⟩, .int .i64 (tk ts i).n, .int .i64 ((tk ts i).place : Nat)] 93))
    clear hk1
    simp only [tokW]
    go_wp2_with fail
    go_ret
    exact ⟨rfl, HK.out⟩
  · simp only [if_neg hk] at HT ⊢
    clear hk
    go_enter Tryz.func55, Tryz.ntmps55
    go_wp2_with fail
    refine HT.out.mono ?_
    rintro e w1 ⟨rfl, hk1⟩
    have HK := Lib.hid (hk1.alloc (.cells #[.int .i64 0, .string ⟨#[]⟩, .int .i64 0, .int .i64 0] 93))
    clear hk1
    simp only [tokW, SX.zeroT, errV]
    go_wp2_with fail
    go_ret
    exact ⟨rfl, HK.out⟩

end Go.Proofs.YtmodiemmcdocdaaGreatDoor

namespace Go.Proofs.YtmodiemmcdocdaaGreatDoor
open Go.RowKit Go
open PX (tk isT)

/-- A matcher that was stored there. -/
def stored3 (W : World) (k : Nat) (u0 u1 u2 : Value) : World := ((W.setCell ⟨k, 0, none⟩ u0).setCell ⟨k, 1, none⟩ u1).setCell ⟨k, 2, none⟩ u2
theorem keep_stored3 {G : Nat → Prop} {a W : World} (h : Keep G a W) {k : Nat} (hk : a.heap.size ≤ k) (u0 u1 u2 : Value) : Keep G a (stored3 W k u0 u1 u2) :=
  ((h.setCell (p := ⟨k, 0, none⟩) (.inl hk) u0).setCell (p := ⟨k, 1, none⟩) (.inl hk) u1).setCell (p := ⟨k, 2, none⟩) (.inl hk) u2
theorem PQS.stored3 {P g c : Nat} {ts : List LX.Tok} {i deep : Nat} {W : World} (h : PQS P g c ts i deep W) {k : Nat} (h1 : P ≠ k) (h2 : g ≠ k) (u0 u1 u2 : Value) : PQS P g c ts i deep (stored3 W k u0 u1 u2) :=
  ((h.setCell h1 h2 0 u0).setCell h1 h2 1 u1).setCell h1 h2 2 u2
theorem CB.all3 {W : World} {B : Nat} {t : TypeId} {u0 u1 u2 : Value} (h : CB W B t #[u0, u1, u2]) (v0 v1 v2 : Value) : CB (stored3 W B v0 v1 v2) B t #[v0, v1, v2] := ((h.set 0 v0).set 1 v1).set 2 v2

/-- What matcher answers. -/
def MatR (P g c : Nat) (ts : List LX.Tok) (deep : Nat) (r : PX.PR Mt) (w : World) (e : Ending) (w' : World) : Prop :=
  Keep (fun k => k = P) w w' ∧ match r with
    | .error p => e = .returned (.tuple #[.agg #[.string ⟨#[]⟩, .bool false, .string ⟨#[]⟩], errV p]) ∧ ∃ i', PQS P g c ts i' deep w'
    | .ok (m, j) => e = .returned (.tuple #[.agg #[.string m.name, .bool m.not, .string m.value], .nilIface]) ∧ PQS P g c ts j deep w'

theorem MatR.bad {P g c : Nat} {ts : List LX.Tok} {i deep : Nat} {r : PX.PR Mt} {w W : World} {p : Nat × Nat} (hr : r = .error p) (hPl : P < w.heap.size) (hgl : g < w.heap.size) (hq : PQS P g c ts i deep W) (hk : Keep (fun k => k = P) w W) :
    MatR P g c ts deep r w (.returned (.tuple #[.agg #[.string ⟨#[]⟩, .bool false, .string ⟨#[]⟩], errV p])) (stored3 W w.heap.size (.string ⟨#[]⟩) (.bool false) (.string ⟨#[]⟩)) := by
  subst hr
  exact ⟨keep_stored3 hk (Nat.le_refl _) _ _ _, rfl, i, PQS.stored3 hq (by omega) (by omega) _ _ _⟩
theorem MatR.good {P g c : Nat} {ts : List LX.Tok} {deep : Nat} {r : PX.PR Mt} {w W : World} {m : Mt} {j : Nat} (hr : r = .ok (m, j)) (hPl : P < w.heap.size) (hgl : g < w.heap.size) (hq : PQS P g c ts j deep W) (hk : Keep (fun k => k = P) w W) :
    MatR P g c ts deep r w (.returned (.tuple #[.agg #[.string m.name, .bool m.not, .string m.value], .nilIface])) (stored3 W w.heap.size (.string m.name) (.bool m.not) (.string m.value)) := by
  subst hr
  exact ⟨keep_stored3 hk (Nat.le_refl _) _ _ _, rfl, PQS.stored3 hq (by omega) (by omega) _ _ _⟩

set_option maxHeartbeats 4000000 in
set_option maxRecDepth 100000 in
theorem matcher_own (P g c : Nat) (ts : List LX.Tok) (i deep : Nat) (w : World) (h : PQS P g c ts i deep w) (he : PX.Ended ts) :
    Calls Tryz.prog 87 #[.pointer (some ⟨P, 0, none⟩)] w (MatR P g c ts deep (SX.wh ts i) w) := by
  obtain ⟨w0, hW⟩ : ∃ w0, w0 = w.alloc (.cells #[.string ⟨#[]⟩, .bool false, .string ⟨#[]⟩] 74) := ⟨_, rfl⟩
  have hlw : Lay w w0 := by rw [hW]; exact (Keep.refl _ w).alloc _
  have hbx : CB w0 w.heap.size 74 #[.string ⟨#[]⟩, .bool false, .string ⟨#[]⟩] := by rw [hW]; exact CB.new w 74 _
  have hsz : w0.heap.size = w.heap.size + 1 := by rw [hW]; simp
  have HW := Lib.hid hW.symm
  clear hW
  have hPl := h.cb.lt
  have hgl := h.gl
  have HQ0 := Lib.hid (h.lay hlw)
  have HE := Lib.hid he
  have HK0 := Lib.hid (Lay.keep (G := fun k => k = P) hlw)
  have HX0 := Lib.hid hbx
  have HSZ := Lib.hid hsz
  clear he hlw hbx h hsz
  rcases hr : PX.token ts 1 i with p | ⟨t, j⟩
  · have HT := Lib.hid (take_no P g c ts i deep 1 w0 HQ0.out HE.out (by decide) hr)
    have HRR : Hid (SX.wh ts i = .error p) := Lib.hid (by unfold SX.wh; rw [hr])
    clear hr
    go_enter Tryz.func87, Tryz.ntmps87
    go_wp2_with fail
    rw [HW.out]
    refine HT.out.mono ?_
    rintro e w1 ⟨rfl, ⟨i', hq⟩, hk⟩
    have hz := hk.size
    have hl : Lay w1 (w1.alloc (.cells #[.int .i64 0, .string ⟨#[]⟩, .int .i64 0, .int .i64 0] 93)) := (Keep.refl _ w1).alloc _
    have HX1 := Lib.hid ((HX0.out.keep hk (by omega)).keep hl (fun h => h))
    have HQ1 := Lib.hid (hq.lay hl)
    have HK1 := Lib.hid ((HK0.out.trans hk).trans (Lay.keep hl))
    clear hq hk hl hz
    simp only [tokW, SX.zeroT, errV]
    have c0 := HX1.out.cell 0
    have c1 := HX1.out.cell 1
    have c2 := HX1.out.cell 2
    have g0 := HX1.out.frozen 0
    have g1 := HX1.out.frozen 1
    have g2 := HX1.out.frozen 2
    go_wp2_with fail
    have hq := HX1.out.all3 (.string ⟨#[]⟩) (.bool false) (.string ⟨#[]⟩)
    have q0 := hq.cell 0
    have q1 := hq.cell 1
    have q2 := hq.cell 2
    unfold Go.Proofs.YtmodiemmcdocdaaGreatDoor.stored3 at q0 q1 q2
    refine bodyPost_ret (v := .tuple #[.agg #[.string ⟨#[]⟩, .bool false, .string ⟨#[]⟩], errV p]) (by simp [results, Tryz.results87, go_sem, errV, q0, q1, q2]) rfl ?_
    exact MatR.bad HRR.out hPl hgl HQ1.out HK1.out
  · have HT := Lib.hid (take_ok P g c ts i deep 1 w0 HQ0.out HE.out (by decide) hr)
    obtain ⟨nm, hn⟩ : ∃ n : ByteArray, n = PX.bs t.says := ⟨_, rfl⟩
    have HN : Hid (nm = ⟨t.says.toArray⟩) := Lib.hid hn
    have HR1 : Hid (SX.wh ts i = match (if isT (tk ts j) PX.wNe = true then (.ok (true, j + 1) : PX.PR Bool) else match PX.want ts PX.wEq j with
      | .error e => .error e
      | .ok (_, k) => .ok (false, k)) with
      | .error e => .error e
      | .ok (b, k) => match PX.token ts 4 k with
        | .error e => .error e
        | .ok (t, q) => .ok (⟨nm, b, PX.bs t.says⟩, q)) := Lib.hid (by unfold SX.wh; rw [hr, hn]; rfl)
    clear hr hn
    go_enter Tryz.func87, Tryz.ntmps87
    go_wp2_with fail
    rw [HW.out]
    refine HT.out.mono ?_
    rintro e w1 ⟨rfl, hq1, hk1⟩
    have hz1 := hk1.size
    rw [HSZ.out] at hz1
    simp only [tokW]
    rw [← HN.out]
    have hl2 : Lay w1 (w1.alloc (.cells #[.int .i64 (t.kind : Nat), .string nm, .int .i64 t.n, .int .i64 (t.place : Nat)] 93)) := (Keep.refl _ w1).alloc _
    have HX2 := Lib.hid ((HX0.out.keep hk1 (by omega)).keep hl2 (fun h => h))
    have HQ2 := Lib.hid (hq1.lay hl2)
    have HK2 := Lib.hid ((HK0.out.trans hk1).trans (Lay.keep hl2))
    have HA2 : Hid (Bx (w1.alloc (.cells #[.int .i64 (t.kind : Nat), .string nm, .int .i64 t.n, .int .i64 (t.place : Nat)] 93)) w1.heap.size (.int .i64 (t.kind : Nat)) (.string nm) (.int .i64 t.n) (.int .i64 (t.place : Nat))) := Lib.hid ⟨by go_simp, by go_simp, by go_simp, by go_simp, by go_simp, by go_simp, by go_simp, by go_simp⟩
    have HAL2 : Hid (w1.heap.size < (w1.alloc (.cells #[.int .i64 (t.kind : Nat), .string nm, .int .i64 t.n, .int .i64 (t.place : Nat)] 93)).heap.size) := Lib.hid (by simp)
    have HZ1 := Lib.hid hz1
    clear hq1 hk1 hl2 hz1 HT
    go_wp2_with fail
    revert HX2 HQ2 HK2 HA2 HAL2
    generalize w1.alloc (.cells #[.int .i64 (t.kind : Nat), .string nm, .int .i64 t.n, .int .i64 (t.place : Nat)] 93) = w2
    intro HX2 HQ2 HK2 HA2 HAL2
    by_cases hT : isT (tk ts j) PX.wNe = true
    · have HS : Hid (Calls Tryz.prog 88 #[.pointer (some ⟨P, 0, none⟩), .string ⟨#[33, 61]⟩] w2 fun r w' => r = .returned (.bool true) ∧ PQS P g c ts (j + 1) deep w' ∧ Keep (fun k => k = P) w2 w') := Lib.hid (skip_run P g c ts j deep PX.wNe w2 HQ2.out HE.out true (j + 1) hT rfl)
      have HR2 : Hid (SX.wh ts i = match PX.token ts 4 (j + 1) with
        | .error e => .error e
        | .ok (t, q) => .ok (⟨nm, true, PX.bs t.says⟩, q)) := Lib.hid (by rw [HR1.out, if_pos hT])
      clear hT HR1
      refine HS.out.mono ?_
      rintro e w3 ⟨rfl, hq, hk⟩
      have HX3 := Lib.hid (HX2.out.keep hk (by omega))
      have HA3 := Lib.hid (HA2.out.carry (hk.block _ HAL2.out (by have := HZ1.out; omega)))
      have HAL3 := Lib.hid (Nat.lt_of_lt_of_le HAL2.out hk.size)
      have HQ3 := Lib.hid hq
      have HK3 := Lib.hid (HK2.out.trans hk)
      clear hq hk HS
      obtain ⟨a0, a1, a2, a3, _, _, _, _⟩ := HA3.out
      go_wp2_with fail
      rcases hr : PX.token ts 4 (j + 1) with p | ⟨u, q⟩
      · have HT := Lib.hid (take_no P g c ts (j + 1) deep 4 w3 HQ3.out HE.out (by decide) hr)
        have HRR : Hid (SX.wh ts i = .error p) := Lib.hid (by rw [HR2.out, hr])
        clear hr HR2
        clear a0 a1 a2 a3
        refine HT.out.mono ?_
        rintro e w4 ⟨rfl, ⟨i', hq⟩, hk⟩
        have hz := hk.size
        have hl : Lay w4 (w4.alloc (.cells #[.int .i64 0, .string ⟨#[]⟩, .int .i64 0, .int .i64 0] 93)) := (Keep.refl _ w4).alloc _
        have HX4 := Lib.hid ((HX3.out.keep hk (by omega)).keep hl (fun h => h))
        have HQ4 := Lib.hid (hq.lay hl)
        have HK4 := Lib.hid ((HK3.out.trans hk).trans (Lay.keep hl))
        clear hq hk hl hz
        simp only [tokW, SX.zeroT, errV]
        have c0 := HX4.out.cell 0
        have c1 := HX4.out.cell 1
        have c2 := HX4.out.cell 2
        have g0 := HX4.out.frozen 0
        have g1 := HX4.out.frozen 1
        have g2 := HX4.out.frozen 2
        go_wp2_with fail
        have hq := HX4.out.all3 (.string ⟨#[]⟩) (.bool false) (.string ⟨#[]⟩)
        have q0 := hq.cell 0
        have q1 := hq.cell 1
        have q2 := hq.cell 2
        unfold Go.Proofs.YtmodiemmcdocdaaGreatDoor.stored3 at q0 q1 q2
        refine bodyPost_ret (v := .tuple #[.agg #[.string ⟨#[]⟩, .bool false, .string ⟨#[]⟩], errV p]) (by simp [results, Tryz.results87, go_sem, errV, q0, q1, q2]) rfl ?_
        exact MatR.bad HRR.out hPl hgl HQ4.out HK4.out
      · have HT := Lib.hid (take_ok P g c ts (j + 1) deep 4 w3 HQ3.out HE.out (by decide) hr)
        have HRR : Hid (SX.wh ts i = .ok (⟨nm, true, PX.bs u.says⟩, q)) := Lib.hid (by rw [HR2.out, hr])
        clear hr HR2
        clear a0 a1 a2 a3
        refine HT.out.mono ?_
        rintro e w4 ⟨rfl, hq, hk⟩
        have hz := hk.size
        have hl : Lay w4 (w4.alloc (.cells #[.int .i64 ((u).kind : Nat), .string ⟨(u).says.toArray⟩, .int .i64 (u).n, .int .i64 ((u).place : Nat)] 93)) := (Keep.refl _ w4).alloc _
        have HX4 := Lib.hid ((HX3.out.keep hk (by omega)).keep hl (fun h => h))
        have HA4 := Lib.hid ((HA3.out.carry (hk.block _ HAL3.out (by have := HZ1.out; omega))).carry (hl.block (Nat.lt_of_lt_of_le HAL3.out hz)))
        have HQ4 := Lib.hid (hq.lay hl)
        have HK4 := Lib.hid ((HK3.out.trans hk).trans (Lay.keep hl))
        clear hq hk hl hz
        simp only [tokW]
        obtain ⟨a0, a1, a2, a3, _, _, _, _⟩ := HA4.out
        have c0 := HX4.out.cell 0
        have c1 := HX4.out.cell 1
        have c2 := HX4.out.cell 2
        have g0 := HX4.out.frozen 0
        have g1 := HX4.out.frozen 1
        have g2 := HX4.out.frozen 2
        go_wp2_with fail
        have hq := HX4.out.all3 (.string nm) (.bool true) (.string ⟨u.says.toArray⟩)
        have q0 := hq.cell 0
        have q1 := hq.cell 1
        have q2 := hq.cell 2
        unfold Go.Proofs.YtmodiemmcdocdaaGreatDoor.stored3 at q0 q1 q2
        refine bodyPost_ret (v := .tuple #[.agg #[.string nm, .bool true, .string ⟨u.says.toArray⟩], .nilIface]) (by simp [results, Tryz.results87, go_sem, q0, q1, q2]) rfl ?_
        exact MatR.good (m := ⟨nm, true, PX.bs u.says⟩) HRR.out hPl hgl HQ4.out HK4.out
    · have hTf : isT (tk ts j) PX.wNe = false := by simpa using hT
      have HS : Hid (Calls Tryz.prog 88 #[.pointer (some ⟨P, 0, none⟩), .string ⟨#[33, 61]⟩] w2 fun r w' => r = .returned (.bool false) ∧ PQS P g c ts j deep w' ∧ Keep (fun k => k = P) w2 w') := Lib.hid (skip_run P g c ts j deep PX.wNe w2 HQ2.out HE.out false j hTf rfl)
      have HR2' : Hid (SX.wh ts i = match PX.want ts PX.wEq j with
        | .error e => .error e
        | .ok (_, k) => match PX.token ts 4 k with
          | .error e => .error e
          | .ok (t, q) => .ok (⟨nm, false, PX.bs t.says⟩, q)) := Lib.hid (by rw [HR1.out, if_neg hT]; cases PX.want ts PX.wEq j <;> rfl)
      clear hT hTf HR1
      refine HS.out.mono ?_
      rintro e w3 ⟨rfl, hq, hk⟩
      have HX3 := Lib.hid (HX2.out.keep hk (by omega))
      have HA3 := Lib.hid (HA2.out.carry (hk.block _ HAL2.out (by have := HZ1.out; omega)))
      have HAL3 := Lib.hid (Nat.lt_of_lt_of_le HAL2.out hk.size)
      have HQ3 := Lib.hid hq
      have HK3 := Lib.hid (HK2.out.trans hk)
      clear hq hk HS
      go_wp2_with fail
      by_cases hE : isT (tk ts j) PX.wEq = true
      · have HM : Hid (Calls Tryz.prog 116 #[.pointer (some ⟨P, 0, none⟩), .string ⟨#[61]⟩] w3 fun e w' => e = .returned (.tuple #[tokW (tk ts j), .nilIface]) ∧ PQS P g c ts (j + 1) deep w' ∧ Keep (fun k => k = P) w3 w') := Lib.hid (must_ok P g c ts j deep PX.wEq w3 HQ3.out HE.out hE)
        have HR2 : Hid (SX.wh ts i = match PX.token ts 4 (j + 1) with
          | .error e => .error e
          | .ok (t, q) => .ok (⟨nm, false, PX.bs t.says⟩, q)) := Lib.hid (by rw [HR2'.out]; unfold PX.want; rw [if_pos hE])
        clear hE HR2'
        refine HM.out.mono ?_
        rintro e w4 ⟨rfl, hq, hk⟩
        have hz := hk.size
        have hl : Lay w4 (w4.alloc (.cells #[.int .i64 ((tk ts j).kind : Nat), .string ⟨(tk ts j).says.toArray⟩, .int .i64 (tk ts j).n, .int .i64 ((tk ts j).place : Nat)] 93)) := (Keep.refl _ w4).alloc _
        have HX5 := Lib.hid ((HX3.out.keep hk (by omega)).keep hl (fun h => h))
        have HA5 := Lib.hid ((HA3.out.carry (hk.block _ HAL3.out (by have := HZ1.out; omega))).carry (hl.block (Nat.lt_of_lt_of_le HAL3.out hz)))
        have HAL5 := Lib.hid (Nat.lt_of_lt_of_le HAL3.out (Nat.le_trans hz hl.size))
        have HQ5 := Lib.hid (hq.lay hl)
        have HK5 := Lib.hid ((HK3.out.trans hk).trans (Lay.keep hl))
        clear hq hk hl hz HM
        simp only [tokW]
        obtain ⟨a0, a1, a2, a3, _, _, _, _⟩ := HA5.out
        go_wp2_with fail
        revert HX5 HA5 HAL5 HQ5 HK5 a0 a1 a2 a3
        generalize w4.alloc (.cells #[.int .i64 ((tk ts j).kind : Nat), .string ⟨(tk ts j).says.toArray⟩, .int .i64 (tk ts j).n, .int .i64 ((tk ts j).place : Nat)] 93) = w5
        intro HX5 HA5 HAL5 HQ5 HK5 a0 a1 a2 a3
        rcases hr : PX.token ts 4 (j + 1) with p | ⟨u, q⟩
        · have HT := Lib.hid (take_no P g c ts (j + 1) deep 4 w5 HQ5.out HE.out (by decide) hr)
          have HRR : Hid (SX.wh ts i = .error p) := Lib.hid (by rw [HR2.out, hr])
          clear hr HR2
          clear a0 a1 a2 a3
          refine HT.out.mono ?_
          rintro e w6 ⟨rfl, ⟨i', hq⟩, hk⟩
          have hz := hk.size
          have hl : Lay w6 (w6.alloc (.cells #[.int .i64 0, .string ⟨#[]⟩, .int .i64 0, .int .i64 0] 93)) := (Keep.refl _ w6).alloc _
          have HX6 := Lib.hid ((HX5.out.keep hk (by omega)).keep hl (fun h => h))
          have HQ6 := Lib.hid (hq.lay hl)
          have HK6 := Lib.hid ((HK5.out.trans hk).trans (Lay.keep hl))
          clear hq hk hl hz
          simp only [tokW, SX.zeroT, errV]
          have c0 := HX6.out.cell 0
          have c1 := HX6.out.cell 1
          have c2 := HX6.out.cell 2
          have g0 := HX6.out.frozen 0
          have g1 := HX6.out.frozen 1
          have g2 := HX6.out.frozen 2
          go_wp2_with fail
          have hq := HX6.out.all3 (.string ⟨#[]⟩) (.bool false) (.string ⟨#[]⟩)
          have q0 := hq.cell 0
          have q1 := hq.cell 1
          have q2 := hq.cell 2
          unfold Go.Proofs.YtmodiemmcdocdaaGreatDoor.stored3 at q0 q1 q2
          refine bodyPost_ret (v := .tuple #[.agg #[.string ⟨#[]⟩, .bool false, .string ⟨#[]⟩], errV p]) (by simp [results, Tryz.results87, go_sem, errV, q0, q1, q2]) rfl ?_
          exact MatR.bad HRR.out hPl hgl HQ6.out HK6.out
        · have HT := Lib.hid (take_ok P g c ts (j + 1) deep 4 w5 HQ5.out HE.out (by decide) hr)
          have HRR : Hid (SX.wh ts i = .ok (⟨nm, false, PX.bs u.says⟩, q)) := Lib.hid (by rw [HR2.out, hr])
          clear hr HR2
          clear a0 a1 a2 a3
          refine HT.out.mono ?_
          rintro e w6 ⟨rfl, hq, hk⟩
          have hz := hk.size
          have hl : Lay w6 (w6.alloc (.cells #[.int .i64 ((u).kind : Nat), .string ⟨(u).says.toArray⟩, .int .i64 (u).n, .int .i64 ((u).place : Nat)] 93)) := (Keep.refl _ w6).alloc _
          have HX6 := Lib.hid ((HX5.out.keep hk (by omega)).keep hl (fun h => h))
          have HA6 := Lib.hid ((HA5.out.carry (hk.block _ HAL5.out (by have := HZ1.out; omega))).carry (hl.block (Nat.lt_of_lt_of_le HAL5.out hz)))
          have HQ6 := Lib.hid (hq.lay hl)
          have HK6 := Lib.hid ((HK5.out.trans hk).trans (Lay.keep hl))
          clear hq hk hl hz
          simp only [tokW]
          obtain ⟨a0, a1, a2, a3, _, _, _, _⟩ := HA6.out
          have c0 := HX6.out.cell 0
          have c1 := HX6.out.cell 1
          have c2 := HX6.out.cell 2
          have g0 := HX6.out.frozen 0
          have g1 := HX6.out.frozen 1
          have g2 := HX6.out.frozen 2
          go_wp2_with fail
          have hq := HX6.out.all3 (.string nm) (.bool false) (.string ⟨u.says.toArray⟩)
          have q0 := hq.cell 0
          have q1 := hq.cell 1
          have q2 := hq.cell 2
          unfold Go.Proofs.YtmodiemmcdocdaaGreatDoor.stored3 at q0 q1 q2
          refine bodyPost_ret (v := .tuple #[.agg #[.string nm, .bool false, .string ⟨u.says.toArray⟩], .nilIface]) (by simp [results, Tryz.results87, go_sem, q0, q1, q2]) rfl ?_
          exact MatR.good (m := ⟨nm, false, PX.bs u.says⟩) HRR.out hPl hgl HQ6.out HK6.out
      · have hEf : isT (tk ts j) PX.wEq = false := by simpa using hE
        obtain ⟨p, hp⟩ : ∃ p : Nat × Nat, p = (5, (tk ts j).place) := ⟨_, rfl⟩
        have HT : Hid (Calls Tryz.prog 116 #[.pointer (some ⟨P, 0, none⟩), .string ⟨#[61]⟩] w3 fun e w' => e = .returned (.tuple #[tokW SX.zeroT, errV p]) ∧ (∃ i', PQS P g c ts i' deep w') ∧ Keep (fun k => k = P) w3 w') := Lib.hid (by rw [hp]; exact must_no P g c ts j deep PX.wEq w3 HQ3.out HE.out hEf)
        have HRR : Hid (SX.wh ts i = .error p) := Lib.hid (by rw [HR2'.out, hp]; unfold PX.want; rw [if_neg hE])
        clear hE hEf HR2' hp
        refine HT.out.mono ?_
        rintro e w4 ⟨rfl, ⟨i', hq⟩, hk⟩
        have hz := hk.size
        have hl : Lay w4 (w4.alloc (.cells #[.int .i64 0, .string ⟨#[]⟩, .int .i64 0, .int .i64 0] 93)) := (Keep.refl _ w4).alloc _
        have HX4 := Lib.hid ((HX3.out.keep hk (by omega)).keep hl (fun h => h))
        have HQ4 := Lib.hid (hq.lay hl)
        have HK4 := Lib.hid ((HK3.out.trans hk).trans (Lay.keep hl))
        clear hq hk hl hz
        simp only [tokW, SX.zeroT, errV]
        have c0 := HX4.out.cell 0
        have c1 := HX4.out.cell 1
        have c2 := HX4.out.cell 2
        have g0 := HX4.out.frozen 0
        have g1 := HX4.out.frozen 1
        have g2 := HX4.out.frozen 2
        go_wp2_with fail
        have hq := HX4.out.all3 (.string ⟨#[]⟩) (.bool false) (.string ⟨#[]⟩)
        have q0 := hq.cell 0
        have q1 := hq.cell 1
        have q2 := hq.cell 2
        unfold Go.Proofs.YtmodiemmcdocdaaGreatDoor.stored3 at q0 q1 q2
        refine bodyPost_ret (v := .tuple #[.agg #[.string ⟨#[]⟩, .bool false, .string ⟨#[]⟩], errV p]) (by simp [results, Tryz.results87, go_sem, errV, q0, q1, q2]) rfl ?_
        exact MatR.bad HRR.out hPl hgl HQ4.out HK4.out
end Go.Proofs.YtmodiemmcdocdaaGreatDoor

namespace Go.Proofs.YtmodiemmcdocdaaGreatDoor
open Go.RowKit Go
open PX (tk isT)

theorem app_mat {B : Nat} {W : World} {a : Option Addr} {c : Nat} {ms : List Mt} (h : Rk 3 (fun b => B ≤ b) W (.slice a ms.length c) ms.length (flatM ms)) (hB : B ≤ W.heap.size) (hn : ms.length ≤ 1000) (m : Mt) :
    ∃ a7 c7 w7, (Builtin.append_ #[23, 23] 23 #[.slice a ms.length c, .slice (some ⟨W.heap.size, 0, none⟩) 1 1]).run Tryz.prog (W.alloc (.cells #[.string m.name, .bool m.not, .string m.value] 74)) = .ok (.slice a7 (ms.length + 1) c7) w7 ∧
      Rk 3 (fun b => B ≤ b ∧ (At (.slice a ms.length c) b ∨ W.heap.size ≤ b)) w7 (.slice a7 (ms.length + 1) c7) (ms ++ [m]).length (flatM (ms ++ [m])) ∧ Keep (At (.slice a ms.length c)) (W.alloc (.cells #[.string m.name, .bool m.not, .string m.value] 74)) w7 := by
  obtain ⟨i43, z43, E43⟩ := elem43
  have hs := Rk.src (P := Tryz.prog) Tryz.underlying23 (rk_new 3 W 1 (flatM [m]) 74 rfl (by omega)) (flatM_one [m])
  obtain ⟨v7, w7, hrun, hrk, hk⟩ := run_append_rk E43 (h.alloc (.cells #[.string m.name, .bool m.not, .string m.value] 74)) (fun k hk => by simp at hk; omega) 23 23 _ 1 (flatM [m]) hs (by omega) (by omega)
  obtain ⟨a7, c7, rfl⟩ := hrk.shape
  refine ⟨a7, c7, w7, hrun, ?_, hk⟩
  rw [flatM_append, List.length_append]
  exact hrk.mono fun b hb _ => ⟨hb.1, hb.2.imp id fun h => by simp at h; omega⟩

/-- The matchers behind those that are there. -/
def wheresX (ts : List LX.Tok) (ms : List Mt) (f i : Nat) : PX.PR (List Mt) :=
  match PX.wheres ts f ms.length i with
  | .error e => .error e
  | .ok (l, j) => .ok (ms ++ l, j)

theorem wheresX_no {ts : List LX.Tok} {ms : List Mt} {f i : Nat} (h : isT (tk ts i) PX.wWhere = false) : wheresX ts ms f i = .ok (ms, i) := by
  unfold wheresX
  cases f with
  | zero => simp [PX.wheres]
  | succ f => rw [PX.wheres, if_neg (by rw [h]; decide)]; simp
theorem wheresX_full {ts : List LX.Tok} {ms : List Mt} {f i : Nat} (h : isT (tk ts i) PX.wWhere = true) (hm : ms.length = 4) : wheresX ts ms (f + 1) i = .error (6, (tk ts i).place) := by
  unfold wheresX
  rw [PX.wheres, if_pos h, if_pos (by omega)]
theorem wheresX_bad {ts : List LX.Tok} {ms : List Mt} {f i : Nat} (h : isT (tk ts i) PX.wWhere = true) (hm : ms.length < 4) {p : Nat × Nat} (hr : SX.wh ts (i + 1) = .error p) : wheresX ts ms (f + 1) i = .error p := by
  unfold wheresX
  rw [SX.wheres_wh, if_pos h, if_neg (by omega), hr]
theorem wheresX_yes {ts : List LX.Tok} {ms : List Mt} {f i : Nat} (h : isT (tk ts i) PX.wWhere = true) (hm : ms.length < 4) {m : Mt} {j : Nat} (hr : SX.wh ts (i + 1) = .ok (m, j)) : wheresX ts ms (f + 1) i = wheresX ts (ms ++ [m]) f j := by
  unfold wheresX
  rw [SX.wheres_wh, if_pos h, if_neg (by omega), hr]
  dsimp only
  rw [List.length_append, List.length_singleton]
  rcases PX.wheres ts f (ms.length + 1) j with e | ⟨l, k⟩
  · rfl
  · simp

theorem wh_mono {ts : List LX.Tok} {i : Nat} {m : Mt} {j : Nat} (h : SX.wh ts i = .ok (m, j)) : i ≤ j := by
  have ht : ∀ k i t j, PX.token ts k i = .ok (t, j) → j = i + 1 := fun k i t j h => by
    unfold PX.token at h
    split at h
    · cases h; rfl
    · cases h
  have hw : ∀ s i u j, PX.want ts s i = .ok (u, j) → j = i + 1 := fun s i u j h => by
    unfold PX.want at h
    split at h
    · cases h; rfl
    · cases h
  unfold SX.wh at h
  split at h
  · cases h
  · rename_i a j1 h1
    have e1 := ht _ _ _ _ h1
    split at h
    · cases h
    · rename_i b k h2
      have e2 : j1 ≤ k := by
        split at h2
        · cases h2; omega
        · split at h2
          · cases h2
          · rename_i _ _ h3
            have := hw _ _ _ _ h3
            cases h2
            omega
      split at h
      · cases h
      · rename_i t q h3
        have e3 := ht _ _ _ _ h3
        cases h
        omega

def MatsR (P g c : Nat) (ts : List LX.Tok) (Q : Nat) (a0 a1 a3 a4 a5 a6 a7 a8 a9 : Value) (r : PX.PR (List Mt)) (w : World) (e : Ending) (w' : World) : Prop :=
  Keep (PQ P Q) w w' ∧ match r with
    | .error p => e = .returned (errV p)
    | .ok (ms, j) => e = .returned .nilIface ∧ PQS P g c ts j 0 w' ∧ ∃ mv, CB w' Q 28 #[a0, a1, mv, a3, a4, a5, a6, a7, a8, a9] ∧ Rk 3 (fun b => w.heap.size ≤ b) w' mv ms.length (flatM ms)

set_option maxHeartbeats 8000000 in
set_option maxRecDepth 100000 in
theorem matchers_own (P g c : Nat) (ts : List LX.Tok) (i Q : Nat) (a0 a1 a3 a4 a5 a6 a7 a8 a9 : Value) (w : World) (h : PQS P g c ts i 0 w) (he : PX.Ended ts) (hfew : ts.length ≤ 1100) (hQ : CB w Q 28 #[a0, a1, .slice none 0 0, a3, a4, a5, a6, a7, a8, a9]) (h1 : Q ≠ P) (h2 : Q ≠ g) :
    Calls Tryz.prog 50 #[.pointer (some ⟨P, 0, none⟩), .pointer (some ⟨Q, 0, none⟩)] w (MatsR P g c ts Q a0 a1 a3 a4 a5 a6 a7 a8 a9 (PX.wheres ts ts.length 0 i) w) := by
  have hPl := h.cb.lt
  have hgl := h.gl
  have hQl := hQ.lt
  have HE := Lib.hid he
  have HFEW := Lib.hid hfew
  have HQ0 := Lib.hid h
  have HC0 := Lib.hid hQ
  obtain ⟨FIN, hFIN⟩ : ∃ FIN, FIN = PX.wheres ts ts.length 0 i := ⟨_, rfl⟩
  have HFIN : Hid (FIN = wheresX ts [] ts.length i) := Lib.hid (by
    rw [hFIN]
    unfold wheresX
    rw [List.length_nil]
    rcases PX.wheres ts ts.length 0 i with e | ⟨l, j⟩ <;> rfl)
  rw [← hFIN]
  clear he h hQ hFIN hfew
  go_enter Tryz.func50, Tryz.ntmps50
  go_wp2_with fail
  go_loopw [] (fun wr => ∃ (ir : Nat) (ms : List Mt) (f : Nat) (au : Option Addr) (cu : Nat), ms.length ≤ 4 ∧ FIN = wheresX ts ms f ir ∧ CB wr Q 28 #[a0, a1, .slice au ms.length cu, a3, a4, a5, a6, a7, a8, a9] ∧ Rk 3 (fun b => w.heap.size ≤ b) wr (.slice au ms.length cu) ms.length (flatM ms) ∧ PQS P g c ts ir 0 wr ∧ Keep (PQ P Q) w wr ∧ ts.length ≤ ir + f) (fun wr => lenS ((wr.cell? ⟨P, 0, none⟩).getD undef))
  case atStart =>
    exact ⟨i, [], ts.length, none, 0, by simp, HFIN.out, HC0.out, Rk.nil 3 _ _, HQ0.out, Keep.refl _ w, by omega⟩
  case round =>
    obtain ⟨ir, ms, f, au, cu, hm4, hfin, hcb, hrk, hqs, hkp, hf⟩ := hrel
    have HCB := Lib.hid hcb
    have HRK := Lib.hid hrk
    have HQS := Lib.hid hqs
    have HKP := Lib.hid hkp
    have HFN := Lib.hid hfin
    have HF := Lib.hid hf
    have HIL := Lib.hid hqs.lt
    have HM4 := Lib.hid hm4
    have HWR := Lib.hid hkp.size
    clear hcb hrk hqs hkp hfin hf hm4 HFIN HC0 HQ0
    by_cases hy : isT (tk ts ir) PX.wWhere = true
    · have HY := Lib.hid hy
      have HIS : Hid (Calls Tryz.prog 85 #[.pointer (some ⟨P, 0, none⟩), .string ⟨#[119, 104, 101, 114, 101]⟩] wr fun r w' => r = .returned (.bool true) ∧ Lay wr w') := Lib.hid (is_run P g c ts ir 0 PX.wWhere wr HQS.out true hy)
      have HNX := Lib.hid (HE.out.next HIL.out (PX.isT_kind hy))
      clear hy
      obtain ⟨f', rfl⟩ : ∃ f', f = f' + 1 := ⟨f - 1, by have := HF.out; have := HIL.out; omega⟩
      go_wp2_with fail
      refine HIS.out.mono ?_
      rintro e w1 ⟨rfl, hl1⟩
      have HQ1 := Lib.hid (HQS.out.lay hl1)
      have HC1 := Lib.hid (HCB.out.keep hl1 (fun h => h))
      have HR1 := Lib.hid (HRK.out.lay hl1)
      have HK1 := Lib.hid (HKP.out.trans (Lay.keep hl1))
      clear hl1 HIS
      go_wp2_with fail
      refine (next_run P g c ts ir 0 w1 HQ1.out HNX.out).mono ?_
      rintro e w2 ⟨rfl, hq2, hk2⟩
      have hl : Lay w2 (w2.alloc (.cells #[.int .i64 ((tk ts ir).kind : Nat), .string ⟨(tk ts ir).says.toArray⟩, .int .i64 (tk ts ir).n, .int .i64 ((tk ts ir).place : Nat)] 93)) := (Keep.refl _ w2).alloc _
      have HC2 := Lib.hid ((HC1.out.keep hk2 h1).keep hl (fun h => h))
      have HR2 := Lib.hid ((HR1.out.keep hk2 (fun b hb _ _ => by have : w.heap.size ≤ b := hb; omega)).lay hl)
      have HQ2 := Lib.hid (hq2.lay hl)
      have HK2 := Lib.hid ((HK1.out.trans (Keep.pq hk2)).trans (Lay.keep hl))
      have HA2 : Hid (Bx (w2.alloc (.cells #[.int .i64 ((tk ts ir).kind : Nat), .string ⟨(tk ts ir).says.toArray⟩, .int .i64 (tk ts ir).n, .int .i64 ((tk ts ir).place : Nat)] 93)) w2.heap.size (.int .i64 ((tk ts ir).kind : Nat)) (.string ⟨(tk ts ir).says.toArray⟩) (.int .i64 (tk ts ir).n) (.int .i64 ((tk ts ir).place : Nat))) := Lib.hid ⟨by go_simp, by go_simp, by go_simp, by go_simp, by go_simp, by go_simp, by go_simp, by go_simp⟩
      clear hq2 hk2 hl
      simp only [tokW]
      have c2 := HC2.out.cell 2
      by_cases hm : ms.length = 4
      · have hd : ((ms.length : Int) == 4) = true := by simp; omega
        have HRR : Hid (FIN = .error (6, (tk ts ir).place)) := Lib.hid (by rw [HFN.out, wheresX_full HY.out hm])
        clear hm
        obtain ⟨b0, b1, b2, b3, _, _, _, _⟩ := HA2.out
        go_wp2_with fail
        clear b0 b1 b2 b3 c2
        refine (at_run (tk ts ir) 6 _).mono ?_
        rintro e w3 ⟨rfl, hl3⟩
        have HK3 := Lib.hid (HK2.out.trans (Lay.keep hl3))
        clear hl3
        unfold errV
        go_wp2_with fail
        go_ret
        unfold MatsR
        rw [HRR.out]
        exact ⟨HK3.out, rfl⟩
      · have hd : ((ms.length : Int) == 4) = false := by simp; omega
        have HLT : Hid (ms.length < 4) := Lib.hid (by have := HM4.out; omega)
        clear hm
        go_wp2_with fail
        clear c2 hd
        revert HC2 HR2 HQ2 HK2 HA2
        generalize w2.alloc (.cells #[.int .i64 ((tk ts ir).kind : Nat), .string ⟨(tk ts ir).says.toArray⟩, .int .i64 (tk ts ir).n, .int .i64 ((tk ts ir).place : Nat)] 93) = w3
        intro HC2 HR2 HQ2 HK2 HA2
        refine (matcher_own P g c ts (ir + 1) 0 w3 HQ2.out HE.out).mono ?_
        rintro e w4 ⟨hk4, ho4⟩
        have HC4 := Lib.hid (HC2.out.keep hk4 h1)
        have HR4 := Lib.hid (HR2.out.keep hk4 (fun b hb _ _ => by have : w.heap.size ≤ b := hb; omega))
        have HK4 := Lib.hid (HK2.out.trans (Keep.pq hk4))
        clear hk4
        revert ho4
        rcases hr : SX.wh ts (ir + 1) with p | ⟨m, j⟩
        · have HRR : Hid (FIN = .error p) := Lib.hid (by rw [HFN.out, wheresX_bad HY.out HLT.out hr])
          clear hr
          rintro ⟨rfl, _, _⟩
          have HK5 := Lib.hid (HK4.out.alloc (.cells #[.string ⟨#[]⟩, .bool false, .string ⟨#[]⟩] 74))
          unfold errV
          go_wp2_with fail
          go_ret
          unfold MatsR
          rw [HRR.out]
          exact ⟨HK5.out, rfl⟩
        · have HRR : Hid (FIN = wheresX ts (ms ++ [m]) f' j) := Lib.hid (by rw [HFN.out, wheresX_yes HY.out HLT.out hr])
          have HJ := Lib.hid (wh_mono hr)
          clear hr
          rintro ⟨rfl, hq4⟩
          have hl : Lay w4 (w4.alloc (.cells #[.string m.name, .bool m.not, .string m.value] 74)) := (Keep.refl _ w4).alloc _
          have HC5 := Lib.hid (HC4.out.keep hl (fun h => h))
          have HR5 := Lib.hid (HR4.out.lay hl)
          have HQ5 := Lib.hid (hq4.lay hl)
          have HK5 := Lib.hid (HK4.out.trans (Lay.keep hl))
          have HA5 : Hid (CB (w4.alloc (.cells #[.string m.name, .bool m.not, .string m.value] 74)) w4.heap.size 74 #[.string m.name, .bool m.not, .string m.value]) := Lib.hid (CB.new _ _ _)
          clear hl hq4
          go_wp2_with fail
          revert HC5 HR5 HQ5 HK5 HA5
          generalize w4.alloc (.cells #[.string m.name, .bool m.not, .string m.value] 74) = w5
          intro HC5 HR5 HQ5 HK5 HA5
          generalize w4.heap.size = M at HA5 ⊢
          obtain ⟨ax, cx, w8, hrun0, hrk8, hk8⟩ := app_mat (Rk.drew HR5.out) (W := w5.drew) HK5.out.size (by have := HLT.out; omega) m
          have hrun : (Builtin.append_ #[23, 23] 23 #[.slice au ms.length cu, .slice (some ⟨w5.heap.size, 0, none⟩) 1 1]).run Tryz.prog (w5.drew.alloc (.cells #[.string m.name, .bool m.not, .string m.value] 74)) = .ok (.slice ax (ms.length + 1) cx) w8 := hrun0
          clear hrun0
          have hw5 : w.heap.size ≤ w5.heap.size := HK5.out.size
          have hQ5 : Q < w5.heap.size := by omega
          have hM5 := HA5.out.lt
          have hq2 := HC5.out.cell 2
          have m0 := HA5.out.cell 0
          have m1 := HA5.out.cell 1
          have m2 := HA5.out.cell 2
          have hat : ∀ b, At (.slice au ms.length cu) b → w.heap.size ≤ b := fun b ha => (HR5.out.at ha).1
          have hoth : ∀ b, b < w.heap.size → w8.heap[b]? = w5.heap[b]? := fun b hb => (hk8.block b (by simp; show b < w5.heap.size + 1; omega) (fun ha => by have := hat b ha; omega)).trans (Below.heap_alloc w5.drew _ _ (show b < w5.heap.size by omega))
          have hcb8 : CB w8 Q 28 #[a0, a1, .slice au ms.length cu, a3, a4, a5, a6, a7, a8, a9] := (hoth Q hQl).trans HC5.out
          have hz8 : w5.heap.size + 1 ≤ w8.heap.size := by have h := hk8.size; simp at h; have h' : w5.drew.heap.size = w5.heap.size := rfl; omega
          have HCB8 := Lib.hid hcb8
          have HKP8 := Lib.hid (Keep.over (HK5.out.drew.alloc (.cells #[.string m.name, .bool m.not, .string m.value] 74)) hk8 (fun b ha => hat b ha))
          have HRK8 := Lib.hid hrk8
          have HOTH := Lib.hid hoth
          have HAT := Lib.hid hat
          have z2 := hcb8.cell 2
          have y2 := hcb8.frozen 2
          clear hcb8 hrk8 hoth hat hk8
          obtain ⟨n0, hn0⟩ : ∃ n0, n0 = ms.length + 1 := ⟨_, rfl⟩
          have HREL : Hid ((∃ (ir : Nat) (ms : List Mt) (f : Nat) (au : Option Addr) (cu : Nat), ms.length ≤ 4 ∧ FIN = wheresX ts ms f ir ∧ CB (w8.setCell ⟨Q, 2, none⟩ (.slice ax (n0) cx)) Q 28 #[a0, a1, .slice au ms.length cu, a3, a4, a5, a6, a7, a8, a9] ∧ Rk 3 (fun b => w.heap.size ≤ b) (w8.setCell ⟨Q, 2, none⟩ (.slice ax (n0) cx)) (.slice au ms.length cu) ms.length (flatM ms) ∧ PQS P g c ts ir 0 (w8.setCell ⟨Q, 2, none⟩ (.slice ax (n0) cx)) ∧ Keep (PQ P Q) w (w8.setCell ⟨Q, 2, none⟩ (.slice ax (n0) cx)) ∧ ts.length ≤ ir + f) ∧
              lenS (((w8.setCell ⟨Q, 2, none⟩ (.slice ax (n0) cx)).cell? ⟨P, 0, none⟩).getD undef) < lenS ((wr.cell? ⟨P, 0, none⟩).getD undef)) := Lib.hid (by
            rw [hn0]
            have hlt := HLT.out
            have hj := HJ.out
            have hf := HF.out
            have hil := HIL.out
            have hq9 : PQS P g c ts j 0 (w8.setCell ⟨Q, 2, none⟩ (.slice ax (ms.length + 1) cx)) := PQS.setQ ⟨(HOTH.out P hPl).trans HQ5.out.cb, HQ5.out.ne, by omega, fun k hk => (World.cell?_of_block (a := ⟨g, k, none⟩) (HOTH.out g hgl)).trans (HQ5.out.tok k hk), HQ5.out.lt, HQ5.out.cap, HQ5.out.low⟩ h1 h2 2 _
            refine ⟨⟨j, ms ++ [m], f', ax, cx, by rw [List.length_append, List.length_singleton]; omega, HRR.out, ?_, ?_, hq9, HKP8.out.setQ 2 _, by omega⟩, ?_⟩
            · have := HCB8.out.set 2 (.slice ax (ms.length + 1) cx)
              simpa using this
            · have := (HRK8.out.carry (w' := w8.setCell ⟨Q, 2, none⟩ (.slice ax (ms.length + 1) cx)) (by simp [World.setCell]) (fun b hb _ _ => Below.heap_setCell w8 ⟨Q, 2, none⟩ _ b (by show b ≠ Q; have := hb.1; omega))).mono (G' := fun b => w.heap.size ≤ b) (fun b hb _ => hb.1)
              simpa using this
            · have y1 : wr.cell? ⟨P, 0, none⟩ = some (.slice (some ⟨g, ir * 4, none⟩) (ts.length - ir) (c - ir)) := HQS.out.cb.cell 0
              have y2 : (w8.setCell ⟨Q, 2, none⟩ (.slice ax (ms.length + 1) cx)).cell? ⟨P, 0, none⟩ = some (.slice (some ⟨g, j * 4, none⟩) (ts.length - j) (c - j)) := hq9.cb.cell 0
              rw [y1, y2]
              simp only [Option.getD_some, lenS]
              omega)
          rw [hn0] at HREL
          clear hn0
          go_region_law (first | (refine step_append_run rfl _ _ _ rfl rfl rfl hrun ?_))
          all_goals (go_wp2_with fail; exact HREL.out)
    · have hyf : isT (tk ts ir) PX.wWhere = false := by simpa using hy
      have HIS : Hid (Calls Tryz.prog 85 #[.pointer (some ⟨P, 0, none⟩), .string ⟨#[119, 104, 101, 114, 101]⟩] wr fun r w' => r = .returned (.bool false) ∧ Lay wr w') := Lib.hid (is_run P g c ts ir 0 PX.wWhere wr HQS.out false hyf)
      have HRR : Hid (FIN = .ok (ms, ir)) := Lib.hid (by rw [HFN.out, wheresX_no hyf])
      clear hy hyf
      go_wp2_with fail
      refine HIS.out.mono ?_
      rintro e w1 ⟨rfl, hl1⟩
      have HQ1 := Lib.hid (HQS.out.lay hl1)
      have HC1 := Lib.hid (HCB.out.keep hl1 (fun h => h))
      have HR1 := Lib.hid (HRK.out.lay hl1)
      have HK1 := Lib.hid (HKP.out.trans (Lay.keep hl1))
      clear hl1 HIS
      go_wp2_with fail
      go_ret
      unfold MatsR
      rw [HRR.out]
      exact ⟨HK1.out, rfl, HQ1.out, .slice au ms.length cu, HC1.out, HR1.out⟩
end Go.Proofs.YtmodiemmcdocdaaGreatDoor
