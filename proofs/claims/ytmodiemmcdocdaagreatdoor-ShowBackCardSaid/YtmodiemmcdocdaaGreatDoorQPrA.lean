/-
  PACKAGE parse: a parser's block, at, is, next, skip.
  PACKAGE parse: skip, must, take.
  PACKAGE parse: text, field.
  PACKAGE parse: number.
  PACKAGE parse: times, desc, limit, page, end.
-/
import Derived.Test.YtmodiemmcdocdaaGreatDoorQBs7
import Derived.BigRegion
import Derived.Test.YtmodiemmcdocdaaGreatDoorQPxA
namespace Go.Proofs.YtmodiemmcdocdaaGreatDoor
open Go.RowKit Go
open PX (tk isT)

/-- A fault, as an error. -/
def errV (p : Nat × Nat) : Value := .iface 63 (.agg #[.int .i64 (p.1 : Nat), .int .i64 (p.2 : Nat)])

/-- A parser's block: what isn't read yet of its tokens, and how deep. -/
structure PQS (P g c : Nat) (ts : List LX.Tok) (i deep : Nat) (w : World) : Prop where
  cb : CB w P 58 #[.slice (some ⟨g, i * 4, none⟩) (ts.length - i) (c - i), .int .i64 (deep : Nat)]
  ne : g ≠ P
  gl : g < w.heap.size
  tok : ∀ j, j < ts.length * 4 → w.cell? ⟨g, j, none⟩ = (flatT ts)[j]?
  lt : i < ts.length
  cap : ts.length ≤ c
  low : deep ≤ 9

theorem PQS.keep {G : Nat → Prop} {P g c : Nat} {ts : List LX.Tok} {i deep : Nat} {w w' : World} (h : PQS P g c ts i deep w) (hk : Keep G w w') (h1 : ¬ G P) (h2 : ¬ G g) : PQS P g c ts i deep w' :=
  ⟨h.cb.keep hk h1, h.ne, Nat.lt_of_lt_of_le h.gl hk.size, fun j hj => (World.cell?_of_block (a := ⟨g, j, none⟩) (hk.block g h.gl h2)).trans (h.tok j hj), h.lt, h.cap, h.low⟩
theorem PQS.lay {P g c : Nat} {ts : List LX.Tok} {i deep : Nat} {w w' : World} (h : PQS P g c ts i deep w) (hl : Lay w w') : PQS P g c ts i deep w' := h.keep hl (fun h => h) (fun h => h)

theorem PQS.set {P g c : Nat} {ts : List LX.Tok} {i deep i' deep' : Nat} {w w' : World} (h : PQS P g c ts i deep w) (hc : CB w' P 58 #[.slice (some ⟨g, i' * 4, none⟩) (ts.length - i') (c - i'), .int .i64 (deep' : Nat)]) (hk : Keep (fun k => k = P) w w') (hi : i' < ts.length) (hd : deep' ≤ 9) : PQS P g c ts i' deep' w' :=
  ⟨hc, h.ne, Nat.lt_of_lt_of_le h.gl hk.size, fun j hj => (World.cell?_of_block (a := ⟨g, j, none⟩) (hk.block g h.gl h.ne)).trans (h.tok j hj), hi, h.cap, hd⟩

/-- What the walks see of it. -/
theorem PQS.open {P g c : Nat} {ts : List LX.Tok} {i deep : Nat} {w : World} (h : PQS P g c ts i deep w) : ∃ o n m, o = i * 4 ∧ n + i = ts.length ∧ m + i = c ∧ 0 < n ∧ n ≤ m ∧ g < w.heap.size ∧ P < w.heap.size ∧ ¬ P = g ∧
    CB w P 58 #[.slice (some ⟨g, o, none⟩) n m, .int .i64 (deep : Nat)] ∧
    w.cell? ⟨g, o, none⟩ = some (.int .i64 ((tk ts i).kind : Nat)) ∧ w.cell? ⟨g, o + 1, none⟩ = some (.string ⟨(tk ts i).says.toArray⟩) ∧ w.cell? ⟨g, o + 2, none⟩ = some (.int .i64 (tk ts i).n) ∧ w.cell? ⟨g, o + 3, none⟩ = some (.int .i64 ((tk ts i).place : Nat)) := by
  have hlt := h.lt
  have hcap := h.cap
  have get : ∀ k, k < 4 → w.cell? ⟨g, i * 4 + k, none⟩ = (tokC (tk ts i))[k]? := fun k hk => by
    rw [PX.tk_get hlt, ← flatT_get ts i hlt k hk]
    exact h.tok _ (by omega)
  refine ⟨i * 4, ts.length - i, c - i, rfl, by omega, by omega, by omega, by omega, h.gl, h.cb.lt, fun e => h.ne e.symm, h.cb, get 0 (by omega), get 1 (by omega), get 2 (by omega), get 3 (by omega)⟩

/-- One token on. -/
theorem PQS.step {P g c : Nat} {ts : List LX.Tok} {i deep o n m : Nat} {w w' : World} (h : PQS P g c ts i deep w) (ho : o = i * 4) (hn : n + i = ts.length) (hm : m + i = c) (hi : i + 1 < ts.length)
    (hc : CB w' P 58 #[.slice (some ⟨g, o + 4, none⟩) (n - 1) (m - 1), .int .i64 (deep : Nat)]) (hk : Keep (fun k => k = P) w w') : PQS P g c ts (i + 1) deep w' := by
  refine h.set ?_ hk hi h.low
  rw [show (i + 1) * 4 = o + 4 by omega, show ts.length - (i + 1) = n - 1 by omega, show c - (i + 1) = m - 1 by omega]
  exact hc

set_option maxHeartbeats 4000000 in
set_option maxRecDepth 100000 in
theorem at_run (t : LX.Tok) (e : Nat) (w : World) : Calls Tryz.prog 84 #[tokW t, .int .i64 (e : Nat)] w fun r w' => r = .returned (errV (e, t.place)) ∧ Lay w w' := by
  obtain ⟨k, s, n, p⟩ := t
  unfold tokW errV
  go_enter Tryz.func84, Tryz.ntmps84
  go_wp2_with fail
  go_ret
  exact ⟨rfl, (Keep.refl _ w).alloc _⟩

set_option maxHeartbeats 4000000 in
set_option maxRecDepth 100000 in
theorem is_run (P g c : Nat) (ts : List LX.Tok) (i deep : Nat) (s : List UInt8) (w : World) (h : PQS P g c ts i deep w) (y : Bool) (hy : isT (tk ts i) s = y) :
    Calls Tryz.prog 85 #[.pointer (some ⟨P, 0, none⟩), .string ⟨s.toArray⟩] w fun r w' => r = .returned (.bool y) ∧ Lay w w' := by
  obtain ⟨o, n, m, ho, hn, hm, h0n, hnm, hgl, hPl, hPg, hcb, t0, t1, t2, t3⟩ := h.open
  have x0 : w.cell? ⟨P, 0, none⟩ = some (.slice (some ⟨g, o, none⟩) n m) := hcb.cell 0
  clear hcb ho hn hm
  have hTT := hy
  unfold isT at hTT
  by_cases hk2 : (tk ts i).kind = 2
  · by_cases hs : (tk ts i).says = s
    · obtain rfl : true = y := by rw [← hTT]; simp [hk2, hs]
      clear hTT hy
      go_enter Tryz.func85, Tryz.ntmps85
      go_wp2_with fail
      go_ret
      exact ⟨rfl, (Keep.refl _ w).alloc _⟩
    · obtain rfl : false = y := by rw [← hTT]; simp [hs]
      have hs' : ((tk ts i).says == s) = false := beq_eq_false_iff_ne.2 hs
      clear hTT hy
      go_enter Tryz.func85, Tryz.ntmps85
      go_wp2_with fail
      go_ret
      exact ⟨rfl, (Keep.refl _ w).alloc _⟩
  · have k2 : (((tk ts i).kind : Int) == 2) = false := by simp; omega
    by_cases hk5 : (tk ts i).kind = 5
    · by_cases hs : (tk ts i).says = s
      · obtain rfl : true = y := by rw [← hTT]; simp [hk5, hs]
        clear hTT hy
        go_enter Tryz.func85, Tryz.ntmps85
        go_wp2_with fail
        go_ret
        exact ⟨rfl, (Keep.refl _ w).alloc _⟩
      · obtain rfl : false = y := by rw [← hTT]; simp [hs]
        have hs' : ((tk ts i).says == s) = false := beq_eq_false_iff_ne.2 hs
        clear hTT hy
        go_enter Tryz.func85, Tryz.ntmps85
        go_wp2_with fail
        go_ret
        exact ⟨rfl, (Keep.refl _ w).alloc _⟩
    · obtain rfl : false = y := by rw [← hTT]; simp [hk2, hk5]
      have k5 : (((tk ts i).kind : Int) == 5) = false := by simp; omega
      clear hTT hy
      go_enter Tryz.func85, Tryz.ntmps85
      go_wp2_with fail
      go_ret
      exact ⟨rfl, (Keep.refl _ w).alloc _⟩

set_option maxHeartbeats 4000000 in
set_option maxRecDepth 100000 in
theorem next_run (P g c : Nat) (ts : List LX.Tok) (i deep : Nat) (w : World) (h : PQS P g c ts i deep w) (hi : i + 1 < ts.length) :
    Calls Tryz.prog 86 #[.pointer (some ⟨P, 0, none⟩)] w fun r w' => r = .returned (tokW (tk ts i)) ∧ PQS P g c ts (i + 1) deep w' ∧ Keep (fun k => k = P) w w' := by
  obtain ⟨o, n, m, ho, hn, hm, h0n, hnm, hgl, hPl, hPg, hcb, t0, t1, t2, t3⟩ := h.open
  have x0 : w.cell? ⟨P, 0, none⟩ = some (.slice (some ⟨g, o, none⟩) n m) := hcb.cell 0
  have f0 := hcb.frozen 0
  have hm1 : ¬ m = 1 := by omega
  have h1n : 1 ≤ n := by omega
  have HCB := Lib.hid hcb
  have HO := Lib.hid ho
  have HN := Lib.hid hn
  have HM := Lib.hid hm
  have HI := Lib.hid hi
  have HH := Lib.hid h
  clear hcb ho hn hm hi h
  go_enter Tryz.func86, Tryz.ntmps86
  go_wp2_with fail
  refine bodyPost_ret (v := tokW (tk ts i)) (by simp [results, Tryz.results86, go_sem, tokW]) rfl ⟨rfl, ?_, ?_⟩
  · refine HH.out.step HO.out HN.out HM.out HI.out ?_ ((((Keep.refl (fun k => k = P) w).setCell (p := ⟨P, 0, none⟩) (.inr rfl) _).alloc _).alloc _)
    have hc := HCB.out.set 0 (.slice (some ⟨g, o + 4, none⟩) (n - 1) (m - 1))
    exact hc.keep (((Keep.refl (fun _ => False) _).alloc _).alloc _) (fun h => h)
  · exact (((Keep.refl (fun k => k = P) w).setCell (p := ⟨P, 0, none⟩) (.inr rfl) _).alloc _).alloc _
end Go.Proofs.YtmodiemmcdocdaaGreatDoor

namespace Go.Proofs.YtmodiemmcdocdaaGreatDoor
open Go.RowKit Go
open PX (tk isT)
set_option maxHeartbeats 4000000 in
set_option maxRecDepth 100000 in
theorem skip_run (P g c : Nat) (ts : List LX.Tok) (i deep : Nat) (s : List UInt8) (w : World) (h : PQS P g c ts i deep w) (he : PX.Ended ts) (y : Bool) (i' : Nat) (hy : isT (tk ts i) s = y) (hi' : (if y = true then i + 1 else i) = i') :
    Calls Tryz.prog 88 #[.pointer (some ⟨P, 0, none⟩), .string ⟨s.toArray⟩] w fun r w' => r = .returned (.bool y) ∧ PQS P g c ts i' deep w' ∧ Keep (fun k => k = P) w w' := by
  have HIS := Lib.hid (is_run P g c ts i deep s w h y hy)
  have HH := Lib.hid h
  have HE := Lib.hid he
  have HY := Lib.hid hy
  clear h he
  cases y with
  | true =>
    obtain rfl : i + 1 = i' := by rw [← hi']; rfl
    clear hi' hy
    have HN := Lib.hid (HE.out.next HH.out.lt (PX.isT_kind HY.out))
    go_enter Tryz.func88, Tryz.ntmps88
    go_wp2_with fail
    refine HIS.out.mono ?_
    rintro e w1 ⟨rfl, hl1⟩
    have HQ := Lib.hid (HH.out.lay hl1)
    have HL := Lib.hid hl1
    clear hl1
    go_wp2_with fail
    refine (next_run P g c ts i deep w1 HQ.out HN.out).mono ?_
    rintro e w2 ⟨rfl, hq2, hk2⟩
    have HQ2 := Lib.hid hq2
    have HK2 := Lib.hid ((Lay.keep HL.out).trans hk2)
    clear hq2 hk2
    go_wp2_with fail
    go_ret
    exact ⟨rfl, HQ2.out, HK2.out⟩
  | false =>
    obtain rfl : i = i' := by rw [← hi']; rfl
    clear hi' hy
    go_enter Tryz.func88, Tryz.ntmps88
    go_wp2_with fail
    refine HIS.out.mono ?_
    rintro e w1 ⟨rfl, hl1⟩
    have HQ := Lib.hid (HH.out.lay hl1)
    have HL := Lib.hid hl1
    clear hl1
    go_wp2_with fail
    go_ret
    exact ⟨rfl, HQ.out, Lay.keep HL.out⟩

/-- A new token. -/
def newT (w : World) : World := w.alloc (.cells #[.int .i64 0, .string ⟨#[]⟩, .int .i64 0, .int .i64 0] 93)
theorem newT_bx (w : World) : Bx (newT w) w.heap.size (.int .i64 0) (.string ⟨#[]⟩) (.int .i64 0) (.int .i64 0) := by
  unfold newT
  exact ⟨by go_simp, by go_simp, by go_simp, by go_simp, by go_simp, by go_simp, by go_simp, by go_simp⟩
theorem newT_lay (w : World) : Lay w (newT w) := (Keep.refl _ _).alloc _
theorem newT_size (w : World) : (newT w).heap.size = w.heap.size + 1 := by unfold newT; simp

/-- What is stored in a block of the call's own leaves the parser. -/
theorem PQS.stored {P g c : Nat} {ts : List LX.Tok} {i deep : Nat} {W : World} (h : PQS P g c ts i deep W) {k : Nat} (h1 : P ≠ k) (h2 : g ≠ k) (u0 u1 u2 u3 : Value) : PQS P g c ts i deep (stored W k u0 u1 u2 u3) :=
  ⟨(stored_other h1 u0 u1 u2 u3).trans h.cb, h.ne, by rw [stored_size]; exact h.gl, fun j hj => (World.cell?_of_block (a := ⟨g, j, none⟩) (stored_other h2 u0 u1 u2 u3)).trans (h.tok j hj), h.lt, h.cap, h.low⟩

/-- What must and take answer. -/
def TokR (P g c : Nat) (ts : List LX.Tok) (deep : Nat) (r : Except (Nat × Nat) (LX.Tok × Nat)) (w : World) (e : Ending) (w' : World) : Prop :=
  Keep (fun k => k = P) w w' ∧ match r with
    | .error p => e = .returned (.tuple #[tokW SX.zeroT, errV p]) ∧ ∃ i', PQS P g c ts i' deep w'
    | .ok (t, j) => e = .returned (.tuple #[tokW t, .nilIface]) ∧ PQS P g c ts j deep w'

/-- What must answers, as a token. -/
def mustX (ts : List LX.Tok) (s : List UInt8) (i : Nat) : Except (Nat × Nat) (LX.Tok × Nat) := if isT (tk ts i) s = true then .ok (tk ts i, i + 1) else .error (5, (tk ts i).place)

set_option maxHeartbeats 4000000 in
set_option maxRecDepth 100000 in
theorem must_run (P g c : Nat) (ts : List LX.Tok) (i deep : Nat) (s : List UInt8) (w : World) (h : PQS P g c ts i deep w) (he : PX.Ended ts) :
    Calls Tryz.prog 116 #[.pointer (some ⟨P, 0, none⟩), .string ⟨s.toArray⟩] w (TokR P g c ts deep (mustX ts s i) w) := by
  obtain ⟨W, hW⟩ : ∃ W, W = newT w := ⟨_, rfl⟩
  have hlw := newT_lay w
  have hbx := newT_bx w
  have hsz := newT_size w
  rw [← hW] at hlw hbx hsz
  have HW := Lib.hid (show w.alloc (.cells #[.int .i64 0, .string ⟨#[]⟩, .int .i64 0, .int .i64 0] 93) = W from hW.symm)
  clear hW
  have hPl := h.cb.lt
  have hgl := h.gl
  have HQ := Lib.hid (h.lay hlw)
  have HE := Lib.hid he
  have HLW := Lib.hid hlw
  have HBX := Lib.hid hbx
  have HSZ := Lib.hid hsz
  clear he hlw hbx h hsz
  by_cases hT : isT (tk ts i) s = true
  · have HIS := Lib.hid (is_run P g c ts i deep s W HQ.out true hT)
    have HN := Lib.hid (HE.out.next HQ.out.lt (PX.isT_kind hT))
    have HR : Hid (mustX ts s i = .ok (tk ts i, i + 1)) := Lib.hid (by unfold mustX; rw [if_pos hT])
    clear hT
    go_enter Tryz.func116, Tryz.ntmps116
    go_wp2_with fail
    rw [HW.out]
    refine HIS.out.mono ?_
    rintro e w1 ⟨rfl, hl1⟩
    have HQ1 := Lib.hid (HQ.out.lay hl1)
    have HL := Lib.hid (Keep.trans HLW.out hl1)
    have HX1 := Lib.hid (HBX.out.carry (hl1.block (by rw [HSZ.out]; omega)))
    have HZ1 : Hid (w.heap.size + 1 ≤ w1.heap.size) := Lib.hid (by have := hl1.size; rw [HSZ.out] at this; exact this)
    clear hl1
    go_wp2_with fail
    refine (next_run P g c ts i deep w1 HQ1.out HN.out).mono ?_
    rintro e w2 ⟨rfl, hq2, hk2⟩
    have HX2 := Lib.hid (HX1.out.carry (hk2.block _ (by have := HZ1.out; omega) (by omega)))
    have HQ2 := Lib.hid hq2
    have HK2 := Lib.hid ((Lay.keep HL.out).trans hk2)
    clear hq2 hk2
    unfold tokW
    obtain ⟨c0, c1, c2, c3, g0, g1, g2, g3⟩ := HX2.out
    go_wp2_with fail
    have hq := HX2.out.all (.int .i64 ((tk ts i).kind : Nat)) (.string ⟨(tk ts i).says.toArray⟩) (.int .i64 (tk ts i).n) (.int .i64 ((tk ts i).place : Nat))
    unfold Go.Proofs.YtmodiemmcdocdaaGreatDoor.stored at hq
    obtain ⟨q0, q1, q2, q3, _, _, _, _⟩ := hq
    refine bodyPost_ret (v := .tuple #[tokW (tk ts i), .nilIface]) (by simp [results, Tryz.results116, go_sem, tokW, q0, q1, q2, q3]) rfl ?_
    unfold TokR
    rw [HR.out]
    exact ⟨keep_stored HK2.out (Nat.le_refl _) _ _ _ _, rfl, PQS.stored HQ2.out (by omega) (by omega) _ _ _ _⟩
  · have hTf : isT (tk ts i) s = false := by simpa using hT
    have HIS := Lib.hid (is_run P g c ts i deep s W HQ.out false hTf)
    have HR : Hid (mustX ts s i = .error (5, (tk ts i).place)) := Lib.hid (by unfold mustX; rw [if_neg hT])
    clear hT hTf
    go_enter Tryz.func116, Tryz.ntmps116
    go_wp2_with fail
    rw [HW.out]
    refine HIS.out.mono ?_
    rintro e w1 ⟨rfl, hl1⟩
    have HQ1 := Lib.hid (HQ.out.lay hl1)
    have HL := Lib.hid (Keep.trans HLW.out hl1)
    have HX1 := Lib.hid (HBX.out.carry (hl1.block (by rw [HSZ.out]; omega)))
    have HZ1 : Hid (w.heap.size + 1 ≤ w1.heap.size) := Lib.hid (by have := hl1.size; rw [HSZ.out] at this; exact this)
    clear hl1
    obtain ⟨o, n, m, ho, hn, hm, h0n, hnm, hgl1, hPl1, hPg, hcb, t0, t1, t2, t3⟩ := HQ1.out.open
    have x0 : w1.cell? ⟨P, 0, none⟩ = some (.slice (some ⟨g, o, none⟩) n m) := hcb.cell 0
    clear hcb ho hn hm
    go_wp2_with fail
    refine (at_run (tk ts i) 5 w1).mono ?_
    rintro e w2 ⟨rfl, hl2⟩
    have HX2 := Lib.hid (HX1.out.carry (hl2.block (by have := HZ1.out; omega)))
    have HQ2 := Lib.hid (HQ1.out.lay hl2)
    have HK2 := Lib.hid (Lay.keep (G := fun k => k = P) (Keep.trans HL.out hl2))
    clear hl2 t0 t1 t2 t3 x0
    obtain ⟨c0, c1, c2, c3, g0, g1, g2, g3⟩ := HX2.out
    go_wp2_with fail
    have hq := HX2.out.all (.int .i64 0) (.string ⟨#[]⟩) (.int .i64 0) (.int .i64 0)
    unfold Go.Proofs.YtmodiemmcdocdaaGreatDoor.stored at hq
    obtain ⟨q0, q1, q2, q3, _, _, _, _⟩ := hq
    refine bodyPost_ret (v := .tuple #[tokW SX.zeroT, errV (5, (tk ts i).place)]) (by simp [results, Tryz.results116, go_sem, tokW, errV, SX.zeroT, q0, q1, q2, q3]) rfl ?_
    unfold TokR
    rw [HR.out]
    exact ⟨keep_stored HK2.out (Nat.le_refl _) _ _ _ _, rfl, i, PQS.stored HQ2.out (by omega) (by omega) _ _ _ _⟩

set_option maxHeartbeats 4000000 in
set_option maxRecDepth 100000 in
theorem take_own (P g c : Nat) (ts : List LX.Tok) (i deep k : Nat) (w : World) (h : PQS P g c ts i deep w) (he : PX.Ended ts) (hk0 : k ≠ 0) :
    Calls Tryz.prog 91 #[.pointer (some ⟨P, 0, none⟩), .int .i64 (k : Nat)] w (TokR P g c ts deep (PX.token ts k i) w) := by
  obtain ⟨W, hW⟩ : ∃ W, W = newT w := ⟨_, rfl⟩
  have hlw := newT_lay w
  have hbx := newT_bx w
  have hsz := newT_size w
  rw [← hW] at hlw hbx hsz
  have HW := Lib.hid (show w.alloc (.cells #[.int .i64 0, .string ⟨#[]⟩, .int .i64 0, .int .i64 0] 93) = W from hW.symm)
  clear hW
  have hPl := h.cb.lt
  have hgl := h.gl
  have HQ := Lib.hid (h.lay hlw)
  have HE := Lib.hid he
  have HLW := Lib.hid hlw
  have HBX := Lib.hid hbx
  have HSZ := Lib.hid hsz
  obtain ⟨o, n, m, ho, hn, hm, h0n, hnm, _, _, hPg, hcb, t0, t1, t2, t3⟩ := h.open
  have x0 : w.cell? ⟨P, 0, none⟩ = some (.slice (some ⟨g, o, none⟩) n m) := hcb.cell 0
  clear hcb ho hn hm
  clear he hlw hbx h hsz
  by_cases hT : (tk ts i).kind = k
  · have hb : (((tk ts i).kind : Int) != (k : Int)) = false := by simp [hT]
    have HN := Lib.hid (HE.out.next HQ.out.lt (by omega))
    have HR : Hid (PX.token ts k i = .ok (tk ts i, i + 1)) := Lib.hid (by unfold PX.token; rw [if_pos hT])
    clear hT
    go_enter Tryz.func91, Tryz.ntmps91
    go_wp2_with fail
    rw [HW.out]
    refine (next_run P g c ts i deep W HQ.out HN.out).mono ?_
    rintro e w2 ⟨rfl, hq2, hk2⟩
    have HX2 := Lib.hid (HBX.out.carry (hk2.block _ (by rw [HSZ.out]; omega) (by omega)))
    have HQ2 := Lib.hid hq2
    have HK2 := Lib.hid ((Lay.keep HLW.out).trans hk2)
    clear hq2 hk2 t0 t1 t2 t3 x0
    unfold tokW
    obtain ⟨c0, c1, c2, c3, g0, g1, g2, g3⟩ := HX2.out
    go_wp2_with fail
    have hq := HX2.out.all (.int .i64 ((tk ts i).kind : Nat)) (.string ⟨(tk ts i).says.toArray⟩) (.int .i64 (tk ts i).n) (.int .i64 ((tk ts i).place : Nat))
    unfold Go.Proofs.YtmodiemmcdocdaaGreatDoor.stored at hq
    obtain ⟨q0, q1, q2, q3, _, _, _, _⟩ := hq
    refine bodyPost_ret (v := .tuple #[tokW (tk ts i), .nilIface]) (by simp [results, Tryz.results91, go_sem, tokW, q0, q1, q2, q3]) rfl ?_
    unfold TokR
    rw [HR.out]
    exact ⟨keep_stored HK2.out (Nat.le_refl _) _ _ _ _, rfl, PQS.stored HQ2.out (by omega) (by omega) _ _ _ _⟩
  · have hb : (((tk ts i).kind : Int) != (k : Int)) = true := by simp; omega
    have HR : Hid (PX.token ts k i = .error (5, (tk ts i).place)) := Lib.hid (by unfold PX.token; rw [if_neg hT])
    clear hT
    go_enter Tryz.func91, Tryz.ntmps91
    go_wp2_with fail
    rw [HW.out]
    refine (at_run (tk ts i) 5 W).mono ?_
    rintro e w2 ⟨rfl, hl2⟩
    have HX2 := Lib.hid (HBX.out.carry (hl2.block (by rw [HSZ.out]; omega)))
    have HQ2 := Lib.hid (HQ.out.lay hl2)
    have HK2 := Lib.hid (Lay.keep (G := fun k => k = P) (Keep.trans HLW.out hl2))
    clear hl2 t0 t1 t2 t3 x0
    obtain ⟨c0, c1, c2, c3, g0, g1, g2, g3⟩ := HX2.out
    go_wp2_with fail
    have hq := HX2.out.all (.int .i64 0) (.string ⟨#[]⟩) (.int .i64 0) (.int .i64 0)
    unfold Go.Proofs.YtmodiemmcdocdaaGreatDoor.stored at hq
    obtain ⟨q0, q1, q2, q3, _, _, _, _⟩ := hq
    refine bodyPost_ret (v := .tuple #[tokW SX.zeroT, errV (5, (tk ts i).place)]) (by simp [results, Tryz.results91, go_sem, tokW, errV, SX.zeroT, q0, q1, q2, q3]) rfl ?_
    unfold TokR
    rw [HR.out]
    exact ⟨keep_stored HK2.out (Nat.le_refl _) _ _ _ _, rfl, i, PQS.stored HQ2.out (by omega) (by omega) _ _ _ _⟩
end Go.Proofs.YtmodiemmcdocdaaGreatDoor

namespace Go.Proofs.YtmodiemmcdocdaaGreatDoor
open Go.RowKit Go
open PX (tk isT)

theorem take_ok (P g c : Nat) (ts : List LX.Tok) (i deep k : Nat) (w : World) (h : PQS P g c ts i deep w) (he : PX.Ended ts) (hk0 : k ≠ 0) {t : LX.Tok} {j : Nat} (hr : PX.token ts k i = .ok (t, j)) :
    Calls Tryz.prog 91 #[.pointer (some ⟨P, 0, none⟩), .int .i64 (k : Nat)] w fun e w' => e = .returned (.tuple #[tokW t, .nilIface]) ∧ PQS P g c ts j deep w' ∧ Keep (fun k => k = P) w w' := by
  have := take_own P g c ts i deep k w h he hk0
  rw [hr] at this
  exact this.mono fun e w' ⟨a, b, d⟩ => ⟨b, d, a⟩
theorem take_no (P g c : Nat) (ts : List LX.Tok) (i deep k : Nat) (w : World) (h : PQS P g c ts i deep w) (he : PX.Ended ts) (hk0 : k ≠ 0) {p : Nat × Nat} (hr : PX.token ts k i = .error p) :
    Calls Tryz.prog 91 #[.pointer (some ⟨P, 0, none⟩), .int .i64 (k : Nat)] w fun e w' => e = .returned (.tuple #[tokW SX.zeroT, errV p]) ∧ (∃ i', PQS P g c ts i' deep w') ∧ Keep (fun k => k = P) w w' := by
  have := take_own P g c ts i deep k w h he hk0
  rw [hr] at this
  exact this.mono fun e w' ⟨a, b, d⟩ => ⟨b, d, a⟩
theorem must_ok (P g c : Nat) (ts : List LX.Tok) (i deep : Nat) (s : List UInt8) (w : World) (h : PQS P g c ts i deep w) (he : PX.Ended ts) (hr : isT (tk ts i) s = true) :
    Calls Tryz.prog 116 #[.pointer (some ⟨P, 0, none⟩), .string ⟨s.toArray⟩] w fun e w' => e = .returned (.tuple #[tokW (tk ts i), .nilIface]) ∧ PQS P g c ts (i + 1) deep w' ∧ Keep (fun k => k = P) w w' := by
  have := must_run P g c ts i deep s w h he
  unfold mustX at this
  rw [if_pos hr] at this
  exact this.mono fun e w' ⟨a, b, d⟩ => ⟨b, d, a⟩
theorem must_no (P g c : Nat) (ts : List LX.Tok) (i deep : Nat) (s : List UInt8) (w : World) (h : PQS P g c ts i deep w) (he : PX.Ended ts) (hr : isT (tk ts i) s = false) :
    Calls Tryz.prog 116 #[.pointer (some ⟨P, 0, none⟩), .string ⟨s.toArray⟩] w fun e w' => e = .returned (.tuple #[tokW SX.zeroT, errV (5, (tk ts i).place)]) ∧ (∃ i', PQS P g c ts i' deep w') ∧ Keep (fun k => k = P) w w' := by
  have := must_run P g c ts i deep s w h he
  unfold mustX at this
  rw [if_neg (by rw [hr]; decide)] at this
  exact this.mono fun e w' ⟨a, b, d⟩ => ⟨b, d, a⟩

/-- No filter. -/
def zeroF : Value := .agg #[.int .i64 0, .string ⟨#[]⟩, .string ⟨#[]⟩, .slice none 0 0]

/-- What a piece of the parser answers. -/
def OneQ (P g c : Nat) (ts : List LX.Tok) (deep : Nat) (r : PX.PR Ft) (w : World) (e : Ending) (w' : World) : Prop :=
  Keep (fun k => k = P) w w' ∧ match r with
    | .error p => e = .returned (.tuple #[zeroF, errV p]) ∧ ∃ i', PQS P g c ts i' deep w'
    | .ok (x, j) => ∃ kv, e = .returned (.tuple #[x.val kv, .nilIface]) ∧ KsB (fun b => w.heap.size ≤ b) w' kv x ∧ PQS P g c ts j deep w'

theorem OneQ.bad {P g c : Nat} {ts : List LX.Tok} {i deep : Nat} {r : PX.PR Ft} {w W : World} {p : Nat × Nat} (hr : r = .error p) (hPl : P < w.heap.size) (hgl : g < w.heap.size) (hq : PQS P g c ts i deep W) (hk : Keep (fun k => k = P) w W) {k : Nat} (hk0 : w.heap.size ≤ k) :
    OneQ P g c ts deep r w (.returned (.tuple #[zeroF, errV p])) (stored W k (.int .i64 0) (.string ⟨#[]⟩) (.string ⟨#[]⟩) (.slice none 0 0)) := by
  subst hr
  exact ⟨keep_stored hk hk0 _ _ _ _, rfl, i, PQS.stored hq (by omega) (by omega) _ _ _ _⟩

theorem OneQ.good {P g c : Nat} {ts : List LX.Tok} {deep : Nat} {r : PX.PR Ft} {w W : World} {x : Ft} {j : Nat} {kv : Value} (hr : r = .ok (x, j)) (hPl : P < w.heap.size) (hgl : g < w.heap.size) (hq : PQS P g c ts j deep W) (hk : Keep (fun k => k = P) w W) {k : Nat} (hk0 : w.heap.size ≤ k)
    (hkb : KsB (fun b => w.heap.size ≤ b ∧ b ≠ k) W kv x) : OneQ P g c ts deep r w (.returned (.tuple #[x.val kv, .nilIface])) (stored W k (.int .i64 x.op) (.string x.name) (.string x.text) kv) := by
  subst hr
  refine ⟨keep_stored hk hk0 _ _ _ _, kv, rfl, ?_, PQS.stored hq (by omega) (by omega) _ _ _ _⟩
  exact KsB.mono (fun b _ hb => hb.1) _ _ (KsB.keep (Nat.le_of_eq (stored_size _ _ _ _).symm) (fun b hb _ => stored_other hb.2 _ _ _ _) _ _ hkb)

theorem PQS.setCell {P g c : Nat} {ts : List LX.Tok} {i deep : Nat} {W : World} (h : PQS P g c ts i deep W) {b : Nat} (h1 : P ≠ b) (h2 : g ≠ b) (o : Nat) (u : Value) : PQS P g c ts i deep (W.setCell ⟨b, o, none⟩ u) :=
  h.keep ((Keep.refl (fun k => k = b) W).setCell (p := ⟨b, o, none⟩) (.inr rfl) u) h1 h2

/-- A filter alone, with no kids. -/
theorem leafKs (G : Nat → Prop) (w : World) (o : Int) (nm t : ByteArray) : KsB G w (.slice none 0 0) (.mk o nm t []) := KsB.nil G w o nm t

set_option maxHeartbeats 4000000 in
set_option maxRecDepth 100000 in
theorem text_own (P g c : Nat) (ts : List LX.Tok) (i deep : Nat) (o : Int) (nm : ByteArray) (w : World) (h : PQS P g c ts i deep w) (he : PX.Ended ts) :
    Calls Tryz.prog 147 #[.pointer (some ⟨P, 0, none⟩), .agg #[.int .i64 o, .string nm, .string ⟨#[]⟩, .slice none 0 0]] w
      (OneQ P g c ts deep (match PX.token ts 4 i with | .error e => .error e | .ok (t, j) => .ok (.mk o nm (PX.bs t.says) [], j)) w) := by
  obtain ⟨w0, hw0⟩ : ∃ w0, w0 = w.alloc (.cells #[.int .i64 o, .string nm, .string ⟨#[]⟩, .slice none 0 0] 26) := ⟨_, rfl⟩
  obtain ⟨W, hW⟩ : ∃ W, W = newF w0 := ⟨_, rfl⟩
  have hz0 : w0.heap.size = w.heap.size + 1 := by rw [hw0]; simp
  have hbf0 : Bx w0 w.heap.size (.int .i64 o) (.string nm) (.string ⟨#[]⟩) (.slice none 0 0) := by
    rw [hw0]
    exact ⟨by go_simp, by go_simp, by go_simp, by go_simp, by go_simp, by go_simp, by go_simp, by go_simp⟩
  have hl0 : Lay w w0 := by rw [hw0]; exact (Keep.refl _ w).alloc _
  have hlw := newF_lay w0
  have hbx := newF_bx w0
  have hsz := newF_size w0
  rw [← hW] at hlw hbx hsz
  have hbf := hbf0.carry (hlw.block (by omega))
  have HW := Lib.hid (show (w.alloc (.cells #[.int .i64 o, .string nm, .string ⟨#[]⟩, .slice none 0 0] 26)).alloc (.cells #[.int .i64 0, .string ⟨#[]⟩, .string ⟨#[]⟩, .slice none 0 0] 26) = W by rw [hW, hw0]; rfl)
  rw [hz0] at hbx hsz
  clear hW hw0
  have hPl := h.cb.lt
  have hgl := h.gl
  have HQ := Lib.hid (h.lay (Keep.trans hl0 hlw))
  have HE := Lib.hid he
  have HLW := Lib.hid (Keep.trans hl0 hlw)
  have HBX := Lib.hid hbx
  have HBF := Lib.hid hbf
  have HSZ := Lib.hid hsz
  clear he hlw hbx h hsz hbf hbf0 hl0 hz0
  rcases hr : PX.token ts 4 i with p | ⟨t, j⟩
  · have HT := Lib.hid (take_no P g c ts i deep 4 W HQ.out HE.out (by decide) hr)
    clear hr
    go_enter Tryz.func147, Tryz.ntmps147
    go_wp2_with fail
    rw [HW.out]
    refine HT.out.mono ?_
    rintro e w1 ⟨rfl, ⟨i', hq1⟩, hk1⟩
    have HX1 := Lib.hid ((HBX.out.carry (hk1.block _ (by rw [HSZ.out]; omega) (by omega))).carry (Below.heap_alloc w1 (.cells #[.int .i64 0, .string ⟨#[]⟩, .int .i64 0, .int .i64 0] 93) (w.heap.size + 1) (by have := hk1.size; rw [HSZ.out] at this; omega)))
    have HQ1 := Lib.hid (hq1.lay ((Keep.refl _ w1).alloc (.cells #[.int .i64 0, .string ⟨#[]⟩, .int .i64 0, .int .i64 0] 93)))
    have HK1 := Lib.hid (((Lay.keep HLW.out).trans hk1).alloc (.cells #[.int .i64 0, .string ⟨#[]⟩, .int .i64 0, .int .i64 0] 93))
    have hz1 := hk1.size
    rw [HSZ.out] at hz1
    clear hq1 hk1
    simp only [tokW, SX.zeroT, errV]
    obtain ⟨c0, c1, c2, c3, g0, g1, g2, g3⟩ := HX1.out
    go_wp2_with fail
    have hq := HX1.out.all (.int .i64 0) (.string ⟨#[]⟩) (.string ⟨#[]⟩) (.slice none 0 0)
    unfold Go.Proofs.YtmodiemmcdocdaaGreatDoor.stored at hq
    obtain ⟨q0, q1, q2, q3, _, _, _, _⟩ := hq
    refine bodyPost_ret (v := .tuple #[zeroF, errV p]) (by simp [results, Tryz.results147, go_sem, zeroF, errV, q0, q1, q2, q3]) rfl ?_
    exact OneQ.bad rfl hPl hgl HQ1.out HK1.out (Nat.le_succ _)
  · have HT := Lib.hid (take_ok P g c ts i deep 4 W HQ.out HE.out (by decide) hr)
    clear hr
    go_enter Tryz.func147, Tryz.ntmps147
    go_wp2_with fail
    rw [HW.out]
    refine HT.out.mono ?_
    rintro e w1 ⟨rfl, hq1, hk1⟩
    have hz1 := hk1.size
    rw [HSZ.out] at hz1
    have hl2 : Lay w1 (w1.alloc (.cells #[.int .i64 (t.kind : Nat), .string ⟨t.says.toArray⟩, .int .i64 t.n, .int .i64 (t.place : Nat)] 93)) := (Keep.refl _ w1).alloc _
    have HX2 := Lib.hid ((HBX.out.carry (hk1.block _ (by rw [HSZ.out]; omega) (by omega))).carry (hl2.block (by omega)))
    have HF2 := Lib.hid ((HBF.out.carry (hk1.block _ (by rw [HSZ.out]; omega) (by omega))).carry (hl2.block (by omega)))
    have HQ2 := Lib.hid (hq1.lay hl2)
    have HK2 := Lib.hid (((Lay.keep HLW.out).trans hk1).trans (Lay.keep hl2))
    clear hq1 hk1 hl2
    simp only [tokW]
    obtain ⟨c0, c1, c2, c3, g0, g1, g2, g3⟩ := HX2.out
    obtain ⟨d0, d1, d2, d3, e0, e1, e2, e3⟩ := HF2.out
    go_wp2_with fail
    have hset := HX2.out.carry (Below.heap_setCell _ ⟨w.heap.size, 2, none⟩ (.string ⟨t.says.toArray⟩) (w.heap.size + 1) (by show w.heap.size + 1 ≠ w.heap.size; omega))
    have hq := hset.all (.int .i64 o) (.string nm) (.string ⟨t.says.toArray⟩) (.slice none 0 0)
    unfold Go.Proofs.YtmodiemmcdocdaaGreatDoor.stored at hq
    obtain ⟨q0, q1, q2, q3, _, _, _, _⟩ := hq
    refine bodyPost_ret (v := .tuple #[.agg #[.int .i64 o, .string nm, .string ⟨t.says.toArray⟩, .slice none 0 0], .nilIface]) (by simp [results, Tryz.results147, go_sem, q0, q1, q2, q3]) rfl ?_
    exact OneQ.good (x := .mk o nm (PX.bs t.says) []) rfl hPl hgl (PQS.setCell HQ2.out (by omega) (by omega) _ _) (HK2.out.setCell (p := ⟨w.heap.size, 2, none⟩) (.inl (Nat.le_refl _)) _) (Nat.le_succ _) (leafKs _ _ _ _ _)

/-- What is behind the word field. -/
def fieldX (ts : List LX.Tok) (j : Nat) : PX.PR Ft :=
  match PX.token ts 1 j with
  | .error e => .error e
  | .ok (n, k) => match PX.want ts PX.wEq k with
    | .error e => .error e
    | .ok (_, m) => match PX.token ts 4 m with
      | .error e => .error e
      | .ok (t, q) => .ok (.mk 5 (PX.bs n.says) (PX.bs t.says) [], q)

set_option maxHeartbeats 4000000 in
set_option maxRecDepth 100000 in
theorem field_own (P g c : Nat) (ts : List LX.Tok) (i deep : Nat) (w : World) (h : PQS P g c ts i deep w) (he : PX.Ended ts) :
    Calls Tryz.prog 148 #[.pointer (some ⟨P, 0, none⟩)] w (OneQ P g c ts deep (fieldX ts i) w) := by
  obtain ⟨W, hW⟩ : ∃ W, W = newF w := ⟨_, rfl⟩
  have hlw := newF_lay w
  have hbx := newF_bx w
  have hsz := newF_size w
  rw [← hW] at hlw hbx hsz
  have HW := Lib.hid (show w.alloc (.cells #[.int .i64 0, .string ⟨#[]⟩, .string ⟨#[]⟩, .slice none 0 0] 26) = W from hW.symm)
  clear hW
  have hPl := h.cb.lt
  have hgl := h.gl
  have HQ := Lib.hid (h.lay hlw)
  have HE := Lib.hid he
  have HLW := Lib.hid hlw
  have HBX := Lib.hid hbx
  have HSZ := Lib.hid hsz
  clear he hlw hbx h hsz
  rcases hr : PX.token ts 1 i with p | ⟨t, j⟩
  · have HT := Lib.hid (take_no P g c ts i deep 1 W HQ.out HE.out (by decide) hr)
    have HR : Hid (fieldX ts i = .error p) := Lib.hid (by unfold fieldX; rw [hr])
    clear hr
    go_enter Tryz.func148, Tryz.ntmps148
    go_wp2_with fail
    rw [HW.out]
    refine HT.out.mono ?_
    rintro e w1 ⟨rfl, ⟨i', hq1⟩, hk1⟩
    have HX1 := Lib.hid ((HBX.out.carry (hk1.block _ (by rw [HSZ.out]; omega) (by omega))).carry (Below.heap_alloc w1 (.cells #[.int .i64 0, .string ⟨#[]⟩, .int .i64 0, .int .i64 0] 93) w.heap.size (by have := hk1.size; rw [HSZ.out] at this; omega)))
    have HQ1 := Lib.hid (hq1.lay ((Keep.refl _ w1).alloc (.cells #[.int .i64 0, .string ⟨#[]⟩, .int .i64 0, .int .i64 0] 93)))
    have HK1 := Lib.hid (((Lay.keep HLW.out).trans hk1).alloc (.cells #[.int .i64 0, .string ⟨#[]⟩, .int .i64 0, .int .i64 0] 93))
    have hz1 := hk1.size
    rw [HSZ.out] at hz1
    clear hq1 hk1
    simp only [tokW, SX.zeroT, errV]
    obtain ⟨c0, c1, c2, c3, g0, g1, g2, g3⟩ := HX1.out
    go_wp2_with fail
    have hq := HX1.out.all (.int .i64 0) (.string ⟨#[]⟩) (.string ⟨#[]⟩) (.slice none 0 0)
    unfold Go.Proofs.YtmodiemmcdocdaaGreatDoor.stored at hq
    obtain ⟨q0, q1, q2, q3, _, _, _, _⟩ := hq
    refine bodyPost_ret (v := .tuple #[zeroF, errV p]) (by simp [results, Tryz.results148, go_sem, zeroF, errV, q0, q1, q2, q3]) rfl ?_
    exact OneQ.bad HR.out hPl hgl HQ1.out HK1.out (Nat.le_refl _)
  · have HT := Lib.hid (take_ok P g c ts i deep 1 W HQ.out HE.out (by decide) hr)
    have HR1 : Hid (fieldX ts i = match PX.want ts PX.wEq j with
      | .error e => .error e
      | .ok (_, m) => match PX.token ts 4 m with
        | .error e => .error e
        | .ok (u, q) => .ok (.mk 5 (PX.bs t.says) (PX.bs u.says) [], q)) := Lib.hid (by unfold fieldX; rw [hr])
    clear hr
    obtain ⟨n, hn⟩ : ∃ n : ByteArray, n = PX.bs t.says := ⟨_, rfl⟩
    have HN : Hid (n = ⟨t.says.toArray⟩) := Lib.hid hn
    rw [← hn] at HR1
    clear hn
    go_enter Tryz.func148, Tryz.ntmps148
    go_wp2_with fail
    rw [HW.out]
    refine HT.out.mono ?_
    rintro e w1 ⟨rfl, hq1, hk1⟩
    have hz1 := hk1.size
    rw [HSZ.out] at hz1
    simp only [tokW]
    rw [← HN.out]
    have hl2 : Lay w1 (w1.alloc (.cells #[.int .i64 (t.kind : Nat), .string n, .int .i64 t.n, .int .i64 (t.place : Nat)] 93)) := (Keep.refl _ w1).alloc _
    have HX2 := Lib.hid ((HBX.out.carry (hk1.block _ (by rw [HSZ.out]; omega) (by omega))).carry (hl2.block (by omega)))
    have HQ2 := Lib.hid (hq1.lay hl2)
    have HK2 := Lib.hid (((Lay.keep HLW.out).trans hk1).trans (Lay.keep hl2))
    have HT2 : Hid (Bx (w1.alloc (.cells #[.int .i64 (t.kind : Nat), .string n, .int .i64 t.n, .int .i64 (t.place : Nat)] 93)) w1.heap.size (.int .i64 (t.kind : Nat)) (.string n) (.int .i64 t.n) (.int .i64 (t.place : Nat))) := Lib.hid ⟨by go_simp, by go_simp, by go_simp, by go_simp, by go_simp, by go_simp, by go_simp, by go_simp⟩
    clear hq1 hk1 hl2
    go_wp2_with fail
    revert HX2 HQ2 HK2 HT2
    have hz2 : w1.heap.size + 1 = (w1.alloc (.cells #[.int .i64 (t.kind : Nat), .string n, .int .i64 t.n, .int .i64 (t.place : Nat)] 93)).heap.size := by simp
    revert hz2
    generalize w1.alloc (.cells #[.int .i64 (t.kind : Nat), .string n, .int .i64 t.n, .int .i64 (t.place : Nat)] 93) = w2
    intro hz2 HX2 HQ2 HK2 HT2
    have HZ2 := Lib.hid hz2
    clear hz2
    by_cases hT : isT (tk ts j) PX.wEq = true
    · have HM : Hid (Calls Tryz.prog 116 #[.pointer (some ⟨P, 0, none⟩), .string ⟨#[61]⟩] w2 fun e w' => e = .returned (.tuple #[tokW (tk ts j), .nilIface]) ∧ PQS P g c ts (j + 1) deep w' ∧ Keep (fun k => k = P) w2 w') := Lib.hid (must_ok P g c ts j deep PX.wEq w2 HQ2.out HE.out hT)
      have HR : Hid (fieldX ts i = match PX.token ts 4 (j + 1) with
        | .error e => .error e
        | .ok (u, q) => .ok (.mk 5 n (PX.bs u.says) [], q)) := Lib.hid (by rw [HR1.out]; unfold PX.want; rw [if_pos hT])
      clear hT HR1
      refine HM.out.mono ?_
      rintro e w3 ⟨rfl, hq3, hk3⟩
      have hz3 := hk3.size
      have hl4 : Lay w3 (w3.alloc (.cells #[.int .i64 ((tk ts j).kind : Nat), .string ⟨(tk ts j).says.toArray⟩, .int .i64 (tk ts j).n, .int .i64 ((tk ts j).place : Nat)] 93)) := (Keep.refl _ w3).alloc _
      have HX4 := Lib.hid ((HX2.out.carry (hk3.block _ (by rw [← HZ2.out]; omega) (by omega))).carry (hl4.block (by rw [← HZ2.out] at hz3; omega)))
      have HT4 := Lib.hid ((HT2.out.carry (hk3.block _ (by rw [← HZ2.out]; omega) (by omega))).carry (hl4.block (by rw [← HZ2.out] at hz3; omega)))
      have HQ4 := Lib.hid (hq3.lay hl4)
      have HK4 := Lib.hid ((HK2.out.trans hk3).trans (Lay.keep hl4))
      have HZ4 : Hid (w.heap.size + 1 ≤ (w3.alloc (.cells #[.int .i64 ((tk ts j).kind : Nat), .string ⟨(tk ts j).says.toArray⟩, .int .i64 (tk ts j).n, .int .i64 ((tk ts j).place : Nat)] 93)).heap.size) := Lib.hid (by simp; have := HZ2.out; omega)
      clear hq3 hk3 hl4 hz3
      simp only [tokW]
      obtain ⟨d0, d1, d2, d3, _, _, _, _⟩ := HT4.out
      go_wp2_with fail
      refine (text_own P g c ts (j + 1) deep 5 n _ HQ4.out HE.out).mono ?_
      rintro e w5 ⟨hk5, ho5⟩
      have HK5 := Lib.hid (HK4.out.trans hk5)
      have HX5 := Lib.hid (HX4.out.carry (hk5.block _ (by have := HZ4.out; omega) (by omega)))
      clear hk5
      revert ho5
      rcases hr : PX.token ts 4 (j + 1) with p | ⟨u, q⟩
      · have HR' : Hid (fieldX ts i = .error p) := Lib.hid (by rw [HR.out, hr])
        clear hr
        rintro ⟨rfl, i', hq5⟩
        have HQ5 := Lib.hid hq5
        clear hq5 d0 d1 d2 d3
        simp only [zeroF, errV]
        obtain ⟨c0, c1, c2, c3, g0, g1, g2, g3⟩ := HX5.out
        go_wp2_with fail
        have hq := HX5.out.all (.int .i64 0) (.string ⟨#[]⟩) (.string ⟨#[]⟩) (.slice none 0 0)
        unfold Go.Proofs.YtmodiemmcdocdaaGreatDoor.stored at hq
        obtain ⟨q0, q1, q2, q3, _, _, _, _⟩ := hq
        refine bodyPost_ret (v := .tuple #[zeroF, errV p]) (by simp [results, Tryz.results148, go_sem, zeroF, errV, q0, q1, q2, q3]) rfl ?_
        exact OneQ.bad HR'.out hPl hgl HQ5.out HK5.out (Nat.le_refl _)
      · have HR' : Hid (fieldX ts i = .ok (.mk 5 n (PX.bs u.says) [], q)) := Lib.hid (by rw [HR.out, hr])
        clear hr
        rintro ⟨kv, rfl, hkb, hq5⟩
        have HQ5 := Lib.hid hq5
        obtain ⟨ak, ck, rfl⟩ := hkb.shape
        have HKB := Lib.hid hkb
        clear hq5 d0 d1 d2 d3 hkb
        simp only [Ft.val, Ft.op, Ft.name, Ft.text, Ft.kids, List.length_nil] at HKB ⊢
        obtain ⟨c0, c1, c2, c3, g0, g1, g2, g3⟩ := HX5.out
        go_wp2_with fail
        have hq := HX5.out.all (.int .i64 5) (.string n) (.string (PX.bs u.says)) (.slice ak 0 ck)
        unfold Go.Proofs.YtmodiemmcdocdaaGreatDoor.stored at hq
        obtain ⟨q0, q1, q2, q3, _, _, _, _⟩ := hq
        refine bodyPost_ret (v := .tuple #[.agg #[.int .i64 5, .string n, .string (PX.bs u.says), .slice ak 0 ck], .nilIface]) (by simp [results, Tryz.results148, go_sem, q0, q1, q2, q3]) rfl ?_
        refine OneQ.good (x := .mk 5 n (PX.bs u.says) []) HR'.out hPl hgl HQ5.out HK5.out (Nat.le_refl _) ?_
        exact KsB.mono (fun b _ hb => ⟨by have := HZ4.out; omega, by have := HZ4.out; omega⟩) _ _ HKB.out
    · have hTf : isT (tk ts j) PX.wEq = false := by simpa using hT
      have HM : Hid (Calls Tryz.prog 116 #[.pointer (some ⟨P, 0, none⟩), .string ⟨#[61]⟩] w2 fun e w' => e = .returned (.tuple #[tokW SX.zeroT, errV (5, (tk ts j).place)]) ∧ (∃ i', PQS P g c ts i' deep w') ∧ Keep (fun k => k = P) w2 w') := Lib.hid (must_no P g c ts j deep PX.wEq w2 HQ2.out HE.out hTf)
      have HR : Hid (fieldX ts i = .error (5, (tk ts j).place)) := Lib.hid (by rw [HR1.out]; unfold PX.want; rw [if_neg hT])
      clear hT HR1 hTf
      refine HM.out.mono ?_
      rintro e w3 ⟨rfl, ⟨i', hq3⟩, hk3⟩
      have hz3 := hk3.size
      have hl4 : Lay w3 (w3.alloc (.cells #[.int .i64 0, .string ⟨#[]⟩, .int .i64 0, .int .i64 0] 93)) := (Keep.refl _ w3).alloc _
      have HX4 := Lib.hid ((HX2.out.carry (hk3.block _ (by rw [← HZ2.out]; omega) (by omega))).carry (hl4.block (by rw [← HZ2.out] at hz3; omega)))
      have HQ4 := Lib.hid (hq3.lay hl4)
      have HK4 := Lib.hid ((HK2.out.trans hk3).trans (Lay.keep hl4))
      clear hq3 hk3 hl4 hz3
      simp only [tokW, SX.zeroT, errV]
      obtain ⟨c0, c1, c2, c3, g0, g1, g2, g3⟩ := HX4.out
      go_wp2_with fail
      have hq := HX4.out.all (.int .i64 0) (.string ⟨#[]⟩) (.string ⟨#[]⟩) (.slice none 0 0)
      unfold Go.Proofs.YtmodiemmcdocdaaGreatDoor.stored at hq
      obtain ⟨q0, q1, q2, q3, _, _, _, _⟩ := hq
      refine bodyPost_ret (v := .tuple #[zeroF, errV (5, (tk ts j).place)]) (by simp [results, Tryz.results148, go_sem, zeroF, errV, q0, q1, q2, q3]) rfl ?_
      exact OneQ.bad HR.out hPl hgl HQ4.out HK4.out (Nat.le_refl _)
end Go.Proofs.YtmodiemmcdocdaaGreatDoor

namespace Go.Proofs.YtmodiemmcdocdaaGreatDoor
open Go.RowKit Go
open PX (tk isT)

/-- Is a number between these? -/
def mayB (lo hi n : Int) : Bool := decide (lo ≤ n) && decide (n ≤ hi)

set_option maxHeartbeats 4000000 in
theorem time_run (n : Int) (w : World) : Calls Tryz.prog 83 #[.int .i64 n] w fun e w' => e = .returned (.bool (mayB (-1099511627776) 1099511627776 n)) ∧ w = w' := by
  by_cases h1 : -1099511627776 ≤ n
  · have d1 : decide (-1099511627776 ≤ n) = true := by simpa using h1
    have hv : mayB (-1099511627776) 1099511627776 n = decide (n ≤ 1099511627776) := by unfold mayB; rw [d1]; rfl
    rw [hv]
    clear hv
    go_enter Tryz.func83, Tryz.ntmps83
    go_wp2_with fail
    go_ret
    exact ⟨rfl, rfl⟩
  · have d1 : decide (-1099511627776 ≤ n) = false := by simpa using h1
    have hv : mayB (-1099511627776) 1099511627776 n = false := by unfold mayB; rw [d1]; rfl
    rw [hv]
    clear hv
    go_enter Tryz.func83, Tryz.ntmps83
    go_wp2_with fail
    go_ret
    exact ⟨rfl, rfl⟩

set_option maxHeartbeats 4000000 in
theorem limit_may (n : Int) (w : World) : Calls Tryz.prog 90 #[.int .i64 n] w fun e w' => e = .returned (.bool (mayB 1 50 n)) ∧ w = w' := by
  by_cases h1 : 1 ≤ n
  · have d1 : decide (1 ≤ n) = true := by simpa using h1
    have hv : mayB 1 50 n = decide (n ≤ 50) := by unfold mayB; rw [d1]; rfl
    rw [hv]
    clear hv
    go_enter Tryz.func90, Tryz.ntmps90
    go_wp2_with fail
    go_ret
    exact ⟨rfl, rfl⟩
  · have d1 : decide (1 ≤ n) = false := by simpa using h1
    have hv : mayB 1 50 n = false := by unfold mayB; rw [d1]; rfl
    rw [hv]
    clear hv
    go_enter Tryz.func90, Tryz.ntmps90
    go_wp2_with fail
    go_ret
    exact ⟨rfl, rfl⟩

/-- A word, and a number behind it. -/
def numX (ts : List LX.Tok) (s : List UInt8) (lo hi : Int) (i : Nat) : Except (Nat × Nat) ((LX.Tok × Int) × Nat) :=
  match PX.want ts s i with
  | .error e => .error e
  | .ok (_, i1) => match PX.number ts lo hi i1 with
    | .error e => .error e
    | .ok (n, j) => .ok ((tk ts i, n), j)

def NumR (P g c : Nat) (ts : List LX.Tok) (deep : Nat) (r : Except (Nat × Nat) ((LX.Tok × Int) × Nat)) (w : World) (e : Ending) (w' : World) : Prop :=
  Keep (fun k => k = P) w w' ∧ match r with
    | .error p => e = .returned (.tuple #[tokW SX.zeroT, .int .i64 0, errV p]) ∧ ∃ i', PQS P g c ts i' deep w'
    | .ok ((t, n), j) => e = .returned (.tuple #[tokW t, .int .i64 n, .nilIface]) ∧ PQS P g c ts j deep w'

theorem NumR.bad {P g c : Nat} {ts : List LX.Tok} {i deep : Nat} {r : Except (Nat × Nat) ((LX.Tok × Int) × Nat)} {w W : World} {p : Nat × Nat} (hr : r = .error p) (hPl : P < w.heap.size) (hgl : g < w.heap.size) (hq : PQS P g c ts i deep W) (hk : Keep (fun k => k = P) w W) :
    NumR P g c ts deep r w (.returned (.tuple #[tokW SX.zeroT, .int .i64 0, errV p])) (stored W w.heap.size (.int .i64 0) (.string ⟨#[]⟩) (.int .i64 0) (.int .i64 0)) := by
  subst hr
  exact ⟨keep_stored hk (Nat.le_refl _) _ _ _ _, rfl, i, PQS.stored hq (by omega) (by omega) _ _ _ _⟩

set_option maxHeartbeats 4000000 in
set_option maxRecDepth 100000 in
theorem number_own_70 (P g c : Nat) (ts : List LX.Tok) (i deep : Nat) (s : List UInt8) (w : World) (h : PQS P g c ts i deep w) (he : PX.Ended ts) :
    Calls Tryz.prog 82 #[.pointer (some ⟨P, 0, none⟩), .string ⟨s.toArray⟩, .func (.func 83) #[] #[]] w (NumR P g c ts deep (numX ts s (-1099511627776) 1099511627776 i) w) := by
  obtain ⟨W, hW⟩ : ∃ W, W = newT w := ⟨_, rfl⟩
  have hlw := newT_lay w
  have hbx := newT_bx w
  have hsz := newT_size w
  rw [← hW] at hlw hbx hsz
  have HW := Lib.hid (show w.alloc (.cells #[.int .i64 0, .string ⟨#[]⟩, .int .i64 0, .int .i64 0] 93) = W from hW.symm)
  clear hW
  have hPl := h.cb.lt
  have hgl := h.gl
  have HQ := Lib.hid (h.lay hlw)
  have HE := Lib.hid he
  have HLW := Lib.hid hlw
  have HBX := Lib.hid hbx
  have HSZ := Lib.hid hsz
  clear he hlw hbx h hsz
  by_cases hT : isT (tk ts i) s = true
  · have HM := Lib.hid (must_ok P g c ts i deep s W HQ.out HE.out hT)
    have HR1 : Hid (numX ts s (-1099511627776) 1099511627776 i = match PX.number ts (-1099511627776) 1099511627776 (i + 1) with
      | .error e => .error e
      | .ok (n, j) => .ok ((tk ts i, n), j)) := Lib.hid (by unfold numX PX.want; rw [if_pos hT])
    clear hT
    go_enter Tryz.func82, Tryz.ntmps82
    go_wp2_with fail
    rw [HW.out]
    refine HM.out.mono ?_
    rintro e w1 ⟨rfl, hq1, hk1⟩
    have hz1 := hk1.size
    rw [HSZ.out] at hz1
    have hl2 : Lay w1 (w1.alloc (.cells #[.int .i64 ((tk ts i).kind : Nat), .string ⟨(tk ts i).says.toArray⟩, .int .i64 (tk ts i).n, .int .i64 ((tk ts i).place : Nat)] 93)) := (Keep.refl _ w1).alloc _
    have HX2 := Lib.hid ((HBX.out.carry (hk1.block _ (by rw [HSZ.out]; omega) (by omega))).carry (hl2.block (by omega)))
    have HQ2 := Lib.hid (hq1.lay hl2)
    have HK2 := Lib.hid (((Lay.keep HLW.out).trans hk1).trans (Lay.keep hl2))
    have HA2 : Hid (Bx (w1.alloc (.cells #[.int .i64 ((tk ts i).kind : Nat), .string ⟨(tk ts i).says.toArray⟩, .int .i64 (tk ts i).n, .int .i64 ((tk ts i).place : Nat)] 93)) w1.heap.size (.int .i64 ((tk ts i).kind : Nat)) (.string ⟨(tk ts i).says.toArray⟩) (.int .i64 (tk ts i).n) (.int .i64 ((tk ts i).place : Nat))) := Lib.hid ⟨by go_simp, by go_simp, by go_simp, by go_simp, by go_simp, by go_simp, by go_simp, by go_simp⟩
    have hz2 : w1.heap.size + 1 = (w1.alloc (.cells #[.int .i64 ((tk ts i).kind : Nat), .string ⟨(tk ts i).says.toArray⟩, .int .i64 (tk ts i).n, .int .i64 ((tk ts i).place : Nat)] 93)).heap.size := by simp
    have HZ1 := Lib.hid hz1
    clear hq1 hk1 hl2 hz1
    simp only [tokW]
    go_wp2_with fail
    revert HX2 HQ2 HK2 HA2 hz2
    generalize w1.alloc (.cells #[.int .i64 ((tk ts i).kind : Nat), .string ⟨(tk ts i).says.toArray⟩, .int .i64 (tk ts i).n, .int .i64 ((tk ts i).place : Nat)] 93) = w2
    intro HX2 HQ2 HK2 HA2 hz2
    have HZ2 := Lib.hid hz2
    clear hz2
    rcases hr : PX.token ts 3 (i + 1) with p | ⟨t, j⟩
    · have HT := Lib.hid (take_no P g c ts (i + 1) deep 3 w2 HQ2.out HE.out (by decide) hr)
      have HR : Hid (numX ts s (-1099511627776) 1099511627776 i = .error p) := Lib.hid (by rw [HR1.out]; unfold PX.number; rw [hr])
      clear hr HR1
      refine HT.out.mono ?_
      rintro e w3 ⟨rfl, ⟨i', hq3⟩, hk3⟩
      have hz3 : w1.heap.size + 1 ≤ w3.heap.size := by rw [HZ2.out]; exact hk3.size
      have hl4 : Lay w3 (w3.alloc (.cells #[.int .i64 0, .string ⟨#[]⟩, .int .i64 0, .int .i64 0] 93)) := (Keep.refl _ w3).alloc _
      have HX4 := Lib.hid ((HX2.out.carry (hk3.block _ (by rw [← HZ2.out]; have := HZ1.out; omega) (by omega))).carry (hl4.block (by have := HZ1.out; omega)))
      have HQ4 := Lib.hid (hq3.lay hl4)
      have HK4 := Lib.hid ((HK2.out.trans hk3).trans (Lay.keep hl4))
      clear hq3 hk3 hl4 hz3
      simp only [tokW, SX.zeroT, errV]
      obtain ⟨c0, c1, c2, c3, g0, g1, g2, g3⟩ := HX4.out
      go_wp2_with fail
      have hq := HX4.out.all (.int .i64 0) (.string ⟨#[]⟩) (.int .i64 0) (.int .i64 0)
      unfold Go.Proofs.YtmodiemmcdocdaaGreatDoor.stored at hq
      obtain ⟨q0, q1, q2, q3, _, _, _, _⟩ := hq
      refine bodyPost_ret (v := .tuple #[tokW SX.zeroT, .int .i64 0, errV p]) (by simp [results, Tryz.results82, go_sem, tokW, errV, SX.zeroT, q0, q1, q2, q3]) rfl ?_
      exact NumR.bad HR.out hPl hgl HQ4.out HK4.out
    · have HT := Lib.hid (take_ok P g c ts (i + 1) deep 3 w2 HQ2.out HE.out (by decide) hr)
      have ht : t = tk ts (i + 1) := by
        unfold PX.token at hr
        split at hr
        · cases hr; rfl
        · cases hr
      by_cases hm : (-1099511627776) ≤ t.n ∧ t.n ≤ 1099511627776
      · have HMAY : Hid (∀ w, Calls Tryz.prog 83 #[.int .i64 t.n] w fun e w' => e = .returned (.bool true) ∧ w = w') := Lib.hid (fun w => by
          have := time_run t.n w
          rwa [show mayB (-1099511627776) 1099511627776 t.n = true by unfold mayB; simp; exact hm] at this)
        have HR : Hid (numX ts s (-1099511627776) 1099511627776 i = .ok ((tk ts i, t.n), j)) := Lib.hid (by rw [HR1.out]; unfold PX.number; rw [hr]; dsimp only; rw [if_neg (by omega)])
        clear hr HR1 hm ht
        refine HT.out.mono ?_
        rintro e w3 ⟨rfl, hq3, hk3⟩
        have hz3 : w1.heap.size + 1 ≤ w3.heap.size := by rw [HZ2.out]; exact hk3.size
        have hl4 : Lay w3 (w3.alloc (.cells #[.int .i64 ((t).kind : Nat), .string ⟨(t).says.toArray⟩, .int .i64 (t).n, .int .i64 ((t).place : Nat)] 93)) := (Keep.refl _ w3).alloc _
        have HX4 := Lib.hid ((HX2.out.carry (hk3.block _ (by rw [← HZ2.out]; have := HZ1.out; omega) (by omega))).carry (hl4.block (by have := HZ1.out; omega)))
        have HA4 := Lib.hid ((HA2.out.carry (hk3.block _ (by rw [← HZ2.out]; omega) (by have := HZ1.out; omega))).carry (hl4.block (by omega)))
        have HC4 : Hid (Bx (w3.alloc (.cells #[.int .i64 ((t).kind : Nat), .string ⟨(t).says.toArray⟩, .int .i64 (t).n, .int .i64 ((t).place : Nat)] 93)) w3.heap.size (.int .i64 ((t).kind : Nat)) (.string ⟨(t).says.toArray⟩) (.int .i64 (t).n) (.int .i64 ((t).place : Nat))) := Lib.hid ⟨by go_simp, by go_simp, by go_simp, by go_simp, by go_simp, by go_simp, by go_simp, by go_simp⟩
        have HQ4 := Lib.hid (hq3.lay hl4)
        have HK4 := Lib.hid ((HK2.out.trans hk3).trans (Lay.keep hl4))
        have HZ3 := Lib.hid hz3
        have hne1 : ¬ w.heap.size = w1.heap.size := by have := HZ1.out; omega
        have hne2 : ¬ w.heap.size = w3.heap.size := by have := HZ1.out; omega
        have hne3 : ¬ w1.heap.size = w3.heap.size := by omega
        clear hq3 hk3 hl4 hz3
        simp only [tokW]
        obtain ⟨a0, a1, a2, a3, _, _, _, _⟩ := HC4.out
        go_wp2_with fail
        clear a0 a1 a2 a3
        refine (HMAY.out _).mono ?_
        rintro e w5 ⟨rfl, rfl⟩
        obtain ⟨c0, c1, c2, c3, g0, g1, g2, g3⟩ := HX4.out
        obtain ⟨d0, d1, d2, d3, _, _, _, _⟩ := HA4.out
        obtain ⟨a0, a1, a2, a3, _, _, _, _⟩ := HC4.out
        go_wp2_with fail
        go_region
        go_wp2_with fail
        have hq : Bx (Go.Proofs.YtmodiemmcdocdaaGreatDoor.stored (w3.alloc (.cells #[.int .i64 ((t).kind : Nat), .string ⟨(t).says.toArray⟩, .int .i64 (t).n, .int .i64 ((t).place : Nat)] 93)) w.heap.size (.int .i64 ((tk ts i).kind : Nat)) (.string ⟨(tk ts i).says.toArray⟩) (.int .i64 (tk ts i).n) (.int .i64 ((tk ts i).place : Nat))).drew w.heap.size (.int .i64 ((tk ts i).kind : Nat)) (.string ⟨(tk ts i).says.toArray⟩) (.int .i64 (tk ts i).n) (.int .i64 ((tk ts i).place : Nat)) := (HX4.out.all (.int .i64 ((tk ts i).kind : Nat)) (.string ⟨(tk ts i).says.toArray⟩) (.int .i64 (tk ts i).n) (.int .i64 ((tk ts i).place : Nat))).carry rfl
        unfold Go.Proofs.YtmodiemmcdocdaaGreatDoor.stored at hq
        obtain ⟨q0, q1, q2, q3, _, _, _, _⟩ := hq
        refine bodyPost_ret (v := .tuple #[tokW (tk ts i), .int .i64 t.n, .nilIface]) (by simp [results, Tryz.results82, go_sem, tokW, q0, q1, q2, q3]) rfl ?_
        unfold NumR
        rw [HR.out]
        exact ⟨(keep_stored HK4.out (Nat.le_refl _) _ _ _ _).drew, rfl, (PQS.stored HQ4.out (by omega) (by omega) _ _ _ _).lay (Keep.drew (Keep.refl _ _))⟩
      · have HMAY : Hid (∀ w, Calls Tryz.prog 83 #[.int .i64 t.n] w fun e w' => e = .returned (.bool false) ∧ w = w') := Lib.hid (fun w => by
          have := time_run t.n w
          rwa [show mayB (-1099511627776) 1099511627776 t.n = false by unfold mayB; simp; omega] at this)
        have HR : Hid (numX ts s (-1099511627776) 1099511627776 i = .error (6, t.place)) := Lib.hid (by rw [HR1.out]; unfold PX.number; rw [hr]; dsimp only; rw [if_pos (by omega), ← ht])
        clear hr HR1 hm ht
        refine HT.out.mono ?_
        rintro e w3 ⟨rfl, hq3, hk3⟩
        have hz3 : w1.heap.size + 1 ≤ w3.heap.size := by rw [HZ2.out]; exact hk3.size
        have hl4 : Lay w3 (w3.alloc (.cells #[.int .i64 ((t).kind : Nat), .string ⟨(t).says.toArray⟩, .int .i64 (t).n, .int .i64 ((t).place : Nat)] 93)) := (Keep.refl _ w3).alloc _
        have HX4 := Lib.hid ((HX2.out.carry (hk3.block _ (by rw [← HZ2.out]; have := HZ1.out; omega) (by omega))).carry (hl4.block (by have := HZ1.out; omega)))
        have HC4 : Hid (Bx (w3.alloc (.cells #[.int .i64 ((t).kind : Nat), .string ⟨(t).says.toArray⟩, .int .i64 (t).n, .int .i64 ((t).place : Nat)] 93)) w3.heap.size (.int .i64 ((t).kind : Nat)) (.string ⟨(t).says.toArray⟩) (.int .i64 (t).n) (.int .i64 ((t).place : Nat))) := Lib.hid ⟨by go_simp, by go_simp, by go_simp, by go_simp, by go_simp, by go_simp, by go_simp, by go_simp⟩
        have HQ4 := Lib.hid (hq3.lay hl4)
        have HK4 := Lib.hid ((HK2.out.trans hk3).trans (Lay.keep hl4))
        have HZ3 := Lib.hid hz3
        clear hq3 hk3 hl4 hz3
        simp only [tokW]
        obtain ⟨a0, a1, a2, a3, _, _, _, _⟩ := HC4.out
        go_wp2_with fail
        clear a0 a1 a2 a3
        refine (HMAY.out _).mono ?_
        rintro e w5 ⟨rfl, rfl⟩
        obtain ⟨a0, a1, a2, a3, _, _, _, _⟩ := HC4.out
        go_wp2_with fail
        clear a0 a1 a2 a3
        refine (at_run t 6 _).mono ?_
        rintro e w6 ⟨rfl, hl6⟩
        have HX6 := Lib.hid (HX4.out.carry (hl6.block (by simp; have := HZ3.out; have := HZ1.out; omega)))
        have HQ6 := Lib.hid (HQ4.out.lay hl6)
        have HK6 := Lib.hid (HK4.out.trans (Lay.keep hl6))
        clear hl6
        unfold errV
        obtain ⟨c0, c1, c2, c3, g0, g1, g2, g3⟩ := HX6.out
        go_wp2_with fail
        have hq := HX6.out.all (.int .i64 0) (.string ⟨#[]⟩) (.int .i64 0) (.int .i64 0)
        unfold Go.Proofs.YtmodiemmcdocdaaGreatDoor.stored at hq
        obtain ⟨q0, q1, q2, q3, _, _, _, _⟩ := hq
        refine bodyPost_ret (v := .tuple #[tokW SX.zeroT, .int .i64 0, errV (6, t.place)]) (by simp [results, Tryz.results82, go_sem, tokW, errV, SX.zeroT, q0, q1, q2, q3]) rfl ?_
        exact NumR.bad HR.out hPl hgl HQ6.out HK6.out
  · have hTf : isT (tk ts i) s = false := by simpa using hT
    have HM := Lib.hid (must_no P g c ts i deep s W HQ.out HE.out hTf)
    have HR : Hid (numX ts s (-1099511627776) 1099511627776 i = .error (5, (tk ts i).place)) := Lib.hid (by unfold numX PX.want; rw [if_neg hT])
    clear hT hTf
    go_enter Tryz.func82, Tryz.ntmps82
    go_wp2_with fail
    rw [HW.out]
    refine HM.out.mono ?_
    rintro e w1 ⟨rfl, ⟨i', hq1⟩, hk1⟩
    have hz1 := hk1.size
    rw [HSZ.out] at hz1
    have hl2 : Lay w1 (w1.alloc (.cells #[.int .i64 0, .string ⟨#[]⟩, .int .i64 0, .int .i64 0] 93)) := (Keep.refl _ w1).alloc _
    have HX2 := Lib.hid ((HBX.out.carry (hk1.block _ (by rw [HSZ.out]; omega) (by omega))).carry (hl2.block (by omega)))
    have HQ2 := Lib.hid (hq1.lay hl2)
    have HK2 := Lib.hid (((Lay.keep HLW.out).trans hk1).trans (Lay.keep hl2))
    clear hq1 hk1 hl2 hz1
    simp only [tokW, SX.zeroT, errV]
    obtain ⟨c0, c1, c2, c3, g0, g1, g2, g3⟩ := HX2.out
    go_wp2_with fail
    have hq := HX2.out.all (.int .i64 0) (.string ⟨#[]⟩) (.int .i64 0) (.int .i64 0)
    unfold Go.Proofs.YtmodiemmcdocdaaGreatDoor.stored at hq
    obtain ⟨q0, q1, q2, q3, _, _, _, _⟩ := hq
    refine bodyPost_ret (v := .tuple #[tokW SX.zeroT, .int .i64 0, errV (5, (tk ts i).place)]) (by simp [results, Tryz.results82, go_sem, tokW, errV, SX.zeroT, q0, q1, q2, q3]) rfl ?_
    exact NumR.bad HR.out hPl hgl HQ2.out HK2.out

set_option maxHeartbeats 4000000 in
set_option maxRecDepth 100000 in
theorem number_own_77 (P g c : Nat) (ts : List LX.Tok) (i deep : Nat) (s : List UInt8) (w : World) (h : PQS P g c ts i deep w) (he : PX.Ended ts) :
    Calls Tryz.prog 82 #[.pointer (some ⟨P, 0, none⟩), .string ⟨s.toArray⟩, .func (.func 90) #[] #[]] w (NumR P g c ts deep (numX ts s 1 50 i) w) := by
  obtain ⟨W, hW⟩ : ∃ W, W = newT w := ⟨_, rfl⟩
  have hlw := newT_lay w
  have hbx := newT_bx w
  have hsz := newT_size w
  rw [← hW] at hlw hbx hsz
  have HW := Lib.hid (show w.alloc (.cells #[.int .i64 0, .string ⟨#[]⟩, .int .i64 0, .int .i64 0] 93) = W from hW.symm)
  clear hW
  have hPl := h.cb.lt
  have hgl := h.gl
  have HQ := Lib.hid (h.lay hlw)
  have HE := Lib.hid he
  have HLW := Lib.hid hlw
  have HBX := Lib.hid hbx
  have HSZ := Lib.hid hsz
  clear he hlw hbx h hsz
  by_cases hT : isT (tk ts i) s = true
  · have HM := Lib.hid (must_ok P g c ts i deep s W HQ.out HE.out hT)
    have HR1 : Hid (numX ts s 1 50 i = match PX.number ts 1 50 (i + 1) with
      | .error e => .error e
      | .ok (n, j) => .ok ((tk ts i, n), j)) := Lib.hid (by unfold numX PX.want; rw [if_pos hT])
    clear hT
    go_enter Tryz.func82, Tryz.ntmps82
    go_wp2_with fail
    rw [HW.out]
    refine HM.out.mono ?_
    rintro e w1 ⟨rfl, hq1, hk1⟩
    have hz1 := hk1.size
    rw [HSZ.out] at hz1
    have hl2 : Lay w1 (w1.alloc (.cells #[.int .i64 ((tk ts i).kind : Nat), .string ⟨(tk ts i).says.toArray⟩, .int .i64 (tk ts i).n, .int .i64 ((tk ts i).place : Nat)] 93)) := (Keep.refl _ w1).alloc _
    have HX2 := Lib.hid ((HBX.out.carry (hk1.block _ (by rw [HSZ.out]; omega) (by omega))).carry (hl2.block (by omega)))
    have HQ2 := Lib.hid (hq1.lay hl2)
    have HK2 := Lib.hid (((Lay.keep HLW.out).trans hk1).trans (Lay.keep hl2))
    have HA2 : Hid (Bx (w1.alloc (.cells #[.int .i64 ((tk ts i).kind : Nat), .string ⟨(tk ts i).says.toArray⟩, .int .i64 (tk ts i).n, .int .i64 ((tk ts i).place : Nat)] 93)) w1.heap.size (.int .i64 ((tk ts i).kind : Nat)) (.string ⟨(tk ts i).says.toArray⟩) (.int .i64 (tk ts i).n) (.int .i64 ((tk ts i).place : Nat))) := Lib.hid ⟨by go_simp, by go_simp, by go_simp, by go_simp, by go_simp, by go_simp, by go_simp, by go_simp⟩
    have hz2 : w1.heap.size + 1 = (w1.alloc (.cells #[.int .i64 ((tk ts i).kind : Nat), .string ⟨(tk ts i).says.toArray⟩, .int .i64 (tk ts i).n, .int .i64 ((tk ts i).place : Nat)] 93)).heap.size := by simp
    have HZ1 := Lib.hid hz1
    clear hq1 hk1 hl2 hz1
    simp only [tokW]
    go_wp2_with fail
    revert HX2 HQ2 HK2 HA2 hz2
    generalize w1.alloc (.cells #[.int .i64 ((tk ts i).kind : Nat), .string ⟨(tk ts i).says.toArray⟩, .int .i64 (tk ts i).n, .int .i64 ((tk ts i).place : Nat)] 93) = w2
    intro HX2 HQ2 HK2 HA2 hz2
    have HZ2 := Lib.hid hz2
    clear hz2
    rcases hr : PX.token ts 3 (i + 1) with p | ⟨t, j⟩
    · have HT := Lib.hid (take_no P g c ts (i + 1) deep 3 w2 HQ2.out HE.out (by decide) hr)
      have HR : Hid (numX ts s 1 50 i = .error p) := Lib.hid (by rw [HR1.out]; unfold PX.number; rw [hr])
      clear hr HR1
      refine HT.out.mono ?_
      rintro e w3 ⟨rfl, ⟨i', hq3⟩, hk3⟩
      have hz3 : w1.heap.size + 1 ≤ w3.heap.size := by rw [HZ2.out]; exact hk3.size
      have hl4 : Lay w3 (w3.alloc (.cells #[.int .i64 0, .string ⟨#[]⟩, .int .i64 0, .int .i64 0] 93)) := (Keep.refl _ w3).alloc _
      have HX4 := Lib.hid ((HX2.out.carry (hk3.block _ (by rw [← HZ2.out]; have := HZ1.out; omega) (by omega))).carry (hl4.block (by have := HZ1.out; omega)))
      have HQ4 := Lib.hid (hq3.lay hl4)
      have HK4 := Lib.hid ((HK2.out.trans hk3).trans (Lay.keep hl4))
      clear hq3 hk3 hl4 hz3
      simp only [tokW, SX.zeroT, errV]
      obtain ⟨c0, c1, c2, c3, g0, g1, g2, g3⟩ := HX4.out
      go_wp2_with fail
      have hq := HX4.out.all (.int .i64 0) (.string ⟨#[]⟩) (.int .i64 0) (.int .i64 0)
      unfold Go.Proofs.YtmodiemmcdocdaaGreatDoor.stored at hq
      obtain ⟨q0, q1, q2, q3, _, _, _, _⟩ := hq
      refine bodyPost_ret (v := .tuple #[tokW SX.zeroT, .int .i64 0, errV p]) (by simp [results, Tryz.results82, go_sem, tokW, errV, SX.zeroT, q0, q1, q2, q3]) rfl ?_
      exact NumR.bad HR.out hPl hgl HQ4.out HK4.out
    · have HT := Lib.hid (take_ok P g c ts (i + 1) deep 3 w2 HQ2.out HE.out (by decide) hr)
      have ht : t = tk ts (i + 1) := by
        unfold PX.token at hr
        split at hr
        · cases hr; rfl
        · cases hr
      by_cases hm : 1 ≤ t.n ∧ t.n ≤ 50
      · have HMAY : Hid (∀ w, Calls Tryz.prog 90 #[.int .i64 t.n] w fun e w' => e = .returned (.bool true) ∧ w = w') := Lib.hid (fun w => by
          have := limit_may t.n w
          rwa [show mayB 1 50 t.n = true by unfold mayB; simp; exact hm] at this)
        have HR : Hid (numX ts s 1 50 i = .ok ((tk ts i, t.n), j)) := Lib.hid (by rw [HR1.out]; unfold PX.number; rw [hr]; dsimp only; rw [if_neg (by omega)])
        clear hr HR1 hm ht
        refine HT.out.mono ?_
        rintro e w3 ⟨rfl, hq3, hk3⟩
        have hz3 : w1.heap.size + 1 ≤ w3.heap.size := by rw [HZ2.out]; exact hk3.size
        have hl4 : Lay w3 (w3.alloc (.cells #[.int .i64 ((t).kind : Nat), .string ⟨(t).says.toArray⟩, .int .i64 (t).n, .int .i64 ((t).place : Nat)] 93)) := (Keep.refl _ w3).alloc _
        have HX4 := Lib.hid ((HX2.out.carry (hk3.block _ (by rw [← HZ2.out]; have := HZ1.out; omega) (by omega))).carry (hl4.block (by have := HZ1.out; omega)))
        have HA4 := Lib.hid ((HA2.out.carry (hk3.block _ (by rw [← HZ2.out]; omega) (by have := HZ1.out; omega))).carry (hl4.block (by omega)))
        have HC4 : Hid (Bx (w3.alloc (.cells #[.int .i64 ((t).kind : Nat), .string ⟨(t).says.toArray⟩, .int .i64 (t).n, .int .i64 ((t).place : Nat)] 93)) w3.heap.size (.int .i64 ((t).kind : Nat)) (.string ⟨(t).says.toArray⟩) (.int .i64 (t).n) (.int .i64 ((t).place : Nat))) := Lib.hid ⟨by go_simp, by go_simp, by go_simp, by go_simp, by go_simp, by go_simp, by go_simp, by go_simp⟩
        have HQ4 := Lib.hid (hq3.lay hl4)
        have HK4 := Lib.hid ((HK2.out.trans hk3).trans (Lay.keep hl4))
        have HZ3 := Lib.hid hz3
        have hne1 : ¬ w.heap.size = w1.heap.size := by have := HZ1.out; omega
        have hne2 : ¬ w.heap.size = w3.heap.size := by have := HZ1.out; omega
        have hne3 : ¬ w1.heap.size = w3.heap.size := by omega
        clear hq3 hk3 hl4 hz3
        simp only [tokW]
        obtain ⟨a0, a1, a2, a3, _, _, _, _⟩ := HC4.out
        go_wp2_with fail
        clear a0 a1 a2 a3
        refine (HMAY.out _).mono ?_
        rintro e w5 ⟨rfl, rfl⟩
        obtain ⟨c0, c1, c2, c3, g0, g1, g2, g3⟩ := HX4.out
        obtain ⟨d0, d1, d2, d3, _, _, _, _⟩ := HA4.out
        obtain ⟨a0, a1, a2, a3, _, _, _, _⟩ := HC4.out
        go_wp2_with fail
        go_region
        go_wp2_with fail
        have hq : Bx (Go.Proofs.YtmodiemmcdocdaaGreatDoor.stored (w3.alloc (.cells #[.int .i64 ((t).kind : Nat), .string ⟨(t).says.toArray⟩, .int .i64 (t).n, .int .i64 ((t).place : Nat)] 93)) w.heap.size (.int .i64 ((tk ts i).kind : Nat)) (.string ⟨(tk ts i).says.toArray⟩) (.int .i64 (tk ts i).n) (.int .i64 ((tk ts i).place : Nat))).drew w.heap.size (.int .i64 ((tk ts i).kind : Nat)) (.string ⟨(tk ts i).says.toArray⟩) (.int .i64 (tk ts i).n) (.int .i64 ((tk ts i).place : Nat)) := (HX4.out.all (.int .i64 ((tk ts i).kind : Nat)) (.string ⟨(tk ts i).says.toArray⟩) (.int .i64 (tk ts i).n) (.int .i64 ((tk ts i).place : Nat))).carry rfl
        unfold Go.Proofs.YtmodiemmcdocdaaGreatDoor.stored at hq
        obtain ⟨q0, q1, q2, q3, _, _, _, _⟩ := hq
        refine bodyPost_ret (v := .tuple #[tokW (tk ts i), .int .i64 t.n, .nilIface]) (by simp [results, Tryz.results82, go_sem, tokW, q0, q1, q2, q3]) rfl ?_
        unfold NumR
        rw [HR.out]
        exact ⟨(keep_stored HK4.out (Nat.le_refl _) _ _ _ _).drew, rfl, (PQS.stored HQ4.out (by omega) (by omega) _ _ _ _).lay (Keep.drew (Keep.refl _ _))⟩
      · have HMAY : Hid (∀ w, Calls Tryz.prog 90 #[.int .i64 t.n] w fun e w' => e = .returned (.bool false) ∧ w = w') := Lib.hid (fun w => by
          have := limit_may t.n w
          rwa [show mayB 1 50 t.n = false by unfold mayB; simp; omega] at this)
        have HR : Hid (numX ts s 1 50 i = .error (6, t.place)) := Lib.hid (by rw [HR1.out]; unfold PX.number; rw [hr]; dsimp only; rw [if_pos (by omega), ← ht])
        clear hr HR1 hm ht
        refine HT.out.mono ?_
        rintro e w3 ⟨rfl, hq3, hk3⟩
        have hz3 : w1.heap.size + 1 ≤ w3.heap.size := by rw [HZ2.out]; exact hk3.size
        have hl4 : Lay w3 (w3.alloc (.cells #[.int .i64 ((t).kind : Nat), .string ⟨(t).says.toArray⟩, .int .i64 (t).n, .int .i64 ((t).place : Nat)] 93)) := (Keep.refl _ w3).alloc _
        have HX4 := Lib.hid ((HX2.out.carry (hk3.block _ (by rw [← HZ2.out]; have := HZ1.out; omega) (by omega))).carry (hl4.block (by have := HZ1.out; omega)))
        have HC4 : Hid (Bx (w3.alloc (.cells #[.int .i64 ((t).kind : Nat), .string ⟨(t).says.toArray⟩, .int .i64 (t).n, .int .i64 ((t).place : Nat)] 93)) w3.heap.size (.int .i64 ((t).kind : Nat)) (.string ⟨(t).says.toArray⟩) (.int .i64 (t).n) (.int .i64 ((t).place : Nat))) := Lib.hid ⟨by go_simp, by go_simp, by go_simp, by go_simp, by go_simp, by go_simp, by go_simp, by go_simp⟩
        have HQ4 := Lib.hid (hq3.lay hl4)
        have HK4 := Lib.hid ((HK2.out.trans hk3).trans (Lay.keep hl4))
        have HZ3 := Lib.hid hz3
        clear hq3 hk3 hl4 hz3
        simp only [tokW]
        obtain ⟨a0, a1, a2, a3, _, _, _, _⟩ := HC4.out
        go_wp2_with fail
        clear a0 a1 a2 a3
        refine (HMAY.out _).mono ?_
        rintro e w5 ⟨rfl, rfl⟩
        obtain ⟨a0, a1, a2, a3, _, _, _, _⟩ := HC4.out
        go_wp2_with fail
        clear a0 a1 a2 a3
        refine (at_run t 6 _).mono ?_
        rintro e w6 ⟨rfl, hl6⟩
        have HX6 := Lib.hid (HX4.out.carry (hl6.block (by simp; have := HZ3.out; have := HZ1.out; omega)))
        have HQ6 := Lib.hid (HQ4.out.lay hl6)
        have HK6 := Lib.hid (HK4.out.trans (Lay.keep hl6))
        clear hl6
        unfold errV
        obtain ⟨c0, c1, c2, c3, g0, g1, g2, g3⟩ := HX6.out
        go_wp2_with fail
        have hq := HX6.out.all (.int .i64 0) (.string ⟨#[]⟩) (.int .i64 0) (.int .i64 0)
        unfold Go.Proofs.YtmodiemmcdocdaaGreatDoor.stored at hq
        obtain ⟨q0, q1, q2, q3, _, _, _, _⟩ := hq
        refine bodyPost_ret (v := .tuple #[tokW SX.zeroT, .int .i64 0, errV (6, t.place)]) (by simp [results, Tryz.results82, go_sem, tokW, errV, SX.zeroT, q0, q1, q2, q3]) rfl ?_
        exact NumR.bad HR.out hPl hgl HQ6.out HK6.out
  · have hTf : isT (tk ts i) s = false := by simpa using hT
    have HM := Lib.hid (must_no P g c ts i deep s W HQ.out HE.out hTf)
    have HR : Hid (numX ts s 1 50 i = .error (5, (tk ts i).place)) := Lib.hid (by unfold numX PX.want; rw [if_neg hT])
    clear hT hTf
    go_enter Tryz.func82, Tryz.ntmps82
    go_wp2_with fail
    rw [HW.out]
    refine HM.out.mono ?_
    rintro e w1 ⟨rfl, ⟨i', hq1⟩, hk1⟩
    have hz1 := hk1.size
    rw [HSZ.out] at hz1
    have hl2 : Lay w1 (w1.alloc (.cells #[.int .i64 0, .string ⟨#[]⟩, .int .i64 0, .int .i64 0] 93)) := (Keep.refl _ w1).alloc _
    have HX2 := Lib.hid ((HBX.out.carry (hk1.block _ (by rw [HSZ.out]; omega) (by omega))).carry (hl2.block (by omega)))
    have HQ2 := Lib.hid (hq1.lay hl2)
    have HK2 := Lib.hid (((Lay.keep HLW.out).trans hk1).trans (Lay.keep hl2))
    clear hq1 hk1 hl2 hz1
    simp only [tokW, SX.zeroT, errV]
    obtain ⟨c0, c1, c2, c3, g0, g1, g2, g3⟩ := HX2.out
    go_wp2_with fail
    have hq := HX2.out.all (.int .i64 0) (.string ⟨#[]⟩) (.int .i64 0) (.int .i64 0)
    unfold Go.Proofs.YtmodiemmcdocdaaGreatDoor.stored at hq
    obtain ⟨q0, q1, q2, q3, _, _, _, _⟩ := hq
    refine bodyPost_ret (v := .tuple #[tokW SX.zeroT, .int .i64 0, errV (5, (tk ts i).place)]) (by simp [results, Tryz.results82, go_sem, tokW, errV, SX.zeroT, q0, q1, q2, q3]) rfl ?_
    exact NumR.bad HR.out hPl hgl HQ2.out HK2.out

end Go.Proofs.YtmodiemmcdocdaaGreatDoor

namespace Go.Proofs.YtmodiemmcdocdaaGreatDoor
open Go.RowKit Go
open PX (tk isT)

/-- Of the old blocks the parser's and the query's may have turned. -/
abbrev PQ (P Q : Nat) : Nat → Prop := fun k => k = P ∨ k = Q
theorem Keep.pq {P Q : Nat} {w w' : World} (h : Keep (fun k => k = P) w w') : Keep (PQ P Q) w w' := h.into fun _ _ h => .inl h
theorem PQS.setQ {P g c : Nat} {ts : List LX.Tok} {i deep : Nat} {W : World} (h : PQS P g c ts i deep W) {Q : Nat} (h1 : Q ≠ P) (h2 : Q ≠ g) (o : Nat) (u : Value) : PQS P g c ts i deep (W.setCell ⟨Q, o, none⟩ u) :=
  h.setCell (fun e => h1 e.symm) (fun e => h2 e.symm) o u
theorem Keep.setQ {P Q : Nat} {w W : World} (h : Keep (PQ P Q) w W) (o : Nat) (u : Value) : Keep (PQ P Q) w (W.setCell ⟨Q, o, none⟩ u) := h.setCell (p := ⟨Q, o, none⟩) (.inr (.inr rfl)) u

/-- From when to when. -/
def timesX (ts : List LX.Tok) (i : Nat) : PX.PR (Int × Int) :=
  match numX ts PX.wFrom (-1099511627776) 1099511627776 i with
  | .error e => .error e
  | .ok ((_, f), j) => match numX ts PX.wTo (-1099511627776) 1099511627776 j with
    | .error e => .error e
    | .ok ((o, t), k) => if t < f then .error (7, o.place) else .ok ((f, t), k)

def TimesR (P g c : Nat) (ts : List LX.Tok) (Q : Nat) (a2 a3 a4 a5 a6 a7 a8 a9 : Value) (r : PX.PR (Int × Int)) (w : World) (e : Ending) (w' : World) : Prop :=
  Keep (PQ P Q) w w' ∧ match r with
    | .error p => e = .returned (errV p)
    | .ok ((f, t), j) => e = .returned .nilIface ∧ PQS P g c ts j 0 w' ∧ CB w' Q 28 #[.int .i64 f, .int .i64 t, a2, a3, a4, a5, a6, a7, a8, a9]

theorem num_ok {P g c : Nat} {ts : List LX.Tok} {deep : Nat} {args : Array Value} {w : World} {r : Except (Nat × Nat) ((LX.Tok × Int) × Nat)} {o : LX.Tok} {n : Int} {j : Nat} (h : Calls Tryz.prog 82 args w (NumR P g c ts deep r w)) (hr : r = .ok ((o, n), j)) :
    Calls Tryz.prog 82 args w fun e w' => e = .returned (.tuple #[tokW o, .int .i64 n, .nilIface]) ∧ PQS P g c ts j deep w' ∧ Keep (fun k => k = P) w w' := by
  subst hr
  exact h.mono fun e w' ⟨a, b, d⟩ => ⟨b, d, a⟩
theorem num_no {P g c : Nat} {ts : List LX.Tok} {deep : Nat} {args : Array Value} {w : World} {r : Except (Nat × Nat) ((LX.Tok × Int) × Nat)} {p : Nat × Nat} (h : Calls Tryz.prog 82 args w (NumR P g c ts deep r w)) (hr : r = .error p) :
    Calls Tryz.prog 82 args w fun e w' => e = .returned (.tuple #[tokW SX.zeroT, .int .i64 0, errV p]) ∧ Keep (fun k => k = P) w w' := by
  subst hr
  exact h.mono fun e w' ⟨a, b, d⟩ => ⟨b, a⟩

set_option maxHeartbeats 4000000 in
set_option maxRecDepth 100000 in
theorem times_own (P g c : Nat) (ts : List LX.Tok) (i Q : Nat) (a0 a1 a2 a3 a4 a5 a6 a7 a8 a9 : Value) (w : World) (h : PQS P g c ts i 0 w) (he : PX.Ended ts) (hQ : CB w Q 28 #[a0, a1, a2, a3, a4, a5, a6, a7, a8, a9]) (h1 : Q ≠ P) (h2 : Q ≠ g) :
    Calls Tryz.prog 49 #[.pointer (some ⟨P, 0, none⟩), .pointer (some ⟨Q, 0, none⟩)] w (TimesR P g c ts Q a2 a3 a4 a5 a6 a7 a8 a9 (timesX ts i) w) := by
  have hPl := h.cb.lt
  have hQl := hQ.lt
  have HE := Lib.hid he
  have HCB := Lib.hid hQ
  rcases hr : numX ts PX.wFrom (-1099511627776) 1099511627776 i with p | ⟨⟨o1, f⟩, j⟩
  · have HN := Lib.hid (num_no (show Calls Tryz.prog 82 #[.pointer (some ⟨P, 0, none⟩), .string ⟨#[102, 114, 111, 109]⟩, .func (.func 83) #[] #[]] w (NumR P g c ts 0 (numX ts PX.wFrom (-1099511627776) 1099511627776 i) w) from number_own_70 P g c ts i 0 PX.wFrom w h he) hr)
    have HR : Hid (timesX ts i = .error p) := Lib.hid (by unfold timesX; rw [hr])
    clear hr h he hQ
    go_enter Tryz.func49, Tryz.ntmps49
    go_wp2_with fail
    refine HN.out.mono ?_
    rintro e w1 ⟨rfl, hk1⟩
    have HK := Lib.hid ((Keep.pq (Q := Q) hk1).alloc (.cells #[.int .i64 0, .string ⟨#[]⟩, .int .i64 0, .int .i64 0] 93))
    clear hk1
    simp only [tokW, SX.zeroT, errV]
    go_wp2_with fail
    go_ret
    unfold TimesR
    rw [HR.out]
    exact ⟨HK.out, rfl⟩
  · have HN := Lib.hid (num_ok (show Calls Tryz.prog 82 #[.pointer (some ⟨P, 0, none⟩), .string ⟨#[102, 114, 111, 109]⟩, .func (.func 83) #[] #[]] w (NumR P g c ts 0 (numX ts PX.wFrom (-1099511627776) 1099511627776 i) w) from number_own_70 P g c ts i 0 PX.wFrom w h he) hr)
    have HR1 : Hid (timesX ts i = match numX ts PX.wTo (-1099511627776) 1099511627776 j with
      | .error e => .error e
      | .ok ((o, t), k) => if t < f then .error (7, o.place) else .ok ((f, t), k)) := Lib.hid (by unfold timesX; rw [hr])
    clear hr h he hQ
    go_enter Tryz.func49, Tryz.ntmps49
    go_wp2_with fail
    refine HN.out.mono ?_
    rintro e w1 ⟨rfl, hq1, hk1⟩
    have hl : Lay w1 (w1.alloc (.cells #[.int .i64 ((o1).kind : Nat), .string ⟨(o1).says.toArray⟩, .int .i64 (o1).n, .int .i64 ((o1).place : Nat)] 93)) := (Keep.refl _ w1).alloc _
    have HC2 := Lib.hid ((HCB.out.keep hk1 h1).keep hl (fun h => h))
    have HQ2 := Lib.hid (hq1.lay hl)
    have HK2 := Lib.hid ((Keep.pq (Q := Q) hk1).trans (Lay.keep hl))
    clear hq1 hk1 hl
    simp only [tokW]
    go_wp2_with fail
    revert HC2 HQ2 HK2
    generalize w1.alloc (.cells #[.int .i64 ((o1).kind : Nat), .string ⟨(o1).says.toArray⟩, .int .i64 (o1).n, .int .i64 ((o1).place : Nat)] 93) = w2
    intro HC2 HQ2 HK2
    rcases hr : numX ts PX.wTo (-1099511627776) 1099511627776 j with p | ⟨⟨o2, t⟩, k⟩
    · have HN2 := Lib.hid (num_no (show Calls Tryz.prog 82 #[.pointer (some ⟨P, 0, none⟩), .string ⟨#[116, 111]⟩, .func (.func 83) #[] #[]] w2 (NumR P g c ts 0 (numX ts PX.wTo (-1099511627776) 1099511627776 j) w2) from number_own_70 P g c ts j 0 PX.wTo w2 HQ2.out HE.out) hr)
      have HR : Hid (timesX ts i = .error p) := Lib.hid (by rw [HR1.out, hr])
      clear hr HR1
      refine HN2.out.mono ?_
      rintro e w3 ⟨rfl, hk3⟩
      have HK := Lib.hid ((HK2.out.trans (Keep.pq hk3)).alloc (.cells #[.int .i64 0, .string ⟨#[]⟩, .int .i64 0, .int .i64 0] 93))
      clear hk3
      simp only [tokW, SX.zeroT, errV]
      go_wp2_with fail
      go_ret
      unfold TimesR
      rw [HR.out]
      exact ⟨HK.out, rfl⟩
    · have HN2 := Lib.hid (num_ok (show Calls Tryz.prog 82 #[.pointer (some ⟨P, 0, none⟩), .string ⟨#[116, 111]⟩, .func (.func 83) #[] #[]] w2 (NumR P g c ts 0 (numX ts PX.wTo (-1099511627776) 1099511627776 j) w2) from number_own_70 P g c ts j 0 PX.wTo w2 HQ2.out HE.out) hr)
      have HR2 : Hid (timesX ts i = if t < f then .error (7, o2.place) else .ok ((f, t), k)) := Lib.hid (by rw [HR1.out, hr])
      clear hr HR1
      refine HN2.out.mono ?_
      rintro e w3 ⟨rfl, hq3, hk3⟩
      have hl : Lay w3 (w3.alloc (.cells #[.int .i64 ((o2).kind : Nat), .string ⟨(o2).says.toArray⟩, .int .i64 (o2).n, .int .i64 ((o2).place : Nat)] 93)) := (Keep.refl _ w3).alloc _
      have HC4 := Lib.hid ((HC2.out.keep hk3 h1).keep hl (fun h => h))
      have HQ4 := Lib.hid (hq3.lay hl)
      have HK4 := Lib.hid ((HK2.out.trans (Keep.pq hk3)).trans (Lay.keep hl))
      have HA4 : Hid (Bx (w3.alloc (.cells #[.int .i64 ((o2).kind : Nat), .string ⟨(o2).says.toArray⟩, .int .i64 (o2).n, .int .i64 ((o2).place : Nat)] 93)) w3.heap.size (.int .i64 ((o2).kind : Nat)) (.string ⟨(o2).says.toArray⟩) (.int .i64 (o2).n) (.int .i64 ((o2).place : Nat))) := Lib.hid ⟨by go_simp, by go_simp, by go_simp, by go_simp, by go_simp, by go_simp, by go_simp, by go_simp⟩
      clear hq3 hk3 hl
      simp only [tokW]
      by_cases ht : t < f
      · have hd : decide (t < f) = true := by simpa using ht
        have HR : Hid (timesX ts i = .error (7, o2.place)) := Lib.hid (by rw [HR2.out, if_pos ht])
        clear HR2 ht
        obtain ⟨b0, b1, b2, b3, _, _, _, _⟩ := HA4.out
        go_wp2_with fail
        clear b0 b1 b2 b3
        refine (at_run o2 7 _).mono ?_
        rintro e w5 ⟨rfl, hl5⟩
        have HK := Lib.hid (HK4.out.trans (Lay.keep hl5))
        clear hl5
        unfold errV
        go_wp2_with fail
        go_ret
        unfold TimesR
        rw [HR.out]
        exact ⟨HK.out, rfl⟩
      · have hd : decide (t < f) = false := by simpa using ht
        have HR : Hid (timesX ts i = .ok ((f, t), k)) := Lib.hid (by rw [HR2.out, if_neg ht])
        clear HR2 ht
        have c0 := HC4.out.cell 0
        have c1 := HC4.out.cell 1
        have g0 := HC4.out.frozen 0
        have g1 := HC4.out.frozen 1
        go_wp2_with fail
        go_ret
        unfold TimesR
        rw [HR.out]
        exact ⟨(HK4.out.setQ 0 _).setQ 1 _, rfl, (HQ4.out.setQ h1 h2 0 _).setQ h1 h2 1 _, (HC4.out.set 0 _).set 1 _⟩

end Go.Proofs.YtmodiemmcdocdaaGreatDoor
