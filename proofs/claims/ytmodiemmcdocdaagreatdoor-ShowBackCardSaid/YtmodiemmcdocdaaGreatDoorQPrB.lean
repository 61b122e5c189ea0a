/-
  PACKAGE parse: row, whatever it is a row of.
  PACKAGE parse: row, of ands.
  PACKAGE parse: within.
  PACKAGE parse: and, or, not, bracket.
-/
import Derived.Test.YtmodiemmcdocdaaGreatDoorQPrA
import Derived.Test.YtmodiemmcdocdaaGreatDoorQMkA
import Derived.Defers
namespace Go.Proofs.YtmodiemmcdocdaaGreatDoor
open Go.RowKit Go
open PX (tk isT)

def lenS : Value → Nat
  | .slice _ n _ => n
  | _ => 0

/-- The rest of a row, behind those that are there. -/
def rowX (ts : List LX.Tok) (s : List UInt8) (op : Int) (one : Nat → PX.PR Ft) (R : List Ft) (f i : Nat) : PX.PR Ft :=
  match PX.rest ts s one f i with
  | .error e => .error e
  | .ok (l, k) => .ok (PX.join op (R ++ l), k)

theorem rowX_no {ts : List LX.Tok} {s : List UInt8} {op : Int} {one : Nat → PX.PR Ft} {R : List Ft} {f i : Nat} (h : isT (tk ts i) s = false) : rowX ts s op one R f i = .ok (PX.join op R, i) := by
  unfold rowX
  cases f with
  | zero => simp [PX.rest]
  | succ f => rw [PX.rest, if_neg (by rw [h]; decide)]; simp
theorem rowX_bad {ts : List LX.Tok} {s : List UInt8} {op : Int} {one : Nat → PX.PR Ft} {R : List Ft} {f i : Nat} (h : isT (tk ts i) s = true) {p : Nat × Nat} (hr : one (i + 1) = .error p) : rowX ts s op one R (f + 1) i = .error p := by
  unfold rowX
  rw [PX.rest, if_pos h, hr]
theorem rowX_yes {ts : List LX.Tok} {s : List UInt8} {op : Int} {one : Nat → PX.PR Ft} {R : List Ft} {f i : Nat} (h : isT (tk ts i) s = true) {x : Ft} {j : Nat} (hr : one (i + 1) = .ok (x, j)) : rowX ts s op one R (f + 1) i = rowX ts s op one (R ++ [x]) f j := by
  unfold rowX
  rw [PX.rest, if_pos h, hr]
  dsimp only
  rcases PX.rest ts s one f j with e | ⟨l, k⟩
  · rfl
  · simp
theorem row_bad {ts : List LX.Tok} {s : List UInt8} {op : Int} {one : Nat → PX.PR Ft} {i : Nat} {p : Nat × Nat} (hr : one i = .error p) : PX.row ts s op one i = .error p := by
  unfold PX.row
  rw [hr]
theorem row_good {ts : List LX.Tok} {s : List UInt8} {op : Int} {one : Nat → PX.PR Ft} {i : Nat} {x : Ft} {j : Nat} (hr : one i = .ok (x, j)) : PX.row ts s op one i = rowX ts s op one [x] ts.length j := by
  unfold PX.row rowX
  rw [hr]
  rfl

set_option maxHeartbeats 8000000 in
set_option maxRecDepth 100000 in
theorem row_own_113 (P g c : Nat) (ts : List LX.Tok) (deep : Nat) (s : List UInt8) (op : Int) (one : Nat → PX.PR Ft) (he : PX.Ended ts) (hfew : ts.length ≤ 1100)
    (hgo : ∀ i x j, one i = .ok (x, j) → i + 1 ≤ j)
    (IH : ∀ i w, PQS P g c ts i deep w → Calls Tryz.prog 135 #[.pointer (some ⟨P, 0, none⟩)] w (OneQ P g c ts deep (one i) w))
    (i : Nat) (w : World) (h : PQS P g c ts i deep w) :
    Calls Tryz.prog 117 #[.pointer (some ⟨P, 0, none⟩), .string ⟨s.toArray⟩, .int .i64 op, .func (.func 135) #[.pointer (some ⟨P, 0, none⟩)] #[]] w (OneQ P g c ts deep (PX.row ts s op one i) w) := by
  obtain ⟨W, hW⟩ : ∃ W, W = newF w := ⟨_, rfl⟩
  have hlw := newF_lay w
  have hbx := newF_bx w
  have hsz := newF_size w
  rw [← hW] at hlw hbx hsz
  have HW := Lib.hid (show w.alloc (.cells #[.int .i64 0, .string ⟨#[]⟩, .string ⟨#[]⟩, .slice none 0 0] 26) = W from hW.symm)
  clear hW
  have hPl := h.cb.lt
  have hgl := h.gl
  have HE := Lib.hid he
  have HFEW := Lib.hid hfew
  have HGO := Lib.hid hgo
  have HIH := Lib.hid IH
  have HIH1 := Lib.hid (IH i W (h.lay hlw))
  have HLW := Lib.hid hlw
  have HBX := Lib.hid hbx
  have HSZ := Lib.hid hsz
  clear he hlw hbx h hsz hfew hgo IH
  obtain ⟨FIN, hFIN⟩ : ∃ FIN, FIN = PX.row ts s op one i := ⟨_, rfl⟩
  rw [← hFIN]
  have HFIN := Lib.hid hFIN
  clear hFIN
  go_enter Tryz.func117, Tryz.ntmps117
  go_wp2_with fail
  rw [HW.out]
  refine HIH1.out.mono ?_
  rintro e w1 ⟨hk1, ho1⟩
  have hz1 := hk1.size
  rw [HSZ.out] at hz1
  have HX1 := Lib.hid (HBX.out.carry (hk1.block _ (by rw [HSZ.out]; omega) (by omega)))
  have HK1 := Lib.hid ((Lay.keep HLW.out).trans hk1)
  clear hk1 HIH1
  revert ho1
  rcases hr : one i with p | ⟨X1, j1⟩
  · have HR : Hid (FIN = .error p) := Lib.hid (by rw [HFIN.out, row_bad hr])
    clear hr
    rintro ⟨rfl, i', hq1⟩
    have HX2 := Lib.hid (HX1.out.carry (Below.heap_alloc w1 (.cells #[.int .i64 0, .string ⟨#[]⟩, .string ⟨#[]⟩, .slice none 0 0] 26) w.heap.size (by omega)))
    have HQ2 := Lib.hid (hq1.lay ((Keep.refl _ w1).alloc (.cells #[.int .i64 0, .string ⟨#[]⟩, .string ⟨#[]⟩, .slice none 0 0] 26)))
    have HK2 := Lib.hid (HK1.out.alloc (.cells #[.int .i64 0, .string ⟨#[]⟩, .string ⟨#[]⟩, .slice none 0 0] 26))
    have HZ1 := Lib.hid hz1
    clear hq1 hz1
    simp only [zeroF, errV]
    obtain ⟨c0, c1, c2, c3, g0, g1, g2, g3⟩ := HX2.out
    go_wp2_with fail
    have hq := HX2.out.all (.int .i64 0) (.string ⟨#[]⟩) (.string ⟨#[]⟩) (.slice none 0 0)
    unfold Go.Proofs.YtmodiemmcdocdaaGreatDoor.stored at hq
    obtain ⟨q0, q1, q2, q3, _, _, _, _⟩ := hq
    refine bodyPost_ret (v := .tuple #[zeroF, errV p]) (by simp [results, Tryz.results117, go_sem, zeroF, errV, q0, q1, q2, q3]) rfl ?_
    exact OneQ.bad HR.out hPl hgl HQ2.out HK2.out (Nat.le_refl _)
  · have HR1 : Hid (FIN = rowX ts s op one [X1] ts.length j1) := Lib.hid (by rw [HFIN.out, row_good hr])
    have HJ1 := Lib.hid (HGO.out i X1 j1 hr)
    clear hr
    rintro ⟨kv1, rfl, hkb1, hq1⟩
    obtain ⟨a1, c1, rfl⟩ := hkb1.shape
    have hl2 : Lay w1 (w1.alloc (.cells #[.int .i64 X1.op, .string X1.name, .string X1.text, .slice a1 X1.kids.length c1] 26)) := (Keep.refl _ w1).alloc _
    have HX2 := Lib.hid (HX1.out.carry (hl2.block (by omega)))
    have HQ2 := Lib.hid (hq1.lay hl2)
    have HK2 := Lib.hid (HK1.out.trans (Lay.keep hl2))
    have HF2 : Hid (Bx (w1.alloc (.cells #[.int .i64 X1.op, .string X1.name, .string X1.text, .slice a1 X1.kids.length c1] 26)) w1.heap.size (.int .i64 X1.op) (.string X1.name) (.string X1.text) (.slice a1 X1.kids.length c1)) := Lib.hid ⟨by go_simp, by go_simp, by go_simp, by go_simp, by go_simp, by go_simp, by go_simp, by go_simp⟩
    have HB2 : Hid (KsB (fun b => w.heap.size + 1 ≤ b ∧ b < w1.heap.size) (w1.alloc (.cells #[.int .i64 X1.op, .string X1.name, .string X1.text, .slice a1 X1.kids.length c1] 26)) (.slice a1 X1.kids.length c1) X1) := Lib.hid (by
      refine KsB.keep hl2.size (fun b _ hlt => hl2.block hlt) _ _ (KsB.mono (fun b hlt hb => ⟨?_, hlt⟩) _ _ hkb1)
      rw [HSZ.out] at hb
      exact hb)
    have HZ2 : Hid (w1.heap.size + 1 = (w1.alloc (.cells #[.int .i64 X1.op, .string X1.name, .string X1.text, .slice a1 X1.kids.length c1] 26)).heap.size) := Lib.hid (by simp)
    have HZ1 := Lib.hid hz1
    clear hkb1 hq1 hl2 HX1 HK1 hz1
    simp only [Ft.val]
    go_wp2_with fail
    revert HX2 HQ2 HK2 HF2 HB2 HZ2
    generalize w1.alloc (.cells #[.int .i64 X1.op, .string X1.name, .string X1.text, .slice a1 X1.kids.length c1] 26) = w2
    intro HX2 HQ2 HK2 HF2 HB2 HZ2
    by_cases hy : isT (tk ts j1) s = true
    · refine (is_run P g c ts j1 deep s w2 HQ2.out true hy).mono ?_
      rintro e w3 ⟨rfl, hl3⟩
      have HYY := Lib.hid hy
      clear hy
      have hz3 := hl3.size
      rw [← HZ2.out] at hz3
      have hz31 : w.heap.size + 1 ≤ w3.heap.size := by have := HZ1.out; omega
      have hl4 : Lay w3 ((w3.alloc (.cells #[.int .i64 X1.op, .string X1.name, .string X1.text, .slice a1 X1.kids.length c1] 26)).alloc (.cells #[.int .i64 op, .string ⟨#[]⟩, .string ⟨#[]⟩, .slice (some ⟨w3.heap.size, 0, none⟩) 1 1] 26)) := ((Keep.refl _ w3).alloc _).alloc _
      have HF3 := Lib.hid (HF2.out.carry (hl3.block (by rw [← HZ2.out]; omega)))
      have HX4 := Lib.hid ((HX2.out.carry (hl3.block (by rw [← HZ2.out]; have := HZ1.out; omega))).carry (hl4.block (by omega)))
      have HQ4 := Lib.hid ((HQ2.out.lay hl3).lay hl4)
      have HK4 := Lib.hid ((HK2.out.trans (Lay.keep hl3)).trans (Lay.keep hl4))
      have HT4 : Hid (Bx ((w3.alloc (.cells #[.int .i64 X1.op, .string X1.name, .string X1.text, .slice a1 X1.kids.length c1] 26)).alloc (.cells #[.int .i64 op, .string ⟨#[]⟩, .string ⟨#[]⟩, .slice (some ⟨w3.heap.size, 0, none⟩) 1 1] 26)) (w3.heap.size + 1) (.int .i64 op) (.string ⟨#[]⟩) (.string ⟨#[]⟩) (.slice (some ⟨w3.heap.size, 0, none⟩) 1 1)) := Lib.hid ⟨by go_simp, by go_simp, by go_simp, by go_simp, by go_simp, by go_simp, by go_simp, by go_simp⟩
      have HR4 := Lib.hid (((rk_new 4 w3 1 [.int .i64 X1.op, .string X1.name, .string X1.text, .slice a1 X1.kids.length c1] 26 rfl (by omega)).mono (G' := fun b => w.heap.size + 1 ≤ b) (fun b hb _ => by omega)).alloc (.cells #[.int .i64 op, .string ⟨#[]⟩, .string ⟨#[]⟩, .slice (some ⟨w3.heap.size, 0, none⟩) 1 1] 26))
      have HB4 : Hid (KsB (fun b => w.heap.size + 1 ≤ b ∧ b ≠ w3.heap.size + 1 ∧ ¬ At (.slice (some ⟨w3.heap.size, 0, none⟩) 1 1) b) ((w3.alloc (.cells #[.int .i64 X1.op, .string X1.name, .string X1.text, .slice a1 X1.kids.length c1] 26)).alloc (.cells #[.int .i64 op, .string ⟨#[]⟩, .string ⟨#[]⟩, .slice (some ⟨w3.heap.size, 0, none⟩) 1 1] 26)) (.slice a1 X1.kids.length c1) X1) := Lib.hid (by
        refine KsB.mono (G := fun b => w.heap.size + 1 ≤ b ∧ b < w1.heap.size) (fun b _ hb => ⟨hb.1, by omega, fun ⟨n, c, e⟩ => ?_⟩) _ _ (KsB.keep (Nat.le_trans hl3.size hl4.size) (fun b _ hlt => (hl4.block (Nat.lt_of_lt_of_le hlt hl3.size)).trans (hl3.block hlt)) _ _ HB2.out)
        have hbl := hb.2
        injection e with e1 _ _
        injection e1 with e2
        injection e2 with e3 _ _
        omega)
      have HZ4 : Hid (w3.heap.size + 1 + 1 ≤ ((w3.alloc (.cells #[.int .i64 X1.op, .string X1.name, .string X1.text, .slice a1 X1.kids.length c1] 26)).alloc (.cells #[.int .i64 op, .string ⟨#[]⟩, .string ⟨#[]⟩, .slice (some ⟨w3.heap.size, 0, none⟩) 1 1] 26)).heap.size) := Lib.hid (by simp)
      have HZ3 := Lib.hid hz31
      clear hl3 hl4 hz3 HX2 HQ2 HK2 HF2 HB2
      obtain ⟨d0, d1, d2, d3, _, _, _, _⟩ := HF3.out
      go_wp2_with fail
      clear d0 d1 d2 d3
      go_loopw [] (fun wr => ∃ (ir : Nat) (R : List (Value × Ft)) (f : Nat) (au : Option Addr) (cu : Nat), 1 ≤ R.length ∧ FIN = rowX ts s op one (R.map (·.2)) f ir ∧ Bx wr (w3.heap.size + 1) (.int .i64 op) (.string ⟨#[]⟩) (.string ⟨#[]⟩) (.slice au R.length cu) ∧
        Rk 4 (fun b => w.heap.size + 1 ≤ b) wr (.slice au R.length cu) R.length (flatK R) ∧ (∀ p ∈ R, KsB (fun b => w.heap.size + 1 ≤ b ∧ b ≠ w3.heap.size + 1 ∧ ¬ At (.slice au R.length cu) b) wr p.1 p.2) ∧ ¬ At (.slice au R.length cu) (w3.heap.size + 1) ∧
        PQS P g c ts ir deep wr ∧ Keep (fun k => k = P) w wr ∧ Bx wr w.heap.size (.int .i64 0) (.string ⟨#[]⟩) (.string ⟨#[]⟩) (.slice none 0 0) ∧ w3.heap.size + 1 + 1 ≤ wr.heap.size ∧ ts.length ≤ ir + f ∧ 2 * R.length ≤ ir + 1 ∧ (R.length = 1 → isT (tk ts ir) s = true)) (fun wr => lenS ((wr.cell? ⟨P, 0, none⟩).getD undef))
      case atStart =>
        refine ⟨j1, [(.slice a1 X1.kids.length c1, X1)], ts.length, some ⟨w3.heap.size, 0, none⟩, 1, by simp, HR1.out, HT4.out, HR4.out, fun p hp => by rw [List.mem_singleton] at hp; subst hp; exact HB4.out, fun ⟨n, c, e⟩ => ?_, HQ4.out, HK4.out, HX4.out, HZ4.out, by omega, by have := HJ1.out; simp; omega, fun _ => HYY.out⟩
        injection e with e1 _ _
        injection e1 with e2
        injection e2 with e3 _ _
        omega
      case round =>
        obtain ⟨ir, R, f, au, cu, hR1, hfin, hbt, hrk, hkb, hnt, hqs, hkp, hbx, hwr, hf, hb1, hn1⟩ := hrel
        have HRK := Lib.hid hrk
        have HKB := Lib.hid hkb
        have HQS := Lib.hid hqs
        have HKP := Lib.hid hkp
        have HBX := Lib.hid hbx
        have HBT := Lib.hid hbt
        have HFN := Lib.hid hfin
        have HNT := Lib.hid hnt
        have HN1 := Lib.hid hn1
        have HWR := Lib.hid hwr
        have HF := Lib.hid hf
        have HB1 := Lib.hid hb1
        have HR1' := Lib.hid hR1
        have hil := hqs.lt
        have HIL := Lib.hid hil
        clear hfin hrk hkb hkp hbx hbt hnt hn1 hqs HX4 HQ4 HK4 HT4 HR4 HB4 HZ4 HR1 HFIN hwr hf hb1 hR1 hil hz31
        by_cases hy : isT (tk ts ir) s = true
        · have HT := Lib.hid (skip_run P g c ts ir deep s wr HQS.out HE.out true (ir + 1) hy rfl)
          have HY := Lib.hid hy
          clear hy
          obtain ⟨f', rfl⟩ : ∃ f', f = f' + 1 := ⟨f - 1, by have := HF.out; have := HIL.out; omega⟩
          go_wp2_with fail
          refine HT.out.mono ?_
          rintro e w5 ⟨rfl, hq5, hk5⟩
          have HI5 := Lib.hid (HIH.out (ir + 1) w5 hq5)
          have HK5 := Lib.hid hk5
          clear hq5 hk5 HT
          go_wp2_with fail
          refine HI5.out.mono ?_
          rintro e w6 ⟨hk6, ho6⟩
          have HK6 := Lib.hid (HK5.out.trans hk6)
          have HW5 := Lib.hid HK5.out.size
          clear hk6 HI5 HK5
          revert ho6
          rcases hr : one (ir + 1) with p | ⟨X2, j2⟩
          · have HRR : Hid (FIN = .error p) := Lib.hid (by rw [HFN.out, rowX_bad HY.out hr])
            clear hr
            rintro ⟨rfl, i', hq6⟩
            have hz6 : wr.heap.size ≤ w6.heap.size := HK6.out.size
            have HX7 := Lib.hid ((HBX.out.carry (HK6.out.block w.heap.size (by have := HWR.out; have := HZ3.out; omega) (by omega))).carry (Below.heap_alloc w6 (.cells #[.int .i64 0, .string ⟨#[]⟩, .string ⟨#[]⟩, .slice none 0 0] 26) w.heap.size (by have := HWR.out; have := HZ3.out; omega)))
            have HQ7 := Lib.hid (hq6.lay ((Keep.refl _ w6).alloc (.cells #[.int .i64 0, .string ⟨#[]⟩, .string ⟨#[]⟩, .slice none 0 0] 26)))
            have HK7 := Lib.hid ((HKP.out.trans HK6.out).alloc (.cells #[.int .i64 0, .string ⟨#[]⟩, .string ⟨#[]⟩, .slice none 0 0] 26))
            clear hq6 hz6
            simp only [zeroF, errV]
            obtain ⟨c0, c1, c2, c3, g0, g1, g2, g3⟩ := HX7.out
            go_wp2_with fail
            have hq := HX7.out.all (.int .i64 0) (.string ⟨#[]⟩) (.string ⟨#[]⟩) (.slice none 0 0)
            unfold Go.Proofs.YtmodiemmcdocdaaGreatDoor.stored at hq
            obtain ⟨q0, q1, q2, q3, _, _, _, _⟩ := hq
            refine bodyPost_ret (v := .tuple #[zeroF, errV p]) (by simp [results, Tryz.results117, go_sem, zeroF, errV, q0, q1, q2, q3]) rfl ?_
            exact OneQ.bad HRR.out hPl hgl HQ7.out HK7.out (Nat.le_refl _)
          · have HRR : Hid (FIN = rowX ts s op one ((R ++ [((.slice none 0 0 : Value), X2)]).map (·.2)) f' j2) := Lib.hid (by rw [HFN.out, rowX_yes HY.out hr]; simp)
            have HJ2 := Lib.hid (HGO.out _ _ _ hr)
            clear hr
            rintro ⟨kv2, rfl, hkb6, hq6⟩
            obtain ⟨ak, ck, rfl⟩ := hkb6.shape
            simp only [Ft.val]
            have hz6 : wr.heap.size ≤ w6.heap.size := HK6.out.size
            have hzr : w3.heap.size + 1 + 1 ≤ wr.heap.size := HWR.out
            have hz31 : w.heap.size + 1 ≤ w3.heap.size := HZ3.out
            have hl7 : Lay w6 (w6.alloc (.cells #[.int .i64 X2.op, .string X2.name, .string X2.text, .slice ak X2.kids.length ck] 26)) := (Keep.refl _ w6).alloc _
            have hs7 : (w6.alloc (.cells #[.int .i64 X2.op, .string X2.name, .string X2.text, .slice ak X2.kids.length ck] 26)).heap.size = w6.heap.size + 1 := by simp
            have hrk7 := (HRK.out.keep HK6.out (fun b hb _ _ => by omega)).lay hl7
            have hrn : R.length ≤ 1000 := by have := HFEW.out; have := HB1.out; have := HIL.out; omega
            obtain ⟨a8, c8, w8, hrun, hrk8, hk8⟩ := app_kid hrk7 (by rw [hs7]; omega) hrn (.slice ak X2.kids.length ck, X2) rfl
            rw [hs7] at hrun hrk8
            have hu : ∀ b, At (.slice au R.length cu) b → w.heap.size + 1 ≤ b ∧ b < wr.heap.size ∧ b ≠ w3.heap.size + 1 := fun b ha => ⟨(HRK.out.at ha).1, (HRK.out.at ha).2, fun e => HNT.out (e ▸ ha)⟩
            have hu8 : ∀ b, At (.slice a8 (R.length + 1) c8) b → At (.slice au R.length cu) b ∨ w6.heap.size + 1 + 1 ≤ b := fun b ha => (hrk8.at ha).1.2
            have hoth : ∀ b, b < w6.heap.size → ¬ At (.slice au R.length cu) b → w8.heap[b]? = w6.heap[b]? := fun b hb ha =>
              (hk8.block b (by simp; omega) ha).trans ((Below.heap_alloc _ _ _ (by simp; omega)).trans (Below.heap_alloc _ _ _ hb))
            have hz8 : w6.heap.size + 1 + 1 ≤ w8.heap.size := by have := hk8.size; simp at this; omega
            have HT7 := (HBT.out.carry (HK6.out.block (w3.heap.size + 1) (by omega) (by omega))).carry (hl7.block (by omega))
            have HT8 := (HBT.out.carry (HK6.out.block (w3.heap.size + 1) (by omega) (by omega))).carry (hoth (w3.heap.size + 1) (by omega) HNT.out)
            have HX8 := Lib.hid ((HBX.out.carry (HK6.out.block w.heap.size (by omega) (by omega))).carry (hoth w.heap.size (by omega) (fun ha => by have := (hu _ ha).1; omega)))
            have hkp8 : Keep (fun k => k = P) w w8 := (((HKP.out.trans HK6.out).alloc _).alloc _).over hk8 (fun b ha => by have := (hu b ha).1; omega)
            have hq8 : PQS P g c ts j2 deep w8 := ⟨(hoth P (by omega) (fun ha => by have := (hu _ ha).1; omega)).trans hq6.cb, hq6.ne, by omega, fun j hj => (World.cell?_of_block (a := ⟨g, j, none⟩) (hoth g (by omega) (fun ha => by have := (hu _ ha).1; omega))).trans (hq6.tok j hj), hq6.lt, hq6.cap, hq6.low⟩
            have HQ8 := Lib.hid hq8
            have HKP8 := Lib.hid hkp8
            have HKB6 := Lib.hid hkb6
            have HRUN := Lib.hid hrun
            have HRK8 := Lib.hid hrk8
            have HU := Lib.hid hu
            have HU8 := Lib.hid hu8
            have HOTH := Lib.hid hoth
            have HZ8 := Lib.hid hz8
            have HT8' := Lib.hid HT8
            have HZ6 := Lib.hid hz6
            have HZR := Lib.hid hzr
            clear hq6 hq8 hkp8 hkb6 hrun hrk8 hu hu8 hoth hz8 hrk7 hl7 hs7 hk8 hz6 hzr hz31 hrn
            obtain ⟨_, _, _, d3, _, _, _, _⟩ := HT7
            obtain ⟨e0, e1, e2, e3, _, _, _, g3⟩ := HT8
            go_wp2_with (at_builtin; refine wpList_append_run rfl _ _ _ rfl rfl rfl HRUN.out ?_)
            clear d3 e0 e1 e2 e3 g3
            have hz8 := HZ8.out
            have hz6 := HZ6.out
            have hzr := HZR.out
            have hz31 := HZ3.out
            have hu := HU.out
            have hu8 := HU8.out
            have hoth := HOTH.out
            have hsc : ∀ b, b ≠ w3.heap.size + 1 → (w8.setCell ⟨w3.heap.size + 1, 3, none⟩ (.slice a8 (R.length + 1) c8)).heap[b]? = w8.heap[b]? := fun b hb => Below.heap_setCell w8 ⟨w3.heap.size + 1, 3, none⟩ _ b hb
            have hss : (w8.setCell ⟨w3.heap.size + 1, 3, none⟩ (.slice a8 (R.length + 1) c8)).heap.size = w8.heap.size := by simp [World.setCell]
            have hbd := HB1.out
            have hj2 := HJ2.out
            have hff := HF.out
            refine ⟨⟨j2, R ++ [((.slice ak X2.kids.length ck : Value), X2)], f', a8, c8, by simp, ?_, ?_, ?_, ?_, ?_, PQS.setCell HQ8.out (by omega) (by omega) _ _, HKP8.out.setCell (p := ⟨w3.heap.size + 1, 3, none⟩) (.inl (by show w.heap.size ≤ w3.heap.size + 1; omega)) _, HX8.out.carry (hsc _ (by omega)), by omega, by omega, by simp; omega, fun h => by rw [List.length_append, List.length_singleton] at h; have := HR1'.out; omega⟩, ?_⟩
            · rw [HRR.out]; simp
            · have := HT8'.out.set3 (.slice a8 (R.length + 1) c8)
              simpa using this
            · have := HRK8.out.carry (w' := w8.setCell ⟨w3.heap.size + 1, 3, none⟩ (.slice a8 (R.length + 1) c8)) (by omega) (fun b hb ha _ => hsc b (by rcases hb.2 with h | h; exact (hu b h).2.2; omega))
              have h2 := this.mono (G' := fun b => w.heap.size + 1 ≤ b) (fun b hb _ => hb.1)
              simpa using h2
            · intro p hp
              rw [List.mem_append, List.mem_singleton] at hp
              rcases hp with hp | rfl
              · refine KsB.mono (G := fun b => (w.heap.size + 1 ≤ b ∧ b ≠ w3.heap.size + 1 ∧ ¬ At (.slice au R.length cu) b) ∧ ¬ At (.slice a8 (R.length + 1) c8) b) (fun b _ hb => ⟨hb.1.1, hb.1.2.1, by simpa using hb.2⟩) _ _ (KsB.keep (by omega) (fun b hb hlt => (hsc b hb.1.2.1).trans ((hoth b (by omega) hb.1.2.2).trans (HK6.out.block b hlt (by have := hb.1.1; omega)))) _ _ (KsB.mono (fun b hlt hb => ⟨hb, fun ha => ?_⟩) _ _ (HKB.out p hp)))
                rcases hu8 b ha with h | h
                · exact hb.2.2 h
                · omega
              · refine KsB.mono (G := fun b => (w.heap.size + 1 ≤ b ∧ b ≠ w3.heap.size + 1 ∧ ¬ At (.slice au R.length cu) b) ∧ ¬ At (.slice a8 (R.length + 1) c8) b) (fun b _ hb => ⟨hb.1.1, hb.1.2.1, by simpa using hb.2⟩) _ _ (KsB.keep (by omega) (fun b hb hlt => (hsc b hb.1.2.1).trans (hoth b hlt hb.1.2.2)) _ _ (KsB.mono (fun b hlt hb => ?_) _ _ HKB6.out))
                have hb' : w5.heap.size ≤ b := hb
                have hw5 : wr.heap.size ≤ w5.heap.size := HW5.out
                have hnu : ¬ At (.slice au R.length cu) b := fun ha => by have := (hu b ha).2.1; omega
                refine ⟨⟨by omega, by omega, hnu⟩, fun ha => ?_⟩
                rcases hu8 b ha with h | h
                · exact hnu h
                · omega
            · intro ha
              rcases hu8 _ (by simpa using ha) with h | h
              · exact HNT.out h
              · omega
            · have y1 : wr.cell? ⟨P, 0, none⟩ = some (.slice (some ⟨g, ir * 4, none⟩) (ts.length - ir) (c - ir)) := HQS.out.cb.cell 0
              have y2 : (w8.setCell ⟨w3.heap.size + 1, 3, none⟩ (.slice a8 (R.length + 1) c8)).cell? ⟨P, 0, none⟩ = some (.slice (some ⟨g, j2 * 4, none⟩) (ts.length - j2) (c - j2)) := (PQS.setCell HQ8.out (by omega) (by omega) _ _).cb.cell 0
              have := HIL.out
              rw [y1, y2]
              simp only [Option.getD_some, lenS]
              omega
        · have hyf : isT (tk ts ir) s = false := by simpa using hy
          have HT := Lib.hid (skip_run P g c ts ir deep s wr HQS.out HE.out false ir hyf rfl)
          have hn1 : R.length ≠ 1 := fun h => hy (HN1.out h)
          have HRR : Hid (FIN = .ok (.mk op ⟨#[]⟩ ⟨#[]⟩ (R.map (·.2)), ir)) := Lib.hid (by rw [HFN.out, rowX_no hyf, join_many op (by rw [List.length_map]; exact hn1)])
          clear hy hyf hn1
          go_wp2_with fail
          refine HT.out.mono ?_
          rintro e w5 ⟨rfl, hq5, hk5⟩
          have hz31 := HZ3.out
          have hzr := HWR.out
          have HT5 := Lib.hid (HBT.out.carry (hk5.block (w3.heap.size + 1) (by omega) (by omega)))
          have HX5 := Lib.hid (HBX.out.carry (hk5.block w.heap.size (by omega) (by omega)))
          have HR5 := Lib.hid (HRK.out.keep hk5 (fun b hb _ _ => by omega))
          have HB5 : Hid (∀ p ∈ R, KsB (fun b => w.heap.size + 1 ≤ b) w5 p.1 p.2) := Lib.hid (fun p hp => KsB.mono (fun b _ hb => hb.1) _ _ (KsB.keep hk5.size (fun b hb hlt => hk5.block b hlt (by have := hb.1; omega)) _ _ (HKB.out p hp)))
          have HQ5 := Lib.hid hq5
          have HK5 := Lib.hid (HKP.out.trans hk5)
          have hrn : R.length ≤ 1000 := by have := HFEW.out; have := HB1.out; have := HIL.out; omega
          have HRN := Lib.hid hrn
          clear hq5 hk5 hz31 hzr hrn
          obtain ⟨c0, c1', c2, c3, g0, g1, g2, g3⟩ := HX5.out
          obtain ⟨d0, d1, d2, d3, _, _, _, _⟩ := HT5.out
          go_wp2_with fail
          have hq := HX5.out.all (.int .i64 op) (.string ⟨#[]⟩) (.string ⟨#[]⟩) (.slice au R.length cu)
          unfold Go.Proofs.YtmodiemmcdocdaaGreatDoor.stored at hq
          obtain ⟨q0, q1, q2, q3, _, _, _, _⟩ := hq
          refine bodyPost_ret (v := .tuple #[.agg #[.int .i64 op, .string ⟨#[]⟩, .string ⟨#[]⟩, .slice au R.length cu], .nilIface]) (by simp [results, Tryz.results117, go_sem, q0, q1, q2, q3]) rfl ?_
          refine OneQ.good (x := .mk op ⟨#[]⟩ ⟨#[]⟩ (R.map (·.2))) (kv := .slice au R.length cu) HRR.out hPl hgl HQ5.out HK5.out (Nat.le_refl _) ?_
          exact KsB.mono (fun b _ hb => ⟨by omega, by omega⟩) _ _ (KsB.of_rk (G := fun b => w.heap.size + 1 ≤ b) (G0 := fun b => w.heap.size + 1 ≤ b) (fun b hb => hb) HR5.out HB5.out HRN.out op _ _)
    · have hyf : isT (tk ts j1) s = false := by simpa using hy
      refine (is_run P g c ts j1 deep s w2 HQ2.out false hyf).mono ?_
      rintro e w3 ⟨rfl, hl3⟩
      have HRR : Hid (FIN = .ok (X1, j1)) := Lib.hid (by rw [HR1.out, rowX_no hyf]; rfl)
      clear hy hyf HR1
      have HX3 := Lib.hid (HX2.out.carry (hl3.block (by rw [← HZ2.out]; have := HZ1.out; omega)))
      have HF3 := Lib.hid (HF2.out.carry (hl3.block (by rw [← HZ2.out]; omega)))
      have HQ3 := Lib.hid (HQ2.out.lay hl3)
      have HK3 := Lib.hid (HK2.out.trans (Lay.keep hl3))
      have HB3 := Lib.hid (KsB.keep hl3.size (fun b _ hlt => hl3.block hlt) _ _ HB2.out)
      clear hl3
      obtain ⟨c0, c1', c2, c3, g0, g1, g2, g3⟩ := HX3.out
      obtain ⟨d0, d1, d2, d3, _, _, _, _⟩ := HF3.out
      go_wp2_with fail
      have hq := HX3.out.all (.int .i64 X1.op) (.string X1.name) (.string X1.text) (.slice a1 X1.kids.length c1)
      unfold Go.Proofs.YtmodiemmcdocdaaGreatDoor.stored at hq
      obtain ⟨q0, q1, q2, q3, _, _, _, _⟩ := hq
      refine bodyPost_ret (v := .tuple #[.agg #[.int .i64 X1.op, .string X1.name, .string X1.text, .slice a1 X1.kids.length c1], .nilIface]) (by simp [results, Tryz.results117, go_sem, q0, q1, q2, q3]) rfl ?_
      refine OneQ.good HRR.out hPl hgl HQ3.out HK3.out (Nat.le_refl _) ?_
      exact KsB.mono (fun b _ hb => ⟨by omega, by omega⟩) _ _ HB3.out
end Go.Proofs.YtmodiemmcdocdaaGreatDoor

namespace Go.Proofs.YtmodiemmcdocdaaGreatDoor
open Go.RowKit Go
open PX (tk isT)

set_option maxHeartbeats 8000000 in
set_option maxRecDepth 100000 in
theorem row_own_99 (P g c : Nat) (ts : List LX.Tok) (deep : Nat) (s : List UInt8) (op : Int) (one : Nat → PX.PR Ft) (he : PX.Ended ts) (hfew : ts.length ≤ 1100)
    (hgo : ∀ i x j, one i = .ok (x, j) → i + 1 ≤ j)
    (IH : ∀ i w, PQS P g c ts i deep w → Calls Tryz.prog 118 #[.pointer (some ⟨P, 0, none⟩)] w (OneQ P g c ts deep (one i) w))
    (i : Nat) (w : World) (h : PQS P g c ts i deep w) :
    Calls Tryz.prog 117 #[.pointer (some ⟨P, 0, none⟩), .string ⟨s.toArray⟩, .int .i64 op, .func (.func 118) #[.pointer (some ⟨P, 0, none⟩)] #[]] w (OneQ P g c ts deep (PX.row ts s op one i) w) := by
  obtain ⟨W, hW⟩ : ∃ W, W = newF w := ⟨_, rfl⟩
  have hlw := newF_lay w
  have hbx := newF_bx w
  have hsz := newF_size w
  rw [← hW] at hlw hbx hsz
  have HW := Lib.hid (show w.alloc (.cells #[.int .i64 0, .string ⟨#[]⟩, .string ⟨#[]⟩, .slice none 0 0] 26) = W from hW.symm)
  clear hW
  have hPl := h.cb.lt
  have hgl := h.gl
  have HE := Lib.hid he
  have HFEW := Lib.hid hfew
  have HGO := Lib.hid hgo
  have HIH := Lib.hid IH
  have HIH1 := Lib.hid (IH i W (h.lay hlw))
  have HLW := Lib.hid hlw
  have HBX := Lib.hid hbx
  have HSZ := Lib.hid hsz
  clear he hlw hbx h hsz hfew hgo IH
  obtain ⟨FIN, hFIN⟩ : ∃ FIN, FIN = PX.row ts s op one i := ⟨_, rfl⟩
  rw [← hFIN]
  have HFIN := Lib.hid hFIN
  clear hFIN
  go_enter Tryz.func117, Tryz.ntmps117
  go_wp2_with fail
  rw [HW.out]
  refine HIH1.out.mono ?_
  rintro e w1 ⟨hk1, ho1⟩
  have hz1 := hk1.size
  rw [HSZ.out] at hz1
  have HX1 := Lib.hid (HBX.out.carry (hk1.block _ (by rw [HSZ.out]; omega) (by omega)))
  have HK1 := Lib.hid ((Lay.keep HLW.out).trans hk1)
  clear hk1 HIH1
  revert ho1
  rcases hr : one i with p | ⟨X1, j1⟩
  · have HR : Hid (FIN = .error p) := Lib.hid (by rw [HFIN.out, row_bad hr])
    clear hr
    rintro ⟨rfl, i', hq1⟩
    have HX2 := Lib.hid (HX1.out.carry (Below.heap_alloc w1 (.cells #[.int .i64 0, .string ⟨#[]⟩, .string ⟨#[]⟩, .slice none 0 0] 26) w.heap.size (by omega)))
    have HQ2 := Lib.hid (hq1.lay ((Keep.refl _ w1).alloc (.cells #[.int .i64 0, .string ⟨#[]⟩, .string ⟨#[]⟩, .slice none 0 0] 26)))
    have HK2 := Lib.hid (HK1.out.alloc (.cells #[.int .i64 0, .string ⟨#[]⟩, .string ⟨#[]⟩, .slice none 0 0] 26))
    have HZ1 := Lib.hid hz1
    clear hq1 hz1
    simp only [zeroF, errV]
    obtain ⟨c0, c1, c2, c3, g0, g1, g2, g3⟩ := HX2.out
    go_wp2_with fail
    have hq := HX2.out.all (.int .i64 0) (.string ⟨#[]⟩) (.string ⟨#[]⟩) (.slice none 0 0)
    unfold Go.Proofs.YtmodiemmcdocdaaGreatDoor.stored at hq
    obtain ⟨q0, q1, q2, q3, _, _, _, _⟩ := hq
    refine bodyPost_ret (v := .tuple #[zeroF, errV p]) (by simp [results, Tryz.results117, go_sem, zeroF, errV, q0, q1, q2, q3]) rfl ?_
    exact OneQ.bad HR.out hPl hgl HQ2.out HK2.out (Nat.le_refl _)
  · have HR1 : Hid (FIN = rowX ts s op one [X1] ts.length j1) := Lib.hid (by rw [HFIN.out, row_good hr])
    have HJ1 := Lib.hid (HGO.out i X1 j1 hr)
    clear hr
    rintro ⟨kv1, rfl, hkb1, hq1⟩
    obtain ⟨a1, c1, rfl⟩ := hkb1.shape
    have hl2 : Lay w1 (w1.alloc (.cells #[.int .i64 X1.op, .string X1.name, .string X1.text, .slice a1 X1.kids.length c1] 26)) := (Keep.refl _ w1).alloc _
    have HX2 := Lib.hid (HX1.out.carry (hl2.block (by omega)))
    have HQ2 := Lib.hid (hq1.lay hl2)
    have HK2 := Lib.hid (HK1.out.trans (Lay.keep hl2))
    have HF2 : Hid (Bx (w1.alloc (.cells #[.int .i64 X1.op, .string X1.name, .string X1.text, .slice a1 X1.kids.length c1] 26)) w1.heap.size (.int .i64 X1.op) (.string X1.name) (.string X1.text) (.slice a1 X1.kids.length c1)) := Lib.hid ⟨by go_simp, by go_simp, by go_simp, by go_simp, by go_simp, by go_simp, by go_simp, by go_simp⟩
    have HB2 : Hid (KsB (fun b => w.heap.size + 1 ≤ b ∧ b < w1.heap.size) (w1.alloc (.cells #[.int .i64 X1.op, .string X1.name, .string X1.text, .slice a1 X1.kids.length c1] 26)) (.slice a1 X1.kids.length c1) X1) := Lib.hid (by
      refine KsB.keep hl2.size (fun b _ hlt => hl2.block hlt) _ _ (KsB.mono (fun b hlt hb => ⟨?_, hlt⟩) _ _ hkb1)
      rw [HSZ.out] at hb
      exact hb)
    have HZ2 : Hid (w1.heap.size + 1 = (w1.alloc (.cells #[.int .i64 X1.op, .string X1.name, .string X1.text, .slice a1 X1.kids.length c1] 26)).heap.size) := Lib.hid (by simp)
    have HZ1 := Lib.hid hz1
    clear hkb1 hq1 hl2 HX1 HK1 hz1
    simp only [Ft.val]
    go_wp2_with fail
    revert HX2 HQ2 HK2 HF2 HB2 HZ2
    generalize w1.alloc (.cells #[.int .i64 X1.op, .string X1.name, .string X1.text, .slice a1 X1.kids.length c1] 26) = w2
    intro HX2 HQ2 HK2 HF2 HB2 HZ2
    by_cases hy : isT (tk ts j1) s = true
    · refine (is_run P g c ts j1 deep s w2 HQ2.out true hy).mono ?_
      rintro e w3 ⟨rfl, hl3⟩
      have HYY := Lib.hid hy
      clear hy
      have hz3 := hl3.size
      rw [← HZ2.out] at hz3
      have hz31 : w.heap.size + 1 ≤ w3.heap.size := by have := HZ1.out; omega
      have hl4 : Lay w3 ((w3.alloc (.cells #[.int .i64 X1.op, .string X1.name, .string X1.text, .slice a1 X1.kids.length c1] 26)).alloc (.cells #[.int .i64 op, .string ⟨#[]⟩, .string ⟨#[]⟩, .slice (some ⟨w3.heap.size, 0, none⟩) 1 1] 26)) := ((Keep.refl _ w3).alloc _).alloc _
      have HF3 := Lib.hid (HF2.out.carry (hl3.block (by rw [← HZ2.out]; omega)))
      have HX4 := Lib.hid ((HX2.out.carry (hl3.block (by rw [← HZ2.out]; have := HZ1.out; omega))).carry (hl4.block (by omega)))
      have HQ4 := Lib.hid ((HQ2.out.lay hl3).lay hl4)
      have HK4 := Lib.hid ((HK2.out.trans (Lay.keep hl3)).trans (Lay.keep hl4))
      have HT4 : Hid (Bx ((w3.alloc (.cells #[.int .i64 X1.op, .string X1.name, .string X1.text, .slice a1 X1.kids.length c1] 26)).alloc (.cells #[.int .i64 op, .string ⟨#[]⟩, .string ⟨#[]⟩, .slice (some ⟨w3.heap.size, 0, none⟩) 1 1] 26)) (w3.heap.size + 1) (.int .i64 op) (.string ⟨#[]⟩) (.string ⟨#[]⟩) (.slice (some ⟨w3.heap.size, 0, none⟩) 1 1)) := Lib.hid ⟨by go_simp, by go_simp, by go_simp, by go_simp, by go_simp, by go_simp, by go_simp, by go_simp⟩
      have HR4 := Lib.hid (((rk_new 4 w3 1 [.int .i64 X1.op, .string X1.name, .string X1.text, .slice a1 X1.kids.length c1] 26 rfl (by omega)).mono (G' := fun b => w.heap.size + 1 ≤ b) (fun b hb _ => by omega)).alloc (.cells #[.int .i64 op, .string ⟨#[]⟩, .string ⟨#[]⟩, .slice (some ⟨w3.heap.size, 0, none⟩) 1 1] 26))
      have HB4 : Hid (KsB (fun b => w.heap.size + 1 ≤ b ∧ b ≠ w3.heap.size + 1 ∧ ¬ At (.slice (some ⟨w3.heap.size, 0, none⟩) 1 1) b) ((w3.alloc (.cells #[.int .i64 X1.op, .string X1.name, .string X1.text, .slice a1 X1.kids.length c1] 26)).alloc (.cells #[.int .i64 op, .string ⟨#[]⟩, .string ⟨#[]⟩, .slice (some ⟨w3.heap.size, 0, none⟩) 1 1] 26)) (.slice a1 X1.kids.length c1) X1) := Lib.hid (by
        refine KsB.mono (G := fun b => w.heap.size + 1 ≤ b ∧ b < w1.heap.size) (fun b _ hb => ⟨hb.1, by omega, fun ⟨n, c, e⟩ => ?_⟩) _ _ (KsB.keep (Nat.le_trans hl3.size hl4.size) (fun b _ hlt => (hl4.block (Nat.lt_of_lt_of_le hlt hl3.size)).trans (hl3.block hlt)) _ _ HB2.out)
        have hbl := hb.2
        injection e with e1 _ _
        injection e1 with e2
        injection e2 with e3 _ _
        omega)
      have HZ4 : Hid (w3.heap.size + 1 + 1 ≤ ((w3.alloc (.cells #[.int .i64 X1.op, .string X1.name, .string X1.text, .slice a1 X1.kids.length c1] 26)).alloc (.cells #[.int .i64 op, .string ⟨#[]⟩, .string ⟨#[]⟩, .slice (some ⟨w3.heap.size, 0, none⟩) 1 1] 26)).heap.size) := Lib.hid (by simp)
      have HZ3 := Lib.hid hz31
      clear hl3 hl4 hz3 HX2 HQ2 HK2 HF2 HB2
      obtain ⟨d0, d1, d2, d3, _, _, _, _⟩ := HF3.out
      go_wp2_with fail
      clear d0 d1 d2 d3
      go_loopw [] (fun wr => ∃ (ir : Nat) (R : List (Value × Ft)) (f : Nat) (au : Option Addr) (cu : Nat), 1 ≤ R.length ∧ FIN = rowX ts s op one (R.map (·.2)) f ir ∧ Bx wr (w3.heap.size + 1) (.int .i64 op) (.string ⟨#[]⟩) (.string ⟨#[]⟩) (.slice au R.length cu) ∧
        Rk 4 (fun b => w.heap.size + 1 ≤ b) wr (.slice au R.length cu) R.length (flatK R) ∧ (∀ p ∈ R, KsB (fun b => w.heap.size + 1 ≤ b ∧ b ≠ w3.heap.size + 1 ∧ ¬ At (.slice au R.length cu) b) wr p.1 p.2) ∧ ¬ At (.slice au R.length cu) (w3.heap.size + 1) ∧
        PQS P g c ts ir deep wr ∧ Keep (fun k => k = P) w wr ∧ Bx wr w.heap.size (.int .i64 0) (.string ⟨#[]⟩) (.string ⟨#[]⟩) (.slice none 0 0) ∧ w3.heap.size + 1 + 1 ≤ wr.heap.size ∧ ts.length ≤ ir + f ∧ 2 * R.length ≤ ir + 1 ∧ (R.length = 1 → isT (tk ts ir) s = true)) (fun wr => lenS ((wr.cell? ⟨P, 0, none⟩).getD undef))
      case atStart =>
        refine ⟨j1, [(.slice a1 X1.kids.length c1, X1)], ts.length, some ⟨w3.heap.size, 0, none⟩, 1, by simp, HR1.out, HT4.out, HR4.out, fun p hp => by rw [List.mem_singleton] at hp; subst hp; exact HB4.out, fun ⟨n, c, e⟩ => ?_, HQ4.out, HK4.out, HX4.out, HZ4.out, by omega, by have := HJ1.out; simp; omega, fun _ => HYY.out⟩
        injection e with e1 _ _
        injection e1 with e2
        injection e2 with e3 _ _
        omega
      case round =>
        obtain ⟨ir, R, f, au, cu, hR1, hfin, hbt, hrk, hkb, hnt, hqs, hkp, hbx, hwr, hf, hb1, hn1⟩ := hrel
        have HRK := Lib.hid hrk
        have HKB := Lib.hid hkb
        have HQS := Lib.hid hqs
        have HKP := Lib.hid hkp
        have HBX := Lib.hid hbx
        have HBT := Lib.hid hbt
        have HFN := Lib.hid hfin
        have HNT := Lib.hid hnt
        have HN1 := Lib.hid hn1
        have HWR := Lib.hid hwr
        have HF := Lib.hid hf
        have HB1 := Lib.hid hb1
        have HR1' := Lib.hid hR1
        have hil := hqs.lt
        have HIL := Lib.hid hil
        clear hfin hrk hkb hkp hbx hbt hnt hn1 hqs HX4 HQ4 HK4 HT4 HR4 HB4 HZ4 HR1 HFIN hwr hf hb1 hR1 hil hz31
        by_cases hy : isT (tk ts ir) s = true
        · have HT := Lib.hid (skip_run P g c ts ir deep s wr HQS.out HE.out true (ir + 1) hy rfl)
          have HY := Lib.hid hy
          clear hy
          obtain ⟨f', rfl⟩ : ∃ f', f = f' + 1 := ⟨f - 1, by have := HF.out; have := HIL.out; omega⟩
          go_wp2_with fail
          refine HT.out.mono ?_
          rintro e w5 ⟨rfl, hq5, hk5⟩
          have HI5 := Lib.hid (HIH.out (ir + 1) w5 hq5)
          have HK5 := Lib.hid hk5
          clear hq5 hk5 HT
          go_wp2_with fail
          refine HI5.out.mono ?_
          rintro e w6 ⟨hk6, ho6⟩
          have HK6 := Lib.hid (HK5.out.trans hk6)
          have HW5 := Lib.hid HK5.out.size
          clear hk6 HI5 HK5
          revert ho6
          rcases hr : one (ir + 1) with p | ⟨X2, j2⟩
          · have HRR : Hid (FIN = .error p) := Lib.hid (by rw [HFN.out, rowX_bad HY.out hr])
            clear hr
            rintro ⟨rfl, i', hq6⟩
            have hz6 : wr.heap.size ≤ w6.heap.size := HK6.out.size
            have HX7 := Lib.hid ((HBX.out.carry (HK6.out.block w.heap.size (by have := HWR.out; have := HZ3.out; omega) (by omega))).carry (Below.heap_alloc w6 (.cells #[.int .i64 0, .string ⟨#[]⟩, .string ⟨#[]⟩, .slice none 0 0] 26) w.heap.size (by have := HWR.out; have := HZ3.out; omega)))
            have HQ7 := Lib.hid (hq6.lay ((Keep.refl _ w6).alloc (.cells #[.int .i64 0, .string ⟨#[]⟩, .string ⟨#[]⟩, .slice none 0 0] 26)))
            have HK7 := Lib.hid ((HKP.out.trans HK6.out).alloc (.cells #[.int .i64 0, .string ⟨#[]⟩, .string ⟨#[]⟩, .slice none 0 0] 26))
            clear hq6 hz6
            simp only [zeroF, errV]
            obtain ⟨c0, c1, c2, c3, g0, g1, g2, g3⟩ := HX7.out
            go_wp2_with fail
            have hq := HX7.out.all (.int .i64 0) (.string ⟨#[]⟩) (.string ⟨#[]⟩) (.slice none 0 0)
            unfold Go.Proofs.YtmodiemmcdocdaaGreatDoor.stored at hq
            obtain ⟨q0, q1, q2, q3, _, _, _, _⟩ := hq
            refine bodyPost_ret (v := .tuple #[zeroF, errV p]) (by simp [results, Tryz.results117, go_sem, zeroF, errV, q0, q1, q2, q3]) rfl ?_
            exact OneQ.bad HRR.out hPl hgl HQ7.out HK7.out (Nat.le_refl _)
          · have HRR : Hid (FIN = rowX ts s op one ((R ++ [((.slice none 0 0 : Value), X2)]).map (·.2)) f' j2) := Lib.hid (by rw [HFN.out, rowX_yes HY.out hr]; simp)
            have HJ2 := Lib.hid (HGO.out _ _ _ hr)
            clear hr
            rintro ⟨kv2, rfl, hkb6, hq6⟩
            obtain ⟨ak, ck, rfl⟩ := hkb6.shape
            simp only [Ft.val]
            have hz6 : wr.heap.size ≤ w6.heap.size := HK6.out.size
            have hzr : w3.heap.size + 1 + 1 ≤ wr.heap.size := HWR.out
            have hz31 : w.heap.size + 1 ≤ w3.heap.size := HZ3.out
            have hl7 : Lay w6 (w6.alloc (.cells #[.int .i64 X2.op, .string X2.name, .string X2.text, .slice ak X2.kids.length ck] 26)) := (Keep.refl _ w6).alloc _
            have hs7 : (w6.alloc (.cells #[.int .i64 X2.op, .string X2.name, .string X2.text, .slice ak X2.kids.length ck] 26)).heap.size = w6.heap.size + 1 := by simp
            have hrk7 := (HRK.out.keep HK6.out (fun b hb _ _ => by omega)).lay hl7
            have hrn : R.length ≤ 1000 := by have := HFEW.out; have := HB1.out; have := HIL.out; omega
            obtain ⟨a8, c8, w8, hrun, hrk8, hk8⟩ := app_kid hrk7 (by rw [hs7]; omega) hrn (.slice ak X2.kids.length ck, X2) rfl
            rw [hs7] at hrun hrk8
            have hu : ∀ b, At (.slice au R.length cu) b → w.heap.size + 1 ≤ b ∧ b < wr.heap.size ∧ b ≠ w3.heap.size + 1 := fun b ha => ⟨(HRK.out.at ha).1, (HRK.out.at ha).2, fun e => HNT.out (e ▸ ha)⟩
            have hu8 : ∀ b, At (.slice a8 (R.length + 1) c8) b → At (.slice au R.length cu) b ∨ w6.heap.size + 1 + 1 ≤ b := fun b ha => (hrk8.at ha).1.2
            have hoth : ∀ b, b < w6.heap.size → ¬ At (.slice au R.length cu) b → w8.heap[b]? = w6.heap[b]? := fun b hb ha =>
              (hk8.block b (by simp; omega) ha).trans ((Below.heap_alloc _ _ _ (by simp; omega)).trans (Below.heap_alloc _ _ _ hb))
            have hz8 : w6.heap.size + 1 + 1 ≤ w8.heap.size := by have := hk8.size; simp at this; omega
            have HT7 := (HBT.out.carry (HK6.out.block (w3.heap.size + 1) (by omega) (by omega))).carry (hl7.block (by omega))
            have HT8 := (HBT.out.carry (HK6.out.block (w3.heap.size + 1) (by omega) (by omega))).carry (hoth (w3.heap.size + 1) (by omega) HNT.out)
            have HX8 := Lib.hid ((HBX.out.carry (HK6.out.block w.heap.size (by omega) (by omega))).carry (hoth w.heap.size (by omega) (fun ha => by have := (hu _ ha).1; omega)))
            have hkp8 : Keep (fun k => k = P) w w8 := (((HKP.out.trans HK6.out).alloc _).alloc _).over hk8 (fun b ha => by have := (hu b ha).1; omega)
            have hq8 : PQS P g c ts j2 deep w8 := ⟨(hoth P (by omega) (fun ha => by have := (hu _ ha).1; omega)).trans hq6.cb, hq6.ne, by omega, fun j hj => (World.cell?_of_block (a := ⟨g, j, none⟩) (hoth g (by omega) (fun ha => by have := (hu _ ha).1; omega))).trans (hq6.tok j hj), hq6.lt, hq6.cap, hq6.low⟩
            have HQ8 := Lib.hid hq8
            have HKP8 := Lib.hid hkp8
            have HKB6 := Lib.hid hkb6
            have HRUN := Lib.hid hrun
            have HRK8 := Lib.hid hrk8
            have HU := Lib.hid hu
            have HU8 := Lib.hid hu8
            have HOTH := Lib.hid hoth
            have HZ8 := Lib.hid hz8
            have HT8' := Lib.hid HT8
            have HZ6 := Lib.hid hz6
            have HZR := Lib.hid hzr
            clear hq6 hq8 hkp8 hkb6 hrun hrk8 hu hu8 hoth hz8 hrk7 hl7 hs7 hk8 hz6 hzr hz31 hrn
            obtain ⟨_, _, _, d3, _, _, _, _⟩ := HT7
            obtain ⟨e0, e1, e2, e3, _, _, _, g3⟩ := HT8
            go_wp2_with (at_builtin; refine wpList_append_run rfl _ _ _ rfl rfl rfl HRUN.out ?_)
            clear d3 e0 e1 e2 e3 g3
            have hz8 := HZ8.out
            have hz6 := HZ6.out
            have hzr := HZR.out
            have hz31 := HZ3.out
            have hu := HU.out
            have hu8 := HU8.out
            have hoth := HOTH.out
            have hsc : ∀ b, b ≠ w3.heap.size + 1 → (w8.setCell ⟨w3.heap.size + 1, 3, none⟩ (.slice a8 (R.length + 1) c8)).heap[b]? = w8.heap[b]? := fun b hb => Below.heap_setCell w8 ⟨w3.heap.size + 1, 3, none⟩ _ b hb
            have hss : (w8.setCell ⟨w3.heap.size + 1, 3, none⟩ (.slice a8 (R.length + 1) c8)).heap.size = w8.heap.size := by simp [World.setCell]
            have hbd := HB1.out
            have hj2 := HJ2.out
            have hff := HF.out
            refine ⟨⟨j2, R ++ [((.slice ak X2.kids.length ck : Value), X2)], f', a8, c8, by simp, ?_, ?_, ?_, ?_, ?_, PQS.setCell HQ8.out (by omega) (by omega) _ _, HKP8.out.setCell (p := ⟨w3.heap.size + 1, 3, none⟩) (.inl (by show w.heap.size ≤ w3.heap.size + 1; omega)) _, HX8.out.carry (hsc _ (by omega)), by omega, by omega, by simp; omega, fun h => by rw [List.length_append, List.length_singleton] at h; have := HR1'.out; omega⟩, ?_⟩
            · rw [HRR.out]; simp
            · have := HT8'.out.set3 (.slice a8 (R.length + 1) c8)
              simpa using this
            · have := HRK8.out.carry (w' := w8.setCell ⟨w3.heap.size + 1, 3, none⟩ (.slice a8 (R.length + 1) c8)) (by omega) (fun b hb ha _ => hsc b (by rcases hb.2 with h | h; exact (hu b h).2.2; omega))
              have h2 := this.mono (G' := fun b => w.heap.size + 1 ≤ b) (fun b hb _ => hb.1)
              simpa using h2
            · intro p hp
              rw [List.mem_append, List.mem_singleton] at hp
              rcases hp with hp | rfl
              · refine KsB.mono (G := fun b => (w.heap.size + 1 ≤ b ∧ b ≠ w3.heap.size + 1 ∧ ¬ At (.slice au R.length cu) b) ∧ ¬ At (.slice a8 (R.length + 1) c8) b) (fun b _ hb => ⟨hb.1.1, hb.1.2.1, by simpa using hb.2⟩) _ _ (KsB.keep (by omega) (fun b hb hlt => (hsc b hb.1.2.1).trans ((hoth b (by omega) hb.1.2.2).trans (HK6.out.block b hlt (by have := hb.1.1; omega)))) _ _ (KsB.mono (fun b hlt hb => ⟨hb, fun ha => ?_⟩) _ _ (HKB.out p hp)))
                rcases hu8 b ha with h | h
                · exact hb.2.2 h
                · omega
              · refine KsB.mono (G := fun b => (w.heap.size + 1 ≤ b ∧ b ≠ w3.heap.size + 1 ∧ ¬ At (.slice au R.length cu) b) ∧ ¬ At (.slice a8 (R.length + 1) c8) b) (fun b _ hb => ⟨hb.1.1, hb.1.2.1, by simpa using hb.2⟩) _ _ (KsB.keep (by omega) (fun b hb hlt => (hsc b hb.1.2.1).trans (hoth b hlt hb.1.2.2)) _ _ (KsB.mono (fun b hlt hb => ?_) _ _ HKB6.out))
                have hb' : w5.heap.size ≤ b := hb
                have hw5 : wr.heap.size ≤ w5.heap.size := HW5.out
                have hnu : ¬ At (.slice au R.length cu) b := fun ha => by have := (hu b ha).2.1; omega
                refine ⟨⟨by omega, by omega, hnu⟩, fun ha => ?_⟩
                rcases hu8 b ha with h | h
                · exact hnu h
                · omega
            · intro ha
              rcases hu8 _ (by simpa using ha) with h | h
              · exact HNT.out h
              · omega
            · have y1 : wr.cell? ⟨P, 0, none⟩ = some (.slice (some ⟨g, ir * 4, none⟩) (ts.length - ir) (c - ir)) := HQS.out.cb.cell 0
              have y2 : (w8.setCell ⟨w3.heap.size + 1, 3, none⟩ (.slice a8 (R.length + 1) c8)).cell? ⟨P, 0, none⟩ = some (.slice (some ⟨g, j2 * 4, none⟩) (ts.length - j2) (c - j2)) := (PQS.setCell HQ8.out (by omega) (by omega) _ _).cb.cell 0
              have := HIL.out
              rw [y1, y2]
              simp only [Option.getD_some, lenS]
              omega
        · have hyf : isT (tk ts ir) s = false := by simpa using hy
          have HT := Lib.hid (skip_run P g c ts ir deep s wr HQS.out HE.out false ir hyf rfl)
          have hn1 : R.length ≠ 1 := fun h => hy (HN1.out h)
          have HRR : Hid (FIN = .ok (.mk op ⟨#[]⟩ ⟨#[]⟩ (R.map (·.2)), ir)) := Lib.hid (by rw [HFN.out, rowX_no hyf, join_many op (by rw [List.length_map]; exact hn1)])
          clear hy hyf hn1
          go_wp2_with fail
          refine HT.out.mono ?_
          rintro e w5 ⟨rfl, hq5, hk5⟩
          have hz31 := HZ3.out
          have hzr := HWR.out
          have HT5 := Lib.hid (HBT.out.carry (hk5.block (w3.heap.size + 1) (by omega) (by omega)))
          have HX5 := Lib.hid (HBX.out.carry (hk5.block w.heap.size (by omega) (by omega)))
          have HR5 := Lib.hid (HRK.out.keep hk5 (fun b hb _ _ => by omega))
          have HB5 : Hid (∀ p ∈ R, KsB (fun b => w.heap.size + 1 ≤ b) w5 p.1 p.2) := Lib.hid (fun p hp => KsB.mono (fun b _ hb => hb.1) _ _ (KsB.keep hk5.size (fun b hb hlt => hk5.block b hlt (by have := hb.1; omega)) _ _ (HKB.out p hp)))
          have HQ5 := Lib.hid hq5
          have HK5 := Lib.hid (HKP.out.trans hk5)
          have hrn : R.length ≤ 1000 := by have := HFEW.out; have := HB1.out; have := HIL.out; omega
          have HRN := Lib.hid hrn
          clear hq5 hk5 hz31 hzr hrn
          obtain ⟨c0, c1', c2, c3, g0, g1, g2, g3⟩ := HX5.out
          obtain ⟨d0, d1, d2, d3, _, _, _, _⟩ := HT5.out
          go_wp2_with fail
          have hq := HX5.out.all (.int .i64 op) (.string ⟨#[]⟩) (.string ⟨#[]⟩) (.slice au R.length cu)
          unfold Go.Proofs.YtmodiemmcdocdaaGreatDoor.stored at hq
          obtain ⟨q0, q1, q2, q3, _, _, _, _⟩ := hq
          refine bodyPost_ret (v := .tuple #[.agg #[.int .i64 op, .string ⟨#[]⟩, .string ⟨#[]⟩, .slice au R.length cu], .nilIface]) (by simp [results, Tryz.results117, go_sem, q0, q1, q2, q3]) rfl ?_
          refine OneQ.good (x := .mk op ⟨#[]⟩ ⟨#[]⟩ (R.map (·.2))) (kv := .slice au R.length cu) HRR.out hPl hgl HQ5.out HK5.out (Nat.le_refl _) ?_
          exact KsB.mono (fun b _ hb => ⟨by omega, by omega⟩) _ _ (KsB.of_rk (G := fun b => w.heap.size + 1 ≤ b) (G0 := fun b => w.heap.size + 1 ≤ b) (fun b hb => hb) HR5.out HB5.out HRN.out op _ _)
    · have hyf : isT (tk ts j1) s = false := by simpa using hy
      refine (is_run P g c ts j1 deep s w2 HQ2.out false hyf).mono ?_
      rintro e w3 ⟨rfl, hl3⟩
      have HRR : Hid (FIN = .ok (X1, j1)) := Lib.hid (by rw [HR1.out, rowX_no hyf]; rfl)
      clear hy hyf HR1
      have HX3 := Lib.hid (HX2.out.carry (hl3.block (by rw [← HZ2.out]; have := HZ1.out; omega)))
      have HF3 := Lib.hid (HF2.out.carry (hl3.block (by rw [← HZ2.out]; omega)))
      have HQ3 := Lib.hid (HQ2.out.lay hl3)
      have HK3 := Lib.hid (HK2.out.trans (Lay.keep hl3))
      have HB3 := Lib.hid (KsB.keep hl3.size (fun b _ hlt => hl3.block hlt) _ _ HB2.out)
      clear hl3
      obtain ⟨c0, c1', c2, c3, g0, g1, g2, g3⟩ := HX3.out
      obtain ⟨d0, d1, d2, d3, _, _, _, _⟩ := HF3.out
      go_wp2_with fail
      have hq := HX3.out.all (.int .i64 X1.op) (.string X1.name) (.string X1.text) (.slice a1 X1.kids.length c1)
      unfold Go.Proofs.YtmodiemmcdocdaaGreatDoor.stored at hq
      obtain ⟨q0, q1, q2, q3, _, _, _, _⟩ := hq
      refine bodyPost_ret (v := .tuple #[.agg #[.int .i64 X1.op, .string X1.name, .string X1.text, .slice a1 X1.kids.length c1], .nilIface]) (by simp [results, Tryz.results117, go_sem, q0, q1, q2, q3]) rfl ?_
      refine OneQ.good HRR.out hPl hgl HQ3.out HK3.out (Nat.le_refl _) ?_
      exact KsB.mono (fun b _ hb => ⟨by omega, by omega⟩) _ _ HB3.out
end Go.Proofs.YtmodiemmcdocdaaGreatDoor

namespace Go.Proofs.YtmodiemmcdocdaaGreatDoor
open Go.RowKit Go
open PX (tk isT)

set_option maxHeartbeats 4000000 in
set_option maxRecDepth 100000 in
/-- What is deferred: one less deep. -/
theorem dec_deferred (B P d : Nat) (u : FrameMode) (w : World) (hc : w.cell? ⟨B, 0, none⟩ = some (.pointer (some ⟨P, 0, none⟩))) (hd : w.cell? ⟨P, 1, none⟩ = some (.int .i64 ((d + 1 : Nat) : Int))) (hf : w.frozen? ⟨P, 1, none⟩ = false) (hd9 : d ≤ 9) :
    CallsD Tryz.prog 164 #[.pointer (some ⟨B, 0, none⟩)] u w fun e u' w' => u' = u ∧ (e = .returned (.tuple #[]) ∧ w' = w.setCell ⟨P, 1, none⟩ (.int .i64 (d : Nat))) := by
  have hwr : IntKind.i64.wrap (((d + 1 : Nat) : Int) - 1) = ((d : Nat) : Int) := by rw [IntWalk.i64_in _ (by omega)]; omega
  go_enter_d Tryz.func164, Tryz.ntmps164
  go_wp2
  go_end0
  exact ⟨rfl, rfl⟩

theorem PQS.less {P g c : Nat} {ts : List LX.Tok} {i deep deep' : Nat} {W : World} (h : PQS P g c ts i deep W) (hd : deep' ≤ 9) : PQS P g c ts i deep' (W.setCell ⟨P, 1, none⟩ (.int .i64 (deep' : Nat))) :=
  h.set (by have := h.cb.set 1 (.int .i64 (deep' : Nat)); exact this) ((Keep.refl (fun k => k = P) W).setCell (p := ⟨P, 1, none⟩) (.inr rfl) _) h.lt hd

/-- One less deep. -/
theorem OneQ.less {P g c : Nat} {ts : List LX.Tok} {deep : Nat} {r : PX.PR Ft} {w W : World} {e : Ending} (hPl : P < w.heap.size) (hd : deep ≤ 9) (h : OneQ P g c ts (deep + 1) r w e W) : OneQ P g c ts deep r w e (W.setCell ⟨P, 1, none⟩ (.int .i64 (deep : Nat))) := by
  obtain ⟨hk, h⟩ := h
  refine ⟨hk.setCell (p := ⟨P, 1, none⟩) (.inr rfl) _, ?_⟩
  rcases r with p | ⟨x, j⟩
  · obtain ⟨he, i', hq⟩ := h
    exact ⟨he, i', hq.less hd⟩
  · obtain ⟨kv, he, hkb, hq⟩ := h
    exact ⟨kv, he, KsB.keep (Nat.le_of_eq (by simp [World.setCell])) (fun b hb _ => Below.heap_setCell W ⟨P, 1, none⟩ _ b (by show b ≠ P; have : w.heap.size ≤ b := hb; omega)) _ _ hkb, hq.less hd⟩

set_option maxHeartbeats 4000000 in
set_option maxRecDepth 100000 in
theorem within_no_113 (P g c : Nat) (ts : List LX.Tok) (i : Nat) (w : World) (h : PQS P g c ts i 8 w) (hi : i + 1 < ts.length) :
    Calls Tryz.prog 158 #[.pointer (some ⟨P, 0, none⟩), .func (.func 135) #[.pointer (some ⟨P, 0, none⟩)] #[]] w (OneQ P g c ts 8 (.error (6, (tk ts i).place)) w) := by
  have hmf : ∀ (fn : Fn) (first cap : Array Value) (w : World), (Instr.makeFunc fn first cap).run Tryz.prog w = .ok (.func fn first cap) w := fun _ _ _ _ => rfl
  obtain ⟨w0, hw0⟩ : ∃ w0, w0 = w.alloc (.cells #[.pointer (some ⟨P, 0, none⟩)] 96) := ⟨_, rfl⟩
  obtain ⟨W, hW⟩ : ∃ W, W = newF w0 := ⟨_, rfl⟩
  have hz0 : w0.heap.size = w.heap.size + 1 := by rw [hw0]; simp
  have hb0 : w0.cell? ⟨w.heap.size, 0, none⟩ = some (.pointer (some ⟨P, 0, none⟩)) := by rw [hw0]; simp
  have hl0 : Lay w w0 := by rw [hw0]; exact (Keep.refl _ w).alloc _
  have hlw := newF_lay w0
  have hbx := newF_bx w0
  have hsz := newF_size w0
  rw [← hW] at hlw hbx hsz
  have hb1 : W.cell? ⟨w.heap.size, 0, none⟩ = some (.pointer (some ⟨P, 0, none⟩)) := (hlw.cell (by omega)).trans hb0
  have HW := Lib.hid (show (w.alloc (.cells #[.pointer (some ⟨P, 0, none⟩)] 96)).alloc (.cells #[.int .i64 0, .string ⟨#[]⟩, .string ⟨#[]⟩, .slice none 0 0] 26) = W by rw [hW, hw0]; rfl)
  rw [hz0] at hbx hsz
  clear hW hw0
  have hPl := h.cb.lt
  have hgl := h.gl
  have HQ := Lib.hid (h.lay (Keep.trans hl0 hlw))
  have HLW := Lib.hid (Keep.trans hl0 hlw)
  have HBX := Lib.hid hbx
  have HSZ := Lib.hid hsz
  have HI := Lib.hid hi
  have HB1 := Lib.hid hb1
  clear hlw hbx h hsz hl0 hz0 hb0 hi hb1
  have HN := Lib.hid (next_run P g c ts i 8 W HQ.out HI.out)
  go_enter_defers Tryz.func158, Tryz.ntmps158
  go_wp2_with fail
  rw [HW.out]
  refine HN.out.mono ?_
  rintro e w1 ⟨rfl, hq1, hk1⟩
  unfold tokW
  have hz1 := hk1.size
  rw [HSZ.out] at hz1
  have hl2 : Lay w1 (w1.alloc (.cells #[.int .i64 ((tk ts i).kind : Nat), .string ⟨(tk ts i).says.toArray⟩, .int .i64 (tk ts i).n, .int .i64 ((tk ts i).place : Nat)] 93)) := (Keep.refl _ w1).alloc _
  have b2 : (w1.alloc (.cells #[.int .i64 ((tk ts i).kind : Nat), .string ⟨(tk ts i).says.toArray⟩, .int .i64 (tk ts i).n, .int .i64 ((tk ts i).place : Nat)] 93)).cell? ⟨w.heap.size, 0, none⟩ = some (.pointer (some ⟨P, 0, none⟩)) := (hl2.cell (by omega)).trans ((World.cell?_of_block (a := ⟨w.heap.size, 0, none⟩) (hk1.block _ (by show w.heap.size < W.heap.size; rw [HSZ.out]; omega) (by show ¬ w.heap.size = P; omega))).trans HB1.out)
  have d2 : (w1.alloc (.cells #[.int .i64 ((tk ts i).kind : Nat), .string ⟨(tk ts i).says.toArray⟩, .int .i64 (tk ts i).n, .int .i64 ((tk ts i).place : Nat)] 93)).cell? ⟨P, 1, none⟩ = some (.int .i64 ((8 : Nat) : Int)) := (hl2.cell (by omega)).trans (hq1.cb.cell 1)
  have HX2 := Lib.hid ((HBX.out.carry (hk1.block _ (by rw [HSZ.out]; omega) (by omega))).carry (hl2.block (by omega)))
  have HQ2 := Lib.hid (hq1.lay hl2)
  have HK2 := Lib.hid (((Lay.keep HLW.out).trans hk1).trans (Lay.keep hl2))
  have HZ1 := Lib.hid hz1
  clear hq1 hk1 hl2 hz1
  go_wp2_with fail
  clear b2 d2
  refine (at_run (tk ts i) 6 _).mono ?_
  rintro e w3 ⟨rfl, hl3⟩
  have HX3 := Lib.hid (HX2.out.carry (hl3.block (by simp; have := HZ1.out; omega)))
  have HQ3 := Lib.hid (HQ2.out.lay hl3)
  have HK3 := Lib.hid (HK2.out.trans (Lay.keep hl3))
  clear hl3
  unfold errV
  obtain ⟨c0, c1, c2, c3, g0, g1, g2, g3⟩ := HX3.out
  go_wp2_with fail
  have hq := HX3.out.all (.int .i64 0) (.string ⟨#[]⟩) (.string ⟨#[]⟩) (.slice none 0 0)
  unfold Go.Proofs.YtmodiemmcdocdaaGreatDoor.stored at hq
  obtain ⟨q0, q1, q2, q3, _, _, _, _⟩ := hq
  exact (show Leaves _ _ _ _ [] .returning _ from ⟨.tuple #[zeroF, errV (6, (tk ts i).place)], by simp [results, Tryz.results158, go_sem, zeroF, errV, q0, q1, q2, q3], OneQ.bad rfl hPl hgl HQ3.out HK3.out (Nat.le_succ _)⟩)

set_option maxHeartbeats 4000000 in
set_option maxRecDepth 100000 in
theorem within_ok_113 (P g c : Nat) (ts : List LX.Tok) (i deep : Nat) (r : PX.PR Ft) (w : World) (h : PQS P g c ts i deep w) (hi : i + 1 < ts.length) (hd : deep ≤ 7)
    (IH : ∀ w, PQS P g c ts (i + 1) (deep + 1) w → Calls Tryz.prog 135 #[.pointer (some ⟨P, 0, none⟩)] w (OneQ P g c ts (deep + 1) r w)) :
    Calls Tryz.prog 158 #[.pointer (some ⟨P, 0, none⟩), .func (.func 135) #[.pointer (some ⟨P, 0, none⟩)] #[]] w (OneQ P g c ts deep r w) := by
  have hmf : ∀ (fn : Fn) (first cap : Array Value) (w : World), (Instr.makeFunc fn first cap).run Tryz.prog w = .ok (.func fn first cap) w := fun _ _ _ _ => rfl
  obtain ⟨w0, hw0⟩ : ∃ w0, w0 = w.alloc (.cells #[.pointer (some ⟨P, 0, none⟩)] 96) := ⟨_, rfl⟩
  obtain ⟨W, hW⟩ : ∃ W, W = newF w0 := ⟨_, rfl⟩
  have hz0 : w0.heap.size = w.heap.size + 1 := by rw [hw0]; simp
  have hb0 : w0.cell? ⟨w.heap.size, 0, none⟩ = some (.pointer (some ⟨P, 0, none⟩)) := by rw [hw0]; simp
  have hl0 : Lay w w0 := by rw [hw0]; exact (Keep.refl _ w).alloc _
  have hlw := newF_lay w0
  have hbx := newF_bx w0
  have hsz := newF_size w0
  rw [← hW] at hlw hbx hsz
  have hb1 : W.cell? ⟨w.heap.size, 0, none⟩ = some (.pointer (some ⟨P, 0, none⟩)) := (hlw.cell (by omega)).trans hb0
  have HW := Lib.hid (show (w.alloc (.cells #[.pointer (some ⟨P, 0, none⟩)] 96)).alloc (.cells #[.int .i64 0, .string ⟨#[]⟩, .string ⟨#[]⟩, .slice none 0 0] 26) = W by rw [hW, hw0]; rfl)
  rw [hz0] at hbx hsz
  clear hW hw0
  have hPl := h.cb.lt
  have hgl := h.gl
  have HQ := Lib.hid (h.lay (Keep.trans hl0 hlw))
  have HLW := Lib.hid (Keep.trans hl0 hlw)
  have HBX := Lib.hid hbx
  have HSZ := Lib.hid hsz
  have HI := Lib.hid hi
  have HB1 := Lib.hid hb1
  clear hlw hbx h hsz hl0 hz0 hb0 hi hb1
  have HN := Lib.hid (next_run P g c ts i deep W HQ.out HI.out)
  have HIH := Lib.hid IH
  have h8 : ((deep : Int) == 8) = false := by simp; omega
  have hsum : IntKind.i64.wrap ((deep : Int) + 1) = ((deep + 1 : Nat) : Int) := by rw [IntWalk.i64_in _ (by omega)]; omega
  clear IH
  go_enter_defers Tryz.func158, Tryz.ntmps158
  go_wp2_with fail
  rw [HW.out]
  refine HN.out.mono ?_
  rintro e w1 ⟨rfl, hq1, hk1⟩
  unfold tokW
  have hz1 := hk1.size
  rw [HSZ.out] at hz1
  have hl2 : Lay w1 (w1.alloc (.cells #[.int .i64 ((tk ts i).kind : Nat), .string ⟨(tk ts i).says.toArray⟩, .int .i64 (tk ts i).n, .int .i64 ((tk ts i).place : Nat)] 93)) := (Keep.refl _ w1).alloc _
  have b2 : (w1.alloc (.cells #[.int .i64 ((tk ts i).kind : Nat), .string ⟨(tk ts i).says.toArray⟩, .int .i64 (tk ts i).n, .int .i64 ((tk ts i).place : Nat)] 93)).cell? ⟨w.heap.size, 0, none⟩ = some (.pointer (some ⟨P, 0, none⟩)) := (hl2.cell (by omega)).trans ((World.cell?_of_block (a := ⟨w.heap.size, 0, none⟩) (hk1.block _ (by show w.heap.size < W.heap.size; rw [HSZ.out]; omega) (by show ¬ w.heap.size = P; omega))).trans HB1.out)
  have d2 : (w1.alloc (.cells #[.int .i64 ((tk ts i).kind : Nat), .string ⟨(tk ts i).says.toArray⟩, .int .i64 (tk ts i).n, .int .i64 ((tk ts i).place : Nat)] 93)).cell? ⟨P, 1, none⟩ = some (.int .i64 (deep : Nat)) := (hl2.cell (by omega)).trans (hq1.cb.cell 1)
  have f2 : (w1.alloc (.cells #[.int .i64 ((tk ts i).kind : Nat), .string ⟨(tk ts i).says.toArray⟩, .int .i64 (tk ts i).n, .int .i64 ((tk ts i).place : Nat)] 93)).frozen? ⟨P, 1, none⟩ = false := (hq1.cb.keep hl2 (fun h => h)).frozen 1
  have hset : ∀ b, b ≠ P → ((w1.alloc (.cells #[.int .i64 ((tk ts i).kind : Nat), .string ⟨(tk ts i).says.toArray⟩, .int .i64 (tk ts i).n, .int .i64 ((tk ts i).place : Nat)] 93)).setCell ⟨P, 1, none⟩ (.int .i64 ((deep + 1 : Nat) : Int))).heap[b]? = (w1.alloc (.cells #[.int .i64 ((tk ts i).kind : Nat), .string ⟨(tk ts i).says.toArray⟩, .int .i64 (tk ts i).n, .int .i64 ((tk ts i).place : Nat)] 93)).heap[b]? := fun b hb => Below.heap_setCell _ ⟨P, 1, none⟩ _ b hb
  have HX3 := Lib.hid (((HBX.out.carry (hk1.block _ (by rw [HSZ.out]; omega) (by omega))).carry (hl2.block (by omega))).carry (hset (w.heap.size + 1) (by omega)))
  have HB3 : Hid (((w1.alloc (.cells #[.int .i64 ((tk ts i).kind : Nat), .string ⟨(tk ts i).says.toArray⟩, .int .i64 (tk ts i).n, .int .i64 ((tk ts i).place : Nat)] 93)).setCell ⟨P, 1, none⟩ (.int .i64 ((deep + 1 : Nat) : Int))).cell? ⟨w.heap.size, 0, none⟩ = some (.pointer (some ⟨P, 0, none⟩))) := Lib.hid ((World.cell?_of_block (a := ⟨w.heap.size, 0, none⟩) (hset w.heap.size (by omega))).trans b2)
  have HQ3 := Lib.hid ((hq1.lay hl2).less (deep' := deep + 1) (by omega))
  have HK3 := Lib.hid ((((Lay.keep HLW.out).trans hk1).trans (Lay.keep hl2)).setCell (p := ⟨P, 1, none⟩) (.inr rfl) (.int .i64 ((deep + 1 : Nat) : Int)))
  have HS3 : Hid (w.heap.size + 1 + 1 ≤ ((w1.alloc (.cells #[.int .i64 ((tk ts i).kind : Nat), .string ⟨(tk ts i).says.toArray⟩, .int .i64 (tk ts i).n, .int .i64 ((tk ts i).place : Nat)] 93)).setCell ⟨P, 1, none⟩ (.int .i64 ((deep + 1 : Nat) : Int))).heap.size) := Lib.hid (by simp [World.setCell]; omega)
  clear hq1 hk1 hl2 hset
  go_wp2_with fail
  clear b2 d2 f2
  refine (HIH.out _ HQ3.out).mono ?_
  rintro e w4 ⟨hk4, ho4⟩
  have HX4 := Lib.hid (HX3.out.carry (hk4.block _ (by have := HS3.out; omega) (by omega)))
  have HB4 := Lib.hid ((World.cell?_of_block (a := ⟨w.heap.size, 0, none⟩) (hk4.block w.heap.size (by have := HS3.out; omega) (by omega))).trans HB3.out)
  have HK4 := Lib.hid (HK3.out.trans hk4)
  clear hk4
  revert ho4
  rcases r with p | ⟨x, j⟩
  · rintro ⟨rfl, i', hq4⟩
    have HQ4 := Lib.hid hq4
    clear hq4
    simp only [zeroF, errV]
    obtain ⟨c0, c1, c2, c3, g0, g1, g2, g3⟩ := HX4.out
    go_wp2_with fail
    have hq := HX4.out.all (.int .i64 0) (.string ⟨#[]⟩) (.string ⟨#[]⟩) (.slice none 0 0)
    have hq5 := PQS.stored HQ4.out (show P ≠ w.heap.size + 1 by omega) (show g ≠ w.heap.size + 1 by omega) (.int .i64 0) (.string ⟨#[]⟩) (.string ⟨#[]⟩) (.slice none 0 0)
    have hb5 := (World.cell?_of_block (a := ⟨w.heap.size, 0, none⟩) (stored_other (W := w4) (k := w.heap.size + 1) (b := w.heap.size) (by omega) (.int .i64 0) (.string ⟨#[]⟩) (.string ⟨#[]⟩) (.slice none 0 0))).trans HB4.out
    have hd5 := hq5.cb.cell 1
    have hf5 := hq5.cb.frozen 1
    have hfin := OneQ.less hPl (show deep ≤ 9 by omega) (OneQ.bad (r := .error p) rfl hPl hgl HQ4.out HK4.out (Nat.le_succ _))
    have hqq := hq.carry (Below.heap_setCell _ ⟨P, 1, none⟩ (.int .i64 (deep : Nat)) (w.heap.size + 1) (by show w.heap.size + 1 ≠ P; omega))
    unfold Go.Proofs.YtmodiemmcdocdaaGreatDoor.stored at hb5 hd5 hf5 hfin hqq
    obtain ⟨q0, q1, q2, q3, _, _, _, _⟩ := hqq
    refine leaves_cons (f := 164) (args := #[.pointer (some ⟨w.heap.size, 0, none⟩)]) (by simp) (by simp [go_sem]) ?_
    refine (dec_deferred w.heap.size P deep .returning _ hb5 hd5 hf5 (by omega)).mono ?_
    rintro e u' w'' ⟨rfl, rfl, rfl⟩
    exact ⟨.tuple #[zeroF, errV p], by simp [results, Tryz.results158, go_sem, zeroF, errV, q0, q1, q2, q3], hfin⟩
  · rintro ⟨kv, rfl, hkb, hq4⟩
    obtain ⟨ak, ck, rfl⟩ := hkb.shape
    have HQ4 := Lib.hid hq4
    have HKB := Lib.hid (KsB.mono (G' := fun b => w.heap.size ≤ b ∧ b ≠ w.heap.size + 1) (fun b _ hb => ⟨by have := HS3.out; omega, by have := HS3.out; omega⟩) _ _ hkb)
    clear hq4 hkb
    simp only [Ft.val]
    obtain ⟨c0, c1, c2, c3, g0, g1, g2, g3⟩ := HX4.out
    go_wp2_with fail
    have hq := HX4.out.all (.int .i64 x.op) (.string x.name) (.string x.text) (.slice ak x.kids.length ck)
    have hq5 := PQS.stored HQ4.out (show P ≠ w.heap.size + 1 by omega) (show g ≠ w.heap.size + 1 by omega) (.int .i64 x.op) (.string x.name) (.string x.text) (.slice ak x.kids.length ck)
    have hb5 := (World.cell?_of_block (a := ⟨w.heap.size, 0, none⟩) (stored_other (W := w4) (k := w.heap.size + 1) (b := w.heap.size) (by omega) (.int .i64 x.op) (.string x.name) (.string x.text) (.slice ak x.kids.length ck))).trans HB4.out
    have hd5 := hq5.cb.cell 1
    have hf5 := hq5.cb.frozen 1
    have hfin := OneQ.less hPl (show deep ≤ 9 by omega) (OneQ.good (r := .ok (x, j)) rfl hPl hgl HQ4.out HK4.out (Nat.le_succ _) HKB.out)
    have hqq := hq.carry (Below.heap_setCell _ ⟨P, 1, none⟩ (.int .i64 (deep : Nat)) (w.heap.size + 1) (by show w.heap.size + 1 ≠ P; omega))
    unfold Go.Proofs.YtmodiemmcdocdaaGreatDoor.stored at hb5 hd5 hf5 hfin hqq
    obtain ⟨q0, q1, q2, q3, _, _, _, _⟩ := hqq
    refine leaves_cons (f := 164) (args := #[.pointer (some ⟨w.heap.size, 0, none⟩)]) (by simp) (by simp [go_sem]) ?_
    refine (dec_deferred w.heap.size P deep .returning _ hb5 hd5 hf5 (by omega)).mono ?_
    rintro e u' w'' ⟨rfl, rfl, rfl⟩
    exact ⟨.tuple #[x.val (.slice ak x.kids.length ck), .nilIface], by simp [results, Tryz.results158, go_sem, Ft.val, q0, q1, q2, q3], hfin⟩

set_option maxHeartbeats 4000000 in
set_option maxRecDepth 100000 in
theorem within_no_76 (P g c : Nat) (ts : List LX.Tok) (i : Nat) (w : World) (h : PQS P g c ts i 8 w) (hi : i + 1 < ts.length) :
    Calls Tryz.prog 158 #[.pointer (some ⟨P, 0, none⟩), .func (.func 89) #[.pointer (some ⟨P, 0, none⟩)] #[]] w (OneQ P g c ts 8 (.error (6, (tk ts i).place)) w) := by
  have hmf : ∀ (fn : Fn) (first cap : Array Value) (w : World), (Instr.makeFunc fn first cap).run Tryz.prog w = .ok (.func fn first cap) w := fun _ _ _ _ => rfl
  obtain ⟨w0, hw0⟩ : ∃ w0, w0 = w.alloc (.cells #[.pointer (some ⟨P, 0, none⟩)] 96) := ⟨_, rfl⟩
  obtain ⟨W, hW⟩ : ∃ W, W = newF w0 := ⟨_, rfl⟩
  have hz0 : w0.heap.size = w.heap.size + 1 := by rw [hw0]; simp
  have hb0 : w0.cell? ⟨w.heap.size, 0, none⟩ = some (.pointer (some ⟨P, 0, none⟩)) := by rw [hw0]; simp
  have hl0 : Lay w w0 := by rw [hw0]; exact (Keep.refl _ w).alloc _
  have hlw := newF_lay w0
  have hbx := newF_bx w0
  have hsz := newF_size w0
  rw [← hW] at hlw hbx hsz
  have hb1 : W.cell? ⟨w.heap.size, 0, none⟩ = some (.pointer (some ⟨P, 0, none⟩)) := (hlw.cell (by omega)).trans hb0
  have HW := Lib.hid (show (w.alloc (.cells #[.pointer (some ⟨P, 0, none⟩)] 96)).alloc (.cells #[.int .i64 0, .string ⟨#[]⟩, .string ⟨#[]⟩, .slice none 0 0] 26) = W by rw [hW, hw0]; rfl)
  rw [hz0] at hbx hsz
  clear hW hw0
  have hPl := h.cb.lt
  have hgl := h.gl
  have HQ := Lib.hid (h.lay (Keep.trans hl0 hlw))
  have HLW := Lib.hid (Keep.trans hl0 hlw)
  have HBX := Lib.hid hbx
  have HSZ := Lib.hid hsz
  have HI := Lib.hid hi
  have HB1 := Lib.hid hb1
  clear hlw hbx h hsz hl0 hz0 hb0 hi hb1
  have HN := Lib.hid (next_run P g c ts i 8 W HQ.out HI.out)
  go_enter_defers Tryz.func158, Tryz.ntmps158
  go_wp2_with fail
  rw [HW.out]
  refine HN.out.mono ?_
  rintro e w1 ⟨rfl, hq1, hk1⟩
  unfold tokW
  have hz1 := hk1.size
  rw [HSZ.out] at hz1
  have hl2 : Lay w1 (w1.alloc (.cells #[.int .i64 ((tk ts i).kind : Nat), .string ⟨(tk ts i).says.toArray⟩, .int .i64 (tk ts i).n, .int .i64 ((tk ts i).place : Nat)] 93)) := (Keep.refl _ w1).alloc _
  have b2 : (w1.alloc (.cells #[.int .i64 ((tk ts i).kind : Nat), .string ⟨(tk ts i).says.toArray⟩, .int .i64 (tk ts i).n, .int .i64 ((tk ts i).place : Nat)] 93)).cell? ⟨w.heap.size, 0, none⟩ = some (.pointer (some ⟨P, 0, none⟩)) := (hl2.cell (by omega)).trans ((World.cell?_of_block (a := ⟨w.heap.size, 0, none⟩) (hk1.block _ (by show w.heap.size < W.heap.size; rw [HSZ.out]; omega) (by show ¬ w.heap.size = P; omega))).trans HB1.out)
  have d2 : (w1.alloc (.cells #[.int .i64 ((tk ts i).kind : Nat), .string ⟨(tk ts i).says.toArray⟩, .int .i64 (tk ts i).n, .int .i64 ((tk ts i).place : Nat)] 93)).cell? ⟨P, 1, none⟩ = some (.int .i64 ((8 : Nat) : Int)) := (hl2.cell (by omega)).trans (hq1.cb.cell 1)
  have HX2 := Lib.hid ((HBX.out.carry (hk1.block _ (by rw [HSZ.out]; omega) (by omega))).carry (hl2.block (by omega)))
  have HQ2 := Lib.hid (hq1.lay hl2)
  have HK2 := Lib.hid (((Lay.keep HLW.out).trans hk1).trans (Lay.keep hl2))
  have HZ1 := Lib.hid hz1
  clear hq1 hk1 hl2 hz1
  go_wp2_with fail
  clear b2 d2
  refine (at_run (tk ts i) 6 _).mono ?_
  rintro e w3 ⟨rfl, hl3⟩
  have HX3 := Lib.hid (HX2.out.carry (hl3.block (by simp; have := HZ1.out; omega)))
  have HQ3 := Lib.hid (HQ2.out.lay hl3)
  have HK3 := Lib.hid (HK2.out.trans (Lay.keep hl3))
  clear hl3
  unfold errV
  obtain ⟨c0, c1, c2, c3, g0, g1, g2, g3⟩ := HX3.out
  go_wp2_with fail
  have hq := HX3.out.all (.int .i64 0) (.string ⟨#[]⟩) (.string ⟨#[]⟩) (.slice none 0 0)
  unfold Go.Proofs.YtmodiemmcdocdaaGreatDoor.stored at hq
  obtain ⟨q0, q1, q2, q3, _, _, _, _⟩ := hq
  exact (show Leaves _ _ _ _ [] .returning _ from ⟨.tuple #[zeroF, errV (6, (tk ts i).place)], by simp [results, Tryz.results158, go_sem, zeroF, errV, q0, q1, q2, q3], OneQ.bad rfl hPl hgl HQ3.out HK3.out (Nat.le_succ _)⟩)

set_option maxHeartbeats 4000000 in
set_option maxRecDepth 100000 in
theorem within_ok_76 (P g c : Nat) (ts : List LX.Tok) (i deep : Nat) (r : PX.PR Ft) (w : World) (h : PQS P g c ts i deep w) (hi : i + 1 < ts.length) (hd : deep ≤ 7)
    (IH : ∀ w, PQS P g c ts (i + 1) (deep + 1) w → Calls Tryz.prog 89 #[.pointer (some ⟨P, 0, none⟩)] w (OneQ P g c ts (deep + 1) r w)) :
    Calls Tryz.prog 158 #[.pointer (some ⟨P, 0, none⟩), .func (.func 89) #[.pointer (some ⟨P, 0, none⟩)] #[]] w (OneQ P g c ts deep r w) := by
  have hmf : ∀ (fn : Fn) (first cap : Array Value) (w : World), (Instr.makeFunc fn first cap).run Tryz.prog w = .ok (.func fn first cap) w := fun _ _ _ _ => rfl
  obtain ⟨w0, hw0⟩ : ∃ w0, w0 = w.alloc (.cells #[.pointer (some ⟨P, 0, none⟩)] 96) := ⟨_, rfl⟩
  obtain ⟨W, hW⟩ : ∃ W, W = newF w0 := ⟨_, rfl⟩
  have hz0 : w0.heap.size = w.heap.size + 1 := by rw [hw0]; simp
  have hb0 : w0.cell? ⟨w.heap.size, 0, none⟩ = some (.pointer (some ⟨P, 0, none⟩)) := by rw [hw0]; simp
  have hl0 : Lay w w0 := by rw [hw0]; exact (Keep.refl _ w).alloc _
  have hlw := newF_lay w0
  have hbx := newF_bx w0
  have hsz := newF_size w0
  rw [← hW] at hlw hbx hsz
  have hb1 : W.cell? ⟨w.heap.size, 0, none⟩ = some (.pointer (some ⟨P, 0, none⟩)) := (hlw.cell (by omega)).trans hb0
  have HW := Lib.hid (show (w.alloc (.cells #[.pointer (some ⟨P, 0, none⟩)] 96)).alloc (.cells #[.int .i64 0, .string ⟨#[]⟩, .string ⟨#[]⟩, .slice none 0 0] 26) = W by rw [hW, hw0]; rfl)
  rw [hz0] at hbx hsz
  clear hW hw0
  have hPl := h.cb.lt
  have hgl := h.gl
  have HQ := Lib.hid (h.lay (Keep.trans hl0 hlw))
  have HLW := Lib.hid (Keep.trans hl0 hlw)
  have HBX := Lib.hid hbx
  have HSZ := Lib.hid hsz
  have HI := Lib.hid hi
  have HB1 := Lib.hid hb1
  clear hlw hbx h hsz hl0 hz0 hb0 hi hb1
  have HN := Lib.hid (next_run P g c ts i deep W HQ.out HI.out)
  have HIH := Lib.hid IH
  have h8 : ((deep : Int) == 8) = false := by simp; omega
  have hsum : IntKind.i64.wrap ((deep : Int) + 1) = ((deep + 1 : Nat) : Int) := by rw [IntWalk.i64_in _ (by omega)]; omega
  clear IH
  go_enter_defers Tryz.func158, Tryz.ntmps158
  go_wp2_with fail
  rw [HW.out]
  refine HN.out.mono ?_
  rintro e w1 ⟨rfl, hq1, hk1⟩
  unfold tokW
  have hz1 := hk1.size
  rw [HSZ.out] at hz1
  have hl2 : Lay w1 (w1.alloc (.cells #[.int .i64 ((tk ts i).kind : Nat), .string ⟨(tk ts i).says.toArray⟩, .int .i64 (tk ts i).n, .int .i64 ((tk ts i).place : Nat)] 93)) := (Keep.refl _ w1).alloc _
  have b2 : (w1.alloc (.cells #[.int .i64 ((tk ts i).kind : Nat), .string ⟨(tk ts i).says.toArray⟩, .int .i64 (tk ts i).n, .int .i64 ((tk ts i).place : Nat)] 93)).cell? ⟨w.heap.size, 0, none⟩ = some (.pointer (some ⟨P, 0, none⟩)) := (hl2.cell (by omega)).trans ((World.cell?_of_block (a := ⟨w.heap.size, 0, none⟩) (hk1.block _ (by show w.heap.size < W.heap.size; rw [HSZ.out]; omega) (by show ¬ w.heap.size = P; omega))).trans HB1.out)
  have d2 : (w1.alloc (.cells #[.int .i64 ((tk ts i).kind : Nat), .string ⟨(tk ts i).says.toArray⟩, .int .i64 (tk ts i).n, .int .i64 ((tk ts i).place : Nat)] 93)).cell? ⟨P, 1, none⟩ = some (.int .i64 (deep : Nat)) := (hl2.cell (by omega)).trans (hq1.cb.cell 1)
  have f2 : (w1.alloc (.cells #[.int .i64 ((tk ts i).kind : Nat), .string ⟨(tk ts i).says.toArray⟩, .int .i64 (tk ts i).n, .int .i64 ((tk ts i).place : Nat)] 93)).frozen? ⟨P, 1, none⟩ = false := (hq1.cb.keep hl2 (fun h => h)).frozen 1
  have hset : ∀ b, b ≠ P → ((w1.alloc (.cells #[.int .i64 ((tk ts i).kind : Nat), .string ⟨(tk ts i).says.toArray⟩, .int .i64 (tk ts i).n, .int .i64 ((tk ts i).place : Nat)] 93)).setCell ⟨P, 1, none⟩ (.int .i64 ((deep + 1 : Nat) : Int))).heap[b]? = (w1.alloc (.cells #[.int .i64 ((tk ts i).kind : Nat), .string ⟨(tk ts i).says.toArray⟩, .int .i64 (tk ts i).n, .int .i64 ((tk ts i).place : Nat)] 93)).heap[b]? := fun b hb => Below.heap_setCell _ ⟨P, 1, none⟩ _ b hb
  have HX3 := Lib.hid (((HBX.out.carry (hk1.block _ (by rw [HSZ.out]; omega) (by omega))).carry (hl2.block (by omega))).carry (hset (w.heap.size + 1) (by omega)))
  have HB3 : Hid (((w1.alloc (.cells #[.int .i64 ((tk ts i).kind : Nat), .string ⟨(tk ts i).says.toArray⟩, .int .i64 (tk ts i).n, .int .i64 ((tk ts i).place : Nat)] 93)).setCell ⟨P, 1, none⟩ (.int .i64 ((deep + 1 : Nat) : Int))).cell? ⟨w.heap.size, 0, none⟩ = some (.pointer (some ⟨P, 0, none⟩))) := Lib.hid ((World.cell?_of_block (a := ⟨w.heap.size, 0, none⟩) (hset w.heap.size (by omega))).trans b2)
  have HQ3 := Lib.hid ((hq1.lay hl2).less (deep' := deep + 1) (by omega))
  have HK3 := Lib.hid ((((Lay.keep HLW.out).trans hk1).trans (Lay.keep hl2)).setCell (p := ⟨P, 1, none⟩) (.inr rfl) (.int .i64 ((deep + 1 : Nat) : Int)))
  have HS3 : Hid (w.heap.size + 1 + 1 ≤ ((w1.alloc (.cells #[.int .i64 ((tk ts i).kind : Nat), .string ⟨(tk ts i).says.toArray⟩, .int .i64 (tk ts i).n, .int .i64 ((tk ts i).place : Nat)] 93)).setCell ⟨P, 1, none⟩ (.int .i64 ((deep + 1 : Nat) : Int))).heap.size) := Lib.hid (by simp [World.setCell]; omega)
  clear hq1 hk1 hl2 hset
  go_wp2_with fail
  clear b2 d2 f2
  refine (HIH.out _ HQ3.out).mono ?_
  rintro e w4 ⟨hk4, ho4⟩
  have HX4 := Lib.hid (HX3.out.carry (hk4.block _ (by have := HS3.out; omega) (by omega)))
  have HB4 := Lib.hid ((World.cell?_of_block (a := ⟨w.heap.size, 0, none⟩) (hk4.block w.heap.size (by have := HS3.out; omega) (by omega))).trans HB3.out)
  have HK4 := Lib.hid (HK3.out.trans hk4)
  clear hk4
  revert ho4
  rcases r with p | ⟨x, j⟩
  · rintro ⟨rfl, i', hq4⟩
    have HQ4 := Lib.hid hq4
    clear hq4
    simp only [zeroF, errV]
    obtain ⟨c0, c1, c2, c3, g0, g1, g2, g3⟩ := HX4.out
    go_wp2_with fail
    have hq := HX4.out.all (.int .i64 0) (.string ⟨#[]⟩) (.string ⟨#[]⟩) (.slice none 0 0)
    have hq5 := PQS.stored HQ4.out (show P ≠ w.heap.size + 1 by omega) (show g ≠ w.heap.size + 1 by omega) (.int .i64 0) (.string ⟨#[]⟩) (.string ⟨#[]⟩) (.slice none 0 0)
    have hb5 := (World.cell?_of_block (a := ⟨w.heap.size, 0, none⟩) (stored_other (W := w4) (k := w.heap.size + 1) (b := w.heap.size) (by omega) (.int .i64 0) (.string ⟨#[]⟩) (.string ⟨#[]⟩) (.slice none 0 0))).trans HB4.out
    have hd5 := hq5.cb.cell 1
    have hf5 := hq5.cb.frozen 1
    have hfin := OneQ.less hPl (show deep ≤ 9 by omega) (OneQ.bad (r := .error p) rfl hPl hgl HQ4.out HK4.out (Nat.le_succ _))
    have hqq := hq.carry (Below.heap_setCell _ ⟨P, 1, none⟩ (.int .i64 (deep : Nat)) (w.heap.size + 1) (by show w.heap.size + 1 ≠ P; omega))
    unfold Go.Proofs.YtmodiemmcdocdaaGreatDoor.stored at hb5 hd5 hf5 hfin hqq
    obtain ⟨q0, q1, q2, q3, _, _, _, _⟩ := hqq
    refine leaves_cons (f := 164) (args := #[.pointer (some ⟨w.heap.size, 0, none⟩)]) (by simp) (by simp [go_sem]) ?_
    refine (dec_deferred w.heap.size P deep .returning _ hb5 hd5 hf5 (by omega)).mono ?_
    rintro e u' w'' ⟨rfl, rfl, rfl⟩
    exact ⟨.tuple #[zeroF, errV p], by simp [results, Tryz.results158, go_sem, zeroF, errV, q0, q1, q2, q3], hfin⟩
  · rintro ⟨kv, rfl, hkb, hq4⟩
    obtain ⟨ak, ck, rfl⟩ := hkb.shape
    have HQ4 := Lib.hid hq4
    have HKB := Lib.hid (KsB.mono (G' := fun b => w.heap.size ≤ b ∧ b ≠ w.heap.size + 1) (fun b _ hb => ⟨by have := HS3.out; omega, by have := HS3.out; omega⟩) _ _ hkb)
    clear hq4 hkb
    simp only [Ft.val]
    obtain ⟨c0, c1, c2, c3, g0, g1, g2, g3⟩ := HX4.out
    go_wp2_with fail
    have hq := HX4.out.all (.int .i64 x.op) (.string x.name) (.string x.text) (.slice ak x.kids.length ck)
    have hq5 := PQS.stored HQ4.out (show P ≠ w.heap.size + 1 by omega) (show g ≠ w.heap.size + 1 by omega) (.int .i64 x.op) (.string x.name) (.string x.text) (.slice ak x.kids.length ck)
    have hb5 := (World.cell?_of_block (a := ⟨w.heap.size, 0, none⟩) (stored_other (W := w4) (k := w.heap.size + 1) (b := w.heap.size) (by omega) (.int .i64 x.op) (.string x.name) (.string x.text) (.slice ak x.kids.length ck))).trans HB4.out
    have hd5 := hq5.cb.cell 1
    have hf5 := hq5.cb.frozen 1
    have hfin := OneQ.less hPl (show deep ≤ 9 by omega) (OneQ.good (r := .ok (x, j)) rfl hPl hgl HQ4.out HK4.out (Nat.le_succ _) HKB.out)
    have hqq := hq.carry (Below.heap_setCell _ ⟨P, 1, none⟩ (.int .i64 (deep : Nat)) (w.heap.size + 1) (by show w.heap.size + 1 ≠ P; omega))
    unfold Go.Proofs.YtmodiemmcdocdaaGreatDoor.stored at hb5 hd5 hf5 hfin hqq
    obtain ⟨q0, q1, q2, q3, _, _, _, _⟩ := hqq
    refine leaves_cons (f := 164) (args := #[.pointer (some ⟨w.heap.size, 0, none⟩)]) (by simp) (by simp [go_sem]) ?_
    refine (dec_deferred w.heap.size P deep .returning _ hb5 hd5 hf5 (by omega)).mono ?_
    rintro e u' w'' ⟨rfl, rfl, rfl⟩
    exact ⟨.tuple #[x.val (.slice ak x.kids.length ck), .nilIface], by simp [results, Tryz.results158, go_sem, Ft.val, q0, q1, q2, q3], hfin⟩
end Go.Proofs.YtmodiemmcdocdaaGreatDoor

namespace Go.Proofs.YtmodiemmcdocdaaGreatDoor
open Go.RowKit Go
open PX (tk isT)

set_option maxHeartbeats 4000000 in
set_option maxRecDepth 100000 in
theorem and_own (P g c : Nat) (ts : List LX.Tok) (deep : Nat) (one : Nat → PX.PR Ft) (he : PX.Ended ts) (hfew : ts.length ≤ 1100)
    (hgo : ∀ i x j, one i = .ok (x, j) → i + 1 ≤ j)
    (IH : ∀ i w, PQS P g c ts i deep w → Calls Tryz.prog 135 #[.pointer (some ⟨P, 0, none⟩)] w (OneQ P g c ts deep (one i) w))
    (i : Nat) (w : World) (h : PQS P g c ts i deep w) :
    Calls Tryz.prog 118 #[.pointer (some ⟨P, 0, none⟩)] w (OneQ P g c ts deep (PX.row ts PX.wAnd 7 one i) w) := by
  have hmf : ∀ (fn : Fn) (first cap : Array Value) (w : World), (Instr.makeFunc fn first cap).run Tryz.prog w = .ok (.func fn first cap) w := fun _ _ _ _ => rfl
  obtain ⟨W, hW⟩ : ∃ W, W = newF w := ⟨_, rfl⟩
  have hlw := newF_lay w
  have hbx := newF_bx w
  have hsz := newF_size w
  rw [← hW] at hlw hbx hsz
  have HW := Lib.hid (show w.alloc (.cells #[.int .i64 0, .string ⟨#[]⟩, .string ⟨#[]⟩, .slice none 0 0] 26) = W from hW.symm)
  clear hW
  have hPl := h.cb.lt
  have hgl := h.gl
  have HQ := Lib.hid (h.lay hlw)
  have HLW := Lib.hid hlw
  have HBX := Lib.hid hbx
  have HSZ := Lib.hid hsz
  clear hlw hbx h hsz
  have HR : Hid (Calls Tryz.prog 117 #[.pointer (some ⟨P, 0, none⟩), .string ⟨#[97, 110, 100]⟩, .int .i64 7, .func (.func 135) #[.pointer (some ⟨P, 0, none⟩)] #[]] W (OneQ P g c ts deep (PX.row ts PX.wAnd 7 one i) W)) := Lib.hid (row_own_113 P g c ts deep PX.wAnd 7 one he hfew hgo IH i W HQ.out)
  clear he hfew hgo IH
  go_enter Tryz.func118, Tryz.ntmps118
  go_wp2_with fail
  rw [HW.out]
  refine HR.out.mono ?_
  rintro e w1 ⟨hk1, ho1⟩
  have HX1 := Lib.hid (HBX.out.carry (hk1.block _ (by rw [HSZ.out]; omega) (by omega)))
  have HK1 := Lib.hid ((Lay.keep HLW.out).trans hk1)
  clear hk1
  revert ho1
  rcases hr : PX.row ts PX.wAnd 7 one i with p | ⟨x, j⟩
  · have HRR := Lib.hid hr
    clear hr
    rintro ⟨rfl, i', hq1⟩
    have HQ1 := Lib.hid hq1
    clear hq1
    simp only [zeroF, errV]
    obtain ⟨c0, c1, c2, c3, g0, g1, g2, g3⟩ := HX1.out
    go_wp2_with fail
    have hq := HX1.out.all (.int .i64 0) (.string ⟨#[]⟩) (.string ⟨#[]⟩) (.slice none 0 0)
    unfold Go.Proofs.YtmodiemmcdocdaaGreatDoor.stored at hq
    obtain ⟨q0, q1, q2, q3, _, _, _, _⟩ := hq
    refine bodyPost_ret (v := .tuple #[zeroF, errV p]) (by simp [results, Tryz.results118, go_sem, zeroF, errV, q0, q1, q2, q3]) rfl ?_
    exact OneQ.bad HRR.out hPl hgl HQ1.out HK1.out (Nat.le_refl _)
  · have HRR := Lib.hid hr
    clear hr
    rintro ⟨kv, rfl, hkb, hq1⟩
    obtain ⟨ak, ck, rfl⟩ := hkb.shape
    have HQ1 := Lib.hid hq1
    have HKB := Lib.hid hkb
    clear hq1 hkb
    simp only [Ft.val]
    obtain ⟨c0, c1, c2, c3, g0, g1, g2, g3⟩ := HX1.out
    go_wp2_with fail
    have hq := HX1.out.all (.int .i64 x.op) (.string x.name) (.string x.text) (.slice ak x.kids.length ck)
    unfold Go.Proofs.YtmodiemmcdocdaaGreatDoor.stored at hq
    obtain ⟨q0, q1, q2, q3, _, _, _, _⟩ := hq
    refine bodyPost_ret (v := .tuple #[x.val (.slice ak x.kids.length ck), .nilIface]) (by simp [results, Tryz.results118, go_sem, Ft.val, q0, q1, q2, q3]) rfl ?_
    refine OneQ.good HRR.out hPl hgl HQ1.out HK1.out (Nat.le_refl _) ?_
    exact KsB.mono (fun b _ hb => by have : W.heap.size ≤ b := hb; rw [HSZ.out] at this; exact ⟨by omega, by omega⟩) _ _ HKB.out

set_option maxHeartbeats 4000000 in
set_option maxRecDepth 100000 in
theorem or_own (P g c : Nat) (ts : List LX.Tok) (deep : Nat) (one : Nat → PX.PR Ft) (he : PX.Ended ts) (hfew : ts.length ≤ 1100)
    (hgo : ∀ i x j, one i = .ok (x, j) → i + 1 ≤ j)
    (IH : ∀ i w, PQS P g c ts i deep w → Calls Tryz.prog 118 #[.pointer (some ⟨P, 0, none⟩)] w (OneQ P g c ts deep (one i) w))
    (i : Nat) (w : World) (h : PQS P g c ts i deep w) :
    Calls Tryz.prog 89 #[.pointer (some ⟨P, 0, none⟩)] w (OneQ P g c ts deep (PX.row ts PX.wOr 8 one i) w) := by
  have hmf : ∀ (fn : Fn) (first cap : Array Value) (w : World), (Instr.makeFunc fn first cap).run Tryz.prog w = .ok (.func fn first cap) w := fun _ _ _ _ => rfl
  obtain ⟨W, hW⟩ : ∃ W, W = newF w := ⟨_, rfl⟩
  have hlw := newF_lay w
  have hbx := newF_bx w
  have hsz := newF_size w
  rw [← hW] at hlw hbx hsz
  have HW := Lib.hid (show w.alloc (.cells #[.int .i64 0, .string ⟨#[]⟩, .string ⟨#[]⟩, .slice none 0 0] 26) = W from hW.symm)
  clear hW
  have hPl := h.cb.lt
  have hgl := h.gl
  have HQ := Lib.hid (h.lay hlw)
  have HLW := Lib.hid hlw
  have HBX := Lib.hid hbx
  have HSZ := Lib.hid hsz
  clear hlw hbx h hsz
  have HR : Hid (Calls Tryz.prog 117 #[.pointer (some ⟨P, 0, none⟩), .string ⟨#[111, 114]⟩, .int .i64 8, .func (.func 118) #[.pointer (some ⟨P, 0, none⟩)] #[]] W (OneQ P g c ts deep (PX.row ts PX.wOr 8 one i) W)) := Lib.hid (row_own_99 P g c ts deep PX.wOr 8 one he hfew hgo IH i W HQ.out)
  clear he hfew hgo IH
  go_enter Tryz.func89, Tryz.ntmps89
  go_wp2_with fail
  rw [HW.out]
  refine HR.out.mono ?_
  rintro e w1 ⟨hk1, ho1⟩
  have HX1 := Lib.hid (HBX.out.carry (hk1.block _ (by rw [HSZ.out]; omega) (by omega)))
  have HK1 := Lib.hid ((Lay.keep HLW.out).trans hk1)
  clear hk1
  revert ho1
  rcases hr : PX.row ts PX.wOr 8 one i with p | ⟨x, j⟩
  · have HRR := Lib.hid hr
    clear hr
    rintro ⟨rfl, i', hq1⟩
    have HQ1 := Lib.hid hq1
    clear hq1
    simp only [zeroF, errV]
    obtain ⟨c0, c1, c2, c3, g0, g1, g2, g3⟩ := HX1.out
    go_wp2_with fail
    have hq := HX1.out.all (.int .i64 0) (.string ⟨#[]⟩) (.string ⟨#[]⟩) (.slice none 0 0)
    unfold Go.Proofs.YtmodiemmcdocdaaGreatDoor.stored at hq
    obtain ⟨q0, q1, q2, q3, _, _, _, _⟩ := hq
    refine bodyPost_ret (v := .tuple #[zeroF, errV p]) (by simp [results, Tryz.results89, go_sem, zeroF, errV, q0, q1, q2, q3]) rfl ?_
    exact OneQ.bad HRR.out hPl hgl HQ1.out HK1.out (Nat.le_refl _)
  · have HRR := Lib.hid hr
    clear hr
    rintro ⟨kv, rfl, hkb, hq1⟩
    obtain ⟨ak, ck, rfl⟩ := hkb.shape
    have HQ1 := Lib.hid hq1
    have HKB := Lib.hid hkb
    clear hq1 hkb
    simp only [Ft.val]
    obtain ⟨c0, c1, c2, c3, g0, g1, g2, g3⟩ := HX1.out
    go_wp2_with fail
    have hq := HX1.out.all (.int .i64 x.op) (.string x.name) (.string x.text) (.slice ak x.kids.length ck)
    unfold Go.Proofs.YtmodiemmcdocdaaGreatDoor.stored at hq
    obtain ⟨q0, q1, q2, q3, _, _, _, _⟩ := hq
    refine bodyPost_ret (v := .tuple #[x.val (.slice ak x.kids.length ck), .nilIface]) (by simp [results, Tryz.results89, go_sem, Ft.val, q0, q1, q2, q3]) rfl ?_
    refine OneQ.good HRR.out hPl hgl HQ1.out HK1.out (Nat.le_refl _) ?_
    exact KsB.mono (fun b _ hb => by have : W.heap.size ≤ b := hb; rw [HSZ.out] at this; exact ⟨by omega, by omega⟩) _ _ HKB.out

/-- A not, of what stands behind it. -/
def notX (r : PX.PR Ft) : PX.PR Ft :=
  match r with
  | .error e => .error e
  | .ok (x, j) => .ok (.mk 6 ⟨#[]⟩ ⟨#[]⟩ [x], j)
set_option maxHeartbeats 4000000 in
set_option maxRecDepth 100000 in
theorem not_own (P g c : Nat) (ts : List LX.Tok) (i deep : Nat) (r : PX.PR Ft) (w : World) (h : PQS P g c ts i deep w)
    (IH : ∀ w, PQS P g c ts i deep w → Calls Tryz.prog 158 #[.pointer (some ⟨P, 0, none⟩), .func (.func 135) #[.pointer (some ⟨P, 0, none⟩)] #[]] w (OneQ P g c ts deep r w)) :
    Calls Tryz.prog 149 #[.pointer (some ⟨P, 0, none⟩)] w (OneQ P g c ts deep (notX r) w) := by
  have hmf : ∀ (fn : Fn) (first cap : Array Value) (w : World), (Instr.makeFunc fn first cap).run Tryz.prog w = .ok (.func fn first cap) w := fun _ _ _ _ => rfl
  obtain ⟨W, hW⟩ : ∃ W, W = newF w := ⟨_, rfl⟩
  have hlw := newF_lay w
  have hbx := newF_bx w
  have hsz := newF_size w
  rw [← hW] at hlw hbx hsz
  have HW := Lib.hid (show w.alloc (.cells #[.int .i64 0, .string ⟨#[]⟩, .string ⟨#[]⟩, .slice none 0 0] 26) = W from hW.symm)
  clear hW
  have hPl := h.cb.lt
  have hgl := h.gl
  have HQ := Lib.hid (h.lay hlw)
  have HLW := Lib.hid hlw
  have HBX := Lib.hid hbx
  have HSZ := Lib.hid hsz
  clear hlw hbx h hsz
  have HR := Lib.hid (IH W HQ.out)
  clear IH
  go_enter Tryz.func149, Tryz.ntmps149
  go_wp2_with fail
  rw [HW.out]
  refine HR.out.mono ?_
  rintro e w1 ⟨hk1, ho1⟩
  have hz1 := hk1.size
  rw [HSZ.out] at hz1
  have HX1 := Lib.hid (HBX.out.carry (hk1.block _ (by rw [HSZ.out]; omega) (by omega)))
  have HK1 := Lib.hid ((Lay.keep HLW.out).trans hk1)
  have HZ1 := Lib.hid hz1
  clear hk1 HR
  revert ho1
  rcases r with p | ⟨x, j⟩
  · rintro ⟨rfl, i', hq1⟩
    have hl2 : Lay w1 (w1.alloc (.cells #[.int .i64 0, .string ⟨#[]⟩, .string ⟨#[]⟩, .slice none 0 0] 26)) := (Keep.refl _ w1).alloc _
    have HX2 := Lib.hid (HX1.out.carry (hl2.block (by omega)))
    have HQ2 := Lib.hid (hq1.lay hl2)
    have HK2 := Lib.hid (HK1.out.trans (Lay.keep hl2))
    clear hq1 hl2 hz1
    simp only [zeroF, errV]
    obtain ⟨c0, c1, c2, c3, g0, g1, g2, g3⟩ := HX2.out
    go_wp2_with fail
    have hq := HX2.out.all (.int .i64 0) (.string ⟨#[]⟩) (.string ⟨#[]⟩) (.slice none 0 0)
    unfold Go.Proofs.YtmodiemmcdocdaaGreatDoor.stored at hq
    obtain ⟨q0, q1, q2, q3, _, _, _, _⟩ := hq
    refine bodyPost_ret (v := .tuple #[zeroF, errV p]) (by simp [results, Tryz.results149, go_sem, zeroF, errV, q0, q1, q2, q3]) rfl ?_
    exact OneQ.bad (r := notX (.error p)) rfl hPl hgl HQ2.out HK2.out (Nat.le_refl _)
  · rintro ⟨kv, rfl, hkb, hq1⟩
    obtain ⟨ak, ck, rfl⟩ := hkb.shape
    have hl2 : Lay w1 (w1.alloc (.cells #[.int .i64 x.op, .string x.name, .string x.text, .slice ak x.kids.length ck] 26)) := (Keep.refl _ w1).alloc _
    have hl3 : Lay w1 ((w1.alloc (.cells #[.int .i64 x.op, .string x.name, .string x.text, .slice ak x.kids.length ck] 26)).alloc (.cells #[.int .i64 x.op, .string x.name, .string x.text, .slice ak x.kids.length ck] 26)) := hl2.alloc _
    have HX2 := Lib.hid (HX1.out.carry (hl2.block (by omega)))
    have HX3 := Lib.hid (HX1.out.carry (hl3.block (by omega)))
    have HQ3 := Lib.hid (hq1.lay hl3)
    have HK3 := Lib.hid (HK1.out.trans (Lay.keep hl3))
    have HF2 : Hid (Bx (w1.alloc (.cells #[.int .i64 x.op, .string x.name, .string x.text, .slice ak x.kids.length ck] 26)) w1.heap.size (.int .i64 x.op) (.string x.name) (.string x.text) (.slice ak x.kids.length ck)) := Lib.hid ⟨by go_simp, by go_simp, by go_simp, by go_simp, by go_simp, by go_simp, by go_simp, by go_simp⟩
    have HKB := Lib.hid (KsB.mono (G' := fun b => w.heap.size + 1 ≤ b) (fun b _ hb => by have : W.heap.size ≤ b := hb; rw [HSZ.out] at this; exact this) _ _ (KsB.keep hl3.size (fun b _ hlt => hl3.block hlt) _ _ hkb))
    have HRK := Lib.hid ((rk_new 4 (w1.alloc (.cells #[.int .i64 x.op, .string x.name, .string x.text, .slice ak x.kids.length ck] 26)) 1 [.int .i64 x.op, .string x.name, .string x.text, .slice ak x.kids.length ck] 26 rfl (by omega)).mono (G' := fun b => w.heap.size + 1 ≤ b) (fun b hb _ => by rw [hb]; simp; omega))
    clear hq1 hl2 hl3 hkb hz1
    simp only [Ft.val]
    obtain ⟨c0, c1, c2, c3, g0, g1, g2, g3⟩ := HX3.out
    obtain ⟨d0, d1, d2, d3, _, _, _, _⟩ := HF2.out
    go_wp2_with fail
    have hq := HX3.out.all (.int .i64 6) (.string ⟨#[]⟩) (.string ⟨#[]⟩) (.slice (some ⟨w1.heap.size + 1, 0, none⟩) 1 1)
    unfold Go.Proofs.YtmodiemmcdocdaaGreatDoor.stored at hq
    obtain ⟨q0, q1, q2, q3, _, _, _, _⟩ := hq
    refine bodyPost_ret (v := .tuple #[.agg #[.int .i64 6, .string ⟨#[]⟩, .string ⟨#[]⟩, .slice (some ⟨w1.heap.size + 1, 0, none⟩) 1 1], .nilIface]) (by simp [results, Tryz.results149, go_sem, q0, q1, q2, q3]) rfl ?_
    refine OneQ.good (r := notX (.ok (x, j))) (x := .mk 6 ⟨#[]⟩ ⟨#[]⟩ [x]) (kv := .slice (some ⟨w1.heap.size + 1, 0, none⟩) 1 1) rfl hPl hgl HQ3.out HK3.out (Nat.le_refl _) ?_
    have hrk := HRK.out
    rw [show (w1.alloc (.cells #[.int .i64 x.op, .string x.name, .string x.text, .slice ak x.kids.length ck] 26)).heap.size = w1.heap.size + 1 by simp] at hrk
    exact KsB.mono (fun b _ hb => ⟨by omega, by omega⟩) _ _ (KsB.of_rk (R := [((.slice ak x.kids.length ck : Value), x)]) (G := fun b => w.heap.size + 1 ≤ b) (G0 := fun b => w.heap.size + 1 ≤ b) (fun b hb => hb) hrk (fun p hp => by rw [List.mem_singleton] at hp; subst hp; exact HKB.out) (by simp) 6 _ _)

/-- A bracket, behind what stands within it. -/
def shutX (ts : List LX.Tok) (r : PX.PR Ft) : PX.PR Ft :=
  match r with
  | .error e => .error e
  | .ok (x, j) => match PX.want ts PX.wShut j with
    | .error e => .error e
    | .ok (_, k) => .ok (x, k)

set_option maxHeartbeats 4000000 in
set_option maxRecDepth 100000 in
theorem bracket_own (P g c : Nat) (ts : List LX.Tok) (i deep : Nat) (r : PX.PR Ft) (he : PX.Ended ts) (w : World) (h : PQS P g c ts i deep w)
    (IH : ∀ w, PQS P g c ts i deep w → Calls Tryz.prog 158 #[.pointer (some ⟨P, 0, none⟩), .func (.func 89) #[.pointer (some ⟨P, 0, none⟩)] #[]] w (OneQ P g c ts deep r w)) :
    Calls Tryz.prog 150 #[.pointer (some ⟨P, 0, none⟩)] w (OneQ P g c ts deep (shutX ts r) w) := by
  have hmf : ∀ (fn : Fn) (first cap : Array Value) (w : World), (Instr.makeFunc fn first cap).run Tryz.prog w = .ok (.func fn first cap) w := fun _ _ _ _ => rfl
  obtain ⟨W, hW⟩ : ∃ W, W = newF w := ⟨_, rfl⟩
  have hlw := newF_lay w
  have hbx := newF_bx w
  have hsz := newF_size w
  rw [← hW] at hlw hbx hsz
  have HW := Lib.hid (show w.alloc (.cells #[.int .i64 0, .string ⟨#[]⟩, .string ⟨#[]⟩, .slice none 0 0] 26) = W from hW.symm)
  clear hW
  have hPl := h.cb.lt
  have hgl := h.gl
  have HQ := Lib.hid (h.lay hlw)
  have HLW := Lib.hid hlw
  have HBX := Lib.hid hbx
  have HSZ := Lib.hid hsz
  clear hlw hbx h hsz
  have HR := Lib.hid (IH W HQ.out)
  have HE := Lib.hid he
  clear IH he
  go_enter Tryz.func150, Tryz.ntmps150
  go_wp2_with fail
  rw [HW.out]
  refine HR.out.mono ?_
  rintro e w1 ⟨hk1, ho1⟩
  have hz1 := hk1.size
  rw [HSZ.out] at hz1
  have HX1 := Lib.hid (HBX.out.carry (hk1.block _ (by rw [HSZ.out]; omega) (by omega)))
  have HK1 := Lib.hid ((Lay.keep HLW.out).trans hk1)
  have HZ1 := Lib.hid hz1
  clear hk1 HR
  revert ho1
  rcases r with p | ⟨x, j⟩
  · rintro ⟨rfl, i', hq1⟩
    have hl2 : Lay w1 (w1.alloc (.cells #[.int .i64 0, .string ⟨#[]⟩, .string ⟨#[]⟩, .slice none 0 0] 26)) := (Keep.refl _ w1).alloc _
    have HX2 := Lib.hid (HX1.out.carry (hl2.block (by omega)))
    have HQ2 := Lib.hid (hq1.lay hl2)
    have HK2 := Lib.hid (HK1.out.trans (Lay.keep hl2))
    clear hq1 hl2 hz1
    simp only [zeroF, errV]
    obtain ⟨c0, c1, c2, c3, g0, g1, g2, g3⟩ := HX2.out
    go_wp2_with fail
    have hq := HX2.out.all (.int .i64 0) (.string ⟨#[]⟩) (.string ⟨#[]⟩) (.slice none 0 0)
    unfold Go.Proofs.YtmodiemmcdocdaaGreatDoor.stored at hq
    obtain ⟨q0, q1, q2, q3, _, _, _, _⟩ := hq
    refine bodyPost_ret (v := .tuple #[zeroF, errV p]) (by simp [results, Tryz.results150, go_sem, zeroF, errV, q0, q1, q2, q3]) rfl ?_
    exact OneQ.bad (r := shutX ts (.error p)) rfl hPl hgl HQ2.out HK2.out (Nat.le_refl _)
  · rintro ⟨kv, rfl, hkb, hq1⟩
    obtain ⟨ak, ck, rfl⟩ := hkb.shape
    have hl2 : Lay w1 (w1.alloc (.cells #[.int .i64 x.op, .string x.name, .string x.text, .slice ak x.kids.length ck] 26)) := (Keep.refl _ w1).alloc _
    have HX2 := Lib.hid (HX1.out.carry (hl2.block (by omega)))
    have HQ2 := Lib.hid (hq1.lay hl2)
    have HK2 := Lib.hid (HK1.out.trans (Lay.keep hl2))
    have HF2 : Hid (Bx (w1.alloc (.cells #[.int .i64 x.op, .string x.name, .string x.text, .slice ak x.kids.length ck] 26)) w1.heap.size (.int .i64 x.op) (.string x.name) (.string x.text) (.slice ak x.kids.length ck)) := Lib.hid ⟨by go_simp, by go_simp, by go_simp, by go_simp, by go_simp, by go_simp, by go_simp, by go_simp⟩
    have HKB2 := Lib.hid (KsB.mono (G' := fun b => w.heap.size + 1 ≤ b) (fun b _ hb => by have : W.heap.size ≤ b := hb; rw [HSZ.out] at this; exact this) _ _ (KsB.keep hl2.size (fun b _ hlt => hl2.block hlt) _ _ hkb))
    have hz2 : w1.heap.size + 1 = (w1.alloc (.cells #[.int .i64 x.op, .string x.name, .string x.text, .slice ak x.kids.length ck] 26)).heap.size := by simp
    clear hq1 hl2 hkb hz1
    simp only [Ft.val]
    go_wp2_with fail
    revert HX2 HQ2 HK2 HF2 HKB2 hz2
    generalize w1.alloc (.cells #[.int .i64 x.op, .string x.name, .string x.text, .slice ak x.kids.length ck] 26) = w2
    intro HX2 HQ2 HK2 HF2 HKB2 hz2
    have HZ2 := Lib.hid hz2
    clear hz2
    by_cases hT : isT (tk ts j) PX.wShut = true
    · have HM : Hid (Calls Tryz.prog 116 #[.pointer (some ⟨P, 0, none⟩), .string ⟨#[41]⟩] w2 fun e w' => e = .returned (.tuple #[tokW (tk ts j), .nilIface]) ∧ PQS P g c ts (j + 1) deep w' ∧ Keep (fun k => k = P) w2 w') := Lib.hid (must_ok P g c ts j deep PX.wShut w2 HQ2.out HE.out hT)
      have HRR : Hid (shutX ts (.ok (x, j)) = .ok (x, j + 1)) := Lib.hid (by unfold shutX PX.want; dsimp only; rw [if_pos hT])
      clear hT
      refine HM.out.mono ?_
      rintro e w3 ⟨rfl, hq3, hk3⟩
      have hz3 : w1.heap.size + 1 ≤ w3.heap.size := by rw [HZ2.out]; exact hk3.size
      have hl4 : Lay w3 (w3.alloc (.cells #[.int .i64 ((tk ts j).kind : Nat), .string ⟨(tk ts j).says.toArray⟩, .int .i64 (tk ts j).n, .int .i64 ((tk ts j).place : Nat)] 93)) := (Keep.refl _ w3).alloc _
      have HX4 := Lib.hid ((HX2.out.carry (hk3.block _ (by rw [← HZ2.out]; have := HZ1.out; omega) (by omega))).carry (hl4.block (by have := HZ1.out; omega)))
      have HF4 := Lib.hid ((HF2.out.carry (hk3.block _ (by rw [← HZ2.out]; omega) (by have := HZ1.out; omega))).carry (hl4.block (by omega)))
      have HQ4 := Lib.hid (hq3.lay hl4)
      have HK4 := Lib.hid ((HK2.out.trans hk3).trans (Lay.keep hl4))
      have HKB4 := Lib.hid (KsB.keep (Nat.le_trans hk3.size hl4.size) (fun b hb hlt => (hl4.block (Nat.lt_of_lt_of_le hlt hk3.size)).trans (hk3.block b hlt (by omega))) _ _ HKB2.out)
      clear hq3 hk3 hl4 hz3
      simp only [tokW]
      obtain ⟨c0, c1, c2, c3, g0, g1, g2, g3⟩ := HX4.out
      obtain ⟨d0, d1, d2, d3, _, _, _, _⟩ := HF4.out
      go_wp2_with fail
      have hq := HX4.out.all (.int .i64 x.op) (.string x.name) (.string x.text) (.slice ak x.kids.length ck)
      unfold Go.Proofs.YtmodiemmcdocdaaGreatDoor.stored at hq
      obtain ⟨q0, q1, q2, q3, _, _, _, _⟩ := hq
      refine bodyPost_ret (v := .tuple #[x.val (.slice ak x.kids.length ck), .nilIface]) (by simp [results, Tryz.results150, go_sem, Ft.val, q0, q1, q2, q3]) rfl ?_
      refine OneQ.good HRR.out hPl hgl HQ4.out HK4.out (Nat.le_refl _) ?_
      exact KsB.mono (fun b _ hb => ⟨by omega, by omega⟩) _ _ HKB4.out
    · have hTf : isT (tk ts j) PX.wShut = false := by simpa using hT
      have HM : Hid (Calls Tryz.prog 116 #[.pointer (some ⟨P, 0, none⟩), .string ⟨#[41]⟩] w2 fun e w' => e = .returned (.tuple #[tokW SX.zeroT, errV (5, (tk ts j).place)]) ∧ (∃ i', PQS P g c ts i' deep w') ∧ Keep (fun k => k = P) w2 w') := Lib.hid (must_no P g c ts j deep PX.wShut w2 HQ2.out HE.out hTf)
      have HRR : Hid (shutX ts (.ok (x, j)) = .error (5, (tk ts j).place)) := Lib.hid (by unfold shutX PX.want; dsimp only; rw [if_neg hT])
      clear hT hTf
      refine HM.out.mono ?_
      rintro e w3 ⟨rfl, ⟨i', hq3⟩, hk3⟩
      have hz3 : w1.heap.size + 1 ≤ w3.heap.size := by rw [HZ2.out]; exact hk3.size
      have hl4 : Lay w3 (w3.alloc (.cells #[.int .i64 0, .string ⟨#[]⟩, .int .i64 0, .int .i64 0] 93)) := (Keep.refl _ w3).alloc _
      have HX4 := Lib.hid ((HX2.out.carry (hk3.block _ (by rw [← HZ2.out]; have := HZ1.out; omega) (by omega))).carry (hl4.block (by have := HZ1.out; omega)))
      have HQ4 := Lib.hid (hq3.lay hl4)
      have HK4 := Lib.hid ((HK2.out.trans hk3).trans (Lay.keep hl4))
      clear hq3 hk3 hl4 hz3
      simp only [tokW, SX.zeroT, errV]
      obtain ⟨c0, c1, c2, c3, g0, g1, g2, g3⟩ := HX4.out
      go_wp2_with fail
      have hq := HX4.out.all (.int .i64 0) (.string ⟨#[]⟩) (.string ⟨#[]⟩) (.slice none 0 0)
      unfold Go.Proofs.YtmodiemmcdocdaaGreatDoor.stored at hq
      obtain ⟨q0, q1, q2, q3, _, _, _, _⟩ := hq
      refine bodyPost_ret (v := .tuple #[zeroF, errV (5, (tk ts j).place)]) (by simp [results, Tryz.results150, go_sem, zeroF, errV, q0, q1, q2, q3]) rfl ?_
      exact OneQ.bad HRR.out hPl hgl HQ4.out HK4.out (Nat.le_refl _)
end Go.Proofs.YtmodiemmcdocdaaGreatDoor
