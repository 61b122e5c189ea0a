/-
  Fa14.
-/
import Derived.Test.YtoobjjpheegmdaaGreatJ24
import Derived.Deep.RegionLaw
namespace Go.Proofs.YtoobjjpheegmdaaGreat.E4
open Go.RowKit Go
open Go.Sort (grow)
theorem flatR_dropP : ∀ (R : List (Value × Ent)) (q : Nat), (flatR R).drop (q * 3) = flatR (R.drop q)
  | [], q => by simp [flatR]
  | x :: R, 0 => by simp [flatR]
  | x :: R, q + 1 => by
    rw [show (q + 1) * 3 = q * 3 + 1 + 1 + 1 by omega]
    show ((Value.int .i64 x.2.tm :: x.1 :: .string x.2.line :: flatR R).drop _) = flatR (R.drop q)
    rw [List.drop_succ_cons, List.drop_succ_cons, List.drop_succ_cons, flatR_dropP R q]
theorem flatR_ins (R : List (Value × Ent)) (x : Value × Ent) (p : Nat) : (flatR R).take (p * 3) ++ (rawC x ++ (flatR R).drop (p * 3)) = flatR (R.take p ++ x :: R.drop p) := by
  rw [flatR_takeP, flatR_dropP, flatR_append]
  rfl
def FV (B0 : Nat) (lv : Value) (e : Ent) (_ : Nat) (v : Value) (w : World) : Prop := ∃ A, v = .slice (some ⟨A, 0, none⟩) 1 1 ∧ B0 ≤ A ∧ Bl w A 32 #[.int .i64 e.tm, lv, .string e.line]
theorem FV.below {B0 : Nat} {lv : Value} {e : Ent} {j : Nat} {v : Value} {w w' : World} (h : FV B0 lv e j v w) (hb : Below w.heap.size w w') : FV B0 lv e j v w' := by
  obtain ⟨A, h1, h2, h3⟩ := h
  exact ⟨A, h1, h2, h3.below hb⟩
def FaddN (G L : Nat → Prop) (w : World) (fb : Nat) (ls : List Lab) (CH : List (Value × List (Value × Ent))) (e : Ent) (w' : World) : Prop :=
  ∃ lv' cv' CH' C, w.heap.size ≤ C ∧ Bl w' fb 207 #[lv', cv'] ∧ FlowAt (fun b => G b ∨ C ≤ b) (fun b => L b ∨ (w.heap.size ≤ b ∧ b < C)) w' lv' cv' ls CH' ∧ CH' ≠ [] ∧ (∀ x, x ∈ flatC CH' ↔ x ∈ flatC CH ∨ x = e) ∧ Keep (fun b => b = fb ∨ G b) w w'
def FaddP (G L : Nat → Prop) (w : World) (fb : Nat) (ls : List Lab) (CH : List (Value × List (Value × Ent))) (e : Ent) (r : Ending) (w' : World) : Prop :=
  r = .returned (.bool (!hasE (flatC CH) e)) ∧ (hasE (flatC CH) e = true → Lay w w') ∧ (hasE (flatC CH) e = false → FaddN G L w fb ls CH e w')
set_option maxHeartbeats 8000000 in
set_option maxRecDepth 100000 in
theorem fadd_new {G L H : Nat → Prop} {w : World} {fb : Nat} {e : Ent} {la u0 : Value} (hf : Bl w fb 207 #[u0, .slice none 0 0]) (he : LabsAt H w la e.labs) (hn : e.labs.length ≤ 1000000) :
    Calls Tryz.prog 147 #[.pointer (some ⟨fb, 0, none⟩), e.val la] w (FaddP G L w fb e.labs [] e) := by
  have hmx : Tryz.prog.follows .mixedOrders = true := by kernel_rfl
  obtain ⟨al, cl, rfl, h63, _⟩ := id he
  obtain ⟨w1, hw1⟩ : ∃ w1, w1 = w.alloc (.cells #[.int .i64 e.tm, .slice al e.labs.length cl, .string e.line] 32) := ⟨_, rfl⟩
  have hl1 : Lay w w1 := by rw [hw1]; exact (Keep.refl _ w).alloc _
  have hk1 : Bl w1 w.heap.size 32 #[.int .i64 e.tm, .slice al e.labs.length cl, .string e.line] := by rw [hw1]; exact Bl.new w 32 _
  have hf1 := hf.below (lay_below hl1)
  have HB := Lib.hid (begin_any hf1 (he.lay hl1) hn)
  have HL1 := Lib.hid hl1
  have HW1 := Lib.hid hw1.symm
  have c0 := hk1.cell 0
  have c1 := hk1.cell 1
  have c2 := hk1.cell 2
  have f1 := hf1.cell 1
  simp only [List.getElem?_toArray, List.getElem?_cons_succ, List.getElem?_cons_zero] at c0 c1 c2 f1
  clear hf hf1 he hl1 hk1 hw1
  simp only [Ent.val] at HB ⊢
  go_enter Tryz.func147, Tryz.ntmps147
  go_upto_region 1 with fail
  rw [HW1.out]
  go_wp2_with fail
  refine HB.out.mono ?_
  rintro x w2 ⟨rfl, C, lv', cv', v, hC, hf2, hfl, hk2⟩
  have hs1 := HL1.out.size
  have HE : Hid (FaddP G L w fb e.labs [] e (.returned (.bool true)) w2) := Lib.hid ⟨rfl, fun h => (by cases h), fun _ => ⟨lv', cv', _, C, by omega, hf2, hfl.mono (fun b hb _ => .inr hb) (fun b hb _ => .inr ⟨by omega, hb.2⟩), by simp, fun x => by simp [flatC, entsC], Keep.trans (HL1.out.into fun _ _ h => h.elim) (hk2.into fun b _ h => .inl h)⟩⟩
  clear hf2 hfl hk2 hC HB
  go_wp2_with fail
  go_ret
  exact HE.out
theorem rk_cell {G : Nat → Prop} {W : World} {gc n cc : Nat} {CH : List (Value × List (Value × Ent))} (h : Rk 1 G W (.slice (some ⟨gc, 0, none⟩) n cc) n (CH.map Prod.fst)) (m : Nat) (hm : m < CH.length) : W.cell? ⟨gc, m, none⟩ = some CH[m].1 ∧ W.frozen? ⟨gc, m, none⟩ = false := by
  have hl := h.1
  rw [List.length_map] at hl
  obtain ⟨_, ⟨h0, _⟩ | ⟨g', c', hv', _, _, h1, _, h2, hfz⟩⟩ := h
  · cases h0
  · simp only [Value.slice.injEq, Option.some.injEq, Addr.mk.injEq, and_true, true_and] at hv'
    obtain ⟨rfl, rfl⟩ := hv'
    exact ⟨by rw [h2 m (by rw [List.length_map]; exact hm), List.getElem?_map, List.getElem?_eq_getElem hm]; rfl, (hfz m (by omega)).2⟩
set_option maxHeartbeats 8000000 in
set_option maxRecDepth 100000 in
theorem fadd_old {G L H : Nat → Prop} {w : World} {lv cv la : Value} {ls : List Lab} {CH : List (Value × List (Value × Ent))} {fb : Nat} {e : Ent} (hf : Bl w fb 207 #[lv, cv]) (h : FlowAt G L w lv cv ls CH) (h0 : CH ≠ []) (he : LabsAt H w la e.labs) (hls : e.labs = ls) (hfG : ¬ G fb) (hfL : ¬ L fb) (hLG : ∀ b, L b → ¬ G b) (hLb : ∀ b, L b → b < w.heap.size) (hGb : ∀ b, G b → b < w.heap.size) (hn : (flatC CH).length ≤ 1000) :
    Calls Tryz.prog 147 #[.pointer (some ⟨fb, 0, none⟩), e.val la] w (FaddP G L w fb e.labs CH e) := by
  have hmx : Tryz.prog.follows .mixedOrders = true := by kernel_rfl
  subst hls
  obtain ⟨al, cl, rfl, h63, _⟩ := id he
  have hpos := List.length_pos_iff.2 h0
  have hcl := chunks_len h.n
  obtain ⟨gc, cc, rfl, hGc, hgc, hcc, hcm, hcs⟩ := h.c.some hpos
  obtain ⟨lb, lc, rfl, hl63, _⟩ := id h.l
  obtain ⟨k, hk⟩ := FirstI.some (CH := CH) (fun x => decide (entC e x ≤ 0)) (add_mono h.s h.n e)
  obtain ⟨m, hmk⟩ : ∃ m, m = min k (CH.length - 1) := ⟨_, rfl⟩
  have hm : m < CH.length := by omega
  obtain ⟨hA, hB⟩ := chunk_of h.s h.n h0 hk (by omega)
  rw [← hmk] at hA hB
  have hx := List.getElem_mem hm
  have hsm : Strict entC (entsC CH[m]) := by
    have := h.s
    rw [flat_split hm] at this
    exact strict_mid this
  obtain ⟨p, hp⟩ := BsI.some hsm e
  have hfs := flat_split hm
  obtain ⟨him, hin⟩ := ins_strict (p := p) (by rw [← hfs]; exact h.s) hA hB hp
  rw [← hfs] at him
  have hml := chunk_len h hm
  have hlm := entsC_len CH[m]
  have hhas : hasE (flatC CH) e = hasE (entsC CH[m]) e := by rw [Bool.eq_iff_iff, hasE_iff, hasE_iff]; exact him
  obtain ⟨ge, ce, hv, hGe, hge, hce, hem, _⟩ := (h.e _ hx).some (List.length_pos_iff.2 (h.n _ hx))
  have hc0 : w.cell? ⟨gc, m, none⟩ = some CH[m].1 := by rw [hcs m (by omega), List.getElem?_map, List.getElem?_eq_getElem hm]; rfl
  rw [hv] at hc0
  obtain ⟨w1, hw1⟩ : ∃ w1, w1 = w.alloc (.cells #[.int .i64 e.tm, .slice al e.labs.length cl, .string e.line] 32) := ⟨_, rfl⟩
  have hl1 : Lay w w1 := by rw [hw1]; exact (Keep.refl _ w).alloc _
  have hk1 : Bl w1 w.heap.size 32 #[.int .i64 e.tm, .slice al e.labs.length cl, .string e.line] := by rw [hw1]; exact Bl.new w 32 _
  have hf1 := hf.below (lay_below hl1)
  obtain ⟨wa, hwa⟩ : ∃ wa, wa = w1.setCell ⟨w.heap.size, 1, none⟩ (.slice lb e.labs.length lc) := ⟨_, rfl⟩
  have hka : Keep (fun b => b = w.heap.size) w1 wa := by rw [hwa]; exact keep_set12 (Keep.refl _ _) 1 _
  have hla : Lay w wa := Keep.into (Keep.trans (hl1.into (H := fun b => b = w.heap.size) fun _ _ h => h.elim) hka) fun b hlt hb => by omega
  have hba : Bl wa w.heap.size 32 #[.int .i64 e.tm, .slice lb e.labs.length lc, .string e.line] := by
    have := hk1.set12 1 (.slice lb e.labs.length lc)
    rw [hwa]
    simpa only [List.setIfInBounds_toArray, List.set_cons_zero, List.set_cons_succ] using this
  have hfa := hf.below (lay_below hla)
  have hFa := h.lay hla
  have HFI : Hid (∀ W1, Lay wa.drew W1 → Calls Tryz.prog 151 #[.pointer (some ⟨fb, 0, none⟩), .func (.func 152) #[] #[.pointer (some ⟨w.heap.size, 0, none⟩)]] W1 fun r w' => r = .returned (.int .i64 (k : Int)) ∧ Lay W1 w') := Lib.hid fun W1 hW => by
    have hlW : Lay wa W1 := Keep.trans ((Keep.refl _ wa).drew) hW
    refine (first_any (fun x => decide (entC e x ≤ 0)) 152 #[.pointer (some ⟨w.heap.size, 0, none⟩)] (enters_of Tryz.func152 (by kernel_rfl) rfl) (hfa.below (lay_below hlW)) (hFa.lay hlW) (by omega) (add_mono h.s h.n e) fun W hW2 x hx y hy => ?_).mono ?_
    · exact add1_any (hba.below (lay_below (Keep.trans hlW hW2))) ((hFa.l.lay hlW).lay hW2) (((hFa.r x hx y hy).lay hlW).lay hW2)
    · rintro r w' ⟨k', hk', rfl, hl'⟩
      rw [hk.one hk']
      exact ⟨rfl, hl'⟩
  have HBS : Hid (∀ W1, Lay wa W1 → Calls Tryz.prog 153 #[.slice (some ⟨ge, 0, none⟩) CH[m].2.length ce, .agg #[.int .i64 e.tm, .slice lb e.labs.length lc, .string e.line], .func (.func 109) #[] #[]] W1 fun r w' => r = .returned (.tuple #[.int .i64 (p : Int), .bool (hasE (entsC CH[m]) e)]) ∧ Lay W1 w') := Lib.hid fun W1 hW => by
    have hen := hFa.ents hx
    rw [hv] at hen
    refine (bsearch_any (hen.lay hW) (hFa.l.lay hW) hsm (by omega)).mono ?_
    rintro r w' ⟨p', hp', rfl, hl'⟩
    rw [hp.one hp']
    exact ⟨rfl, hl'⟩
  have HH := Lib.hid h
  have HFW := Lib.hid hf.lt
  have HFA := Lib.hid hfa
  have HBA := Lib.hid hba
  have HLA := Lib.hid hla
  have HHAS := Lib.hid hhas
  have HHM := Lib.hid (And.intro hfs (And.intro him (And.intro hin hp)))
  have HV := Lib.hid hv
  have HC0 : Hid (∀ W, Lay w W → W.cell? ⟨gc, m, none⟩ = some (.slice (some ⟨ge, 0, none⟩) CH[m].2.length ce)) := Lib.hid fun W hW => (hW.cell hgc).trans hc0
  have HW1 := Lib.hid hw1.symm
  have HWA := Lib.hid hwa.symm
  have b1 := hk1.cell 1
  have z1 := hk1.frozen 1
  have f0 := hf1.cell 0
  have f1 := hf1.cell 1
  simp only [List.getElem?_toArray, List.getElem?_cons_succ, List.getElem?_cons_zero] at b1 f0 f1
  obtain ⟨n, hnn⟩ : ∃ n, n = CH[m].2.length := ⟨_, rfl⟩
  rw [← hnn] at hml hlm hce HBS HC0
  have HNN := Lib.hid hnn
  generalize hbb : hasE (entsC CH[m]) e = bb at HBS HHAS
  have hpn : p ≤ n := by have := hp.1; omega
  have hl0 : ¬ ((CH.length : Int) = 0) := by omega
  have hlw : IntKind.i64.wrap ((CH.length : Int) - 1) = (CH.length : Int) - 1 := by rw [IntKind.wrap_i64]; omega
  have hmm : min (k : Int) ((CH.length : Int) - 1) = (m : Int) := by omega
  have hmm2 : min k (CH.length - 1) = m := hmk.symm
  clear hmk
  have hm1 : (m : Int) < (CH.length : Int) := by omega
  have hm0 : ¬ (m : Int) < 0 := by omega
  clear hf hf1 he h hl1 hk1 hw1 hwa hka hla hba hfa hFa hk hA hB hsm hp hfs him hin hhas hv hc0 hcs hnn hx hbb
  unfold Ent.val
  go_enter Tryz.func147, Tryz.ntmps147
  go_upto_region 1 with fail
  rw [HW1.out]
  go_upto_region 5 with fail
  rw [HWA.out]
  clear b1 z1 f0 f1
  refine (wpIn_wide (n := 9)).1 ?_
  refine H3.wpIn_region_flow (fun _ => trivial) (by kernel_rfl) (fun _ _ W1 => Lay wa.drew W1) (fun _ _ W1 W2 => Lay W1 W2) (GV [some (.pointer (some ⟨fb, 0, none⟩)), some (.func (.func 152) #[] #[.pointer (some ⟨w.heap.size, 0, none⟩)]), some (.int .i64 (k : Int)), some (.pointer (some ⟨fb, 0, none⟩)), some (.pointer (some ⟨fb, 0, none⟩)), some (.pointer (some ⟨fb, 1, none⟩)), some (.slice (some ⟨gc, 0, none⟩) CH.length cc), some (.int .i64 (CH.length : Int)), some (.int .i64 ((CH.length : Int) - 1)), some (.int .i64 (m : Int)), some (.int .i64 (m : Int))] [] (fun _ _ _ => True)) (fun j => j == 10) (by kernel_rfl) (by kernel_rfl) ?hst (Keep.refl _ _) ?step ?fin
  case hst =>
    intro i j ys v w1 w2 hij hanc hned hV hR
    exact gvq_keep (by simp) hij hV
  case step =>
    refine ⟨?_, ?_, ?_, ?_, ?_, ?_, ?_, ?_, ?_, ?_, ?_, trivial⟩
    · intro listed ys X W1 hsz hsd hi2 hall hX hI hd K hK
      have e0 : X.tmps.getD 0 undef = .pointer (some ⟨fb, 0, none⟩) := hX 0 (Nat.le_of_ble_eq_true rfl)
      have HI := Lib.hid hI
      refine H3.step_run (.inl rfl) ?_
      clear hX hd hI
      go_simp
      exact hK _ _ HI.out (Keep.refl _ _) (GV.of (by decide) (fun u h => by cases h; rfl))
    · intro listed ys X W1 hsz hsd hi2 hall hX hI hd K hK
      have e3 : X.tmps.getD 3 undef = .pointer (some ⟨w.heap.size, 0, none⟩) := hX 3 (Nat.le_of_ble_eq_true rfl)
      have HI := Lib.hid hI
      refine H3.step_run (.inl rfl) ?_
      clear hX hd hI
      go_simp
      exact hK _ _ HI.out (Keep.refl _ _) (GV.of (by decide) (fun u h => by cases h; rfl))
    · intro listed ys X W1 hsz hsd hi2 hall hX hI hd K hK
      have e22 : X.tmps.getD 22 undef = .pointer (some ⟨fb, 0, none⟩) := (hX 22 (Nat.le_of_ble_eq_true rfl)).trans (GV.val (hd ⟨0, .data⟩ (by simp) rfl) (by decide) rfl)
      have e23 : X.tmps.getD 23 undef = .func (.func 152) #[] #[.pointer (some ⟨w.heap.size, 0, none⟩)] := (hX 23 (Nat.le_of_ble_eq_true rfl)).trans (GV.val (hd ⟨1, .data⟩ (by simp) rfl) (by decide) rfl)
      have HI := Lib.hid hI
      refine H3.step_run (.inl rfl) ?_
      clear hX hd hI
      go_simp
      refine ⟨trivial, (callsIn_wide.2 (HFI.out W1 HI.out)).mono ?_⟩
      rintro x w7 ⟨rfl, hl7⟩
      exact hK _ _ (Keep.trans HI.out hl7) hl7 (GV.of (by decide) (fun u h => by cases h; rfl))
    · intro listed ys X W1 hsz hsd hi2 hall hX hI hd K hK
      have e0 : X.tmps.getD 0 undef = .pointer (some ⟨fb, 0, none⟩) := hX 0 (Nat.le_of_ble_eq_true rfl)
      have HI := Lib.hid hI
      refine H3.step_run (.inl rfl) ?_
      clear hX hd hI
      go_simp
      exact hK _ _ HI.out (Keep.refl _ _) (GV.of (by decide) (fun u h => by cases h; rfl))
    · intro listed ys X W1 hsz hsd hi2 hall hX hI hd K hK
      have e25 : X.tmps.getD 25 undef = .pointer (some ⟨fb, 0, none⟩) := (hX 25 (Nat.le_of_ble_eq_true rfl)).trans (GV.val (hd ⟨3, .data⟩ (by simp) rfl) (by decide) rfl)
      have HI := Lib.hid hI
      refine H3.step_run (.inl rfl) ?_
      clear hX hd hI
      go_simp
      exact hK _ _ HI.out (Keep.refl _ _) (GV.of (by decide) (fun u h => by cases h; rfl))
    · intro listed ys X W1 hsz hsd hi2 hall hX hI hd K hK
      have e26 : X.tmps.getD 26 undef = .pointer (some ⟨fb, 0, none⟩) := (hX 26 (Nat.le_of_ble_eq_true rfl)).trans (GV.val (hd ⟨4, .data⟩ (by simp) rfl) (by decide) rfl)
      have HI := Lib.hid hI
      refine H3.step_run (.inl rfl) ?_
      clear hX hd hI
      go_simp
      exact hK _ _ HI.out (Keep.refl _ _) (GV.of (by decide) (fun u h => by cases h; rfl))
    · intro listed ys X W1 hsz hsd hi2 hall hX hI hd K hK
      have e27 : X.tmps.getD 27 undef = .pointer (some ⟨fb, 1, none⟩) := (hX 27 (Nat.le_of_ble_eq_true rfl)).trans (GV.val (hd ⟨5, .data⟩ (by simp) rfl) (by decide) rfl)
      have hlq : Lay wa W1 := Keep.trans ((Keep.refl _ wa).drew) hI
      have hfc := HFA.out.below (lay_below (hlq))
      have k1 := hfc.cell 1
      simp only [List.getElem?_toArray, List.getElem?_cons_succ, List.getElem?_cons_zero] at k1
      clear hfc
      have HI := Lib.hid hI
      refine H3.step_run (.inl rfl) ?_
      clear hX hd hI
      go_simp
      exact hK _ _ HI.out (Keep.refl _ _) (GV.of (by decide) (fun u h => by cases h; rfl))
    · intro listed ys X W1 hsz hsd hi2 hall hX hI hd K hK
      have e28 : X.tmps.getD 28 undef = .slice (some ⟨gc, 0, none⟩) CH.length cc := (hX 28 (Nat.le_of_ble_eq_true rfl)).trans (GV.val (hd ⟨6, .data⟩ (by simp) rfl) (by decide) rfl)
      have HI := Lib.hid hI
      refine H3.step_run (.inl rfl) ?_
      clear hX hd hI
      go_simp
      exact hK _ _ HI.out (Keep.refl _ _) (GV.of (by decide) (fun u h => by cases h; rfl))
    · intro listed ys X W1 hsz hsd hi2 hall hX hI hd K hK
      have e29 : X.tmps.getD 29 undef = .int .i64 (CH.length : Int) := (hX 29 (Nat.le_of_ble_eq_true rfl)).trans (GV.val (hd ⟨7, .data⟩ (by simp) rfl) (by decide) rfl)
      have HI := Lib.hid hI
      refine H3.step_run (.inl rfl) ?_
      clear hX hd hI
      go_simp
      exact hK _ _ HI.out (Keep.refl _ _) (GV.of (by decide) (fun u h => by cases h; rfl))
    · intro listed ys X W1 hsz hsd hi2 hall hX hI hd K hK
      have e24 : X.tmps.getD 24 undef = .int .i64 (k : Int) := (hX 24 (Nat.le_of_ble_eq_true rfl)).trans (GV.val (hd ⟨2, .data⟩ (by simp) rfl) (by decide) rfl)
      have e30 : X.tmps.getD 30 undef = .int .i64 ((CH.length : Int) - 1) := (hX 30 (Nat.le_of_ble_eq_true rfl)).trans (GV.val (hd ⟨8, .data⟩ (by simp) rfl) (by decide) rfl)
      have HI := Lib.hid hI
      refine H3.step_run (.inl rfl) ?_
      clear hX hd hI
      go_simp
      exact hK _ _ HI.out (Keep.refl _ _) (GV.of (by decide) (fun u h => by cases h; rfl))
    · intro listed ys X W1 hsz hsd hi2 hall hX hI hd K hK
      have e31 : X.tmps.getD 31 undef = .int .i64 (m : Int) := (hX 31 (Nat.le_of_ble_eq_true rfl)).trans (GV.val (hd ⟨9, .data⟩ (by simp) rfl) (by decide) rfl)
      have HI := Lib.hid hI
      refine H3.step_run (.inl rfl) ?_
      clear hX hd hI
      go_simp
      exact hK _ _ HI.out (Keep.refl _ _) (GV.of (by decide) (fun u h => by cases h; rfl))
  case fin =>
    intro listed ys wb hall hI hV
    have h10 : ys 10 = .int .i64 (m : Int) := GV.val (hV 10 (by decide) rfl) (by decide) rfl
    have hlb : Lay wa wb := Keep.trans ((Keep.refl _ wa).drew) hI
    have HLB := Lib.hid hlb
    clear hall hI hlb hV
    simp only [H3.putsFrom, Nat.reduceAdd]
    simp only [h10, Act.put, List.setIfInBounds_toArray, List.set_cons_succ, List.set_cons_zero]
    go_upto_region 6 with fail
    refine (wpIn_wide (n := 9)).1 ?_
    refine H3.wpIn_region_flow (fun _ => trivial) (by kernel_rfl) (fun _ _ W1 => Lay wb.drew W1) (fun _ _ W1 W2 => Lay W1 W2) (GV [some (.pointer (some ⟨fb, 0, none⟩)), some (.pointer (some ⟨fb, 0, none⟩)), some (.pointer (some ⟨fb, 1, none⟩)), some (.slice (some ⟨gc, 0, none⟩) CH.length cc), some (.int .i64 (m : Int)), some (.pointer (some ⟨gc, m, none⟩)), some (.slice (some ⟨ge, 0, none⟩) n ce), some (.agg #[.int .i64 e.tm, .slice lb e.labs.length lc, .string e.line]), some (.tuple #[.int .i64 (p : Int), .bool bb]), some (.tuple #[.int .i64 (p : Int), .bool bb]), some (.int .i64 (p : Int)), some (.bool bb), some (.int .i64 (p : Int)), some (.bool bb)] [] (fun _ _ _ => True)) (fun j => j == 12 || j == 13) (by kernel_rfl) (by kernel_rfl) ?hst (Keep.refl _ _) ?step ?fin
    case hst =>
      intro i j ys v w1 w2 hij hanc hned hV hR
      exact gvq_keep (by simp) hij hV
    case step =>
      refine ⟨?_, ?_, ?_, ?_, ?_, ?_, ?_, ?_, ?_, ?_, ?_, ?_, ?_, ?_, trivial⟩
      · intro listed ys X W1 hsz hsd hi2 hall hX hI hd K hK
        have e0 : X.tmps.getD 0 undef = .pointer (some ⟨fb, 0, none⟩) := hX 0 (Nat.le_of_ble_eq_true rfl)
        have HI := Lib.hid hI
        refine H3.step_run (.inl rfl) ?_
        clear hX hd hI
        go_simp
        exact hK _ _ HI.out (Keep.refl _ _) (GV.of (by decide) (fun u h => by cases h; rfl))
      · intro listed ys X W1 hsz hsd hi2 hall hX hI hd K hK
        have e33 : X.tmps.getD 33 undef = .pointer (some ⟨fb, 0, none⟩) := (hX 33 (Nat.le_of_ble_eq_true rfl)).trans (GV.val (hd ⟨0, .data⟩ (by simp) rfl) (by decide) rfl)
        have HI := Lib.hid hI
        refine H3.step_run (.inl rfl) ?_
        clear hX hd hI
        go_simp
        exact hK _ _ HI.out (Keep.refl _ _) (GV.of (by decide) (fun u h => by cases h; rfl))
      · intro listed ys X W1 hsz hsd hi2 hall hX hI hd K hK
        have e34 : X.tmps.getD 34 undef = .pointer (some ⟨fb, 0, none⟩) := (hX 34 (Nat.le_of_ble_eq_true rfl)).trans (GV.val (hd ⟨1, .data⟩ (by simp) rfl) (by decide) rfl)
        have HI := Lib.hid hI
        refine H3.step_run (.inl rfl) ?_
        clear hX hd hI
        go_simp
        exact hK _ _ HI.out (Keep.refl _ _) (GV.of (by decide) (fun u h => by cases h; rfl))
      · intro listed ys X W1 hsz hsd hi2 hall hX hI hd K hK
        have e35 : X.tmps.getD 35 undef = .pointer (some ⟨fb, 1, none⟩) := (hX 35 (Nat.le_of_ble_eq_true rfl)).trans (GV.val (hd ⟨2, .data⟩ (by simp) rfl) (by decide) rfl)
        have hlq : Lay wa W1 := Keep.trans (Keep.trans HLB.out ((Keep.refl _ wb).drew)) hI
        have hfc := HFA.out.below (lay_below (hlq))
        have k1 := hfc.cell 1
        simp only [List.getElem?_toArray, List.getElem?_cons_succ, List.getElem?_cons_zero] at k1
        clear hfc
        have HI := Lib.hid hI
        refine H3.step_run (.inl rfl) ?_
        clear hX hd hI
        go_simp
        exact hK _ _ HI.out (Keep.refl _ _) (GV.of (by decide) (fun u h => by cases h; rfl))
      · intro listed ys X W1 hsz hsd hi2 hall hX hI hd K hK
        have e5 : X.tmps.getD 5 undef = .int .i64 (m : Int) := hX 5 (Nat.le_of_ble_eq_true rfl)
        have HI := Lib.hid hI
        refine H3.step_run (.inl rfl) ?_
        clear hX hd hI
        go_simp
        exact hK _ _ HI.out (Keep.refl _ _) (GV.of (by decide) (fun u h => by cases h; rfl))
      · intro listed ys X W1 hsz hsd hi2 hall hX hI hd K hK
        have e36 : X.tmps.getD 36 undef = .slice (some ⟨gc, 0, none⟩) CH.length cc := (hX 36 (Nat.le_of_ble_eq_true rfl)).trans (GV.val (hd ⟨3, .data⟩ (by simp) rfl) (by decide) rfl)
        have e37 : X.tmps.getD 37 undef = .int .i64 (m : Int) := (hX 37 (Nat.le_of_ble_eq_true rfl)).trans (GV.val (hd ⟨4, .data⟩ (by simp) rfl) (by decide) rfl)
        have HI := Lib.hid hI
        refine H3.step_run (.inl rfl) ?_
        clear hX hd hI
        go_simp
        exact hK _ _ HI.out (Keep.refl _ _) (GV.of (by decide) (fun u h => by cases h; rfl))
      · intro listed ys X W1 hsz hsd hi2 hall hX hI hd K hK
        have e38 : X.tmps.getD 38 undef = .pointer (some ⟨gc, m, none⟩) := (hX 38 (Nat.le_of_ble_eq_true rfl)).trans (GV.val (hd ⟨5, .data⟩ (by simp) rfl) (by decide) rfl)
        have hlq : Lay wa W1 := Keep.trans (Keep.trans HLB.out ((Keep.refl _ wb).drew)) hI
        have g0 := HC0.out W1 (Keep.trans HLA.out hlq)
        have HI := Lib.hid hI
        refine H3.step_run (.inl rfl) ?_
        clear hX hd hI
        go_simp
        exact hK _ _ HI.out (Keep.refl _ _) (GV.of (by decide) (fun u h => by cases h; rfl))
      · intro listed ys X W1 hsz hsd hi2 hall hX hI hd K hK
        have e3 : X.tmps.getD 3 undef = .pointer (some ⟨w.heap.size, 0, none⟩) := hX 3 (Nat.le_of_ble_eq_true rfl)
        have hlq : Lay wa W1 := Keep.trans (Keep.trans HLB.out ((Keep.refl _ wb).drew)) hI
        have hbq := HBA.out.below (lay_below hlq)
        have x0 := hbq.cell 0
        have x1 := hbq.cell 1
        have x2 := hbq.cell 2
        simp only [List.getElem?_toArray, List.getElem?_cons_succ, List.getElem?_cons_zero] at x0 x1 x2
        clear hbq
        have HI := Lib.hid hI
        refine H3.step_run (.inl rfl) ?_
        clear hX hd hI
        go_simp
        exact hK _ _ HI.out (Keep.refl _ _) (GV.of (by decide) (fun u h => by cases h; rfl))
      · intro listed ys X W1 hsz hsd hi2 hall hX hI hd K hK
        have e39 : X.tmps.getD 39 undef = .slice (some ⟨ge, 0, none⟩) n ce := (hX 39 (Nat.le_of_ble_eq_true rfl)).trans (GV.val (hd ⟨6, .data⟩ (by simp) rfl) (by decide) rfl)
        have e40 : X.tmps.getD 40 undef = .agg #[.int .i64 e.tm, .slice lb e.labs.length lc, .string e.line] := (hX 40 (Nat.le_of_ble_eq_true rfl)).trans (GV.val (hd ⟨7, .data⟩ (by simp) rfl) (by decide) rfl)
        have HI := Lib.hid hI
        have hlq : Lay wa W1 := Keep.trans (Keep.trans HLB.out ((Keep.refl _ wb).drew)) hI
        have HC := Lib.hid (HBS.out W1 hlq)
        refine H3.step_run (.inl rfl) ?_
        clear hX hd hI hlq
        go_simp
        refine ⟨trivial, (callsIn_wide.2 HC.out).mono ?_⟩
        rintro x w7 ⟨rfl, hl7⟩
        exact hK _ _ (Keep.trans HI.out hl7) hl7 (GV.of (by decide) (fun u h => by cases h; rfl))
      · intro listed ys X W1 hsz hsd hi2 hall hX hI hd K hK
        have e41 : X.tmps.getD 41 undef = .tuple #[.int .i64 (p : Int), .bool bb] := (hX 41 (Nat.le_of_ble_eq_true rfl)).trans (GV.val (hd ⟨8, .data⟩ (by simp) rfl) (by decide) rfl)
        have HI := Lib.hid hI
        refine H3.step_run (.inl rfl) ?_
        clear hX hd hI
        go_simp
        exact hK _ _ HI.out (Keep.refl _ _) (GV.of (by decide) (fun u h => by cases h; rfl))
      · intro listed ys X W1 hsz hsd hi2 hall hX hI hd K hK
        have e32 : X.tmps.getD 32 undef = .tuple #[.int .i64 (p : Int), .bool bb] := (hX 32 (Nat.le_of_ble_eq_true rfl)).trans (GV.val (hd ⟨9, .data⟩ (by simp) rfl) (by decide) rfl)
        have HI := Lib.hid hI
        refine H3.step_run (.inl rfl) ?_
        clear hX hd hI
        go_simp
        exact hK _ _ HI.out (Keep.refl _ _) (GV.of (by decide) (fun u h => by cases h; rfl))
      · intro listed ys X W1 hsz hsd hi2 hall hX hI hd K hK
        have e32 : X.tmps.getD 32 undef = .tuple #[.int .i64 (p : Int), .bool bb] := (hX 32 (Nat.le_of_ble_eq_true rfl)).trans (GV.val (hd ⟨9, .data⟩ (by simp) rfl) (by decide) rfl)
        have HI := Lib.hid hI
        refine H3.step_run (.inl rfl) ?_
        clear hX hd hI
        go_simp
        exact hK _ _ HI.out (Keep.refl _ _) (GV.of (by decide) (fun u h => by cases h; rfl))
      · intro listed ys X W1 hsz hsd hi2 hall hX hI hd K hK
        have e42 : X.tmps.getD 42 undef = .int .i64 (p : Int) := (hX 42 (Nat.le_of_ble_eq_true rfl)).trans (GV.val (hd ⟨10, .data⟩ (by simp) rfl) (by decide) rfl)
        have HI := Lib.hid hI
        refine H3.step_run (.inl rfl) ?_
        clear hX hd hI
        go_simp
        exact hK _ _ HI.out (Keep.refl _ _) (GV.of (by decide) (fun u h => by cases h; rfl))
      · intro listed ys X W1 hsz hsd hi2 hall hX hI hd K hK
        have e43 : X.tmps.getD 43 undef = .bool bb := (hX 43 (Nat.le_of_ble_eq_true rfl)).trans (GV.val (hd ⟨11, .data⟩ (by simp) rfl) (by decide) rfl)
        have HI := Lib.hid hI
        refine H3.step_run (.inl rfl) ?_
        clear hX hd hI
        go_simp
        exact hK _ _ HI.out (Keep.refl _ _) (GV.of (by decide) (fun u h => by cases h; rfl))
    case fin =>
      intro listed ys wc hall hI hV
      have h12 : ys 12 = .int .i64 (p : Int) := GV.val (hV 12 (by decide) rfl) (by decide) rfl
      have h13 : ys 13 = .bool bb := GV.val (hV 13 (by decide) rfl) (by decide) rfl
      have hlc : Lay wa wc := Keep.trans (Keep.trans HLB.out ((Keep.refl _ wb).drew)) hI
      have HLC := Lib.hid hlc
      clear hall hI hlc hV
      simp only [H3.putsFrom, Nat.reduceAdd]
      simp only [h12, h13, Act.put, List.setIfInBounds_toArray, List.set_cons_succ, List.set_cons_zero]
      clear h12 h13
      cases bb with
      | true =>
        go_wp2_with fail
        have hlw0 : Lay w wc := Keep.trans HLA.out HLC.out
        refine bodyPost_ret (v := .bool false) (by simp [results, Tryz.results147, go_sem]) rfl ⟨by rw [HHAS.out]; rfl, fun _ => hlw0, fun h => by rw [HHAS.out] at h; cases h⟩
      | false =>
        have HFX : Hid (Bl wc.drew fb 207 #[.slice lb e.labs.length lc, .slice (some ⟨gc, 0, none⟩) CH.length cc]) := Lib.hid (HFA.out.below (lay_below (Keep.trans HLC.out ((Keep.refl _ wc).drew))))
        have hat0 : At (.slice (some ⟨gc, 0, none⟩) CH.length cc) gc := ⟨_, _, rfl⟩
        have hgeat : At CH[m].1 ge := ⟨_, _, by rw [HV.out]⟩
        have HGN : Hid (¬ ge = gc) := Lib.hid fun h => HH.out.o _ (List.getElem_mem hm) ge hgeat (h ▸ hat0)
        have HFN : Hid (¬ (fb = gc ∨ fb = ge)) := Lib.hid fun h => h.elim (fun h => hfG (h ▸ hGc)) fun h => hfG (h ▸ hGe)
        have hlw0 : Lay w wc.drew := (Keep.trans HLA.out HLC.out).drew
        have HRK : Hid (∀ W1, Lay wc.drew W1 → Rk 3 G W1 (.slice (some ⟨ge, 0, none⟩) n ce) n (flatR CH[m].2)) := Lib.hid fun W1 hW => by
          have := ((HH.out.e _ (List.getElem_mem hm)).lay hlw0).lay hW
          rw [HV.out] at this
          rwa [← HNN.out] at this
        have HRC : Hid (∀ W1, Lay wc.drew W1 → Rk 1 G W1 (.slice (some ⟨gc, 0, none⟩) CH.length cc) CH.length (CH.map Prod.fst)) := Lib.hid fun W1 hW => ((HH.out.c).lay hlw0).lay hW
        have HONE : Hid (∀ u ∈ flatR CH[m].2, u.oneCell' = true) := Lib.hid (flatR_one (HH.out.r _ (List.getElem_mem hm)))
        have HGC : Hid (∀ b, At (.slice (some ⟨gc, 0, none⟩) CH.length cc) b → b = gc) := Lib.hid fun b ⟨_, _, h⟩ => by simp only [Value.slice.injEq, Option.some.injEq, Addr.mk.injEq, and_true] at h; exact h.1.symm
        have HGEL : Hid (ge < wc.drew.heap.size) := Lib.hid (Nat.lt_of_lt_of_le hge hlw0.size)
        have HGCL : Hid (gc < wc.drew.heap.size) := Lib.hid (Nat.lt_of_lt_of_le hgc hlw0.size)
        have HLW0 := Lib.hid hlw0
        clear hat0 hgeat hlw0
        go_upto_region 9 with fail
        refine (wpIn_wide (n := 9)).1 ?_
        refine H3.wpIn_region_flow (fun _ => trivial) (by kernel_rfl) (LW 15 17 wc.drew (fun b => b = gc ∨ b = ge) (fun v W => Rk 3 (fun b => At (.slice (some ⟨ge, 0, none⟩) n ce) b ∨ wc.drew.heap.size ≤ b) W v (n + 1) (flatR (CH[m].2.take p ++ ((.slice lb e.labs.length lc : Value), e) :: CH[m].2.drop p))) (fun W => Rk 1 G W (.slice (some ⟨gc, 0, none⟩) CH.length cc) CH.length (CH.map Prod.fst)) (fun v W => Rk 1 G W (.slice (some ⟨gc, 0, none⟩) CH.length cc) CH.length ((CH.map Prod.fst).set m v))) (fun i _ W1 W2 => i = 15 ∨ i = 17 ∨ Lay W1 W2) (GV [some (.pointer (some ⟨fb, 0, none⟩)), some (.pointer (some ⟨fb, 0, none⟩)), some (.pointer (some ⟨fb, 1, none⟩)), some (.slice (some ⟨gc, 0, none⟩) CH.length cc), some (.int .i64 (m : Int)), some (.pointer (some ⟨fb, 0, none⟩)), some (.pointer (some ⟨fb, 0, none⟩)), some (.pointer (some ⟨fb, 1, none⟩)), some (.slice (some ⟨gc, 0, none⟩) CH.length cc), some (.int .i64 (m : Int)), some (.pointer (some ⟨gc, m, none⟩)), some (.slice (some ⟨ge, 0, none⟩) n ce), some (.int .i64 (p : Int)), some (.agg #[.int .i64 e.tm, .slice lb e.labs.length lc, .string e.line]), none, none, some (.pointer (some ⟨gc, m, none⟩)), none] [14] (FV wc.drew.heap.size (.slice lb e.labs.length lc) e)) (fun j => false) (by kernel_rfl) (by kernel_rfl) ?hst (LW.start (HRC.out _ (Keep.refl _ _)) (by rfl) (by rfl)) ?step ?fin
        case hst =>
          intro i j ys v w1 w2 hij hanc hned hV hR
          by_cases hj14 : j = 14
          · subst hj14
            rcases hR with rfl | rfl | hR
            · cases hned.symm.trans (by kernel_rfl : _ = false)
            · cases hned.symm.trans (by kernel_rfl : _ = false)
            · exact GV.keep (sp := FV wc.drew.heap.size (.slice lb e.labs.length lc) e) (fun _ _ _ _ h hb => FV.below h hb) hij hV (lay_below hR)
          exact gvq_keep (by simp; omega) hij hV
        case step =>
          refine ⟨?_, ?_, ?_, ?_, ?_, ?_, ?_, ?_, ?_, ?_, ?_, ?_, ?_, ?_, ?_, ?_, ?_, ?_, trivial⟩
          · intro listed ys X W1 hsz hsd hi2 hall hX hI hd K hK
            have e0 : X.tmps.getD 0 undef = .pointer (some ⟨fb, 0, none⟩) := hX 0 (Nat.le_of_ble_eq_true rfl)
            have HI := Lib.hid hI
            refine H3.step_run (.inl rfl) ?_
            clear hX hd hI
            go_simp
            exact hK _ _ (HI.out.other (fun _ _ _ hl h => h.lay hl) (fun _ _ hl h => h.lay hl) (fun _ _ _ hl h => h.lay hl) (Keep.refl _ _) (by decide) (by decide) _) (.inr (.inr (Keep.refl _ _))) (GV.of (by decide) (fun u h => by cases h; rfl))
          · intro listed ys X W1 hsz hsd hi2 hall hX hI hd K hK
            have e45 : X.tmps.getD 45 undef = .pointer (some ⟨fb, 0, none⟩) := (hX 45 (Nat.le_of_ble_eq_true rfl)).trans (GV.val (hd ⟨0, .data⟩ (by simp) rfl) (by decide) rfl)
            have HI := Lib.hid hI
            refine H3.step_run (.inl rfl) ?_
            clear hX hd hI
            go_simp
            exact hK _ _ (HI.out.other (fun _ _ _ hl h => h.lay hl) (fun _ _ hl h => h.lay hl) (fun _ _ _ hl h => h.lay hl) (Keep.refl _ _) (by decide) (by decide) _) (.inr (.inr (Keep.refl _ _))) (GV.of (by decide) (fun u h => by cases h; rfl))
          · intro listed ys X W1 hsz hsd hi2 hall hX hI hd K hK
            have e46 : X.tmps.getD 46 undef = .pointer (some ⟨fb, 0, none⟩) := (hX 46 (Nat.le_of_ble_eq_true rfl)).trans (GV.val (hd ⟨1, .data⟩ (by simp) rfl) (by decide) rfl)
            have HI := Lib.hid hI
            refine H3.step_run (.inl rfl) ?_
            clear hX hd hI
            go_simp
            exact hK _ _ (HI.out.other (fun _ _ _ hl h => h.lay hl) (fun _ _ hl h => h.lay hl) (fun _ _ _ hl h => h.lay hl) (Keep.refl _ _) (by decide) (by decide) _) (.inr (.inr (Keep.refl _ _))) (GV.of (by decide) (fun u h => by cases h; rfl))
          · intro listed ys X W1 hsz hsd hi2 hall hX hI hd K hK
            have e47 : X.tmps.getD 47 undef = .pointer (some ⟨fb, 1, none⟩) := (hX 47 (Nat.le_of_ble_eq_true rfl)).trans (GV.val (hd ⟨2, .data⟩ (by simp) rfl) (by decide) rfl)
            have hfc : Bl W1 fb 207 _ := (hI.k.block fb HFX.out.lt fun h => HFN.out h).trans HFX.out
            have k1 := hfc.cell 1
            simp only [List.getElem?_toArray, List.getElem?_cons_succ, List.getElem?_cons_zero] at k1
            clear hfc
            have HI := Lib.hid hI
            refine H3.step_run (.inl rfl) ?_
            clear hX hd hI
            go_simp
            exact hK _ _ (HI.out.other (fun _ _ _ hl h => h.lay hl) (fun _ _ hl h => h.lay hl) (fun _ _ _ hl h => h.lay hl) (Keep.refl _ _) (by decide) (by decide) _) (.inr (.inr (Keep.refl _ _))) (GV.of (by decide) (fun u h => by cases h; rfl))
          · intro listed ys X W1 hsz hsd hi2 hall hX hI hd K hK
            have e5 : X.tmps.getD 5 undef = .int .i64 (m : Int) := hX 5 (Nat.le_of_ble_eq_true rfl)
            have HI := Lib.hid hI
            refine H3.step_run (.inl rfl) ?_
            clear hX hd hI
            go_simp
            exact hK _ _ (HI.out.other (fun _ _ _ hl h => h.lay hl) (fun _ _ hl h => h.lay hl) (fun _ _ _ hl h => h.lay hl) (Keep.refl _ _) (by decide) (by decide) _) (.inr (.inr (Keep.refl _ _))) (GV.of (by decide) (fun u h => by cases h; rfl))
          · intro listed ys X W1 hsz hsd hi2 hall hX hI hd K hK
            have e0 : X.tmps.getD 0 undef = .pointer (some ⟨fb, 0, none⟩) := hX 0 (Nat.le_of_ble_eq_true rfl)
            have HI := Lib.hid hI
            refine H3.step_run (.inl rfl) ?_
            clear hX hd hI
            go_simp
            exact hK _ _ (HI.out.other (fun _ _ _ hl h => h.lay hl) (fun _ _ hl h => h.lay hl) (fun _ _ _ hl h => h.lay hl) (Keep.refl _ _) (by decide) (by decide) _) (.inr (.inr (Keep.refl _ _))) (GV.of (by decide) (fun u h => by cases h; rfl))
          · intro listed ys X W1 hsz hsd hi2 hall hX hI hd K hK
            have e50 : X.tmps.getD 50 undef = .pointer (some ⟨fb, 0, none⟩) := (hX 50 (Nat.le_of_ble_eq_true rfl)).trans (GV.val (hd ⟨5, .data⟩ (by simp) rfl) (by decide) rfl)
            have HI := Lib.hid hI
            refine H3.step_run (.inl rfl) ?_
            clear hX hd hI
            go_simp
            exact hK _ _ (HI.out.other (fun _ _ _ hl h => h.lay hl) (fun _ _ hl h => h.lay hl) (fun _ _ _ hl h => h.lay hl) (Keep.refl _ _) (by decide) (by decide) _) (.inr (.inr (Keep.refl _ _))) (GV.of (by decide) (fun u h => by cases h; rfl))
          · intro listed ys X W1 hsz hsd hi2 hall hX hI hd K hK
            have e51 : X.tmps.getD 51 undef = .pointer (some ⟨fb, 0, none⟩) := (hX 51 (Nat.le_of_ble_eq_true rfl)).trans (GV.val (hd ⟨6, .data⟩ (by simp) rfl) (by decide) rfl)
            have HI := Lib.hid hI
            refine H3.step_run (.inl rfl) ?_
            clear hX hd hI
            go_simp
            exact hK _ _ (HI.out.other (fun _ _ _ hl h => h.lay hl) (fun _ _ hl h => h.lay hl) (fun _ _ _ hl h => h.lay hl) (Keep.refl _ _) (by decide) (by decide) _) (.inr (.inr (Keep.refl _ _))) (GV.of (by decide) (fun u h => by cases h; rfl))
          · intro listed ys X W1 hsz hsd hi2 hall hX hI hd K hK
            have e52 : X.tmps.getD 52 undef = .pointer (some ⟨fb, 1, none⟩) := (hX 52 (Nat.le_of_ble_eq_true rfl)).trans (GV.val (hd ⟨7, .data⟩ (by simp) rfl) (by decide) rfl)
            have hfc : Bl W1 fb 207 _ := (hI.k.block fb HFX.out.lt fun h => HFN.out h).trans HFX.out
            have k1 := hfc.cell 1
            simp only [List.getElem?_toArray, List.getElem?_cons_succ, List.getElem?_cons_zero] at k1
            clear hfc
            have HI := Lib.hid hI
            refine H3.step_run (.inl rfl) ?_
            clear hX hd hI
            go_simp
            exact hK _ _ (HI.out.other (fun _ _ _ hl h => h.lay hl) (fun _ _ hl h => h.lay hl) (fun _ _ _ hl h => h.lay hl) (Keep.refl _ _) (by decide) (by decide) _) (.inr (.inr (Keep.refl _ _))) (GV.of (by decide) (fun u h => by cases h; rfl))
          · intro listed ys X W1 hsz hsd hi2 hall hX hI hd K hK
            have e5 : X.tmps.getD 5 undef = .int .i64 (m : Int) := hX 5 (Nat.le_of_ble_eq_true rfl)
            have HI := Lib.hid hI
            refine H3.step_run (.inl rfl) ?_
            clear hX hd hI
            go_simp
            exact hK _ _ (HI.out.other (fun _ _ _ hl h => h.lay hl) (fun _ _ hl h => h.lay hl) (fun _ _ _ hl h => h.lay hl) (Keep.refl _ _) (by decide) (by decide) _) (.inr (.inr (Keep.refl _ _))) (GV.of (by decide) (fun u h => by cases h; rfl))
          · intro listed ys X W1 hsz hsd hi2 hall hX hI hd K hK
            have e53 : X.tmps.getD 53 undef = .slice (some ⟨gc, 0, none⟩) CH.length cc := (hX 53 (Nat.le_of_ble_eq_true rfl)).trans (GV.val (hd ⟨8, .data⟩ (by simp) rfl) (by decide) rfl)
            have e54 : X.tmps.getD 54 undef = .int .i64 (m : Int) := (hX 54 (Nat.le_of_ble_eq_true rfl)).trans (GV.val (hd ⟨9, .data⟩ (by simp) rfl) (by decide) rfl)
            have HI := Lib.hid hI
            refine H3.step_run (.inl rfl) ?_
            clear hX hd hI
            go_simp
            exact hK _ _ (HI.out.other (fun _ _ _ hl h => h.lay hl) (fun _ _ hl h => h.lay hl) (fun _ _ _ hl h => h.lay hl) (Keep.refl _ _) (by decide) (by decide) _) (.inr (.inr (Keep.refl _ _))) (GV.of (by decide) (fun u h => by cases h; rfl))
          · intro listed ys X W1 hsz hsd hi2 hall hX hI hd K hK
            have e55 : X.tmps.getD 55 undef = .pointer (some ⟨gc, m, none⟩) := (hX 55 (Nat.le_of_ble_eq_true rfl)).trans (GV.val (hd ⟨10, .data⟩ (by simp) rfl) (by decide) rfl)
            have hlq : Lay wa W1 := Keep.trans (Keep.trans HLC.out ((Keep.refl _ wc).drew)) (hI.a (H3.not_yet hsd hi2 (c := 15) (by kernel_rfl)))
            have g0 := HC0.out W1 (Keep.trans HLA.out hlq)
            have HI := Lib.hid hI
            refine H3.step_run (.inl rfl) ?_
            clear hX hd hI
            go_simp
            exact hK _ _ (HI.out.other (fun _ _ _ hl h => h.lay hl) (fun _ _ hl h => h.lay hl) (fun _ _ _ hl h => h.lay hl) (Keep.refl _ _) (by decide) (by decide) _) (.inr (.inr (Keep.refl _ _))) (GV.of (by decide) (fun u h => by cases h; rfl))
          · intro listed ys X W1 hsz hsd hi2 hall hX hI hd K hK
            have e6 : X.tmps.getD 6 undef = .int .i64 (p : Int) := hX 6 (Nat.le_of_ble_eq_true rfl)
            have HI := Lib.hid hI
            refine H3.step_run (.inl rfl) ?_
            clear hX hd hI
            go_simp
            exact hK _ _ (HI.out.other (fun _ _ _ hl h => h.lay hl) (fun _ _ hl h => h.lay hl) (fun _ _ _ hl h => h.lay hl) (Keep.refl _ _) (by decide) (by decide) _) (.inr (.inr (Keep.refl _ _))) (GV.of (by decide) (fun u h => by cases h; rfl))
          · intro listed ys X W1 hsz hsd hi2 hall hX hI hd K hK
            have e3 : X.tmps.getD 3 undef = .pointer (some ⟨w.heap.size, 0, none⟩) := hX 3 (Nat.le_of_ble_eq_true rfl)
            have hlq : Lay wa W1 := Keep.trans (Keep.trans HLC.out ((Keep.refl _ wc).drew)) (hI.a (H3.not_yet hsd hi2 (c := 15) (by kernel_rfl)))
            have hbq := HBA.out.below (lay_below hlq)
            have x0 := hbq.cell 0
            have x1 := hbq.cell 1
            have x2 := hbq.cell 2
            simp only [List.getElem?_toArray, List.getElem?_cons_succ, List.getElem?_cons_zero] at x0 x1 x2
            clear hbq
            have HI := Lib.hid hI
            refine H3.step_run (.inl rfl) ?_
            clear hX hd hI
            go_simp
            exact hK _ _ (HI.out.other (fun _ _ _ hl h => h.lay hl) (fun _ _ hl h => h.lay hl) (fun _ _ _ hl h => h.lay hl) (Keep.refl _ _) (by decide) (by decide) _) (.inr (.inr (Keep.refl _ _))) (GV.of (by decide) (fun u h => by cases h; rfl))
          · intro listed ys X W1 hsz hsd hi2 hall hX hI hd K hK
            have e58 : X.tmps.getD 58 undef = .agg #[.int .i64 e.tm, .slice lb e.labs.length lc, .string e.line] := (hX 58 (Nat.le_of_ble_eq_true rfl)).trans (GV.val (hd ⟨13, .data⟩ (by simp) rfl) (by decide) rfl)
            have hl := hI.a (H3.not_yet hsd hi2 (c := 15) (by kernel_rfl))
            have HI := Lib.hid hI
            have HLW := Lib.hid hl
            have e58' : X.tmps[58]?.getD undef = .agg #[.int .i64 e.tm, .slice lb e.labs.length lc, .string e.line] := by rw [← Array.getD_eq_getD_getElem?]; exact e58
            refine H3.step_run (.inl rfl) ?_
            clear hX hd hI hl
            go_simp
            exact hK _ _ (HI.out.other (fun _ _ _ hl h => h.lay hl) (fun _ _ hl h => h.lay hl) (fun _ _ _ hl h => h.lay hl) ((Keep.refl _ _).alloc _) (by decide) (by decide) _) (.inr (.inr ((Keep.refl _ _).alloc _))) (GV.ofsp (by decide) (show FV wc.drew.heap.size (.slice lb e.labs.length lc) e 14 _ _ from ⟨W1.heap.size, rfl, HLW.out.size, Bl.new W1 32 _⟩))
          · intro listed ys X W1 hsz hsd hi2 hall hX hI hd K hK
            have e56 : X.tmps.getD 56 undef = .slice (some ⟨ge, 0, none⟩) n ce := (hX 56 (Nat.le_of_ble_eq_true rfl)).trans (GV.val (hd ⟨11, .data⟩ (by simp) rfl) (by decide) rfl)
            have e57 : X.tmps.getD 57 undef = .int .i64 (p : Int) := (hX 57 (Nat.le_of_ble_eq_true rfl)).trans (GV.val (hd ⟨12, .data⟩ (by simp) rfl) (by decide) rfl)
            have e59 : X.tmps.getD 59 undef = ys 14 := hX 59 (Nat.le_of_ble_eq_true rfl)
            have hv14 := GV.spv (hd ⟨14, .data⟩ (by simp) rfl) (by decide)
            have hl := hI.a hi2
            have h17 := H3.not_yet hsd hi2 (c := 17) (by kernel_rfl)
            have HI := Lib.hid hI
            obtain ⟨A, hv, hA, hbl⟩ : ∃ A, ys 14 = .slice (some ⟨A, 0, none⟩) 1 1 ∧ wc.drew.heap.size ≤ A ∧ Bl W1 A 32 #[.int .i64 e.tm, .slice lb e.labs.length lc, .string e.line] := hv14
            rw [hv] at e59
            have HIN := Lib.hid (insE_any (i := p) (HRK.out W1 hl) HONE.out (us := rawC ((.slice lb e.labs.length lc : Value), e)) hbl rfl (fun u hu => by simp only [rawC, List.mem_cons, List.not_mem_nil, or_false] at hu; rcases hu with rfl | rfl | rfl <;> rfl) (fun ⟨_, _, h⟩ => by simp only [Value.slice.injEq, Option.some.injEq, Addr.mk.injEq, and_true] at h; have := HGEL.out; omega) hpn (by omega))
            rw [flatR_ins] at HIN
            have HLW := Lib.hid hl
            refine H3.step_run (.inl rfl) ?_
            clear hX hd hI hl hA hbl hv
            go_simp
            refine ⟨trivial, (callsIn_wide.2 (HIN.out)).mono ?_⟩
            rintro x w7 ⟨v7, rfl, hr7, hk7⟩
            have hat : ∀ b, At (.slice (some ⟨ge, 0, none⟩) n ce) b → b = ge := fun b ⟨_, _, h⟩ => by simp only [Value.slice.injEq, Option.some.injEq, Addr.mk.injEq, and_true] at h; exact h.1.symm
            exact hK _ _ (HI.out.call (by decide) (by rw [hsz]; decide) h17 (HI.out.k.trans (hk7.into fun b _ h => .inr (hat b h))) (hr7.mono fun b hb _ => hb.imp id fun h => Nat.le_trans HLW.out.size h) ((HRC.out W1 HLW.out).keep hk7 fun b hb ha _ h => HGN.out ((hat b h).symm.trans (HGC.out b ha)))) (.inl rfl) (GV.of (by decide) (fun u h => by cases h))
          · intro listed ys X W1 hsz hsd hi2 hall hX hI hd K hK
            have e48 : X.tmps.getD 48 undef = .slice (some ⟨gc, 0, none⟩) CH.length cc := (hX 48 (Nat.le_of_ble_eq_true rfl)).trans (GV.val (hd ⟨3, .data⟩ (by simp) rfl) (by decide) rfl)
            have e49 : X.tmps.getD 49 undef = .int .i64 (m : Int) := (hX 49 (Nat.le_of_ble_eq_true rfl)).trans (GV.val (hd ⟨4, .data⟩ (by simp) rfl) (by decide) rfl)
            have HI := Lib.hid hI
            refine H3.step_run (.inl rfl) ?_
            clear hX hd hI
            go_simp
            exact hK _ _ (HI.out.other (fun _ _ _ hl h => h.lay hl) (fun _ _ hl h => h.lay hl) (fun _ _ _ hl h => h.lay hl) (Keep.refl _ _) (by decide) (by decide) _) (.inr (.inr (Keep.refl _ _))) (GV.of (by decide) (fun u h => by cases h; rfl))
          · intro listed ys X W1 hsz hsd hi2 hall hX hI hd K hK
            have e61 : X.tmps.getD 61 undef = .pointer (some ⟨gc, m, none⟩) := (hX 61 (Nat.le_of_ble_eq_true rfl)).trans (GV.val (hd ⟨16, .data⟩ (by simp) rfl) (by decide) rfl)
            have e60 : X.tmps.getD 60 undef = ys 15 := hX 60 (Nat.le_of_ble_eq_true rfl)
            have h15 := hall ⟨15, .data⟩ (by simp) rfl
            have hs17 : 17 < listed.size := by rw [hsz]; decide
            have hc := hI.p hi2
            have hr := hI.b h15
            obtain ⟨a3, c3, hsh⟩ := hr.shape
            have hset := Rk.setC hc m (by omega) (ys 15)
            have hks : Keep (fun k => k = gc) W1 (W1.setCell ⟨gc, m, none⟩ (ys 15)) := keep_set12 (Keep.refl _ _) m _
            have hwl := HGCL.out
            have HN := Lib.hid (hI.store (u := undef) (W' := W1.setCell ⟨gc, m, none⟩ (ys 15)) (by decide) hs17 h15 (hI.k.trans (hks.into fun b _ h => .inl h)) (hr.keep hks fun b hb _ _ h => by
                rcases hb with ⟨_, _, hb⟩ | hb
                · simp only [Value.slice.injEq, Option.some.injEq, Addr.mk.injEq, and_true] at hb
                  exact HGN.out (hb.1.trans h)
                · omega) hset)
            obtain ⟨k1, z1⟩ : W1.cell? ⟨gc, m, none⟩ = some CH[m].1 ∧ W1.frozen? ⟨gc, m, none⟩ = false := rk_cell hc m hm
            refine H3.step_run (.inl rfl) ?_
            rw [hsh] at e60 HN
            clear hX hd hI hset hks hc hr
            go_simp
            exact hK _ _ HN.out (.inr (.inl rfl)) (GV.of (by decide) (fun u h => by cases h))
        case fin =>
          intro listed ys wd hall hI _
          have hr := hI.b (hall 15 (by decide))
          have hq := hI.q (hall 17 (by decide))
          have hkd := hI.k
          have hwcd : wc.heap.size ≤ wd.heap.size := hkd.size
          have hx := List.getElem_mem hm
          have hlw0 := HLW0.out
          have hhc := HH.out.lay hlw0
          have hat1 : At CH[m].1 ge := ⟨_, _, by rw [HV.out]⟩
          have hck : ∀ b, At (.slice (some ⟨ge, 0, none⟩) n ce) b → At CH[m].1 b := fun b ⟨_, _, hb⟩ => by
            rw [HV.out]
            simp only [Value.slice.injEq, Option.some.injEq, Addr.mk.injEq, and_true] at hb
            exact ⟨_, _, by rw [hb.1]⟩
          have hLk : ∀ {u : Value} {l : List Lab}, LabsAt L wc.drew u l → LabsAt L wd u l := fun hl => hl.keep hkd fun b hb _ h => by
            rcases h with h | h
            · exact hLG b hb (by rw [h]; exact hGc)
            · exact hLG b hb (by rw [h]; exact hGe)
          obtain ⟨hfs, him, hin, hp⟩ := HHM.out
          have hno : e ∉ entsC CH[m] := fun h => by
            have h1 := him.2 h
            rw [← hasE_iff, HHAS.out] at h1
            cases h1
          obtain ⟨v4, hv4⟩ : ∃ v4, v4 = ys 15 := ⟨_, rfl⟩
          rw [← hv4] at hr hq
          obtain ⟨R', hR'⟩ : ∃ R', R' = CH[m].2.take p ++ ((.slice lb e.labs.length lc : Value), e) :: CH[m].2.drop p := ⟨_, rfl⟩
          have hRl : R'.length = n + 1 := by rw [hR', List.length_append, List.length_cons, List.length_take, List.length_drop, ← HNN.out]; omega
          rw [← hR', ← hRl] at hr
          have hRe : R'.map Prod.snd = (entsC CH[m]).take p ++ e :: (entsC CH[m]).drop p := by rw [hR', List.map_append, List.map_cons, List.map_take, List.map_drop]; rfl
          have hset : CH.set m (v4, R') = CH.take m ++ (v4, R') :: CH.drop (m + 1) := by rw [List.set_eq_take_append_cons_drop, if_pos hm]
          have hfl : flatC (CH.set m (v4, R')) = flatC (CH.take m) ++ (((entsC CH[m]).take p ++ e :: (entsC CH[m]).drop p) ++ flatC (CH.drop (m + 1))) := by
            rw [hset, flatC_append, flatC_cons]
            show flatC (CH.take m) ++ (R'.map Prod.snd ++ _) = _
            rw [hRe]
          have hmem : ∀ x, x ∈ flatC (CH.set m (v4, R')) ↔ x ∈ flatC CH ∨ x = e := fun x => by
            rw [hfl, hfs]
            conv => rhs; rw [← List.take_append_drop p (entsC CH[m])]
            simp only [List.mem_append, List.mem_cons]
            constructor
            · rintro (h | (h | h | h) | h)
              · exact .inl (.inl h)
              · exact .inl (.inr (.inl (.inl h)))
              · exact .inr h
              · exact .inl (.inr (.inl (.inr h)))
              · exact .inl (.inr (.inr h))
            · rintro ((h | (h | h) | h) | h)
              · exact .inl h
              · exact .inr (.inl (.inl h))
              · exact .inr (.inl (.inr (.inr h)))
              · exact .inr (.inr h)
              · exact .inr (.inl (.inr (.inl h)))
          have hF := set_end (R := R') (v' := v4) hhc hm HGC.out (Nat.lt_of_lt_of_le hgc hlw0.size) hLG hGc ⟨_, _, rfl⟩ (hkd.into fun b _ h => h.imp id fun h => by rw [h]; exact hat1) hq (hr.mono fun b hb _ => hb.imp (hck b) id)
            (fun y hy => by
              rw [hR'] at hy
              simp only [List.mem_append, List.mem_cons] at hy
              rcases hy with hy | rfl | hy
              · exact hLk (hhc.r _ hx y (List.mem_of_mem_take hy))
              · exact hLk hhc.l
              · exact hLk (hhc.r _ hx y (List.mem_of_mem_drop hy)))
            (fun h => by rw [h] at hRl; simp at hRl) (by rw [hfl]; exact hin hno) (fun x hx => by
              rcases (hmem x).1 hx with h | h
              · exact HH.out.m x h
              · rw [h])
          have hfd : Bl wd fb 207 #[.slice lb e.labs.length lc, .slice (some ⟨gc, 0, none⟩) CH.length cc] := (hkd.block fb HFX.out.lt HFN.out).trans HFX.out
          have hkw : Keep (fun b => G b) w wd := Keep.trans (hlw0.into fun _ _ h => h.elim) (hkd.into fun b _ h => by
            rcases h with h | h
            · rw [h]; exact hGc
            · rw [h]; exact hGe)
          obtain ⟨a4, c4, hs4⟩ := hr.shape
          rw [hRl] at hs4
          have hfc : wd.cell? ⟨fb, 1, none⟩ = some (.slice (some ⟨gc, 0, none⟩) CH.length cc) := hfd.cell 1
          have hgcc : wd.cell? ⟨gc, m, none⟩ = some (.slice a4 (n + 1) c4) := by
            have h1 : m < (CH.set m (v4, R')).length := by rw [List.length_set]; exact hm
            rw [xs_set m (v4, R')] at hq
            have := (rk_cell hq m h1).1
            rw [this, List.getElem_set_self]
            exact congrArg some hs4
          have hsw : w.heap.size ≤ wc.drew.heap.size := hlw0.size
          have HSW : Hid (w.heap.size ≤ wc.drew.heap.size ∧ w.heap.size ≤ wd.heap.size) := Lib.hid ⟨hlw0.size, Nat.le_trans hlw0.size hkd.size⟩
          have hflt : fb < w.heap.size := by
            have h1 := HFX.out.lt
            have h2 := hGb
            exact HFW.out
          have HF := Lib.hid hF
          have HMEM := Lib.hid hmem
          have HFD := Lib.hid hfd
          have HKW := Lib.hid hkw
          have HRL := Lib.hid hRl
          clear hr hq hkd hhc hLk hfs him hin hp hno hv4 hR' hRl hRe hset hfl hmem hF hfd hkw hs4 hall hI hat1 hck hx
          simp only [H3.putsFrom, Nat.reduceAdd]
          simp only [Act.put, List.setIfInBounds_toArray, List.set_cons_succ, List.set_cons_zero]
          by_cases h16 : 16 < n + 1
          · have hd16 : (16 : Int) < (n : Int) + 1 := by omega
            obtain ⟨hsw1, hsw2⟩ := HSW.out
            have HPT := Lib.hid (part_any (i := m) HFD.out HF.out (by rw [List.length_set]; exact hm) (by rw [List.getElem_set_self, HRL.out]; omega) (by rw [List.length_set]; omega) (by rw [List.getElem_set_self, HRL.out]; omega) (fun h => h.elim hfG fun h => by omega) hfL (fun b hb h => h.elim (hLG b hb) fun h => by have := hLb b hb; omega) (fun b hb => by have := hLb b hb; omega))
            go_wp2_with fail
            refine HPT.out.mono ?_
            rintro x wz ⟨rfl, cv', CH', hbl, hfl, hfe, hkz⟩
            have HE : Hid (FaddP G L w fb e.labs CH e (.returned (.bool true)) wz) := Lib.hid ⟨by rw [HHAS.out]; rfl, fun h => (by rw [HHAS.out] at h; cases h), fun _ => ⟨_, _, CH', w.heap.size, Nat.le_refl _, hbl, hfl.mono (fun b hb _ => hb.elim (fun h => h.imp id fun h => by omega) fun h => .inr (by omega)) (fun b hb _ => .inl hb), fun h => by rw [h] at hfe; exact absurd ((HMEM.out e).2 (.inr rfl)) (by rw [← hfe]; simp [flatC]), fun x => by rw [hfe]; exact HMEM.out x,
              Keep.into (H := fun b => b = fb ∨ G b) (G := fun b => b = fb ∨ G b ∨ wc.drew.heap.size ≤ b) (Keep.trans (HKW.out.into fun b _ h => .inr (.inl h)) (hkz.into fun b _ h => h)) fun b hlt h => h.imp id fun h => h.elim id fun h => absurd hlt (by omega)⟩⟩
            clear hbl hfl hfe hkz HPT
            go_wp2_with fail
            refine bodyPost_ret (v := .bool true) (by simp [results, Tryz.results147, go_sem]) rfl HE.out
          · have hd16 : ¬ (16 : Int) < (n : Int) + 1 := by omega
            go_wp2_with fail
            refine bodyPost_ret (v := .bool true) (by simp [results, Tryz.results147, go_sem]) rfl ⟨by rw [HHAS.out]; rfl, fun h => (by rw [HHAS.out] at h; cases h), fun _ => ⟨_, _, _, w.heap.size, Nat.le_refl _, HFD.out, HF.out.mono (fun b hb _ => hb.imp id fun h => by omega) (fun b hb _ => .inl hb), fun h => by
              have := congrArg List.length h
              rw [List.length_set] at this
              exact h0 (List.eq_nil_of_length_eq_zero this), HMEM.out, HKW.out.into fun b _ h => .inr h⟩⟩
end Go.Proofs.YtoobjjpheegmdaaGreat.E4
