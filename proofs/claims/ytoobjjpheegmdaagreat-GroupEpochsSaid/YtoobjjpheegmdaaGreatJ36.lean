/-
  Ad15.
-/
import Derived.Test.YtoobjjpheegmdaaGreatJ33
import Derived.Test.YtoobjjpheegmdaaGreatJ20
namespace Go.Proofs.YtoobjjpheegmdaaGreat.E4
open Go.RowKit Go
theorem keep_set15 {G : Nat → Prop} {w W : World} {g : Nat} (h : Keep G w W) (o : Nat) (v : Value) (hg : G g := by first | rfl | assumption) : Keep G w (W.setCell ⟨g, o, none⟩ v) :=
  ⟨h.os, h.tape, h.output, by simpa [World.setCell] using h.size, h.drawn, fun k hk hn => (Below.heap_setCell W ⟨g, o, none⟩ v k (fun e => hn (by subst e; exact hg))).trans (h.block k hk hn)⟩
theorem Bl.set0 {W : World} {B : Nat} {t : TypeId} {u n : Value} (h : Bl W B t #[u, n]) (v : Value) : Bl (W.setCell ⟨B, 0, none⟩ v) B t #[v, n] := by
  obtain ⟨hlt, hk⟩ := Array.getElem?_eq_some_iff.1 h
  show (W.heap.modify B _)[B]? = _
  rw [Array.getElem?_eq_getElem (by rw [Array.size_modify]; exact hlt), Array.getElem_modify_self, hk]
  rfl
theorem Bl.set1 {W : World} {B : Nat} {t : TypeId} {u n : Value} (h : Bl W B t #[u, n]) (v : Value) : Bl (W.setCell ⟨B, 1, none⟩ v) B t #[u, v] := by
  obtain ⟨hlt, hk⟩ := Array.getElem?_eq_some_iff.1 h
  show (W.heap.modify B _)[B]? = _
  rw [Array.getElem?_eq_getElem (by rw [Array.size_modify]; exact hlt), Array.getElem_modify_self, hk]
  rfl
set_option maxHeartbeats 8000000 in
set_option maxRecDepth 100000 in
theorem add5_any {H : Nat → Prop} {w : World} {B gb : Nat} {tv : Value} {es : List Ent} {e : Ent} {lv : Value} (hE : EngC5 w B gb tv es) (hl : LabsAt H w lv e.labs) (hH : ∀ b, H b → b < w.heap.size → b ≠ gb ∧ ¬ At tv b) (hn : es.length ≤ 1000) :
    Calls Tryz.prog 172 #[.pointer (some ⟨gb, 0, none⟩), e.val lv] w fun x w' => x = .returned (.tuple #[]) ∧ (∃ tv', EngC5 w' B gb tv' (addE es e) ∧ (∀ b, At tv' b → At tv b ∨ w.heap.size ≤ b) ∧ ∀ b, b < w.heap.size → b ≠ gb → ¬ At tv b → w'.heap[b]? = w.heap[b]?) ∧ Below B w w' := by
  have hmx : Tryz.prog.follows .mixedOrders = true := by kernel_rfl
  obtain ⟨al, cl, rfl, _⟩ := id hl
  have hBw : B ≤ w.heap.size := Nat.le_trans hE.low (Nat.le_of_lt hE.c.lt)
  obtain ⟨W0, hW0⟩ : ∃ W0, W0 = w.alloc (.cells #[.int .i64 e.tm, .slice al e.labs.length cl, .string e.line] 32) := ⟨_, rfl⟩
  have hl0 : Lay w W0 := by rw [hW0]; exact (Keep.refl _ w).alloc _
  have hx0 : Bl W0 w.heap.size 32 #[.int .i64 e.tm, .slice al e.labs.length cl, .string e.line] := by rw [hW0]; exact Bl.new w 32 _
  have hs0 : W0.heap.size = w.heap.size + 1 := by rw [hW0]; simp
  have hlb := (hl.mono (H := fun b => b < w.heap.size ∧ b ≠ gb ∧ ¬ At tv b) fun b hb hlt => ⟨hlt, hH b hb hlt⟩).lay hl0
  have HGD := Lib.hid (good_any (e := e) hlb)
  simp only [Ent.val] at HGD
  have x0 := hx0.cell 0
  have x1 := hx0.cell 1
  have x2 := hx0.cell 2
  simp only [List.getElem?_toArray, List.getElem?_cons_succ, List.getElem?_cons_zero] at x0 x1 x2
  have HL0 := Lib.hid hl0
  have HX0 := Lib.hid hx0
  have HLB0 := Lib.hid hlb
  have HE := Lib.hid (hE.below (lay_below hl0))
  have HW0 := Lib.hid hW0.symm
  have HBW := Lib.hid hBw
  have HN := Lib.hid hn
  have HEW := Lib.hid hE
  clear hl hH hn hl0 hx0 hlb hW0 hE
  unfold Ent.val
  cases hok : e.ok with
  | false =>
    have HA : Hid (addE es e = es) := Lib.hid (addE_bad hok)
    rw [hok] at HGD
    clear hok
    go_enter Tryz.func172, Tryz.ntmps172
    go_wp2_with (go_at_call 24; rw [HW0.out]; refine HGD.out.mono ?_; rintro x w2 ⟨rfl, hl2⟩)
    refine bodyPost_ret (v := .tuple #[]) (by simp [results, Tryz.results172, go_sem]) rfl ⟨rfl, ?_, ?_⟩
    · rw [HA.out]; exact ⟨tv, HE.out.below (lay_below hl2), fun _ h => .inl h, fun b hb _ _ => (below_mid (lay_below HL0.out) (lay_below hl2)).block b hb⟩
    · exact (below_mid (lay_below HL0.out) (lay_below hl2)).mono HBW.out
  | true =>
  rw [hok] at HGD
  have HOK := Lib.hid hok
  clear hok
  cases hhas : hasE es e with
  | true =>
    have HA : Hid (addE es e = es) := Lib.hid (addE_old hhas)
    have HHS := Lib.hid (fun W (hW : Lay W0 W) => has_any (w := W) (B := B) (gb := gb) (es := es) (e := e) (HE.out.below (lay_below hW)) (HLB0.out.lay hW) (fun _ h _ => h.2) HOK.out HN.out)
    rw [hhas] at HHS
    simp only [Ent.val] at HHS
    clear hhas
    go_enter Tryz.func172, Tryz.ntmps172
    go_wp2_with (first | (go_at_call 24; rw [HW0.out]; refine HGD.out.mono ?_; rintro x w2 ⟨rfl, hl2⟩; have y0 := (Lay.cell hl2 (b := w.heap.size) (o := 0) (by omega)).trans x0; have y1 := (Lay.cell hl2 (b := w.heap.size) (o := 1) (by omega)).trans x1; have y2 := (Lay.cell hl2 (b := w.heap.size) (o := 2) (by omega)).trans x2; have HL2 := Lib.hid hl2; clear hl2) | (go_at_call 175; refine (HHS.out _ HL2.out).mono ?_; rintro x w3 ⟨rfl, hb3⟩))
    refine bodyPost_ret (v := .tuple #[]) (by simp [results, Tryz.results172, go_sem]) rfl ⟨rfl, ?_, ?_⟩
    · rw [HA.out]; exact ⟨tv, (HE.out.below (lay_below HL2.out)).below hb3, fun _ h => .inl h, fun b hb _ _ => (below_mid (below_mid (lay_below HL0.out) (lay_below HL2.out)) hb3).block b hb⟩
    · exact (below_mid (below_mid (lay_below HL0.out) (lay_below HL2.out)) hb3).mono HBW.out
  | false =>
  have HA : Hid (addE es e = es ++ [e]) := Lib.hid (addE_yes HOK.out hhas)
  have HNM : Hid (e ∉ es) := Lib.hid fun hm => by rw [hasE_iff.2 hm] at hhas; cases hhas
  have HHS := Lib.hid (fun W (hW : Lay W0 W) => has_any (w := W) (B := B) (gb := gb) (es := es) (e := e) (HE.out.below (lay_below hW)) (HLB0.out.lay hW) (fun _ h _ => h.2) HOK.out HN.out)
  rw [hhas] at HHS
  simp only [Ent.val] at HHS
  clear hhas
  go_enter Tryz.func172, Tryz.ntmps172
  go_upto_region 2 with (first | (go_at_call 24; rw [HW0.out]; refine HGD.out.mono ?_; rintro x w2 ⟨rfl, hl2⟩; have y0 := (Lay.cell hl2 (b := w.heap.size) (o := 0) (by omega)).trans x0; have y1 := (Lay.cell hl2 (b := w.heap.size) (o := 1) (by omega)).trans x1; have y2 := (Lay.cell hl2 (b := w.heap.size) (o := 2) (by omega)).trans x2; have HL2 := Lib.hid hl2; clear hl2) | (go_at_call 175; refine (HHS.out _ HL2.out).mono ?_; rintro x w3 ⟨rfl, hb3⟩))
  have HB3 := Lib.hid (below_mid (below_mid (lay_below HL0.out) (lay_below HL2.out)) hb3)
  have hlq : Lay w3 w3.drew := (Keep.refl _ w3).drew
  have hbq : Below w.heap.size w w3.drew := below_mid HB3.out (lay_below hlq)
  have hbq0 : Below W0.heap.size W0 w3.drew := below_mid (below_mid (lay_below HL2.out) hb3) (lay_below hlq)
  have hEq := HE.out.below hbq0
  have HC := Lib.hid hEq.c
  have HTV := Lib.hid hEq.t
  have HEB := Lib.hid (HX0.out.below hbq0)
  have HLB : Hid (∀ W1, Lay w3.drew W1 → LabsAt (fun b => b < w.heap.size ∧ b ≠ gb ∧ ¬ At tv b) W1 (.slice al e.labs.length cl) e.labs) := Lib.hid fun W1 hW => (HLB0.out.below1 hbq0).lay hW
  have HBL : Hid ((bytesF es).length ≤ 10000000) := Lib.hid (bytesF_small hEq.ok HN.out)
  have HGL : Hid (gb < w3.drew.heap.size) := Lib.hid hEq.c.lt
  have HEQ := Lib.hid hEq
  have HBQ := Lib.hid hbq
  clear hb3 hlq hbq hbq0 hEq x0 x1 x2 y0 y1 y2
  refine (wpIn_wide (n := 9)).1 ?_
  refine H3.wpIn_region_flow (fun _ => trivial) (by kernel_rfl) (LW 6 9 w3.drew (fun b => At tv b ∨ b = gb) (fun v W => By (fun b => At tv b ∨ w3.drew.heap.size ≤ b) W v (bytesF es ++ e.bytes)) (fun W => Bl W gb 102 #[tv, .int .i64 es.length]) (fun v W => Bl W gb 102 #[v, .int .i64 es.length])) (fun i _ W1 W2 => i = 6 ∨ i = 9 ∨ Lay W1 W2) (GV [some (.pointer (some ⟨gb, 0, none⟩)), some (.pointer (some ⟨gb, 0, none⟩)), some (.pointer (some ⟨gb, 0, none⟩)), some (.pointer (some ⟨gb, 0, none⟩)), some (tv), some (.agg #[.int .i64 e.tm, .slice al e.labs.length cl, .string e.line]), none, some (.pointer (some ⟨gb, 0, none⟩)), some (.pointer (some ⟨gb, 0, none⟩)), none] [] (fun _ _ _ => True)) (fun j => false) (by kernel_rfl) (by kernel_rfl) ?hst (LW.start HC.out (by rfl) (by rfl)) ?step ?fin
  case hst =>
    intro i j ys v w1 w2 hij hanc hned hV hR
    exact gvq_keep (by simp) hij hV
  case step =>
    refine ⟨?_, ?_, ?_, ?_, ?_, ?_, ?_, ?_, ?_, ?_, trivial⟩
    · intro listed ys X W1 hsz hsd hi2 hall hX hI hd K hK
      have e0 : X.tmps.getD 0 undef = .pointer (some ⟨gb, 0, none⟩) := hX 0 (Nat.le_of_ble_eq_true rfl)
      have HI := Lib.hid hI
      refine H3.step_run (.inl rfl) ?_
      clear hX hd hI
      go_simp
      exact hK _ _ (HI.out.other (fun _ _ _ hl h => h.lay hl) (fun _ _ hl h => h.below (lay_below hl)) (fun _ _ _ hl h => h.below (lay_below hl)) (Keep.refl _ _) (by decide) (by decide) _) (.inr (.inr (Keep.refl _ _))) (GV.of (by decide) (fun u h => by cases h; rfl))
    · intro listed ys X W1 hsz hsd hi2 hall hX hI hd K hK
      have e0 : X.tmps.getD 0 undef = .pointer (some ⟨gb, 0, none⟩) := hX 0 (Nat.le_of_ble_eq_true rfl)
      have HI := Lib.hid hI
      refine H3.step_run (.inl rfl) ?_
      clear hX hd hI
      go_simp
      exact hK _ _ (HI.out.other (fun _ _ _ hl h => h.lay hl) (fun _ _ hl h => h.below (lay_below hl)) (fun _ _ _ hl h => h.below (lay_below hl)) (Keep.refl _ _) (by decide) (by decide) _) (.inr (.inr (Keep.refl _ _))) (GV.of (by decide) (fun u h => by cases h; rfl))
    · intro listed ys X W1 hsz hsd hi2 hall hX hI hd K hK
      have e17 : X.tmps.getD 17 undef = .pointer (some ⟨gb, 0, none⟩) := (hX 17 (Nat.le_of_ble_eq_true rfl)).trans (GV.val (hd ⟨1, .data⟩ (by simp) rfl) (by decide) rfl)
      have HI := Lib.hid hI
      refine H3.step_run (.inl rfl) ?_
      clear hX hd hI
      go_simp
      exact hK _ _ (HI.out.other (fun _ _ _ hl h => h.lay hl) (fun _ _ hl h => h.below (lay_below hl)) (fun _ _ _ hl h => h.below (lay_below hl)) (Keep.refl _ _) (by decide) (by decide) _) (.inr (.inr (Keep.refl _ _))) (GV.of (by decide) (fun u h => by cases h; rfl))
    · intro listed ys X W1 hsz hsd hi2 hall hX hI hd K hK
      have e18 : X.tmps.getD 18 undef = .pointer (some ⟨gb, 0, none⟩) := (hX 18 (Nat.le_of_ble_eq_true rfl)).trans (GV.val (hd ⟨2, .data⟩ (by simp) rfl) (by decide) rfl)
      have HI := Lib.hid hI
      refine H3.step_run (.inl rfl) ?_
      clear hX hd hI
      go_simp
      exact hK _ _ (HI.out.other (fun _ _ _ hl h => h.lay hl) (fun _ _ hl h => h.below (lay_below hl)) (fun _ _ _ hl h => h.below (lay_below hl)) (Keep.refl _ _) (by decide) (by decide) _) (.inr (.inr (Keep.refl _ _))) (GV.of (by decide) (fun u h => by cases h; rfl))
    · intro listed ys X W1 hsz hsd hi2 hall hX hI hd K hK
      have e19 : X.tmps.getD 19 undef = .pointer (some ⟨gb, 0, none⟩) := (hX 19 (Nat.le_of_ble_eq_true rfl)).trans (GV.val (hd ⟨3, .data⟩ (by simp) rfl) (by decide) rfl)
      have hlq := hI.a (H3.not_yet hsd hi2 (c := 6) (by kernel_rfl))
      have k1 := (HC.out.below (lay_below hlq)).cell 0
      simp only [List.getElem?_toArray, List.getElem?_cons_zero] at k1
      have HI := Lib.hid hI
      refine H3.step_run (.inl rfl) ?_
      clear hX hd hI
      go_simp
      exact hK _ _ (HI.out.other (fun _ _ _ hl h => h.lay hl) (fun _ _ hl h => h.below (lay_below hl)) (fun _ _ _ hl h => h.below (lay_below hl)) (Keep.refl _ _) (by decide) (by decide) _) (.inr (.inr (Keep.refl _ _))) (GV.of (by decide) (fun u h => by cases h; rfl))
    · intro listed ys X W1 hsz hsd hi2 hall hX hI hd K hK
      have e3 : X.tmps.getD 3 undef = .pointer (some ⟨w.heap.size, 0, none⟩) := hX 3 (Nat.le_of_ble_eq_true rfl)
      have hlq := hI.a (H3.not_yet hsd hi2 (c := 6) (by kernel_rfl))
      have hbq := HEB.out.below (lay_below hlq)
      have x0 := hbq.cell 0
      have x1 := hbq.cell 1
      have x2 := hbq.cell 2
      simp only [List.getElem?_toArray, List.getElem?_cons_succ, List.getElem?_cons_zero] at x0 x1 x2
      clear hbq
      have HI := Lib.hid hI
      refine H3.step_run (.inl rfl) ?_
      clear hX hd hI
      go_simp
      exact hK _ _ (HI.out.other (fun _ _ _ hl h => h.lay hl) (fun _ _ hl h => h.below (lay_below hl)) (fun _ _ _ hl h => h.below (lay_below hl)) (Keep.refl _ _) (by decide) (by decide) _) (.inr (.inr (Keep.refl _ _))) (GV.of (by decide) (fun u h => by cases h; rfl))
    · intro listed ys X W1 hsz hsd hi2 hall hX hI hd K hK
      have e20 : X.tmps.getD 20 undef = tv := (hX 20 (Nat.le_of_ble_eq_true rfl)).trans (GV.val (hd ⟨4, .data⟩ (by simp) rfl) (by decide) rfl)
      have e21 : X.tmps.getD 21 undef = .agg #[.int .i64 e.tm, .slice al e.labs.length cl, .string e.line] := (hX 21 (Nat.le_of_ble_eq_true rfl)).trans (GV.val (hd ⟨5, .data⟩ (by simp) rfl) (by decide) rfl)
      have hl := hI.a hi2
      have h9 := H3.not_yet hsd hi2 (c := 9) (by kernel_rfl)
      have hp := hI.p h9
      have HI := Lib.hid hI
      have HPU := Lib.hid (put_any (HTV.out.lay hl) (HLB.out W1 hl) (fun b hb _ ha => hb.2.2 ha) (ok_mod HOK.out) (by have := HBL.out; omega))
      simp only [Ent.val] at HPU
      have HLW := Lib.hid hl
      have HP := Lib.hid hp
      refine H3.step_run (.inl rfl) ?_
      clear hX hd hI hl hp
      go_simp
      refine ⟨trivial, (callsIn_wide.2 HPU.out).mono ?_⟩
      rintro x w7 ⟨v7, rfl, hr7, hk7⟩
      have hb7 : Bl w7 gb 102 #[tv, .int .i64 es.length] := (hk7.block gb HP.out.lt fun h => (HTV.out.at h).1.2 rfl).trans HP.out
      exact hK _ _ (HI.out.call (by decide) (by rw [hsz]; decide) h9 (HI.out.k.trans (hk7.into fun b _ h => .inl h)) (hr7.mono fun b hb _ => hb.imp id fun h => Nat.le_trans HLW.out.size h) hb7) (.inl rfl) (GV.of (by decide) (fun u h => by cases h))
    · intro listed ys X W1 hsz hsd hi2 hall hX hI hd K hK
      have e16 : X.tmps.getD 16 undef = .pointer (some ⟨gb, 0, none⟩) := (hX 16 (Nat.le_of_ble_eq_true rfl)).trans (GV.val (hd ⟨0, .data⟩ (by simp) rfl) (by decide) rfl)
      have HI := Lib.hid hI
      refine H3.step_run (.inl rfl) ?_
      clear hX hd hI
      go_simp
      exact hK _ _ (HI.out.other (fun _ _ _ hl h => h.lay hl) (fun _ _ hl h => h.below (lay_below hl)) (fun _ _ _ hl h => h.below (lay_below hl)) (Keep.refl _ _) (by decide) (by decide) _) (.inr (.inr (Keep.refl _ _))) (GV.of (by decide) (fun u h => by cases h; rfl))
    · intro listed ys X W1 hsz hsd hi2 hall hX hI hd K hK
      have e23 : X.tmps.getD 23 undef = .pointer (some ⟨gb, 0, none⟩) := (hX 23 (Nat.le_of_ble_eq_true rfl)).trans (GV.val (hd ⟨7, .data⟩ (by simp) rfl) (by decide) rfl)
      have HI := Lib.hid hI
      refine H3.step_run (.inl rfl) ?_
      clear hX hd hI
      go_simp
      exact hK _ _ (HI.out.other (fun _ _ _ hl h => h.lay hl) (fun _ _ hl h => h.below (lay_below hl)) (fun _ _ _ hl h => h.below (lay_below hl)) (Keep.refl _ _) (by decide) (by decide) _) (.inr (.inr (Keep.refl _ _))) (GV.of (by decide) (fun u h => by cases h; rfl))
    · intro listed ys X W1 hsz hsd hi2 hall hX hI hd K hK
      have e24 : X.tmps.getD 24 undef = .pointer (some ⟨gb, 0, none⟩) := (hX 24 (Nat.le_of_ble_eq_true rfl)).trans (GV.val (hd ⟨8, .data⟩ (by simp) rfl) (by decide) rfl)
      have e22 : X.tmps.getD 22 undef = ys 6 := hX 22 (Nat.le_of_ble_eq_true rfl)
      have h6 := hall ⟨6, .data⟩ (by simp) rfl
      have hs9 : 9 < listed.size := by rw [hsz]; decide
      have hc := hI.p hi2
      have hr := hI.b h6
      obtain ⟨a3, c3, hsh⟩ := hr.shape
      rw [List.length_append] at hsh
      have hks : Keep (fun k => k = gb) W1 (W1.setCell ⟨gb, 0, none⟩ (ys 6)) := keep_set15 (Keep.refl _ _) 0 _
      have HN := Lib.hid (hI.store (u := undef) (W' := W1.setCell ⟨gb, 0, none⟩ (ys 6)) (by decide) hs9 h6 (hI.k.trans (hks.into fun b _ h => .inr h)) (hr.keep hks fun b hb _ _ h => by
        rcases hb with hb | hb
        · exact (HTV.out.at hb).1.2 h
        · have := HGL.out; omega) (Bl.set0 hc (ys 6)))
      have k1 := hc.cell 0
      have z1 := Bl.frozen hc 0
      simp only [List.getElem?_toArray, List.getElem?_cons_zero] at k1
      refine H3.step_run (.inl rfl) ?_
      rw [hsh] at e22 HN
      clear hX hd hI hks hc hr
      go_simp
      exact hK _ _ HN.out (.inr (.inl rfl)) (GV.of (by decide) (fun u h => by cases h))

  case fin =>
    intro listed ys w5 hall hI hV
    have h6 := hall 6 (by decide)
    have h9 := hall 9 (by decide)
    have hr := hI.b h6
    have hc := hI.q h9
    have hk := hI.k
    obtain ⟨v, hv⟩ : ∃ v, v = ys 6 := ⟨_, rfl⟩
    rw [← hv] at hr hc
    have HR := Lib.hid hr
    have HC5 := Lib.hid hc
    have HK := Lib.hid hk
    have k1 := hc.cell 1
    have z1 := Bl.frozen hc 1
    simp only [List.getElem?_toArray, List.getElem?_cons_succ, List.getElem?_cons_zero] at k1
    have hnw : IntKind.i64.wrap ((es.length : Int) + 1) = ((es.length + 1 : Nat) : Int) := by have := HN.out; rw [IntKind.wrap_i64]; omega
    clear hI hV hall hr hc hk h6 h9 hv
    simp only [H3.putsFrom]
    simp only [Act.put, List.setIfInBounds_toArray, List.set_cons_succ, List.set_cons_zero]
    go_wp2_with fail
    have hks : Keep (fun k => k = gb) w5 (w5.setCell ⟨gb, 1, none⟩ (.int .i64 ((es.length : Int) + 1))) := keep_set15 (Keep.refl _ _) 1 _
    have hkall := HK.out.trans (hks.into fun b _ h => .inr h)
    have hlow : ∀ k, (At tv k ∨ k = gb) → B ≤ k := fun k hk => hk.elim (fun h => (HTV.out.at h).1.1) (fun h => h ▸ HEQ.out.low)
    have hbB : Below B w (w5.setCell ⟨gb, 1, none⟩ (.int .i64 ((es.length : Int) + 1))) := (HBQ.out.mono HBW.out).trans (Keep.below13 hkall hlow (Nat.le_trans HBW.out HBQ.out.size))
    refine bodyPost_end (v := .tuple #[]) (by simp [results, Tryz.results172, go_sem]) rfl ⟨rfl, ?_, hbB⟩
    rw [HA.out]
    refine ⟨v, ⟨?_, ?_, HEQ.out.pos, HEQ.out.low, fun x hx => ?_, ?_, HEW.out.mx.below hbB HEQ.out.pos⟩, fun b hb => ((HR.out.at hb).1).imp id fun h => Nat.le_trans HBQ.out.size h, fun b hb h1 h2 => (hkall.block b (Nat.lt_of_lt_of_le hb HBQ.out.size) fun h => h.elim h2 h1).trans (HBQ.out.block b hb)⟩
    · have h1 := Bl.set1 HC5.out (.int .i64 ((es.length : Int) + 1))
      rw [List.length_append, List.length_singleton]
      exact h1
    · have h1 : bytesF (es ++ [e]) = bytesF es ++ e.bytes := by rw [bytesF_append]; simp [bytesF]
      show By _ _ v (bytesF (es ++ [e]))
      rw [h1]
      have hgl := HGL.out
      have hlw := HEQ.out.low
      exact (HR.out.keep hks fun b hb _ _ h => by
        rcases hb with hb | hb
        · exact (HTV.out.at hb).1.2 h
        · omega).mono fun b hb _ => by
          rcases hb with hb | hb
          · exact (HTV.out.at hb).1
          · omega
    · rcases List.mem_append.1 hx with hx | hx
      · exact HEQ.out.ok x hx
      · rw [List.mem_singleton.1 hx]; exact HOK.out
    · exact List.nodup_append.2 ⟨HEQ.out.nd, by simp, fun a ha b hb e' => HNM.out (by rw [← List.mem_singleton.1 hb, ← e']; exact ha)⟩
end Go.Proofs.YtoobjjpheegmdaaGreat.E4
