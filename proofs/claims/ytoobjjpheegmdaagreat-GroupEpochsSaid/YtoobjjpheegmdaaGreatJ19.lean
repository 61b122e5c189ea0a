/-
  Ax13.
-/
import Derived.Test.YtoobjjpheegmdaaGreatJ12
import Derived.Test.YtoobjjpheegmdaaGreatJ17
import Derived.Test.YtoobjjpheegmdaaGreatJ07
import Derived.Test.YtoobjjpheegmdaaGreatJ18
namespace Go.Proofs.YtoobjjpheegmdaaGreat.E4
open Go.RowKit Go
open Go.Sort (grow)
def QT3 (B0 : Nat) (l : List Ent) (desc : Bool) (mo : Option Ent) (n : Nat) (v : Value) (w : World) : Prop :=
  ∃ v' srt, Sorts (ordC desc) l srt ∧ v = .tuple #[v', .bool (Md.cut (ordC desc) mo n srt).2] ∧ ∃ R C, B0 ≤ C ∧ Rk 3 (fun b => C ≤ b) w v' R.length (flatR R) ∧ RawL (fun b => b < C) w R ∧ R.map Prod.snd = (Md.cut (ordC desc) mo n srt).1
def QL3 (B0 : Nat) (l : List Ent) (desc : Bool) (mo : Option Ent) (n : Nat) (v : Value) (w : World) : Prop :=
  ∃ srt, Sorts (ordC desc) l srt ∧ ∃ R C, B0 ≤ C ∧ Rk 3 (fun b => C ≤ b) w v R.length (flatR R) ∧ RawL (fun b => b < C) w R ∧ R.map Prod.snd = (Md.cut (ordC desc) mo n srt).1
def QZ3 (B0 : Nat) (l : List Ent) (desc : Bool) (mo : Option Ent) (n : Nat) : Nat → Value → World → Prop
  | 3, v, w => EntsAt (fun _ => True) (fun _ => True) w v l
  | 4, v, w => ∃ R C, (B0 ≤ C ∧ C ≤ w.heap.size) ∧ Rk 3 (fun b => B0 ≤ b) w v R.length (flatR R) ∧ RawL (fun b => b < C) w R ∧ Sorts (ordC desc) l (R.map Prod.snd)
  | 8, v, w => QT3 B0 l desc mo n v w
  | 9, v, w => QT3 B0 l desc mo n v w
  | 10, v, w => QL3 B0 l desc mo n v w
  | 12, v, w => QL3 B0 l desc mo n v w
  | 11, v, _ => ∃ srt, Sorts (ordC desc) l srt ∧ v = .bool (Md.cut (ordC desc) mo n srt).2
  | 13, v, _ => ∃ srt, Sorts (ordC desc) l srt ∧ v = .bool (Md.cut (ordC desc) mo n srt).2
  | _, _, _ => True
theorem QT3.below {B0 : Nat} {l : List Ent} {desc : Bool} {mo : Option Ent} {n : Nat} {v : Value} {w w' : World} (h : QT3 B0 l desc mo n v w) (hb : Below w.heap.size w w') : QT3 B0 l desc mo n v w' := by
  obtain ⟨v', srt, h1, h2, R, C, h0, h3, h4, h5⟩ := h
  exact ⟨v', srt, h1, h2, R, C, h0, h3.below1 hb, h4.below1 hb, h5⟩
theorem QL3.below {B0 : Nat} {l : List Ent} {desc : Bool} {mo : Option Ent} {n : Nat} {v : Value} {w w' : World} (h : QL3 B0 l desc mo n v w) (hb : Below w.heap.size w w') : QL3 B0 l desc mo n v w' := by
  obtain ⟨srt, h1, R, C, h0, h3, h4, h5⟩ := h
  exact ⟨srt, h1, R, C, h0, h3.below1 hb, h4.below1 hb, h5⟩
theorem QZ3.below {B0 : Nat} {l : List Ent} {desc : Bool} {mo : Option Ent} {n : Nat} {j : Nat} {v : Value} {w w' : World} (h : QZ3 B0 l desc mo n j v w) (hb : Below w.heap.size w w') : QZ3 B0 l desc mo n j v w' := by
  unfold QZ3 at h ⊢
  split at h
  · exact h.below1 hb
  · obtain ⟨R, C, h0, h1, h2, h3⟩ := h
    exact ⟨R, C, ⟨h0.1, Nat.le_trans h0.2 hb.size⟩, h1.below1 hb, h2.below1 hb, h3⟩
  · exact QT3.below h hb
  · exact QT3.below h hb
  · exact QL3.below h hb
  · exact QL3.below h hb
  · exact h
  · exact h
  · trivial
def AskP3 (es : List Ent) (a : Ask) (mo : Option Ent) (desc : Bool) (n : Int) (w : World) (x : Ending) (w' : World) : Prop :=
  Below w.heap.size w w' ∧
  ((¬ a.kd = 1 ∧ x = .returned (.tuple #[.slice none 0 0, .bool false, .int .i64 12])) ∨ (a.kd = 1 ∧ a.good isTx = false ∧ x = .returned (.tuple #[.slice none 0 0, .bool false, .int .i64 1])) ∨
   (a.kd = 1 ∧ a.good isTx = true ∧ ∃ v srt, Sorts (ordC desc) (es.filter (asksE a.src a.til a.all)) srt ∧ x = .returned (.tuple #[v, .bool (Md.cut (ordC desc) mo n.toNat srt).2, .int .i64 0]) ∧ EntsAt (fun b => w.heap.size ≤ b) (fun _ => True) w' v (Md.cut (ordC desc) mo n.toNat srt).1))
set_option maxHeartbeats 8000000 in
set_option maxRecDepth 100000 in
theorem ask3_any (es : List Ent) (a : Ask) (av mv : Value) (has desc : Bool) (m : Ent) (ml : Value) (n : Int) (B gb : Nat) (w : World) (h : EngAt3 w B gb es) (h1 : TextsAt w av a.all) (h2 : MsAt w mv a.mat) (hm : LabsAt (fun _ => True) w ml m.labs)
    (hn : es.length ≤ 1000) (hng : a.great = false) (hlab : ∀ x ∈ es, x.labs.length ≤ 1000000) :
    Calls Tryz.prog 69 #[.pointer (some ⟨gb, 0, none⟩), a.dyn av mv, mkV has m ml, .bool desc, .int .i64 n] w (AskP3 es a (mkO has m) desc n w) := by
  have hmx : Tryz.prog.follows .mixedOrders = true := by kernel_rfl
  obtain ⟨ma, mc, rfl, hm63, _⟩ := id hm
  unfold mkV
  obtain ⟨w1, hw1⟩ : ∃ w1, w1 = w.alloc (.cells #[.bool has, .int .i64 m.tm, .slice ma m.labs.length mc, .string m.line] 38) := ⟨_, rfl⟩
  have hb1 : Below w.heap.size w w1 := by rw [hw1]; exact (Below.refl _ w).alloc (Nat.le_refl _) _
  have hk1 : Bl w1 w.heap.size 38 #[.bool has, .int .i64 m.tm, .slice ma m.labs.length mc, .string m.line] := by rw [hw1]; exact Bl.new w 38 _
  obtain ⟨g1, g2, g3, g4⟩ : a.all.length ≤ 1000 ∧ (∀ l ∈ a.all, l.length ≤ 1000) ∧ a.mat.length ≤ 1000 ∧ ∀ l ∈ a.all, ∀ s ∈ l, s.size ≤ 100000 := great_no hng
  have HW1 := Lib.hid hw1.symm
  have HB1 := Lib.hid hb1
  have HK1 := Lib.hid hk1
  have H1 := Lib.hid (h1.below hb1)
  have H2 := Lib.hid (MsAt.below12 h2 hb1)
  have HE := Lib.hid (h.below hb1)
  have HM := Lib.hid (hm.below1 hb1)
  have HN := Lib.hid hn
  have HLB := Lib.hid hlab
  by_cases hk : a.kd = 1
  · have HAS := Lib.hid (as1_yes a hk av mv w1 H1.out g1 g2)
    obtain ⟨dv, hdv⟩ : ∃ v, v = a.dyn av mv := ⟨_, rfl⟩
    have HG4 := Lib.hid g4
    have HDG := Lib.hid (fun W (hW : Below w1.heap.size w1 W) => ownGood_any a av mv W (H1.out.below hW) (MsAt.below12 H2.out hW) fun h2 => by omega)
    rw [← hdv] at HAS HDG ⊢
    have HKD := Lib.hid hk
    clear h h1 h2 hm hn hng hlab g1 g2 g3 g4 hw1 hb1 hk1 hk hdv
    go_enter Tryz.func69, Tryz.ntmps69
    go_upto_region 1 with fail
    rw [HW1.out]
    go_wp2_with fail
    refine HAS.out.mono ?_
    rintro x w2 ⟨v2, rfl, hx2, hb2⟩
    obtain ⟨qa, qc, rfl, _, _⟩ := id hx2
    obtain ⟨w3, hw3⟩ : ∃ w3, w3 = w2.alloc (.cells #[.int .i64 a.src, .int .i64 a.til, .slice qa a.all.length qc] 63) := ⟨_, rfl⟩
    have hb3 : Below w2.heap.size w2 w3 := by rw [hw3]; exact (Below.refl _ w2).alloc (Nat.le_refl _) _
    have hk3 : Bl w3 w2.heap.size 63 #[.int .i64 a.src, .int .i64 a.til, .slice qa a.all.length qc] := by rw [hw3]; exact Bl.new w2 63 _
    have HB3 := Lib.hid (below_mid hb2 hb3)
    have HG3 := Lib.hid (HDG.out w3 HB3.out)
    have HW3 := Lib.hid hw3.symm
    have HX3 := Lib.hid (hx2.below hb3)
    have HK3 := Lib.hid hk3
    clear hb2 hb3 hk3 hw3 hx2 HAS
    generalize hQ : w2.heap.size = Q at HK3
    have HQ := Lib.hid hQ
    clear hQ
    cases hgd : a.good isTx with
    | false =>
      rw [hgd] at HG3
      go_upto_region 4 with fail
      rw [HW3.out, HQ.out]
      go_wp2_with (go_at_call 75; refine HG3.out.mono ?_; rintro x w4 ⟨rfl, hb4⟩)
      refine bodyPost_ret (v := .tuple #[.slice none 0 0, .bool false, .int .i64 1]) (by simp [results, Tryz.results69, go_sem]) rfl ⟨below_mid HB1.out (below_mid HB3.out hb4), .inr (.inl ⟨HKD.out, hgd, rfl⟩)⟩
    | true =>
      rw [hgd] at HG3
      have HGD := Lib.hid hgd
      clear hgd
      go_upto_region 4 with fail
      rw [HW3.out, HQ.out]
      go_upto_region 8 with (go_at_call 75; refine HG3.out.mono ?_; rintro x w4 ⟨rfl, hb4⟩)
      have HB4 := Lib.hid (below_mid HB3.out hb4)
      have HE4 := Lib.hid (HE.out.below (below_mid HB3.out hb4))
      have HB04 := Lib.hid (below_mid HB1.out (below_mid HB3.out hb4))
      have hdr4 : Below w4.heap.size w4 w4.drew := lay_below ((Keep.refl (fun _ => False) w4).drew)
      have HFO : Hid (∀ W1, Below w4.drew.heap.size w4.drew W1 → Calls Tryz.prog 78 #[.pointer (some ⟨gb, 0, none⟩), .agg #[.int .i64 a.src, .int .i64 a.til, .slice qa a.all.length qc]] W1 fun x w' => ∃ v', x = .returned v' ∧ EntsAt (fun _ => True) (fun _ => True) w' v' (es.filter (asksE a.src a.til a.all)) ∧ Below W1.heap.size W1 w') := Lib.hid fun W1 hW =>
        (found3_any (HE4.out.below (below_mid hdr4 hW)) ((HX3.out.below hb4).below (below_mid hdr4 hW)) HG4.out HN.out).mono fun x w' ⟨v', h1, h2, h3⟩ => ⟨v', h1, h2.any, h3⟩
      have HML : Hid (∀ W1, Below w4.drew.heap.size w4.drew W1 → LabsAt (fun _ => True) W1 (.slice ma m.labs.length mc) m.labs) := Lib.hid fun W1 hW => (HM.out.below1 HB4.out).below1 (below_mid hdr4 hW)
      have HMB : Hid (∀ W1, Below w4.drew.heap.size w4.drew W1 → Bl W1 w.heap.size 38 #[.bool has, .int .i64 m.tm, .slice ma m.labs.length mc, .string m.line]) := Lib.hid fun W1 hW => (HK1.out.below HB4.out).below (below_mid hdr4 hW)
      have HQB : Hid (∀ W1, Below w4.drew.heap.size w4.drew W1 → Bl W1 Q 63 #[.int .i64 a.src, .int .i64 a.til, .slice qa a.all.length qc]) := Lib.hid fun W1 hW => (HK3.out.below hb4).below (below_mid hdr4 hW)
      clear hb4 HG3 HDG hdr4
      refine (wpIn_wide (n := 9)).1 ?_
      refine H3.wpIn_region_flow (fun _ => trivial) (by kernel_rfl) (fun _ _ W => Below w4.drew.heap.size w4.drew W) (fun _ _ W1 W2 => Below W1.heap.size W1 W2) (GV [some (.bool desc), some (.pointer (some ⟨gb, 0, none⟩)), some (.agg #[.int .i64 a.src, .int .i64 a.til, .slice qa a.all.length qc]), none, none, some (.bool desc), some (.agg #[.bool has, .int .i64 m.tm, .slice ma m.labs.length mc, .string m.line]), some (.int .i64 n), none, none, none, none, none, none] [3, 4, 8, 9, 10, 11, 12, 13] (QZ3 w4.drew.heap.size (es.filter (asksE a.src a.til a.all)) desc (mkO has m) n.toNat)) (fun j => j == 12 || j == 13) (by kernel_rfl) (by kernel_rfl) ?hst (Below.refl _ _) ?step ?fin
      case hst =>
        intro i j ys v w1 w2 hij hanc hned hV hR
        by_cases hj3 : j = 3
        · subst hj3
          exact GV.keep (sp := QZ3 w4.drew.heap.size (es.filter (asksE a.src a.til a.all)) desc (mkO has m) n.toNat) (fun _ _ _ _ h hb => QZ3.below h hb) hij hV hR
        by_cases hj4 : j = 4
        · subst hj4
          exact GV.keep (sp := QZ3 w4.drew.heap.size (es.filter (asksE a.src a.til a.all)) desc (mkO has m) n.toNat) (fun _ _ _ _ h hb => QZ3.below h hb) hij hV hR
        by_cases hj8 : j = 8
        · subst hj8
          exact GV.keep (sp := QZ3 w4.drew.heap.size (es.filter (asksE a.src a.til a.all)) desc (mkO has m) n.toNat) (fun _ _ _ _ h hb => QZ3.below h hb) hij hV hR
        by_cases hj9 : j = 9
        · subst hj9
          exact GV.keep (sp := QZ3 w4.drew.heap.size (es.filter (asksE a.src a.til a.all)) desc (mkO has m) n.toNat) (fun _ _ _ _ h hb => QZ3.below h hb) hij hV hR
        by_cases hj10 : j = 10
        · subst hj10
          exact GV.keep (sp := QZ3 w4.drew.heap.size (es.filter (asksE a.src a.til a.all)) desc (mkO has m) n.toNat) (fun _ _ _ _ h hb => QZ3.below h hb) hij hV hR
        by_cases hj11 : j = 11
        · subst hj11
          exact GV.keep (sp := QZ3 w4.drew.heap.size (es.filter (asksE a.src a.til a.all)) desc (mkO has m) n.toNat) (fun _ _ _ _ h hb => QZ3.below h hb) hij hV hR
        by_cases hj12 : j = 12
        · subst hj12
          exact GV.keep (sp := QZ3 w4.drew.heap.size (es.filter (asksE a.src a.til a.all)) desc (mkO has m) n.toNat) (fun _ _ _ _ h hb => QZ3.below h hb) hij hV hR
        by_cases hj13 : j = 13
        · subst hj13
          exact GV.keep (sp := QZ3 w4.drew.heap.size (es.filter (asksE a.src a.til a.all)) desc (mkO has m) n.toNat) (fun _ _ _ _ h hb => QZ3.below h hb) hij hV hR
        exact gvq_keep (by simp; omega) hij hV
      case step =>
        refine ⟨?_, ?_, ?_, ?_, ?_, ?_, ?_, ?_, ?_, ?_, ?_, ?_, ?_, ?_, trivial⟩
        · intro listed ys X W1 hsz hsd hi2 hall hX hI hd K hK
          have e3 : X.tmps.getD 3 undef = .bool desc := hX 3 (Nat.le_of_ble_eq_true rfl)
          have HI := Lib.hid hI
          refine H3.step_run (.inl rfl) ?_
          clear hX hd hI
          go_simp
          exact hK _ _ HI.out (Below.refl _ _) (GV.of (by decide) (fun u h => by cases h; rfl))
        · intro listed ys X W1 hsz hsd hi2 hall hX hI hd K hK
          have e0 : X.tmps.getD 0 undef = .pointer (some ⟨gb, 0, none⟩) := hX 0 (Nat.le_of_ble_eq_true rfl)
          have HI := Lib.hid hI
          refine H3.step_run (.inl rfl) ?_
          clear hX hd hI
          go_simp
          exact hK _ _ HI.out (Below.refl _ _) (GV.of (by decide) (fun u h => by cases h; rfl))
        · intro listed ys X W1 hsz hsd hi2 hall hX hI hd K hK
          have e13 : X.tmps.getD 13 undef = .pointer (some ⟨Q, 0, none⟩) := hX 13 (Nat.le_of_ble_eq_true rfl)
          have hx := HQB.out W1 hI
          have x0 := hx.cell 0
          have x1 := hx.cell 1
          have x2 := hx.cell 2
          simp only [List.getElem?_toArray, List.getElem?_cons_succ, List.getElem?_cons_zero] at x0 x1 x2
          clear hx
          have HI := Lib.hid hI
          refine H3.step_run (.inl rfl) ?_
          clear hX hd hI
          go_simp
          exact hK _ _ HI.out (Below.refl _ _) (GV.of (by decide) (fun u h => by cases h; rfl))
        · intro listed ys X W1 hsz hsd hi2 hall hX hI hd K hK
          have e33 : X.tmps.getD 33 undef = .pointer (some ⟨gb, 0, none⟩) := (hX 33 (Nat.le_of_ble_eq_true rfl)).trans (GV.val (hd ⟨1, .data⟩ (by simp) rfl) (by decide) rfl)
          have e34 : X.tmps.getD 34 undef = .agg #[.int .i64 a.src, .int .i64 a.til, .slice qa a.all.length qc] := (hX 34 (Nat.le_of_ble_eq_true rfl)).trans (GV.val (hd ⟨2, .data⟩ (by simp) rfl) (by decide) rfl)
          have HI := Lib.hid hI
          refine H3.step_run (.inl rfl) ?_
          clear hX hd hI
          go_simp
          refine ⟨trivial, (callsIn_wide.2 (HFO.out W1 HI.out)).mono ?_⟩
          rintro x w7 ⟨v', rfl, hent, hb⟩
          exact hK _ _ (HI.out.trans (hb.mono HI.out.size)) hb (GV.ofsp (by decide) (show QZ3 _ _ _ _ _ 3 v' w7 from hent))
        · intro listed ys X W1 hsz hsd hi2 hall hX hI hd K hK
          have e32 : X.tmps.getD 32 undef = .bool desc := (hX 32 (Nat.le_of_ble_eq_true rfl)).trans (GV.val (hd ⟨0, .data⟩ (by simp) rfl) (by decide) rfl)
          have e35 : X.tmps.getD 35 undef = ys 3 := hX 35 (Nat.le_of_ble_eq_true rfl)
          have hv3 := GV.spv (hd ⟨3, .data⟩ (by simp) rfl) (by decide)
          have HI := Lib.hid hI
          have hv : EntsAt (fun _ => True) (fun _ => True) W1 (ys 3) (es.filter (asksE a.src a.til a.all)) := hv3
          have HSO := Lib.hid (sort_any desc hv (by have h1 := List.length_filter_le (asksE a.src a.til a.all) es; have := HN.out; omega))
          refine H3.step_run (.inl rfl) ?_
          clear hX hd hI hv hv3
          go_simp
          refine ⟨trivial, (callsIn_wide.2 HSO.out).mono ?_⟩
          rintro x w7 ⟨v', R', rfl, hrk, hrl, hso, hl⟩
          have hb := lay_below hl
          exact hK _ _ (HI.out.trans (hb.mono HI.out.size)) hb (GV.ofsp (by decide) (show QZ3 _ _ _ _ _ 4 v' w7 from ⟨R', W1.heap.size, ⟨HI.out.size, hb.size⟩, hrk.mono fun b hb2 _ => Nat.le_trans HI.out.size hb2, hrl.mono fun b hb2 _ => hb2.2, hso⟩))
        · intro listed ys X W1 hsz hsd hi2 hall hX hI hd K hK
          have e3 : X.tmps.getD 3 undef = .bool desc := hX 3 (Nat.le_of_ble_eq_true rfl)
          have HI := Lib.hid hI
          refine H3.step_run (.inl rfl) ?_
          clear hX hd hI
          go_simp
          exact hK _ _ HI.out (Below.refl _ _) (GV.of (by decide) (fun u h => by cases h; rfl))
        · intro listed ys X W1 hsz hsd hi2 hall hX hI hd K hK
          have e7 : X.tmps.getD 7 undef = .pointer (some ⟨w.heap.size, 0, none⟩) := hX 7 (Nat.le_of_ble_eq_true rfl)
          have hx := HMB.out W1 hI
          have x0 := hx.cell 0
          have x1 := hx.cell 1
          have x2 := hx.cell 2
          have x3 := hx.cell 3
          simp only [List.getElem?_toArray, List.getElem?_cons_succ, List.getElem?_cons_zero] at x0 x1 x2 x3
          clear hx
          have HI := Lib.hid hI
          refine H3.step_run (.inl rfl) ?_
          clear hX hd hI
          go_simp
          exact hK _ _ HI.out (Below.refl _ _) (GV.of (by decide) (fun u h => by cases h; rfl))
        · intro listed ys X W1 hsz hsd hi2 hall hX hI hd K hK
          have e4 : X.tmps.getD 4 undef = .int .i64 n := hX 4 (Nat.le_of_ble_eq_true rfl)
          have HI := Lib.hid hI
          refine H3.step_run (.inl rfl) ?_
          clear hX hd hI
          go_simp
          exact hK _ _ HI.out (Below.refl _ _) (GV.of (by decide) (fun u h => by cases h; rfl))
        · intro listed ys X W1 hsz hsd hi2 hall hX hI hd K hK
          have e36 : X.tmps.getD 36 undef = ys 4 := hX 36 (Nat.le_of_ble_eq_true rfl)
          have hv4 := GV.spv (hd ⟨4, .data⟩ (by simp) rfl) (by decide)
          have e37 : X.tmps.getD 37 undef = .bool desc := (hX 37 (Nat.le_of_ble_eq_true rfl)).trans (GV.val (hd ⟨5, .data⟩ (by simp) rfl) (by decide) rfl)
          have e38 : X.tmps.getD 38 undef = .agg #[.bool has, .int .i64 m.tm, .slice ma m.labs.length mc, .string m.line] := (hX 38 (Nat.le_of_ble_eq_true rfl)).trans (GV.val (hd ⟨6, .data⟩ (by simp) rfl) (by decide) rfl)
          have e39 : X.tmps.getD 39 undef = .int .i64 n := (hX 39 (Nat.le_of_ble_eq_true rfl)).trans (GV.val (hd ⟨7, .data⟩ (by simp) rfl) (by decide) rfl)
          have HI := Lib.hid hI
          obtain ⟨R', C, hC, hrk, hrl, hso⟩ : ∃ (R' : List (Value × Ent)) (C : Nat), (w4.drew.heap.size ≤ C ∧ C ≤ W1.heap.size) ∧ Rk 3 (fun b => w4.drew.heap.size ≤ b) W1 (ys 4) R'.length (flatR R') ∧ RawL (fun b => b < C) W1 R' ∧ Sorts (ordC desc) (es.filter (asksE a.src a.til a.all)) (R'.map Prod.snd) := hv4
          have hlen : (R'.map Prod.snd).length ≤ 1000000 := by have h1 := Sorts.len13 hso; have h2 := List.length_filter_le (asksE a.src a.til a.all) es; have := HN.out; omega
          have HCU := Lib.hid (cut_any desc has m (.slice ma m.labs.length mc) (R'.map Prod.snd) (ys 4) n W1 (hrk.ents hrl) (by rw [List.length_map]; exact hrk.sq) (HML.out W1 hI) hso.1 hlen)
          have HSO := Lib.hid hso
          have HCC := Lib.hid hC
          simp only [mkV] at HCU
          refine H3.step_run (.inl rfl) ?_
          clear hX hd hI hrk hrl hso hlen hC
          go_simp
          refine ⟨trivial, (callsIn_wide.2 HCU.out).mono ?_⟩
          rintro x w7 ⟨v', R2, rfl, hrk2, hrl2, hR2, hl⟩
          have hb := lay_below hl
          exact hK _ _ (HI.out.trans (hb.mono HI.out.size)) hb (GV.ofsp (by decide) (show QZ3 _ _ _ _ _ 8 _ w7 from ⟨v', _, HSO.out, rfl, R2, C, HCC.out.1, hrk2.mono fun b hb2 _ => Nat.le_trans HCC.out.2 hb2, hrl2, hR2⟩))
        · intro listed ys X W1 hsz hsd hi2 hall hX hI hd K hK
          have e40 : X.tmps.getD 40 undef = ys 8 := hX 40 (Nat.le_of_ble_eq_true rfl)
          have hv8 := GV.spv (hd ⟨8, .data⟩ (by simp) rfl) (by decide)
          have HI := Lib.hid hI
          have HV := Lib.hid hv8
          refine H3.step_run (.inl rfl) ?_
          clear hX hd hI hv8
          go_simp
          exact hK _ _ HI.out (Below.refl _ _) (GV.ofsp (by decide) (show QZ3 _ _ _ _ _ 9 _ W1 from HV.out))
        · intro listed ys X W1 hsz hsd hi2 hall hX hI hd K hK
          have e31 : X.tmps.getD 31 undef = ys 9 := hX 31 (Nat.le_of_ble_eq_true rfl)
          have hv9 := GV.spv (hd ⟨9, .data⟩ (by simp) rfl) (by decide)
          have HI := Lib.hid hI
          obtain ⟨v', srt, hso, hv, hr⟩ : QT3 w4.drew.heap.size (es.filter (asksE a.src a.til a.all)) desc (mkO has m) n.toNat (ys 9) W1 := hv9
          rw [hv] at e31
          have HV := Lib.hid (And.intro hso hr)
          refine H3.step_run (.inl rfl) ?_
          clear hX hd hI hso hr hv
          go_simp
          exact hK _ _ HI.out (Below.refl _ _) (GV.ofsp (by decide) (show QZ3 _ _ _ _ _ 10 _ W1 from ⟨srt, HV.out.1, HV.out.2⟩))
        · intro listed ys X W1 hsz hsd hi2 hall hX hI hd K hK
          have e31 : X.tmps.getD 31 undef = ys 9 := hX 31 (Nat.le_of_ble_eq_true rfl)
          have hv9 := GV.spv (hd ⟨9, .data⟩ (by simp) rfl) (by decide)
          have HI := Lib.hid hI
          obtain ⟨v', srt, hso, hv, hr⟩ : QT3 w4.drew.heap.size (es.filter (asksE a.src a.til a.all)) desc (mkO has m) n.toNat (ys 9) W1 := hv9
          rw [hv] at e31
          have HV := Lib.hid hso
          refine H3.step_run (.inl rfl) ?_
          clear hX hd hI hso hr hv
          go_simp
          exact hK _ _ HI.out (Below.refl _ _) (GV.ofsp (by decide) (show QZ3 _ _ _ _ _ 11 _ W1 from ⟨srt, HV.out, rfl⟩))
        · intro listed ys X W1 hsz hsd hi2 hall hX hI hd K hK
          have e41 : X.tmps.getD 41 undef = ys 10 := hX 41 (Nat.le_of_ble_eq_true rfl)
          have hv10 := GV.spv (hd ⟨10, .data⟩ (by simp) rfl) (by decide)
          have HI := Lib.hid hI
          have HV := Lib.hid hv10
          refine H3.step_run (.inl rfl) ?_
          clear hX hd hI hv10
          go_simp
          exact hK _ _ HI.out (Below.refl _ _) (GV.ofsp (by decide) (show QZ3 _ _ _ _ _ 12 _ W1 from HV.out))
        · intro listed ys X W1 hsz hsd hi2 hall hX hI hd K hK
          have e42 : X.tmps.getD 42 undef = ys 11 := hX 42 (Nat.le_of_ble_eq_true rfl)
          have hv11 := GV.spv (hd ⟨11, .data⟩ (by simp) rfl) (by decide)
          have HI := Lib.hid hI
          have HV := Lib.hid hv11
          refine H3.step_run (.inl rfl) ?_
          clear hX hd hI hv11
          go_simp
          exact hK _ _ HI.out (Below.refl _ _) (GV.ofsp (by decide) (show QZ3 _ _ _ _ _ 13 _ W1 from HV.out))
      case fin =>
        intro listed ys w5 hall hI hV
        obtain ⟨srt, hso, R1, C, hC, hrk, hrl, hR⟩ : QL3 w4.drew.heap.size (es.filter (asksE a.src a.til a.all)) desc (mkO has m) n.toNat (ys 12) w5 := GV.spv (hV 12 (by decide) rfl) (by decide)
        obtain ⟨srt2, hso2, h13⟩ : ∃ srt, Sorts (ordC desc) (es.filter (asksE a.src a.til a.all)) srt ∧ ys 13 = .bool (Md.cut (ordC desc) (mkO has m) n.toNat srt).2 := GV.spv (hV 13 (by decide) rfl) (by decide)
        obtain rfl := Sorts.unique (ordC_lc desc) hso2 hso fun _ => Iff.rfl
        have HB5 : Hid (Below w4.drew.heap.size w4.drew w5) := Lib.hid hI
        obtain ⟨lv, hlv⟩ : ∃ v, ys 12 = v := ⟨_, rfl⟩
        rw [hlv] at hrk
        obtain ⟨la, lc, rfl⟩ := hrk.shape
        have hat : ∀ b, At (.slice la R1.length lc) b → C ≤ b ∧ b < w5.heap.size := fun b hb => hrk.at hb
        have hR1 : R1.length ≤ 1000000 := by
          have h1 := Sorts.len13 hso
          have h2 := List.length_filter_le (asksE a.src a.til a.all) es
          have h3 : (R1.map Prod.snd).length ≤ srt2.length := by rw [hR]; show ((Md.rest (ordC desc) (mkO has m) srt2).take n.toNat).length ≤ _; rw [List.length_take]; exact Nat.le_trans (Nat.min_le_right _ _) (Md.rest_len _ _)
          rw [List.length_map] at h3
          have := HN.out
          omega
        have hlabs : ∀ x ∈ R1, x.2.labs.length ≤ 1000000 := fun x hx => by
          have h1 : x.2 ∈ R1.map Prod.snd := List.mem_map.2 ⟨x, hx, rfl⟩
          rw [hR] at h1
          have h2 := List.mem_of_mem_take h1
          have h3 : x.2 ∈ srt2 := (List.mem_filter.1 h2).1
          exact HLB.out _ ((List.mem_filter.1 ((hso.2 _).1 h3)).1)
        have HAT := Lib.hid hat
        have HRK := Lib.hid hrk
        have HRL : Hid (RawL (fun b => ¬ At (.slice la R1.length lc) b) w5 R1) := Lib.hid (hrl.mono fun b hb _ ha => by have := (hat b ha).1; omega)
        have HRR := Lib.hid hR
        have HSO := Lib.hid hso
        have HCC := Lib.hid hC
        have HLL := Lib.hid hlabs
        have HRN := Lib.hid hR1
        clear hso hso2 hC hrk hrl hR hI hV hall hat hlabs hR1
        simp only [H3.putsFrom]
        simp only [hlv, h13, Act.put, List.setIfInBounds_toArray, List.set_cons_succ, List.set_cons_zero]
        clear hlv h13
        go_wp2_with fail
        go_loopw [45] (fun vi wr => ∃ (i : Nat) (S : List (Value × Ent)), vi = .int .i64 i ∧ i ≤ R1.length ∧ Rk 3 (fun b => C ≤ b) wr (.slice la R1.length lc) R1.length (flatR S) ∧ RawL (fun b => ¬ At (.slice la R1.length lc) b) wr S ∧ S.map Prod.snd = R1.map Prod.snd ∧ Keep (At (.slice la R1.length lc)) w5 wr) (fun vi _ => R1.length - (intOf vi).toNat)
        case atStart => exact ⟨0, R1, rfl, Nat.zero_le _, HRK.out, HRL.out, rfl, Keep.refl _ _⟩
        case round =>
          obtain ⟨i, S, rfl, hi, hsk, hsl, hS, hk⟩ := hrel
          have HSK := Lib.hid hsk
          have HSL := Lib.hid hsl
          have HSS := Lib.hid hS
          have HK := Lib.hid hk
          have HSN : Hid (S.length = R1.length) := Lib.hid (by have := congrArg List.length hS; rwa [List.length_map, List.length_map] at this)
          clear hS
          have hrn := HRN.out
          by_cases hlt : i < R1.length
          · obtain ⟨hz0, ⟨_, h0⟩ | ⟨g, cap, hv, hCg, hgl, hcap, _, hcell, hfz⟩⟩ := id hsk
            · omega
            simp only [Value.slice.injEq, true_and] at hv
            obtain ⟨rfl, rfl⟩ := hv
            have hiS : i < S.length := by rw [HSN.out]; exact hlt
            have hf0 := flatR_get S i hiS 0 (by omega)
            have hf1 := flatR_get S i hiS 1 (by omega)
            have hf2 := flatR_get S i hiS 2 (by omega)
            have hfl := flatR_length S
            have hxl := hsl _ (List.getElem_mem hiS)
            have y0 : wr.cell? ⟨g, i * 3, none⟩ = some (.int .i64 S[i].2.tm) := (hcell _ (by omega)).trans hf0
            have y1 : wr.cell? ⟨g, i * 3 + 1, none⟩ = some S[i].1 := (hcell _ (by omega)).trans hf1
            have y2 : wr.cell? ⟨g, i * 3 + 2, none⟩ = some (.string S[i].2.line) := (hcell _ (by omega)).trans hf2
            have z0 := (hfz (i * 3) (by omega)).2
            have z1 := (hfz (i * 3 + 1) (by omega)).2
            have z2 := (hfz (i * 3 + 2) (by omega)).2
            have hll : S[i].2.labs.length ≤ 1000000 := by
              have h1 : S[i].2 ∈ S.map Prod.snd := List.mem_map.2 ⟨_, List.getElem_mem hiS, rfl⟩
              rw [HSS.out] at h1
              obtain ⟨x, hx, he⟩ := List.mem_map.1 h1
              rw [← he]
              exact HLL.out x hx
            have HSET : Hid (∀ lv', (S.set i (lv', S[i].2)).map Prod.snd = R1.map Prod.snd) := Lib.hid fun lv' => by
              rw [List.map_set, ← HSS.out]
              refine List.ext_getElem? fun j => ?_
              rw [List.getElem?_set]
              split
              · rename_i hj
                subst hj
                simp [hiS]
              · rfl
            have HFS : Hid (∀ lv', flatR (S.set i (lv', S[i].2)) = (((flatR S).set (i * 3) (.int .i64 S[i].2.tm)).set (i * 3 + 1) lv').set (i * 3 + 2) (.string S[i].2.line)) := Lib.hid fun lv' => flatR_set S i hiS _
            have HMS : Hid (∀ lv', ∀ x ∈ S.set i (lv', S[i].2), x ∈ S ∨ x = (lv', S[i].2)) := Lib.hid fun lv' x hx => List.mem_or_eq_of_mem_set hx
            generalize S[i].1 = xl at y1 hxl
            generalize S[i].2 = e at y0 y2 hxl hll HSET HFS HMS
            obtain ⟨al, cl, rfl, _⟩ := id hxl
            obtain ⟨w7, hw7⟩ : ∃ w7, w7 = wr.alloc (.cells #[.int .i64 e.tm, .slice al e.labs.length cl, .string e.line] 32) := ⟨_, rfl⟩
            have hl7 : Lay wr w7 := by rw [hw7]; exact (Keep.refl _ _).alloc _
            have hk7 : Bl w7 wr.heap.size 32 #[.int .i64 e.tm, .slice al e.labs.length cl, .string e.line] := by rw [hw7]; exact Bl.new wr 32 _
            have HOW := Lib.hid (own_any (hxl.lay hl7) hll)
            have q0 := hk7.cell 0
            have q1 := hk7.cell 1
            have q2 := hk7.cell 2
            simp only [List.getElem?_toArray, List.getElem?_cons_succ, List.getElem?_cons_zero] at q0 q1 q2
            have HW7 := Lib.hid hw7.symm
            have HL7 := Lib.hid hl7
            have hgl7 : g < w7.heap.size := Nat.lt_of_lt_of_le hgl hl7.size
            have Y : Hid ((wr.cell? ⟨g, i * 3, none⟩ = some (.int .i64 e.tm) ∧ wr.cell? ⟨g, i * 3 + 1, none⟩ = some (.slice al e.labs.length cl) ∧ wr.cell? ⟨g, i * 3 + 2, none⟩ = some (.string e.line)) ∧ wr.frozen? ⟨g, i * 3, none⟩ = false ∧ wr.frozen? ⟨g, i * 3 + 1, none⟩ = false ∧ wr.frozen? ⟨g, i * 3 + 2, none⟩ = false) := Lib.hid ⟨⟨y0, y1, y2⟩, z0, z1, z2⟩
            simp only [Ent.val] at HOW
            clear hf0 hf1 hf2 hfl hcell hfz hsk hsl hxl hll hl7 hk7 hw7 hz0 hcap hCg hk
            go_upto_region 12 with fail
            rw [HW7.out]
            clear y0 y1 y2 z0 z1 z2
            go_wp2_with fail
            refine HOW.out.mono ?_
            rintro x w8 ⟨lv', rfl, hlab, hl8⟩
            obtain ⟨a2, c2, rfl, _⟩ := id hlab
            have hb8 := Lay.block hl8 hgl7
            have hb7 := Lay.block HL7.out hgl
            have y0 : w8.cell? ⟨g, i * 3, none⟩ = _ := (World.cell?_of_block (a := ⟨g, i * 3, none⟩) (hb8.trans hb7)).trans Y.out.1.1
            have y1 : w8.cell? ⟨g, i * 3 + 1, none⟩ = _ := (World.cell?_of_block (a := ⟨g, i * 3 + 1, none⟩) (hb8.trans hb7)).trans Y.out.1.2.1
            have y2 : w8.cell? ⟨g, i * 3 + 2, none⟩ = _ := (World.cell?_of_block (a := ⟨g, i * 3 + 2, none⟩) (hb8.trans hb7)).trans Y.out.1.2.2
            have z0 : w8.frozen? ⟨g, i * 3, none⟩ = _ := (World.frozen?_of_block (a := ⟨g, i * 3, none⟩) (hb8.trans hb7)).trans Y.out.2.1
            have z1 : w8.frozen? ⟨g, i * 3 + 1, none⟩ = _ := (World.frozen?_of_block (a := ⟨g, i * 3 + 1, none⟩) (hb8.trans hb7)).trans Y.out.2.2.1
            have z2 : w8.frozen? ⟨g, i * 3 + 2, none⟩ = _ := (World.frozen?_of_block (a := ⟨g, i * 3 + 2, none⟩) (hb8.trans hb7)).trans Y.out.2.2.2
            have hl08 : Lay wr w8 := Keep.trans HL7.out hl8
            have HEND : Hid (Rk 3 (fun b => C ≤ b) (((w8.setCell ⟨g, i * 3, none⟩ (.int .i64 e.tm)).setCell ⟨g, i * 3 + 1, none⟩ (.slice a2 e.labs.length c2)).setCell ⟨g, i * 3 + 2, none⟩ (.string e.line)) (.slice (some ⟨g, 0, none⟩) R1.length lc) R1.length (flatR (S.set i (.slice a2 e.labs.length c2, e))) ∧
                RawL (fun b => ¬ At (.slice (some ⟨g, 0, none⟩) R1.length lc) b) (((w8.setCell ⟨g, i * 3, none⟩ (.int .i64 e.tm)).setCell ⟨g, i * 3 + 1, none⟩ (.slice a2 e.labs.length c2)).setCell ⟨g, i * 3 + 2, none⟩ (.string e.line)) (S.set i (.slice a2 e.labs.length c2, e)) ∧
                Keep (At (.slice (some ⟨g, 0, none⟩) R1.length lc)) w5 (((w8.setCell ⟨g, i * 3, none⟩ (.int .i64 e.tm)).setCell ⟨g, i * 3 + 1, none⟩ (.slice a2 e.labs.length c2)).setCell ⟨g, i * 3 + 2, none⟩ (.string e.line))) := Lib.hid (by
              have hks : Keep (fun b => b = g) w8 (((w8.setCell ⟨g, i * 3, none⟩ (.int .i64 e.tm)).setCell ⟨g, i * 3 + 1, none⟩ (.slice a2 e.labs.length c2)).setCell ⟨g, i * 3 + 2, none⟩ (.string e.line)) := keep_set12 (keep_set12 (keep_set12 (Keep.refl _ _) _ _) _ _) _ _
              have hag : ∀ b, At (.slice (some ⟨g, 0, none⟩) R1.length lc) b → b = g := fun b hb => by
                obtain ⟨_, _, hb⟩ := hb
                simp only [Value.slice.injEq, Option.some.injEq, Addr.mk.injEq, and_true] at hb
                exact hb.1.symm
              refine ⟨?_, ?_, Keep.trans HK.out (Keep.trans (hl08.into fun _ _ h => h.elim) (hks.into fun b _ hb => by rw [hb]; exact ⟨_, _, rfl⟩))⟩
              · rw [HFS.out]
                exact (((HSK.out.lay hl08).setD (i * 3) (by omega) _).setD (i * 3 + 1) (by omega) _).setD (i * 3 + 2) (by omega) _
              · intro x hx
                rcases HMS.out _ x hx with hx | rfl
                · exact ((HSL.out x hx).lay hl08).keep hks fun b hb _ hbg => hb (by rw [hbg]; exact ⟨_, _, rfl⟩)
                · exact (hlab.mono (H := fun b => ¬ At (.slice (some ⟨g, 0, none⟩) R1.length lc) b) fun b hb _ ha => by have := hag b ha; omega).keep hks fun b hb _ hbg => hb (by rw [hbg]; exact ⟨_, _, rfl⟩))
            clear hlab hl8 hb8 hb7 hl08 HOW q0 q1 q2
            go_wp2_with fail
            go_roundw
            case rel => exact ⟨i + 1, S.set i (.slice a2 e.labs.length c2, e), by go_num, by omega, HEND.out.1, HEND.out.2.1, HSET.out _, HEND.out.2.2⟩
            case measure => simp [intOf]; omega
          · obtain rfl : i = R1.length := by omega
            clear hk hsk hsl
            go_wp2_with fail
            have hents := HSK.out.ents HSL.out
            rw [HSS.out, HRR.out] at hents
            have hb5 : Below w.heap.size w w5 := HB04.out.trans (Below.mono ((lay_below ((Keep.refl (fun _ => False) w4).drew)).trans HB5.out) HB04.out.size)
            have hbe : Below w.heap.size w5 wr := HK.out.below13 (fun b hb => Nat.le_trans HB04.out.size (Nat.le_trans HCC.out (HAT.out b hb).1)) hb5.size
            refine bodyPost_ret (v := .tuple #[.slice la R1.length lc, .bool (Md.cut (ordC desc) (mkO has m) n.toNat srt2).2, .int .i64 0]) (by simp [results, Tryz.results69, go_sem]) rfl ⟨hb5.trans hbe, .inr (.inr ⟨HKD.out, HGD.out, _, srt2, HSO.out, rfl, ?_⟩)⟩
            exact hents.mono (fun b hb _ => Nat.le_trans HB04.out.size (Nat.le_trans HCC.out hb)) (fun _ _ _ => trivial)
  · have HAS := Lib.hid (as1_no a hk av mv w1 H1.out H2.out g1 g2 g3)
    obtain ⟨dv, hdv⟩ : ∃ v, v = a.dyn av mv := ⟨_, rfl⟩
    rw [← hdv] at HAS ⊢
    have HKD := Lib.hid hk
    clear h h1 h2 hm hn hng hlab g1 g2 g3 g4 hw1 hb1 hk1 hk hdv
    go_enter Tryz.func69, Tryz.ntmps69
    go_upto_region 1 with fail
    rw [HW1.out]
    go_wp2_with (go_at_call 74; refine HAS.out.mono ?_; rintro x w2 ⟨rfl, hb2⟩)
    have hb3 : Below w2.heap.size w2 (w2.alloc (.cells #[.int .i64 0, .int .i64 0, .slice none 0 0] 63)) := (Below.refl _ w2).alloc (Nat.le_refl _) _
    refine bodyPost_ret (v := .tuple #[.slice none 0 0, .bool false, .int .i64 12]) (by simp [results, Tryz.results69, go_sem]) rfl ⟨below_mid HB1.out (below_mid hb2 hb3), .inl ⟨HKD.out, rfl⟩⟩
end Go.Proofs.YtoobjjpheegmdaaGreat.E4
