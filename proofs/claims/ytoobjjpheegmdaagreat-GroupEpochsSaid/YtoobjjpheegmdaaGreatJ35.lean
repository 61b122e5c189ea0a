/-
  Ay15.
-/
import Derived.Test.YtoobjjpheegmdaaGreatJ34
import Derived.Test.YtoobjjpheegmdaaGreatJ07
namespace Go.Proofs.YtoobjjpheegmdaaGreat.E4
open Go.RowKit Go
open Go.Sort (grow)
def QT5 (B0 : Nat) (l : List Ent) (desc : Bool) (mo : Option Ent) (n : Nat) (v : Value) (w : World) : Prop :=
  ∃ v' srt, Sorts (ordC desc) l srt ∧ v = .tuple #[v', .bool (Md.cut (ordC desc) mo n srt).2] ∧ ∃ R, Rk 3 (fun b => B0 ≤ b) w v' R.length (flatR R) ∧ RawL (fun b => B0 ≤ b) w R ∧ R.map Prod.snd = (Md.cut (ordC desc) mo n srt).1
def QL5 (B0 : Nat) (l : List Ent) (desc : Bool) (mo : Option Ent) (n : Nat) (v : Value) (w : World) : Prop :=
  ∃ srt, Sorts (ordC desc) l srt ∧ ∃ R, Rk 3 (fun b => B0 ≤ b) w v R.length (flatR R) ∧ RawL (fun b => B0 ≤ b) w R ∧ R.map Prod.snd = (Md.cut (ordC desc) mo n srt).1
def QZ5 (B0 : Nat) (l : List Ent) (desc : Bool) (mo : Option Ent) (n : Nat) : Nat → Value → World → Prop
  | 3, v, w => EntsAt (fun b => B0 ≤ b) (fun b => B0 ≤ b) w v l
  | 4, v, w => ∃ R, Rk 3 (fun b => B0 ≤ b) w v R.length (flatR R) ∧ RawL (fun b => B0 ≤ b) w R ∧ Sorts (ordC desc) l (R.map Prod.snd)
  | 8, v, w => QT5 B0 l desc mo n v w
  | 9, v, w => QT5 B0 l desc mo n v w
  | 10, v, w => QL5 B0 l desc mo n v w
  | 12, v, w => QL5 B0 l desc mo n v w
  | 11, v, _ => ∃ srt, Sorts (ordC desc) l srt ∧ v = .bool (Md.cut (ordC desc) mo n srt).2
  | 13, v, _ => ∃ srt, Sorts (ordC desc) l srt ∧ v = .bool (Md.cut (ordC desc) mo n srt).2
  | _, _, _ => True
theorem QT5.below {B0 : Nat} {l : List Ent} {desc : Bool} {mo : Option Ent} {n : Nat} {v : Value} {w w' : World} (h : QT5 B0 l desc mo n v w) (hb : Below w.heap.size w w') : QT5 B0 l desc mo n v w' := by
  obtain ⟨v', srt, h1, h2, R, h3, h4, h5⟩ := h
  exact ⟨v', srt, h1, h2, R, h3.below1 hb, h4.below1 hb, h5⟩
theorem QL5.below {B0 : Nat} {l : List Ent} {desc : Bool} {mo : Option Ent} {n : Nat} {v : Value} {w w' : World} (h : QL5 B0 l desc mo n v w) (hb : Below w.heap.size w w') : QL5 B0 l desc mo n v w' := by
  obtain ⟨srt, h1, R, h3, h4, h5⟩ := h
  exact ⟨srt, h1, R, h3.below1 hb, h4.below1 hb, h5⟩
theorem QZ5.below {B0 : Nat} {l : List Ent} {desc : Bool} {mo : Option Ent} {n : Nat} {j : Nat} {v : Value} {w w' : World} (h : QZ5 B0 l desc mo n j v w) (hb : Below w.heap.size w w') : QZ5 B0 l desc mo n j v w' := by
  unfold QZ5 at h ⊢
  split at h
  · exact h.below1 hb
  · obtain ⟨R, h1, h2, h3⟩ := h
    exact ⟨R, h1.below1 hb, h2.below1 hb, h3⟩
  · exact QT5.below h hb
  · exact QT5.below h hb
  · exact QL5.below h hb
  · exact QL5.below h hb
  · exact h
  · exact h
  · trivial
def AskS (es : List Ent) (a : Ask) (mo : Option Ent) (desc : Bool) (n : Int) (w : World) (x : Ending) (w' : World) : Prop :=
  Below w.heap.size w w' ∧
  ((¬ a.kd = 3 ∧ x = .returned (.tuple #[.slice none 0 0, .bool false, .int .i64 12])) ∨ (a.kd = 3 ∧ a.gd = false ∧ x = .returned (.tuple #[.slice none 0 0, .bool false, .int .i64 1])) ∨
   (a.kd = 3 ∧ a.gd = true ∧ ∃ v srt, Sorts (ordC desc) (es.filter (inT5 a.src a.til)) srt ∧ x = .returned (.tuple #[v, .bool (Md.cut (ordC desc) mo n.toNat srt).2, .int .i64 0]) ∧ EntsAt (fun b => w.heap.size ≤ b) (fun b => w.heap.size ≤ b) w' v (Md.cut (ordC desc) mo n.toNat srt).1))
set_option maxHeartbeats 8000000 in
set_option maxRecDepth 100000 in
theorem ask_all (es : List Ent) (a : Ask) (av mv : Value) (has desc : Bool) (m : Ent) (ml : Value) (n : Int) (B gb : Nat) (w : World) (h : EngAt5 w B gb es) (h1 : ∃ x n c, av = .slice x n c) (h2 : ∃ x n c, mv = .slice x n c) (hm : LabsAt (fun _ => True) w ml m.labs)
    (hn : es.length ≤ 1000) :
    Calls Tryz.prog 173 #[.pointer (some ⟨gb, 0, none⟩), a.dyn av mv, mkV has m ml, .bool desc, .int .i64 n] w (AskS es a (mkO has m) desc n w) := by
  have hmx : Tryz.prog.follows .mixedOrders = true := by kernel_rfl
  obtain ⟨qx, qn, qc, rfl⟩ := h1
  obtain ⟨qy, qm, qd, rfl⟩ := h2
  obtain ⟨ma, mc, rfl, hm63, _⟩ := id hm
  unfold mkV
  obtain ⟨w1, hw1⟩ : ∃ w1, w1 = w.alloc (.cells #[.bool has, .int .i64 m.tm, .slice ma m.labs.length mc, .string m.line] 38) := ⟨_, rfl⟩
  have hb1 : Below w.heap.size w w1 := by rw [hw1]; exact (Below.refl _ w).alloc (Nat.le_refl _) _
  have hk1 : Bl w1 w.heap.size 38 #[.bool has, .int .i64 m.tm, .slice ma m.labs.length mc, .string m.line] := by rw [hw1]; exact Bl.new w 38 _
  have HW1 := Lib.hid hw1.symm
  have HB1 := Lib.hid hb1
  have HK1 := Lib.hid hk1
  have HE := Lib.hid (h.below hb1)
  have HM := Lib.hid (hm.below1 hb1)
  have HN := Lib.hid hn
  have HKI := Lib.hid (fun W => kind_any a (.slice qx qn qc) (.slice qy qm qd) W)
  by_cases hk : a.kd = 3
  · have HKD := Lib.hid hk
    have hki : a.kind = 3 := by unfold Ask.kind; rw [if_pos (by omega), hk]
    rw [hki] at HKI
    have HDG := Lib.hid (ownGood3 a hk qx qy qn qc qm qd)
    have HFD := Lib.hid (fun W (hW : EngAt5 W B gb es) => found5_any hW a hk qx qy qn qc qm qd HN.out)
    rw [dyn3 hk] at HKI HDG HFD ⊢
    cases hgd : a.gd with
    | false =>
      rw [hgd] at HDG
      have HGF := Lib.hid hgd
      clear h hm hn hw1 hb1 hk1 hk hki hgd HFD
      go_enter Tryz.func173, Tryz.ntmps173
      go_upto_region 1 with fail
      rw [HW1.out]
      go_wp2_with (first | (go_at_call 176; refine (HKI.out _).mono ?_; rintro x w2 ⟨rfl, hx3⟩; have hx4 := Eq.symm hx3; clear hx3; subst hx4) | (go_at_call 75; refine (HDG.out _).mono ?_; rintro x w3 ⟨rfl, hb3⟩))
      refine bodyPost_ret (v := .tuple #[.slice none 0 0, .bool false, .int .i64 1]) (by simp [results, Tryz.results173, go_sem]) rfl ⟨below_mid HB1.out hb3, .inr (.inl ⟨HKD.out, HGF.out, rfl⟩)⟩
    | true =>
      rw [hgd] at HDG
      have HGT := Lib.hid hgd
      clear h hm hn hw1 hb1 hk1 hk hki hgd
      go_enter Tryz.func173, Tryz.ntmps173
      go_upto_region 1 with fail
      rw [HW1.out]
      go_upto_region 7 with (first | (go_at_call 176; refine (HKI.out _).mono ?_; rintro x w2 ⟨rfl, hx3⟩; have hx4 := Eq.symm hx3; clear hx3; subst hx4) | (go_at_call 75; refine (HDG.out _).mono ?_; rintro x w4 ⟨rfl, hb4⟩))
      have hdr4 : Below w4.heap.size w4 w4.drew := lay_below ((Keep.refl (fun _ => False) w4).drew)
      have HB4 := Lib.hid (below_mid HB1.out (below_mid hb4 hdr4))
      have hE4 := (HE.out.below hb4).below hdr4
      have HFO : Hid (∀ W1, Below w4.drew.heap.size w4.drew W1 → Calls Tryz.prog 177 #[.pointer (some ⟨gb, 0, none⟩), .iface 78 (.agg #[.int .i64 a.src, .int .i64 a.til])] W1 fun x w' => ∃ v', x = .returned v' ∧ EntsAt (fun b => W1.heap.size ≤ b) (fun b => W1.heap.size ≤ b) w' v' (es.filter (inT5 a.src a.til)) ∧ Below W1.heap.size W1 w') := Lib.hid fun W1 hW => HFD.out W1 (hE4.below hW)
      have HML : Hid (∀ W1, Below w4.drew.heap.size w4.drew W1 → LabsAt (fun _ => True) W1 (.slice ma m.labs.length mc) m.labs) := Lib.hid fun W1 hW => ((HM.out.below1 hb4).below1 hdr4).below1 hW
      have HMB : Hid (∀ W1, Below w4.drew.heap.size w4.drew W1 → Bl W1 w.heap.size 38 #[.bool has, .int .i64 m.tm, .slice ma m.labs.length mc, .string m.line]) := Lib.hid fun W1 hW => ((HK1.out.below hb4).below hdr4).below hW
      clear hb4 hdr4 hE4 HKI HDG HFD
      refine (wpIn_wide (n := 9)).1 ?_
      refine H3.wpIn_region_flow (fun _ => trivial) (by kernel_rfl) (fun _ _ W => Below w4.drew.heap.size w4.drew W) (fun _ _ W1 W2 => Below W1.heap.size W1 W2) (GV [some (.bool desc), some (.pointer (some ⟨gb, 0, none⟩)), some (.iface 78 (.agg #[.int .i64 a.src, .int .i64 a.til])), none, none, some (.bool desc), some (.agg #[.bool has, .int .i64 m.tm, .slice ma m.labs.length mc, .string m.line]), some (.int .i64 n), none, none, none, none, none, none] [3, 4, 8, 9, 10, 11, 12, 13] (QZ5 w4.drew.heap.size (es.filter (inT5 a.src a.til)) desc (mkO has m) n.toNat)) (fun j => j == 12 || j == 13) (by kernel_rfl) (by kernel_rfl) ?hst (Below.refl _ _) ?step ?fin
      case hst =>
        intro i j ys v w1 w2 hij hanc hned hV hR
        by_cases hj3 : j = 3
        · subst hj3
          exact GV.keep (sp := QZ5 w4.drew.heap.size (es.filter (inT5 a.src a.til)) desc (mkO has m) n.toNat) (fun _ _ _ _ h hb => QZ5.below h hb) hij hV hR
        by_cases hj4 : j = 4
        · subst hj4
          exact GV.keep (sp := QZ5 w4.drew.heap.size (es.filter (inT5 a.src a.til)) desc (mkO has m) n.toNat) (fun _ _ _ _ h hb => QZ5.below h hb) hij hV hR
        by_cases hj8 : j = 8
        · subst hj8
          exact GV.keep (sp := QZ5 w4.drew.heap.size (es.filter (inT5 a.src a.til)) desc (mkO has m) n.toNat) (fun _ _ _ _ h hb => QZ5.below h hb) hij hV hR
        by_cases hj9 : j = 9
        · subst hj9
          exact GV.keep (sp := QZ5 w4.drew.heap.size (es.filter (inT5 a.src a.til)) desc (mkO has m) n.toNat) (fun _ _ _ _ h hb => QZ5.below h hb) hij hV hR
        by_cases hj10 : j = 10
        · subst hj10
          exact GV.keep (sp := QZ5 w4.drew.heap.size (es.filter (inT5 a.src a.til)) desc (mkO has m) n.toNat) (fun _ _ _ _ h hb => QZ5.below h hb) hij hV hR
        by_cases hj11 : j = 11
        · subst hj11
          exact GV.keep (sp := QZ5 w4.drew.heap.size (es.filter (inT5 a.src a.til)) desc (mkO has m) n.toNat) (fun _ _ _ _ h hb => QZ5.below h hb) hij hV hR
        by_cases hj12 : j = 12
        · subst hj12
          exact GV.keep (sp := QZ5 w4.drew.heap.size (es.filter (inT5 a.src a.til)) desc (mkO has m) n.toNat) (fun _ _ _ _ h hb => QZ5.below h hb) hij hV hR
        by_cases hj13 : j = 13
        · subst hj13
          exact GV.keep (sp := QZ5 w4.drew.heap.size (es.filter (inT5 a.src a.til)) desc (mkO has m) n.toNat) (fun _ _ _ _ h hb => QZ5.below h hb) hij hV hR
        exact gvq_keep (by simp; omega) hij hV
      case step =>
        refine ⟨?_, ?_, ?_, ?_, ?_, ?_, ?_, ?_, ?_, ?_, ?_, ?_, ?_, ?_, trivial⟩
        · intro listed ys X W1 hsz hsd hi2 hall hX hI hd K hK
          have e3 : X.tmps.getD 3 undef = .bool desc := hX 3 (Nat.le_of_ble_eq_true rfl)
          have HI := Lib.hid hI
          refine H3.step_run (.inl rfl) ?_
          clear hX hd hI
          go_simp
          exact hK _ _ HI.out (Below.refl _ _) (GV.of (by decide) (fun u h => by cases h; rfl))
        · intro listed ys X W1 hsz hsd hi2 hall hX hI hd K hK
          have e0 : X.tmps.getD 0 undef = .pointer (some ⟨gb, 0, none⟩) := hX 0 (Nat.le_of_ble_eq_true rfl)
          have HI := Lib.hid hI
          refine H3.step_run (.inl rfl) ?_
          clear hX hd hI
          go_simp
          exact hK _ _ HI.out (Below.refl _ _) (GV.of (by decide) (fun u h => by cases h; rfl))
        · intro listed ys X W1 hsz hsd hi2 hall hX hI hd K hK
          have e1 : X.tmps.getD 1 undef = .iface 78 (.agg #[.int .i64 a.src, .int .i64 a.til]) := hX 1 (Nat.le_of_ble_eq_true rfl)
          have HI := Lib.hid hI
          refine H3.step_run (.inl rfl) ?_
          clear hX hd hI
          go_simp
          exact hK _ _ HI.out (Below.refl _ _) (GV.of (by decide) (fun u h => by cases h; rfl))
        · intro listed ys X W1 hsz hsd hi2 hall hX hI hd K hK
          have e25 : X.tmps.getD 25 undef = .pointer (some ⟨gb, 0, none⟩) := (hX 25 (Nat.le_of_ble_eq_true rfl)).trans (GV.val (hd ⟨1, .data⟩ (by simp) rfl) (by decide) rfl)
          have e26 : X.tmps.getD 26 undef = .iface 78 (.agg #[.int .i64 a.src, .int .i64 a.til]) := (hX 26 (Nat.le_of_ble_eq_true rfl)).trans (GV.val (hd ⟨2, .data⟩ (by simp) rfl) (by decide) rfl)
          have HI := Lib.hid hI
          have HFO1 := Lib.hid (HFO.out W1 HI.out)
          refine H3.step_run (.inl rfl) ?_
          clear hX hd hI
          go_simp
          refine ⟨trivial, (callsIn_wide.2 HFO1.out).mono ?_⟩
          rintro x w7 ⟨v', rfl, hent, hb⟩
          exact hK _ _ (HI.out.trans (hb.mono HI.out.size)) hb (GV.ofsp (by decide) (show QZ5 _ _ _ _ _ 3 v' w7 from hent.mono (fun b hb2 _ => Nat.le_trans HI.out.size hb2) (fun b hb2 _ => Nat.le_trans HI.out.size hb2)))
        · intro listed ys X W1 hsz hsd hi2 hall hX hI hd K hK
          have e24 : X.tmps.getD 24 undef = .bool desc := (hX 24 (Nat.le_of_ble_eq_true rfl)).trans (GV.val (hd ⟨0, .data⟩ (by simp) rfl) (by decide) rfl)
          have e27 : X.tmps.getD 27 undef = ys 3 := hX 27 (Nat.le_of_ble_eq_true rfl)
          have hv3 := GV.spv (hd ⟨3, .data⟩ (by simp) rfl) (by decide)
          have HI := Lib.hid hI
          have hv : EntsAt (fun b => w4.drew.heap.size ≤ b) (fun b => w4.drew.heap.size ≤ b) W1 (ys 3) (es.filter (inT5 a.src a.til)) := hv3
          have HSO := Lib.hid (sort_any desc hv (Nat.le_trans (List.length_filter_le _ _) (Nat.le_trans HN.out (by decide))))
          refine H3.step_run (.inl rfl) ?_
          clear hX hd hI hv
          go_simp
          refine ⟨trivial, (callsIn_wide.2 HSO.out).mono ?_⟩
          rintro x w7 ⟨v', R', rfl, hrk, hrl, hso, hl⟩
          have hb := lay_below hl
          exact hK _ _ (HI.out.trans (hb.mono HI.out.size)) hb (GV.ofsp (by decide) (show QZ5 _ _ _ _ _ 4 v' w7 from ⟨R', hrk.mono fun b hb2 _ => Nat.le_trans HI.out.size hb2, hrl.mono fun b hb2 _ => hb2.1, hso⟩))
        · intro listed ys X W1 hsz hsd hi2 hall hX hI hd K hK
          have e3 : X.tmps.getD 3 undef = .bool desc := hX 3 (Nat.le_of_ble_eq_true rfl)
          have HI := Lib.hid hI
          refine H3.step_run (.inl rfl) ?_
          clear hX hd hI
          go_simp
          exact hK _ _ HI.out (Below.refl _ _) (GV.of (by decide) (fun u h => by cases h; rfl))
        · intro listed ys X W1 hsz hsd hi2 hall hX hI hd K hK
          have e7 : X.tmps.getD 7 undef = .pointer (some ⟨w.heap.size, 0, none⟩) := hX 7 (Nat.le_of_ble_eq_true rfl)
          have hx := HMB.out W1 hI
          have x0 := hx.cell 0
          have x1 := hx.cell 1
          have x2 := hx.cell 2
          have x3 := hx.cell 3
          simp only [List.getElem?_toArray, List.getElem?_cons_succ, List.getElem?_cons_zero] at x0 x1 x2 x3
          clear hx
          have HI := Lib.hid hI
          refine H3.step_run (.inl rfl) ?_
          clear hX hd hI
          go_simp
          exact hK _ _ HI.out (Below.refl _ _) (GV.of (by decide) (fun u h => by cases h; rfl))
        · intro listed ys X W1 hsz hsd hi2 hall hX hI hd K hK
          have e4 : X.tmps.getD 4 undef = .int .i64 n := hX 4 (Nat.le_of_ble_eq_true rfl)
          have HI := Lib.hid hI
          refine H3.step_run (.inl rfl) ?_
          clear hX hd hI
          go_simp
          exact hK _ _ HI.out (Below.refl _ _) (GV.of (by decide) (fun u h => by cases h; rfl))
        · intro listed ys X W1 hsz hsd hi2 hall hX hI hd K hK
          have e28 : X.tmps.getD 28 undef = ys 4 := hX 28 (Nat.le_of_ble_eq_true rfl)
          have hv4 := GV.spv (hd ⟨4, .data⟩ (by simp) rfl) (by decide)
          have e29 : X.tmps.getD 29 undef = .bool desc := (hX 29 (Nat.le_of_ble_eq_true rfl)).trans (GV.val (hd ⟨5, .data⟩ (by simp) rfl) (by decide) rfl)
          have e30 : X.tmps.getD 30 undef = .agg #[.bool has, .int .i64 m.tm, .slice ma m.labs.length mc, .string m.line] := (hX 30 (Nat.le_of_ble_eq_true rfl)).trans (GV.val (hd ⟨6, .data⟩ (by simp) rfl) (by decide) rfl)
          have e31 : X.tmps.getD 31 undef = .int .i64 n := (hX 31 (Nat.le_of_ble_eq_true rfl)).trans (GV.val (hd ⟨7, .data⟩ (by simp) rfl) (by decide) rfl)
          have HI := Lib.hid hI
          obtain ⟨R', hrk, hrl, hso⟩ : ∃ R' : List (Value × Ent), Rk 3 (fun b => w4.drew.heap.size ≤ b) W1 (ys 4) R'.length (flatR R') ∧ RawL (fun b => w4.drew.heap.size ≤ b) W1 R' ∧ Sorts (ordC desc) (es.filter (inT5 a.src a.til)) (R'.map Prod.snd) := hv4
          have hlen : (R'.map Prod.snd).length ≤ 1000000 := by have h1 := Sorts.len13 hso; have h2 := List.length_filter_le (inT5 a.src a.til) es; have := HN.out; omega
          have HCU := Lib.hid (cut_any desc has m (.slice ma m.labs.length mc) (R'.map Prod.snd) (ys 4) n W1 (hrk.ents hrl) (by rw [List.length_map]; exact hrk.sq) (HML.out W1 hI) hso.1 hlen)
          have HSO := Lib.hid hso
          simp only [mkV] at HCU
          refine H3.step_run (.inl rfl) ?_
          clear hX hd hI hrk hrl hso hlen
          go_simp
          refine ⟨trivial, (callsIn_wide.2 HCU.out).mono ?_⟩
          rintro x w7 ⟨v', R2, rfl, hrk2, hrl2, hR2, hl⟩
          have hb := lay_below hl
          exact hK _ _ (HI.out.trans (hb.mono HI.out.size)) hb (GV.ofsp (by decide) (show QZ5 _ _ _ _ _ 8 _ w7 from ⟨v', _, HSO.out, rfl, R2, hrk2.mono fun b hb2 _ => Nat.le_trans HI.out.size hb2, hrl2, hR2⟩))
        · intro listed ys X W1 hsz hsd hi2 hall hX hI hd K hK
          have e32 : X.tmps.getD 32 undef = ys 8 := hX 32 (Nat.le_of_ble_eq_true rfl)
          have hv8 := GV.spv (hd ⟨8, .data⟩ (by simp) rfl) (by decide)
          have HI := Lib.hid hI
          have HV := Lib.hid hv8
          refine H3.step_run (.inl rfl) ?_
          clear hX hd hI hv8
          go_simp
          exact hK _ _ HI.out (Below.refl _ _) (GV.ofsp (by decide) (show QZ5 _ _ _ _ _ 9 _ W1 from HV.out))
        · intro listed ys X W1 hsz hsd hi2 hall hX hI hd K hK
          have e23 : X.tmps.getD 23 undef = ys 9 := hX 23 (Nat.le_of_ble_eq_true rfl)
          have hv9 := GV.spv (hd ⟨9, .data⟩ (by simp) rfl) (by decide)
          have HI := Lib.hid hI
          obtain ⟨v', srt, hso, hv, hr⟩ : QT5 w4.drew.heap.size (es.filter (inT5 a.src a.til)) desc (mkO has m) n.toNat (ys 9) W1 := hv9
          rw [hv] at e23
          have HV := Lib.hid (And.intro hso hr)
          refine H3.step_run (.inl rfl) ?_
          clear hX hd hI hso hr hv
          go_simp
          exact hK _ _ HI.out (Below.refl _ _) (GV.ofsp (by decide) (show QZ5 _ _ _ _ _ 10 _ W1 from ⟨srt, HV.out.1, HV.out.2⟩))
        · intro listed ys X W1 hsz hsd hi2 hall hX hI hd K hK
          have e23 : X.tmps.getD 23 undef = ys 9 := hX 23 (Nat.le_of_ble_eq_true rfl)
          have hv9 := GV.spv (hd ⟨9, .data⟩ (by simp) rfl) (by decide)
          have HI := Lib.hid hI
          obtain ⟨v', srt, hso, hv, hr⟩ : QT5 w4.drew.heap.size (es.filter (inT5 a.src a.til)) desc (mkO has m) n.toNat (ys 9) W1 := hv9
          rw [hv] at e23
          have HV := Lib.hid hso
          refine H3.step_run (.inl rfl) ?_
          clear hX hd hI hso hr hv
          go_simp
          exact hK _ _ HI.out (Below.refl _ _) (GV.ofsp (by decide) (show QZ5 _ _ _ _ _ 11 _ W1 from ⟨srt, HV.out, rfl⟩))
        · intro listed ys X W1 hsz hsd hi2 hall hX hI hd K hK
          have e33 : X.tmps.getD 33 undef = ys 10 := hX 33 (Nat.le_of_ble_eq_true rfl)
          have hv10 := GV.spv (hd ⟨10, .data⟩ (by simp) rfl) (by decide)
          have HI := Lib.hid hI
          have HV := Lib.hid hv10
          refine H3.step_run (.inl rfl) ?_
          clear hX hd hI hv10
          go_simp
          exact hK _ _ HI.out (Below.refl _ _) (GV.ofsp (by decide) (show QZ5 _ _ _ _ _ 12 _ W1 from HV.out))
        · intro listed ys X W1 hsz hsd hi2 hall hX hI hd K hK
          have e34 : X.tmps.getD 34 undef = ys 11 := hX 34 (Nat.le_of_ble_eq_true rfl)
          have hv11 := GV.spv (hd ⟨11, .data⟩ (by simp) rfl) (by decide)
          have HI := Lib.hid hI
          have HV := Lib.hid hv11
          refine H3.step_run (.inl rfl) ?_
          clear hX hd hI hv11
          go_simp
          exact hK _ _ HI.out (Below.refl _ _) (GV.ofsp (by decide) (show QZ5 _ _ _ _ _ 13 _ W1 from HV.out))
      case fin =>
        intro listed ys w5 hall hI hV
        obtain ⟨srt, hso, R1, hrk, hrl, hR⟩ : QL5 w4.drew.heap.size (es.filter (inT5 a.src a.til)) desc (mkO has m) n.toNat (ys 12) w5 := GV.spv (hV 12 (by decide) rfl) (by decide)
        obtain ⟨srt2, hso2, h13⟩ : ∃ srt, Sorts (ordC desc) (es.filter (inT5 a.src a.til)) srt ∧ ys 13 = .bool (Md.cut (ordC desc) (mkO has m) n.toNat srt).2 := GV.spv (hV 13 (by decide) rfl) (by decide)
        obtain rfl := Sorts.unique (ordC_lc desc) hso2 hso fun _ => Iff.rfl
        have HB5 : Hid (Below w4.drew.heap.size w4.drew w5) := Lib.hid hI
        obtain ⟨lv, hlv⟩ : ∃ v, ys 12 = v := ⟨_, rfl⟩
        rw [hlv] at hrk
        obtain ⟨la, lc, hsh⟩ := hrk.shape
        have HENT : Hid (EntsAt (fun b => w.heap.size ≤ b) (fun b => w.heap.size ≤ b) w5 lv (Md.cut (ordC desc) (mkO has m) n.toNat srt2).1) := Lib.hid (by
          have hs := HB4.out.size
          rw [← hR]
          exact (hrk.ents hrl).mono (fun b hb _ => Nat.le_trans hs hb) (fun b hb _ => Nat.le_trans hs hb))
        have HSO := Lib.hid hso
        clear hso hso2 hrk hrl hR hI hV hall
        simp only [H3.putsFrom]
        simp only [hlv, h13, Act.put, List.setIfInBounds_toArray, List.set_cons_succ, List.set_cons_zero]
        clear hlv h13
        subst hsh
        generalize hbb : (Md.cut (ordC desc) (mkO has m) n.toNat srt2).2 = bb
        have HBB := Lib.hid hbb
        clear hbb
        go_wp2_with fail
        refine bodyPost_ret (v := .tuple #[.slice la R1.length lc, .bool bb, .int .i64 0]) (by simp [results, Tryz.results173, go_sem]) rfl ⟨below_mid HB4.out HB5.out, .inr (.inr ⟨HKD.out, HGT.out, _, srt2, HSO.out, by rw [HBB.out], HENT.out⟩)⟩
  · have HKD := Lib.hid hk
    obtain ⟨kk, hkk⟩ : ∃ k, a.kind = k := ⟨_, rfl⟩
    have hne : (kk != 3) = true := by
      rw [← hkk]
      unfold Ask.kind
      split <;> simp <;> omega
    rw [hkk] at HKI
    obtain ⟨dv, hdv⟩ : ∃ v, v = a.dyn (.slice qx qn qc) (.slice qy qm qd) := ⟨_, rfl⟩
    rw [← hdv] at HKI ⊢
    clear h hm hn hw1 hb1 hk1 hk hkk hdv
    go_enter Tryz.func173, Tryz.ntmps173
    go_upto_region 1 with fail
    rw [HW1.out]
    go_wp2_with (go_at_call 176; refine (HKI.out _).mono ?_; rintro x w2 ⟨rfl, hx3⟩; have hx4 := Eq.symm hx3; clear hx3; subst hx4)
    refine bodyPost_ret (v := .tuple #[.slice none 0 0, .bool false, .int .i64 12]) (by simp [results, Tryz.results173, go_sem]) rfl ⟨HB1.out, .inl ⟨HKD.out, rfl⟩⟩
def AskP5 (es : List Ent) (a : Ask) (mo : Option Ent) (desc : Bool) (n : Int) (w : World) (x : Ending) (w' : World) : Prop :=
  Below w.heap.size w w' ∧
  ((¬ a.kd = 3 ∧ x = .returned (.tuple #[.slice none 0 0, .bool false, .int .i64 12])) ∨ (a.kd = 3 ∧ a.gd = false ∧ x = .returned (.tuple #[.slice none 0 0, .bool false, .int .i64 1])) ∨
   (a.kd = 3 ∧ a.gd = true ∧ ∃ v srt, Sorts (ordC desc) (es.filter (inT5 a.src a.til)) srt ∧ x = .returned (.tuple #[v, .bool (Md.cut (ordC desc) mo n.toNat srt).2, .int .i64 0]) ∧ EntsAt (fun b => w.heap.size ≤ b) (fun _ => True) w' v (Md.cut (ordC desc) mo n.toNat srt).1))
theorem ask5_any (es : List Ent) (a : Ask) (av mv : Value) (has desc : Bool) (m : Ent) (ml : Value) (n : Int) (B gb : Nat) (w : World) (h : EngAt5 w B gb es) (h1 : ∃ x n c, av = .slice x n c) (h2 : ∃ x n c, mv = .slice x n c) (hm : LabsAt (fun _ => True) w ml m.labs)
    (hn : es.length ≤ 1000) :
    Calls Tryz.prog 173 #[.pointer (some ⟨gb, 0, none⟩), a.dyn av mv, mkV has m ml, .bool desc, .int .i64 n] w (AskP5 es a (mkO has m) desc n w) := by
  refine (ask_all es a av mv has desc m ml n B gb w h h1 h2 hm hn).mono ?_
  intro x w' hx
  unfold AskS at hx
  unfold AskP5
  obtain ⟨hb, hx⟩ := hx
  refine ⟨hb, ?_⟩
  rcases hx with hx | hx | ⟨hk, hg, v, srt, hs, hx, he⟩
  · exact .inl hx
  · exact .inr (.inl hx)
  · exact .inr (.inr ⟨hk, hg, v, srt, hs, hx, he.mono (fun _ h _ => h) (fun _ _ _ => trivial)⟩)
end Go.Proofs.YtoobjjpheegmdaaGreat.E4
