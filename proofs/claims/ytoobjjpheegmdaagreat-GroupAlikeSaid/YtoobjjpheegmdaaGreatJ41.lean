/-
  Aq16, Lw16.
-/
import Derived.Test.YtoobjjpheegmdaaGreatJ40
namespace Go.Proofs.YtoobjjpheegmdaaGreat.E4
open Go.RowKit Go
noncomputable def ansK (k : Nat) (log : List Ent) (a : Ask) (mo : Option Ent) (desc : Bool) (n : Int) : List Ent × Bool × Int :=
  if a.kd = (k : Int) then if a.good isTx = true then ((Md.cut (ordC desc) mo n.toNat (srtOf desc (log.filter (asksK k a)))).1, (Md.cut (ordC desc) mo n.toNat (srtOf desc (log.filter (asksK k a)))).2, 0) else ([], false, 1) else ([], false, 12)
noncomputable def ansG (P : List Rep) (log : List Ent) (i : Int) (a : Ask) (mo : Option Ent) (desc : Bool) (n : Int) : List Ent × Bool × Int := match repAt P i with
  | none => ([], false, 11)
  | some r => if r.eb.isSome then ansK r.k log a mo desc n else ([], false, 10)
def Ans (r : List Ent × Bool × Int) (w : World) (x : Ending) (w' : World) : Prop := ∃ u, x = .returned (.tuple #[u, .bool r.2.1, .int .i64 r.2.2]) ∧ EntsAt (fun b => w.heap.size ≤ b) (fun _ => True) w' u r.1 ∧ Below w.heap.size w w'
theorem AskG.ans {k : Nat} {es log : List Ent} {a : Ask} {mo : Option Ent} {desc : Bool} {n : Int} {w : World} {x : Ending} {w' : World} (h : AskG k es a mo desc n w x w') (hs : ∀ x, x ∈ es ↔ x ∈ log) : Ans (ansK k log a mo desc n) w x w' := by
  obtain ⟨hb, ⟨h1, rfl⟩ | ⟨h1, h2, rfl⟩ | ⟨h1, h2, v, srt, hs2, rfl, hv⟩⟩ := h
  · unfold ansK
    rw [if_neg h1]
    exact ⟨.slice none 0 0, rfl, EntsAt.none _ _ _ _, hb⟩
  · unfold ansK
    rw [if_pos h1, if_neg (by rw [h2]; decide)]
    exact ⟨.slice none 0 0, rfl, EntsAt.none _ _ _ _, hb⟩
  · have e : srtOf desc (log.filter (asksK k a)) = srt := srtOf_eq ⟨hs2.1, fun x => by rw [hs2.2, List.mem_filter, List.mem_filter, hs]⟩
    unfold ansK
    rw [if_pos h1, if_pos h2, e]
    exact ⟨v, rfl, hv, hb⟩
def AT16 (B0 : Nat) (L : List Ent) (bb : Bool) (kk : Int) (v : Value) (w : World) : Prop := ∃ u, v = .tuple #[u, .bool bb, .int .i64 kk] ∧ EntsAt (fun b => B0 ≤ b) (fun _ => True) w u L
def QP (B0 : Nat) (L : List Ent) (bb : Bool) (kk : Int) (T E : List Nat) (j : Nat) (v : Value) (w : World) : Prop := (j ∈ T → AT16 B0 L bb kk v w) ∧ (j ∈ E → EntsAt (fun b => B0 ≤ b) (fun _ => True) w v L)
theorem QP.below {B0 : Nat} {L : List Ent} {bb : Bool} {kk : Int} {T E : List Nat} {j : Nat} {v : Value} {w w' : World} (h : QP B0 L bb kk T E j v w) (hb : Below w.heap.size w w') : QP B0 L bb kk T E j v w' :=
  ⟨fun hj => by obtain ⟨u, h1, h2⟩ := h.1 hj; exact ⟨u, h1, h2.below1 hb⟩, fun hj => (h.2 hj).below1 hb⟩
set_option maxHeartbeats 8000000 in
set_option maxRecDepth 100000 in
theorem gAsk_any {ρ : Nat → Nat} {w : World} {g : Nat} {log : List Ent} {P : List Rep} (h : GAt ρ w g log P) (i : Int) {a : Ask} {av mv : Value} {has desc : Bool} {m : Ent} {ml : Value} {n : Int} (h1 : TextsAt w av a.all) (h2 : MsAt w mv a.mat) (hm : LabsAt (fun _ => True) w ml m.labs)
    (hng : a.great = false) (hT : a.kd = 2 → a.mat ≠ [] → Lib.Utf8Tabs 1 2 w) :
    Calls Tryz.prog 14 #[.pointer (some ⟨g, 0, none⟩), .int .i64 i, a.dyn av mv, mkV has m ml, .bool desc, .int .i64 n] w (Ans (ansG P log i a (mkO has m) desc n) w) := by
  have hmx : Tryz.prog.follows .mixedOrders = true := by kernel_rfl
  obtain ⟨lv, rv, R, hG⟩ := id h
  obtain ⟨c0, c1, rfl⟩ := hG.r.shape
  obtain ⟨ma, mc, rfl, _⟩ := id hm
  unfold mkV ansG
  obtain ⟨wa, hw1⟩ : ∃ wa, wa = w.alloc (.cells #[.bool has, .int .i64 m.tm, .slice ma m.labs.length mc, .string m.line] 38) := ⟨_, rfl⟩
  have hb1 : Below w.heap.size w wa := by rw [hw1]; exact (Below.refl _ w).alloc (Nat.le_refl _) _
  have hk1 : Bl wa w.heap.size 38 #[.bool has, .int .i64 m.tm, .slice ma m.labs.length mc, .string m.line] := by rw [hw1]; exact Bl.new w 38 _
  have hg1 := hG.below hb1
  have HW1 := Lib.hid hw1.symm
  have HB1 := Lib.hid hb1
  have HK1 := Lib.hid hk1
  cases hr : repAt P i with
  | none =>
    have HA := Lib.hid (at_no hg1.c (repAt_none hr))
    obtain ⟨dv, hdv⟩ : ∃ dv, dv = a.dyn av mv := ⟨_, rfl⟩
    rw [← hdv]
    clear h hG hr hw1 hb1 hk1 hg1 h1 h2 hm hT hdv
    go_enter Tryz.func14, Tryz.ntmps14
    go_upto_region 1 with fail
    rw [HW1.out]
    go_wp2_with (go_at_call 27; refine HA.out.mono ?_; rintro x wb ⟨rfl, rfl⟩)
    refine bodyPost_ret (v := .tuple #[.slice none 0 0, .bool false, .int .i64 11]) (by simp [results, Tryz.results14, go_sem]) rfl ⟨_, rfl, EntsAt.none _ _ _ _, HB1.out⟩
  | some r =>
    obtain ⟨j, hj, rfl, rfl⟩ := repAt_some hr
    obtain ⟨q, c', hv, -, -, -, -, x2, -⟩ := hg1.r.rep hj
    simp only [Value.slice.injEq, true_and] at hv
    obtain ⟨rfl, rfl⟩ := hv
    have HA := Lib.hid (at_yes hg1.c hj hg1.n)
    have HU := Lib.hid (upR_any x2)
    cases he : P[j].eb with
    | none =>
      rw [he] at HU
      simp only [he, Option.isSome_none, Bool.false_eq_true, if_false]
      obtain ⟨dv, hdv⟩ : ∃ dv, dv = a.dyn av mv := ⟨_, rfl⟩
      rw [← hdv]
      clear h hG hr hw1 hb1 hk1 hg1 h1 h2 hm hT hdv x2 he
      go_enter Tryz.func14, Tryz.ntmps14
      go_upto_region 1 with fail
      rw [HW1.out]
      go_wp2_with (first | (go_at_call 27; refine HA.out.mono ?_; rintro x wb ⟨rfl, rfl⟩) | (go_at_call 26; refine HU.out.mono ?_; rintro x wb ⟨rfl, rfl⟩))
      refine bodyPost_ret (v := .tuple #[.slice none 0 0, .bool false, .int .i64 10]) (by simp [results, Tryz.results14, go_sem]) rfl ⟨_, rfl, EntsAt.none _ _ _ _, HB1.out⟩
    | some gb =>
      rw [he] at HU x2
      simp only [he, Option.isSome_some, if_true]
      have hk3 := hG.k P[j] (List.getElem_mem hj)
      have hen := hg1.en j hj gb he
      have hdr : Below wa.heap.size wa wa.drew := lay_below ((Keep.refl (fun _ => False) wa).drew)
      obtain ⟨k, hkk⟩ : ∃ k, k = P[j].k := ⟨_, rfl⟩
      obtain ⟨dv, hdv⟩ : ∃ dv, dv = a.dyn av mv := ⟨_, rfl⟩
      simp only [← hkk] at x2 hk3 hen ⊢
      rw [← hdv]
      obtain ⟨tk, htk⟩ : ∃ tk, tk = tyK k := ⟨_, rfl⟩
      have hev : engV k (some gb) = .iface tk (.pointer (some ⟨gb, 0, none⟩)) := by rw [htk]; rfl
      rw [hev] at x2
      have hinv : ∀ (W : World) (fuel : Nat), (method (fuel + 1) tk (.pointer (some ⟨gb, 0, none⟩)) "Ask").run Tryz.prog W = .ok (askK k, .pointer (some ⟨gb, 0, none⟩)) W := fun W fuel => by rw [htk]; exact inv_ask hk3 _ fuel W
      have hent : ∀ (args : Array Value) (W : World), (callFunc (askK k) args).run Tryz.prog W = .ok (.enter (askK k) args) W := enter_ask hk3
      obtain ⟨LL, hLL⟩ : ∃ LL, LL = (ansK k log a (mkO has m) desc n).1 := ⟨_, rfl⟩
      obtain ⟨bb, hbb⟩ : ∃ bb, bb = (ansK k log a (mkO has m) desc n).2.1 := ⟨_, rfl⟩
      obtain ⟨kk, hkk2⟩ : ∃ kk, kk = (ansK k log a (mkO has m) desc n).2.2 := ⟨_, rfl⟩
      have HAS : Hid (∀ W1, Below wa.drew.heap.size wa.drew W1 → Calls Tryz.prog (askK k) #[.pointer (some ⟨gb, 0, none⟩), dv, .agg #[.bool has, .int .i64 m.tm, .slice ma m.labs.length mc, .string m.line], .bool desc, .int .i64 n] W1 fun x w' => ∃ u, x = .returned (.tuple #[u, .bool bb, .int .i64 kk]) ∧ EntsAt (fun b => W1.heap.size ≤ b) (fun _ => True) w' u LL ∧ Below W1.heap.size W1 w') := Lib.hid fun W1 hW => by
        have hb := below_mid hb1 (below_mid hdr hW)
        rw [hLL, hbb, hkk2, hdv]
        exact (askF_any (hen.below hg1.pos (below_mid hdr hW)) (h1.below hb) (MsAt.below12 h2 hb) (hm.below1 hb) (by have := addAll_leq log; have := hG.hl; omega) hng (fun x hx => by have := ok_labs (addAll_ok x hx); omega) fun k2 hne => Utf8Tabs_below (hT k2 hne) hb).mono fun x w' hx => hx.ans (addAll_sub hG.ok)
      have HRE : Hid (∀ W1, Below wa.drew.heap.size wa.drew W1 → W1.cell? ⟨q, j * 3 + 2, none⟩ = some (.iface tk (.pointer (some ⟨gb, 0, none⟩)))) := Lib.hid fun W1 hW => (World.cell?_of_block (a := ⟨q, j * 3 + 2, none⟩) ((below_mid hdr hW).block q (World.block_lt_of_cell? wa _ x2))).trans x2
      have HMF : Hid (∀ W1, Below wa.drew.heap.size wa.drew W1 → Bl W1 w.heap.size 38 #[.bool has, .int .i64 m.tm, .slice ma m.labs.length mc, .string m.line]) := Lib.hid fun W1 hW => hk1.below (below_mid hdr hW)
      have HLL := Lib.hid hLL
      have HBB := Lib.hid hbb
      have HKK := Lib.hid hkk2
      clear h hG hr hw1 hb1 hk1 hg1 h1 h2 hm hT hdv x2 he hen hdr hev htk hkk hLL hbb hkk2 hk3
      unfold Ans
      rw [← HLL.out, ← HBB.out, ← HKK.out]
      go_enter Tryz.func14, Tryz.ntmps14
      go_upto_region 1 with fail
      rw [HW1.out]
      go_upto_region 6 with (first | (go_at_call 27; refine HA.out.mono ?_; rintro x wb ⟨rfl, hwb⟩; obtain rfl := hwb.symm) | (go_at_call 26; refine HU.out.mono ?_; rintro x wb ⟨rfl, hwb⟩; obtain rfl := hwb.symm))
      refine (wpIn_wide (n := 9)).1 ?_
      refine H3.wpIn_region_flow (fun _ => trivial) (by kernel_rfl) (fun _ _ W => Below wa.drew.heap.size wa.drew W) (fun _ _ W1 W2 => Below W1.heap.size W1 W2) (GV [some (.pointer (some ⟨q, j * 3, none⟩)), some (.pointer (some ⟨q, j * 3, none⟩)), some (.pointer (some ⟨q, j * 3 + 2, none⟩)), some (.iface tk (.pointer (some ⟨gb, 0, none⟩))), some (dv), some (.agg #[.bool has, .int .i64 m.tm, .slice ma m.labs.length mc, .string m.line]), some (.bool desc), some (.int .i64 n), none, none, some (.bool (bb)), some (.int .i64 (kk)), none, some (.bool (bb)), some (.int .i64 (kk))] [8, 9, 12] (QP (wa.drew.heap.size) (LL) (bb) (kk) [8] [9, 12])) (fun j => j == 12 || j == 13 || j == 14) (by kernel_rfl) (by kernel_rfl) ?hst (Below.refl _ _) ?step ?fin
      case hst =>
        intro i j ys v w1 w2 hij hanc hned hV hR
        by_cases hj8 : j = 8
        · subst hj8
          exact GV.keep (sp := QP (wa.drew.heap.size) (LL) (bb) (kk) [8] [9, 12]) (fun _ _ _ _ h hb => QP.below h hb) hij hV hR
        by_cases hj9 : j = 9
        · subst hj9
          exact GV.keep (sp := QP (wa.drew.heap.size) (LL) (bb) (kk) [8] [9, 12]) (fun _ _ _ _ h hb => QP.below h hb) hij hV hR
        by_cases hj12 : j = 12
        · subst hj12
          exact GV.keep (sp := QP (wa.drew.heap.size) (LL) (bb) (kk) [8] [9, 12]) (fun _ _ _ _ h hb => QP.below h hb) hij hV hR
        exact gvq_keep (by simp; omega) hij hV
      case step =>
        refine ⟨?_, ?_, ?_, ?_, ?_, ?_, ?_, ?_, ?_, ?_, ?_, ?_, ?_, ?_, ?_, trivial⟩
        · intro listed ys X W1 hsz hsd hi2 hall hX hI hd K hK
          have e15 : X.tmps.getD 15 undef = .pointer (some ⟨q, j * 3, none⟩) := hX 15 (Nat.le_of_ble_eq_true rfl)
          have HI := Lib.hid hI
          refine H3.step_run (.inl rfl) ?_
          clear hX hd hI
          go_simp
          exact hK _ _ HI.out (Below.refl _ _) (GV.of (by decide) (fun u h => by cases h; rfl))
        · intro listed ys X W1 hsz hsd hi2 hall hX hI hd K hK
          have e26 : X.tmps.getD 26 undef = .pointer (some ⟨q, j * 3, none⟩) := (hX 26 (Nat.le_of_ble_eq_true rfl)).trans (GV.val (hd ⟨0, .data⟩ (by simp) rfl) (by decide) rfl)
          have HI := Lib.hid hI
          refine H3.step_run (.inl rfl) ?_
          clear hX hd hI
          go_simp
          exact hK _ _ HI.out (Below.refl _ _) (GV.of (by decide) (fun u h => by cases h; rfl))
        · intro listed ys X W1 hsz hsd hi2 hall hX hI hd K hK
          have e27 : X.tmps.getD 27 undef = .pointer (some ⟨q, j * 3, none⟩) := (hX 27 (Nat.le_of_ble_eq_true rfl)).trans (GV.val (hd ⟨1, .data⟩ (by simp) rfl) (by decide) rfl)
          have HI := Lib.hid hI
          refine H3.step_run (.inl rfl) ?_
          clear hX hd hI
          go_simp
          exact hK _ _ HI.out (Below.refl _ _) (GV.of (by decide) (fun u h => by cases h; rfl))
        · intro listed ys X W1 hsz hsd hi2 hall hX hI hd K hK
          have e28 : X.tmps.getD 28 undef = .pointer (some ⟨q, j * 3 + 2, none⟩) := (hX 28 (Nat.le_of_ble_eq_true rfl)).trans (GV.val (hd ⟨2, .data⟩ (by simp) rfl) (by decide) rfl)
          have x0 := HRE.out W1 hI
          have HI := Lib.hid hI
          refine H3.step_run (.inl rfl) ?_
          clear hX hd hI
          go_simp
          exact hK _ _ HI.out (Below.refl _ _) (GV.of (by decide) (fun u h => by cases h; rfl))
        · intro listed ys X W1 hsz hsd hi2 hall hX hI hd K hK
          have e2 : X.tmps.getD 2 undef = dv := hX 2 (Nat.le_of_ble_eq_true rfl)
          have HI := Lib.hid hI
          refine H3.step_run (.inl rfl) ?_
          clear hX hd hI
          go_simp
          exact hK _ _ HI.out (Below.refl _ _) (GV.of (by decide) (fun u h => by cases h; rfl))
        · intro listed ys X W1 hsz hsd hi2 hall hX hI hd K hK
          have e9 : X.tmps.getD 9 undef = .pointer (some ⟨w.heap.size, 0, none⟩) := hX 9 (Nat.le_of_ble_eq_true rfl)
          have hx := HMF.out W1 hI
          have x0 := hx.cell 0
          have x1 := hx.cell 1
          have x2 := hx.cell 2
          have x3 := hx.cell 3
          simp only [List.getElem?_toArray, List.getElem?_cons_succ, List.getElem?_cons_zero] at x0 x1 x2 x3
          clear hx
          have HI := Lib.hid hI
          refine H3.step_run (.inl rfl) ?_
          clear hX hd hI
          go_simp
          exact hK _ _ HI.out (Below.refl _ _) (GV.of (by decide) (fun u h => by cases h; rfl))
        · intro listed ys X W1 hsz hsd hi2 hall hX hI hd K hK
          have e4 : X.tmps.getD 4 undef = .bool desc := hX 4 (Nat.le_of_ble_eq_true rfl)
          have HI := Lib.hid hI
          refine H3.step_run (.inl rfl) ?_
          clear hX hd hI
          go_simp
          exact hK _ _ HI.out (Below.refl _ _) (GV.of (by decide) (fun u h => by cases h; rfl))
        · intro listed ys X W1 hsz hsd hi2 hall hX hI hd K hK
          have e5 : X.tmps.getD 5 undef = .int .i64 n := hX 5 (Nat.le_of_ble_eq_true rfl)
          have HI := Lib.hid hI
          refine H3.step_run (.inl rfl) ?_
          clear hX hd hI
          go_simp
          exact hK _ _ HI.out (Below.refl _ _) (GV.of (by decide) (fun u h => by cases h; rfl))
        · intro listed ys X W1 hsz hsd hi2 hall hX hI hd K hK
          have e29 : X.tmps.getD 29 undef = .iface tk (.pointer (some ⟨gb, 0, none⟩)) := (hX 29 (Nat.le_of_ble_eq_true rfl)).trans (GV.val (hd ⟨3, .data⟩ (by simp) rfl) (by decide) rfl)
          have e30 : X.tmps.getD 30 undef = dv := (hX 30 (Nat.le_of_ble_eq_true rfl)).trans (GV.val (hd ⟨4, .data⟩ (by simp) rfl) (by decide) rfl)
          have e31 : X.tmps.getD 31 undef = .agg #[.bool has, .int .i64 m.tm, .slice ma m.labs.length mc, .string m.line] := (hX 31 (Nat.le_of_ble_eq_true rfl)).trans (GV.val (hd ⟨5, .data⟩ (by simp) rfl) (by decide) rfl)
          have e32 : X.tmps.getD 32 undef = .bool desc := (hX 32 (Nat.le_of_ble_eq_true rfl)).trans (GV.val (hd ⟨6, .data⟩ (by simp) rfl) (by decide) rfl)
          have e33 : X.tmps.getD 33 undef = .int .i64 n := (hX 33 (Nat.le_of_ble_eq_true rfl)).trans (GV.val (hd ⟨7, .data⟩ (by simp) rfl) (by decide) rfl)
          have HI := Lib.hid hI
          have HC := Lib.hid (HAS.out W1 hI)
          have hBW := HI.out.size
          refine H3.step_run (.inl rfl) ?_
          clear hX hd hI
          go_simp
          refine ⟨trivial, (callsIn_wide.2 HC.out).mono ?_⟩
          rintro x w7 ⟨u, rfl, hent, hb⟩
          exact hK _ _ (HI.out.trans (hb.mono HI.out.size)) hb (GV.ofsp (by decide) (show QP (wa.drew.heap.size) (LL) (bb) (kk) [8] [9, 12] 8 _ w7 from ⟨fun _ => ⟨u, rfl, hent.mono (fun b hb2 _ => Nat.le_trans hBW hb2) (fun _ _ _ => trivial)⟩, fun h => absurd h (by decide)⟩))
        · intro listed ys X W1 hsz hsd hi2 hall hX hI hd K hK
          have e34 : X.tmps.getD 34 undef = ys 8 := hX 34 (Nat.le_of_ble_eq_true rfl)
          have hv8 := GV.spv (hd ⟨8, .data⟩ (by simp) rfl) (by decide)
          have HI := Lib.hid hI
          obtain ⟨u, hv, hent⟩ : AT16 (wa.drew.heap.size) (LL) (bb) (kk) (ys 8) W1 := hv8.1 (by decide)
          rw [hv] at e34
          have HV := Lib.hid hent
          refine H3.step_run (.inl rfl) ?_
          clear hX hd hI hent hv hv8
          go_simp
          exact hK _ _ HI.out (Below.refl _ _) (GV.ofsp (by decide) (show QP (wa.drew.heap.size) (LL) (bb) (kk) [8] [9, 12] 9 _ W1 from ⟨fun h => absurd h (by decide), fun _ => HV.out⟩))
        · intro listed ys X W1 hsz hsd hi2 hall hX hI hd K hK
          have e34 : X.tmps.getD 34 undef = ys 8 := hX 34 (Nat.le_of_ble_eq_true rfl)
          have hv8 := GV.spv (hd ⟨8, .data⟩ (by simp) rfl) (by decide)
          have HI := Lib.hid hI
          obtain ⟨u, hv, hent⟩ : AT16 (wa.drew.heap.size) (LL) (bb) (kk) (ys 8) W1 := hv8.1 (by decide)
          rw [hv] at e34
          have HV := Lib.hid hent
          refine H3.step_run (.inl rfl) ?_
          clear hX hd hI hent hv hv8
          go_simp
          exact hK _ _ HI.out (Below.refl _ _) (GV.of (by decide) (fun u h => by cases h; rfl))
        · intro listed ys X W1 hsz hsd hi2 hall hX hI hd K hK
          have e34 : X.tmps.getD 34 undef = ys 8 := hX 34 (Nat.le_of_ble_eq_true rfl)
          have hv8 := GV.spv (hd ⟨8, .data⟩ (by simp) rfl) (by decide)
          have HI := Lib.hid hI
          obtain ⟨u, hv, hent⟩ : AT16 (wa.drew.heap.size) (LL) (bb) (kk) (ys 8) W1 := hv8.1 (by decide)
          rw [hv] at e34
          have HV := Lib.hid hent
          refine H3.step_run (.inl rfl) ?_
          clear hX hd hI hent hv hv8
          go_simp
          exact hK _ _ HI.out (Below.refl _ _) (GV.of (by decide) (fun u h => by cases h; rfl))
        · intro listed ys X W1 hsz hsd hi2 hall hX hI hd K hK
          have e35 : X.tmps.getD 35 undef = ys 9 := hX 35 (Nat.le_of_ble_eq_true rfl)
          have hv9 := GV.spv (hd ⟨9, .data⟩ (by simp) rfl) (by decide)
          have HI := Lib.hid hI
          have HV := Lib.hid (hv9.2 (by decide))
          refine H3.step_run (.inl rfl) ?_
          clear hX hd hI hv9
          go_simp
          exact hK _ _ HI.out (Below.refl _ _) (GV.ofsp (by decide) (show QP (wa.drew.heap.size) (LL) (bb) (kk) [8] [9, 12] 12 _ W1 from ⟨fun h => absurd h (by decide), fun _ => HV.out⟩))
        · intro listed ys X W1 hsz hsd hi2 hall hX hI hd K hK
          have e36 : X.tmps.getD 36 undef = .bool (bb) := (hX 36 (Nat.le_of_ble_eq_true rfl)).trans (GV.val (hd ⟨10, .data⟩ (by simp) rfl) (by decide) rfl)
          have HI := Lib.hid hI
          refine H3.step_run (.inl rfl) ?_
          clear hX hd hI
          go_simp
          exact hK _ _ HI.out (Below.refl _ _) (GV.of (by decide) (fun u h => by cases h; rfl))
        · intro listed ys X W1 hsz hsd hi2 hall hX hI hd K hK
          have e37 : X.tmps.getD 37 undef = .int .i64 (kk) := (hX 37 (Nat.le_of_ble_eq_true rfl)).trans (GV.val (hd ⟨11, .data⟩ (by simp) rfl) (by decide) rfl)
          have HI := Lib.hid hI
          refine H3.step_run (.inl rfl) ?_
          clear hX hd hI
          go_simp
          exact hK _ _ HI.out (Below.refl _ _) (GV.of (by decide) (fun u h => by cases h; rfl))
      case fin =>
        intro listed ys w5 hall hI hV
        obtain ⟨-, hE⟩ := GV.spv (hV 12 (by decide) rfl) (by decide)
        have hent5 := hE (by decide)
        have h13 := GV.val (hV 13 (by decide) rfl) (by decide) rfl
        have h14 := GV.val (hV 14 (by decide) rfl) (by decide) rfl
        obtain ⟨lv5, hlv5⟩ : ∃ v, ys 12 = v := ⟨_, rfl⟩
        rw [hlv5] at hent5
        obtain ⟨xl, xc, rfl, _⟩ := id hent5
        have HEN := Lib.hid hent5
        have HFIN : Hid (Below w.heap.size w w5) := Lib.hid (below_mid HB1.out (below_mid (lay_below ((Keep.refl (fun _ => False) wa).drew)) hI))
        clear hent5 hE hI hV hall
        simp only [H3.putsFrom]
        simp only [hlv5, h13, h14, Nat.zero_add, Nat.reduceAdd, Act.put, List.setIfInBounds_toArray, List.set_cons_succ, List.set_cons_zero]
        clear hlv5 h13 h14
        go_wp2_with fail
        refine bodyPost_ret (v := .tuple #[.slice xl LL.length xc, .bool bb, .int .i64 kk]) (by simp [results, Tryz.results14, go_sem]) rfl ⟨_, rfl, HEN.out.mono (fun b hb _ => Nat.le_trans HB1.out.size hb) (fun _ _ _ => trivial), HFIN.out⟩
end Go.Proofs.YtoobjjpheegmdaaGreat.E4
namespace Go.Proofs.YtoobjjpheegmdaaGreat.E4
open Go.RowKit Go
def e3A : Ent := ⟨3, [], ⟨#[]⟩⟩
def aA16 : Ask := ⟨1, 0, 9, [], []⟩
theorem aliveG_take : takeP [] e3A = ([e3A], 0) := by kernel_rfl
theorem aliveG_good : aA16.good isTx = true := by kernel_rfl
theorem aliveG_filter : [e3A].filter (asksK 1 aA16) = [e3A] := by kernel_rfl
theorem srt_one (desc : Bool) (e : Ent) : srtOf desc [e] = [e] := srtOf_eq ⟨List.pairwise_singleton _ _, fun _ => Iff.rfl⟩
theorem srt_nil (desc : Bool) : srtOf desc [] = [] := srtOf_eq ⟨List.Pairwise.nil, fun _ => Iff.rfl⟩
theorem aliveG_cut : Md.cut (ordC false) (mkO false ⟨0, [], ⟨#[]⟩⟩) (5 : Int).toNat [e3A] = ([e3A], true) := by kernel_rfl
theorem aliveG_ans : ansK 1 [e3A] aA16 (mkO false ⟨0, [], ⟨#[]⟩⟩) false 5 = ([e3A], true, 0) := by
  unfold ansK
  rw [if_pos (by rfl), if_pos aliveG_good, aliveG_filter, srt_one, aliveG_cut]
theorem aliveG_dyn : aA16.dyn (.slice none 0 0) (.slice none 0 0) = .iface 63 (.agg #[.int .i64 0, .int .i64 9, .slice none 0 0]) := dyn1 rfl _ _
theorem two_of {P : List Rep} {k0 k1 : Int} (h : Fresh [k0, k1] P) : ∃ p0 p1 : Rep, P = [p0, p1] ∧ (p0.k : Int) = k0 ∧ (p1.k : Int) = k1 ∧ p0.ep = 1 ∧ p1.ep = 1 ∧ p0.eb.isSome = true ∧ p1.eb.isSome = true := by
  obtain ⟨hl, hp⟩ := h
  match P, hl with
  | [p0, p1], _ =>
    obtain ⟨a0, a1, a2⟩ := hp 0 (by simp) (by simp)
    obtain ⟨b0, b1, b2⟩ := hp 1 (by simp) (by simp)
    exact ⟨p0, p1, rfl, a0, b0, a1, b1, a2, b2⟩
theorem crash_two {p0 p1 : Rep} (h : p1.eb.isSome = true) : crashP [p0, p1] 1 = ([p0, ⟨p1.k, p1.ep, none⟩], 0) := by
  show (if p1.eb.isSome = true then ([p0, ⟨p1.k, p1.ep, none⟩], (0 : Int)) else ([p0, p1], 10)) = _
  rw [if_pos h]
theorem ints_two (w : World) (x y : Int) (t : TypeId) : IntsAt (w.alloc (.cells #[.int .i64 x, .int .i64 y] t)) (.slice (some ⟨w.heap.size, 0, none⟩) 2 2) [x, y] := by
  have h := Bl.new w t #[.int .i64 x, .int .i64 y]
  refine ⟨_, _, rfl, (by show 2 ≤ _; decide), .inr ⟨_, _, rfl, h.lt, fun i hi => ?_⟩⟩
  have hi2 : i < 2 := hi
  rw [Nat.zero_add, h.cell]
  match i, hi2 with
  | 0, _ => rfl
  | 1, _ => rfl
set_option maxHeartbeats 2000000 in
set_option maxRecDepth 100000 in
theorem aliveG_any (w : World) (hm : MaxI w) : Calls Tryz.prog 6 #[] w fun x w' => x = .returned (.bool true) ∧ Below w.heap.size w w' := by
  have hmx : Tryz.prog.follows .mixedOrders = true := by kernel_rfl
  obtain ⟨w1, hw1⟩ : ∃ w1, w1 = w.alloc (.cells #[.int .i64 3, .int .i64 1] 3) := ⟨_, rfl⟩
  have hb1 : Below w.heap.size w w1 := by rw [hw1]; exact (Below.refl _ w).alloc (Nat.le_refl _) _
  have hi1 : IntsAt w1 (.slice (some ⟨w.heap.size, 0, none⟩) 2 2) [3, 1] := by rw [hw1]; exact ints_two w 3 1 3
  have HNW := Lib.hid (newG_any hi1 (hm.below1 hb1))
  have HB1 := Lib.hid hb1
  have HW1 := Lib.hid hw1.symm
  clear hm hb1 hi1 hw1
  go_enter Tryz.func6, Tryz.ntmps6
  go_wp2_with fail
  rw [HW1.out]
  refine HNW.out.mono ?_
  rintro x wa ⟨hba, ⟨hk, _⟩ | ⟨-, g, ρ, P, rfl, hg, hz, hf⟩⟩
  · cases hk
  obtain ⟨p0, p1, rfl, h0, h1, h2, h3, h4, h5⟩ := two_of hf
  have HCR := Lib.hid (gCrash_any hg 1)
  rw [crash_two h5] at HCR
  have HB2 := Lib.hid (below_mid HB1.out hba)
  have HZ := Lib.hid hz
  have HSZ : Hid (w.heap.size ≤ w1.heap.size) := Lib.hid HB1.out.size
  clear hba hg hz hf h5
  go_wp2_with fail
  refine HCR.out.mono ?_
  rintro x w3 ⟨rfl, hg3, ht3⟩
  have HTK := Lib.hid (gTake_any hg3 (e := e3A) (lv := .slice none 0 0) (LabsAt.nil (fun _ => False) _) (fun _ h => h.elim))
  rw [aliveG_take] at HTK
  simp only [Ent.val, e3A] at HTK
  have HT3 := Lib.hid ht3
  clear hg3 ht3 HCR
  go_wp2_with fail
  refine HTK.out.mono ?_
  rintro x w4 ⟨ρ4, rfl, hg4, ht4⟩
  have HRS := Lib.hid (gRestart_any hg4 (fun x hx => by
    rcases List.mem_cons.1 hx with rfl | hx
    · omega
    · rw [List.mem_singleton.1 hx]; show p1.ep ≤ 1000000; omega) 1)
  have HT4 := Lib.hid (HT3.out.trans ht4)
  clear hg4 ht4 HTK
  go_wp2_with fail
  refine HRS.out.mono ?_
  rintro x w5 ⟨rfl, ρ5, ⟨gb, hg5⟩, ht5⟩
  have hg5' : GAt ρ5 w5 g [e3A] [p0, ⟨p1.k, p1.ep + 1, some gb⟩] := hg5
  have HG5 := Lib.hid hg5'
  have HT5 := Lib.hid (HT4.out.trans ht5)
  have HASK := Lib.hid (gAsk_any hg5' 1 (a := aA16) (av := .slice none 0 0) (mv := .slice none 0 0) (has := false) (desc := false) (m := ⟨0, [], ⟨#[]⟩⟩) (ml := .slice none 0 0) (n := 5) ⟨none, 0, rfl, by decide, .inl rfl⟩ ⟨none, 0, rfl, by decide, .inl rfl⟩ (LabsAt.nil _ _) (by kernel_rfl) (fun h => by cases h))
  have e1 : p1.k = 1 := by omega
  rw [show ansG [p0, ⟨p1.k, p1.ep + 1, some gb⟩] [e3A] 1 aA16 (mkO false ⟨0, [], ⟨#[]⟩⟩) false 5 = ([e3A], true, 0) by
    show ansK p1.k [e3A] aA16 (mkO false ⟨0, [], ⟨#[]⟩⟩) false 5 = _
    rw [e1, aliveG_ans], aliveG_dyn] at HASK
  simp only [mkV] at HASK
  have HRC : Hid (restartC [p0, ⟨p1.k, p1.ep, none⟩] 1 = 0) := Lib.hid rfl
  rw [HRC.out]
  clear hg5 hg5' ht5 HRS
  go_wp2_with fail
  refine HASK.out.mono ?_
  rintro x w6 ⟨u, rfl, hent, hb6⟩
  obtain ⟨ua, uc, rfl, _⟩ := id hent
  obtain ⟨lv, rv, R, hG6⟩ := HG5.out.below hb6
  obtain ⟨ra, rc, rfl⟩ := hG6.r.shape
  have HEPO := Lib.hid (gEpoch_any hG6 1)
  rw [show epochOf [p0, ⟨p1.k, p1.ep + 1, some gb⟩] 1 = 2 by show ((p1.ep + 1 : Nat) : Int) = 2; omega] at HEPO
  have HUP := Lib.hid (gUp_any hG6 1)
  rw [show upOf [p0, ⟨p1.k, p1.ep + 1, some gb⟩] 1 = true from rfl] at HUP
  have HSI := Lib.hid (gSize_any hG6.c)
  have HB6 : Hid (Below w.heap.size w w6) := Lib.hid ((HB2.out.trans (HT5.out.below HB2.out.size fun b hb => HZ.out b (Nat.lt_of_lt_of_le hb HSZ.out))).trans (hb6.mono (Nat.le_trans HB2.out.size HT5.out.bel.size)))
  clear hent hb6 hG6 HASK h0 h1 h2 h3 h4 e1
  go_wp2_with (first | (go_at_call 20; refine HEPO.out.mono ?_; rintro x w7 ⟨rfl, hw7⟩; obtain rfl := hw7.symm) | (go_at_call 16; refine HUP.out.mono ?_; rintro x w7 ⟨rfl, hw7⟩; obtain rfl := hw7.symm) | (go_at_call 21; refine HSI.out.mono ?_; rintro x w7 ⟨rfl, hw7⟩; obtain rfl := hw7.symm))
  go_ret
  exact ⟨rfl, HB6.out⟩
end Go.Proofs.YtoobjjpheegmdaaGreat.E4
