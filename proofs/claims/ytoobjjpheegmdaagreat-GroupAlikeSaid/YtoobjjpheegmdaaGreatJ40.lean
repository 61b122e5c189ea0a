/-
  Rs16.
-/
import Derived.Test.YtoobjjpheegmdaaGreatJ39
namespace Go.Proofs.YtoobjjpheegmdaaGreat.E4
open Go.RowKit Go
def restartP (P : List Rep) (i : Int) (gb : Nat) : List Rep := match repAt P i with
  | none => P
  | some r => if r.eb.isSome then P else P.set i.toNat ⟨r.k, r.ep + 1, some gb⟩
def restartC (P : List Rep) (i : Int) : Int := match repAt P i with
  | none => 11
  | some r => if r.eb.isSome then 1 else 0
theorem Turns.keep4 {ρ : Nat → Nat} {w w' : World} (h : Keep (fun b => ρ b = 4) w w') : Turns ρ ρ w w' := ⟨fun _ _ => rfl, fun b hb h0 => h.block b hb (by show ¬ ρ b = 4; omega), below_of_keep0 h⟩
set_option maxHeartbeats 8000000 in
set_option maxRecDepth 100000 in
theorem gRestart_any {ρ : Nat → Nat} {w : World} {g : Nat} {log : List Ent} {P : List Rep} (h : GAt ρ w g log P) (hep : ∀ x ∈ P, x.ep ≤ 1000000) (i : Int) :
    Calls Tryz.prog 11 #[.pointer (some ⟨g, 0, none⟩), .int .i64 i] w fun x w' => x = .returned (.int .i64 (restartC P i)) ∧ ∃ ρ', (∃ gb, GAt ρ' w' g log (restartP P i gb)) ∧ Turns ρ ρ' w w' := by
  have hmx : Tryz.prog.follows .mixedOrders = true := by kernel_rfl
  have HH := Lib.hid h
  obtain ⟨lv, rv, R, hG⟩ := id h
  obtain ⟨al, cl, rfl⟩ := hG.l.shape
  obtain ⟨a, c, rfl⟩ := hG.r.shape
  unfold restartP restartC
  cases hr : repAt P i with
  | none =>
    have HA := Lib.hid (at_no hG.c (repAt_none hr))
    clear h hG hr hep
    go_enter Tryz.func11, Tryz.ntmps11
    go_wp2_with (go_at_call 27; refine HA.out.mono ?_; rintro x wb ⟨rfl, rfl⟩)
    go_ret
    exact ⟨rfl, ρ, ⟨0, HH.out⟩, Turns.of (Below.refl _ _)⟩
  | some r =>
    obtain ⟨j, hj, rfl, rfl⟩ := repAt_some hr
    obtain ⟨q, c', hv, hq, hqlt, x0, x1, x2, f1, f2⟩ := hG.r.rep hj
    simp only [Value.slice.injEq, true_and] at hv
    obtain ⟨rfl, rfl⟩ := hv
    have HA := Lib.hid (at_yes hG.c hj hG.n)
    have HU := Lib.hid (upR_any x2)
    cases he : P[j].eb with
    | some eb =>
      rw [he] at HU
      simp only [he, Option.isSome_some, if_true]
      clear h hr x2 f1 f2 he x0 x1 hG hep
      go_enter Tryz.func11, Tryz.ntmps11
      go_wp2_with (first | (go_at_call 27; refine HA.out.mono ?_; rintro x wb ⟨rfl, rfl⟩) | (go_at_call 26; refine HU.out.mono ?_; rintro x wb ⟨rfl, rfl⟩))
      go_ret
      exact ⟨rfl, ρ, ⟨0, HH.out⟩, Turns.of (Below.refl _ _)⟩
    | none =>
      rw [he] at HU
      simp only [he, Option.isSome_none, Bool.false_eq_true, if_false, Int.toNat_natCast]
      have hk3 := hG.k P[j] (List.getElem_mem hj)
      have HMK := Lib.hid (make_yes hk3 w hG.mx)
      have HEP : Hid (P[j].ep ≤ 1000000) := Lib.hid (hep _ (List.getElem_mem hj))
      have HK3 := Lib.hid hk3
      have HE := Lib.hid he
      have HG := Lib.hid hG
      have HRN : Hid (R.length = log.length) := Lib.hid (by rw [← hG.e, List.length_map])
      have HRL : Hid (R.length ≤ 100) := Lib.hid (by have := HRN.out; have := hG.hl; omega)
      clear h hr hep hk3 he hG x2 f2
      go_enter Tryz.func11, Tryz.ntmps11
      go_upto_region 6 with (first | (go_at_call 27; refine HA.out.mono ?_; rintro x wb ⟨rfl, hwb⟩; obtain rfl := hwb.symm) | (go_at_call 26; refine HU.out.mono ?_; rintro x wb ⟨rfl, hwb⟩; obtain rfl := hwb.symm))
      go_wp2_with fail
      refine HMK.out.mono ?_
      rintro x w3 ⟨gb, rfl, heng, hl3⟩
      obtain ⟨ρ1, hρ1⟩ : ∃ ρ1 : Nat → Nat, ρ1 = fun b => if b < w.heap.size then ρ b else 5 + j := ⟨_, rfl⟩
      have ha1 : ∀ b, b < w.heap.size → ρ1 b = ρ b := fun b hb => by rw [hρ1]; exact if_pos hb
      have hn1 : ∀ b, w.heap.size ≤ b → ρ1 b = 5 + j := fun b hb => by rw [hρ1]; exact if_neg (by omega)
      have hg3 := ((HG.out.conv ha1).below (lay_below hl3)).swap (E' := fun i => if i = j then [] else addAll [] log) fun i hi hu => (if_neg fun e => by subst e; rw [HE.out] at hu; cases hu).symm
      obtain ⟨hg4, hk4⟩ := hg3.seteb hj (some gb) fun b hb => by
        cases hb
        rw [if_pos rfl]
        exact heng.mono fun q _ hq => hn1 q hq
      have hrep3 := hg3.r.rep hj
      obtain ⟨q', c', hv, -, -, -, -, x2, -, f2⟩ := hrep3
      simp only [Value.slice.injEq, true_and, Option.some.injEq, Addr.mk.injEq, and_true] at hv
      obtain ⟨rfl, -⟩ := hv
      rw [HE.out] at x2
      obtain ⟨tk, htk⟩ : ∃ tk, tk = tyK P[j].k := ⟨_, rfl⟩
      have hev : engV P[j].k (some gb) = .iface tk (.pointer (some ⟨gb, 0, none⟩)) := by rw [htk]; rfl
      rw [hev] at hg4 hk4 ⊢
      obtain ⟨w4, hw4⟩ : ∃ w4, w4 = w3.setCell ⟨q, j * 3 + 2, none⟩ (.iface tk (.pointer (some ⟨gb, 0, none⟩))) := ⟨_, rfl⟩
      rw [← hw4] at hg4 hk4
      have HT4 : Hid (Turns ρ ρ1 w w4) := Lib.hid ((show Turns ρ ρ1 w w3 from ⟨ha1, fun b hb _ => Lay.block hl3 hb, (lay_below hl3).mono (Nat.zero_le _)⟩).trans (Turns.keep4 hk4))
      have HG4 := Lib.hid hg4
      have HW4 := Lib.hid hw4.symm
      have g0 := hg4.c.cell 0
      simp only [List.getElem?_toArray, List.getElem?_cons_zero] at g0
      have HTK : Hid (tk = tyK P[j].k) := Lib.hid htk
      clear heng hl3 hρ1 ha1 hn1 hg3 hg4 hk4 hev hw4 htk x0 x1 f1 HMK hqlt
      go_upto_region 7 with fail
      rw [HW4.out]
      clear x2 f2
      go_wp2_with fail
      go_loopw [30] (fun vi wr => ∃ (n : Nat) (ρi : Nat → Nat), vi = .int .i64 n ∧ n ≤ R.length ∧ GC ρi (fun i => if i = j then addAll [] (log.take n) else addAll [] log) wr g log (P.set j { P[j] with eb := some gb }) (.slice al R.length cl) (.slice (some ⟨q, 0, none⟩) P.length c) R ∧ Turns ρ1 ρi w4 wr) (fun vi _ => R.length - (intOf vi).toNat)
      case atStart => exact ⟨0, ρ1, rfl, Nat.zero_le _, HG4.out, Turns.of (Below.refl _ _)⟩
      case round =>
        obtain ⟨n, ρi, rfl, hn, hgc, ht⟩ := hrel
        have HGC := Lib.hid hgc
        have HTR := Lib.hid ht
        have hrl100 := HRL.out
        by_cases hlt : n < R.length
        · obtain ⟨_, ⟨_, h0⟩ | ⟨lb, lc, hv, -, hlb, -, -, hraw, -⟩⟩ := hgc.l.rawAt
          · rw [h0] at hlt; exact absurd hlt (Nat.not_lt_zero _)
          simp only [Value.slice.injEq, true_and] at hv
          obtain ⟨rfl, rfl⟩ := hv
          obtain ⟨y0, y1, y2⟩ := hraw n hlt
          simp only [Nat.zero_add] at y0 y1 y2
          have hlab := hgc.rl R[n] (List.getElem_mem hlt)
          have hlog : ∃ hh : n < log.length, log[n] = R[n].2 := by
            have h1 := HRN.out
            refine ⟨by omega, ?_⟩
            simp only [← hgc.e, List.getElem_map]
          obtain ⟨hll, hle⟩ := hlog
          have hokn : R[n].2.ok = true := by rw [← hle]; exact hgc.ok _ (List.getElem_mem hll)
          obtain ⟨rl, rc, hrl, _⟩ := id hlab
          rw [hrl] at y1 hlab
          have HLE : Hid (log[n] = R[n].2) := Lib.hid hle
          generalize R[n].2 = en at y0 y1 y2 hlab hokn HLE hrl
          have HLAB := Lib.hid hlab
          have HOKN := Lib.hid hokn
          obtain ⟨w5, hw5⟩ : ∃ w5, w5 = wr.alloc (.cells #[.int .i64 en.tm, .slice rl en.labs.length rc, .string en.line] 32) := ⟨_, rfl⟩
          have hl5 : Lay wr w5 := by rw [hw5]; exact (Keep.refl _ wr).alloc _
          have hk5 : Bl w5 wr.heap.size 32 #[.int .i64 en.tm, .slice rl en.labs.length rc, .string en.line] := by rw [hw5]; exact Bl.new wr 32 _
          have hg5 := hgc.below (lay_below hl5)
          have hjl : j < (P.set j { P[j] with eb := some gb }).length := by rw [List.length_set]; exact hj
          obtain ⟨q2, c2, hv2, -, -, -, -, z2, -⟩ := hg5.r.rep hjl
          rw [List.length_set] at hv2
          simp only [Value.slice.injEq, true_and, Option.some.injEq, Addr.mk.injEq, and_true] at hv2
          obtain ⟨rfl, -⟩ := hv2
          have hen := hg5.en j hjl gb (by rw [List.getElem_set_self])
          rw [List.getElem_set_self] at z2 hen
          simp only [if_true] at hen
          have HG5 := Lib.hid hg5
          have HL5 := Lib.hid hl5
          have HW5 := Lib.hid hw5.symm
          have u0 := hk5.cell 0
          have u1 := hk5.cell 1
          have u2 := hk5.cell 2
          simp only [List.getElem?_toArray, List.getElem?_cons_succ, List.getElem?_cons_zero] at u0 u1 u2
          have hdr : Lay w5 w5.drew := (Keep.refl (fun _ => False) w5).drew
          have HADD := Lib.hid (addF_any (w := w5.drew) (hen.below hg5.pos (lay_below hdr)) ((hlab.lay hl5).lay hdr) (fun b hb _ hq => by omega) (ok_mod hokn) (ok_line hokn) (fun x hx => ok_mod (addAll_ok x hx)) (by have := addAll_leq (log.take n); have := List.length_take_le n log; have := hgc.hl; omega))
          simp only [Ent.val] at HADD
          have hev : engV P[j].k (some gb) = .iface tk (.pointer (some ⟨gb, 0, none⟩)) := by rw [HTK.out]; rfl
          have z3 : w5.cell? ⟨q, j * 3 + 2, none⟩ = some (.iface tk (.pointer (some ⟨gb, 0, none⟩))) := z2.trans (by rw [← hev])
          have hinv : ∀ (W : World) (fuel : Nat), (method (fuel + 1) tk (.pointer (some ⟨gb, 0, none⟩)) "Add").run Tryz.prog W = .ok (addK P[j].k, .pointer (some ⟨gb, 0, none⟩)) W := fun W fuel => by rw [HTK.out]; exact inv_add HK3.out _ fuel W
          have hent : ∀ (args : Array Value) (W : World), (callFunc (addK P[j].k) args).run Tryz.prog W = .ok (.enter (addK P[j].k) args) W := enter_add HK3.out
          have HLL : Hid (n < log.length) := Lib.hid hll
          obtain ⟨k, hpk⟩ : ∃ k, k = P[j].k := ⟨_, rfl⟩
          simp only [← hpk] at HADD hinv hent
          have HPK := Lib.hid hpk
          clear hgc ht hraw hlab hokn hw5 hl5 hk5 hg5 z2 hen hdr hev hpk
          go_upto_region 10 with fail
          rw [HW5.out]
          clear y0 y1 y2
          refine (wpIn_wide (n := 9)).1 ?_
          refine H3.wpIn_region_flow (fun _ => trivial) (by kernel_rfl) (H3.waistI 5 w5.drew (fun _ W6 => EngF k (fun q => ρi q = 5 + j ∨ w5.heap.size ≤ q) W6 gb (addE (addAll [] (log.take n)) en) ∧ (∀ b, b < w5.heap.size → ¬ ρi b = 5 + j → W6.heap[b]? = w5.heap[b]?) ∧ Below 0 w5 W6)) (fun _ _ _ _ => True) (GV [some (.pointer (some ⟨q, j * 3, none⟩)), some (.pointer (some ⟨q, j * 3, none⟩)), some (.pointer (some ⟨q, j * 3 + 2, none⟩)), some (.iface tk (.pointer (some ⟨gb, 0, none⟩))), some (.agg #[.int .i64 en.tm, .slice rl en.labs.length rc, .string en.line]), none] [] (fun _ _ _ => True)) (fun j => false) (by kernel_rfl) (by kernel_rfl) ?hst (⟨fun _ => rfl, (fun h => by cases h)⟩) ?step ?fin
          case hst =>
            intro i j ys v w1 w2 hij hanc hned hV hR
            exact gvq_keep (by simp) hij hV
          case step =>
            refine ⟨?_, ?_, ?_, ?_, ?_, ?_, trivial⟩
            · intro listed ys X W1 hsz hsd hi2 hall hX hI hd K hK
              have e5 : X.tmps.getD 5 undef = .pointer (some ⟨q, j * 3, none⟩) := hX 5 (Nat.le_of_ble_eq_true rfl)
              obtain rfl := hI.1 (H3.not_yet hsd hi2 (by kernel_rfl))
              have HI := Lib.hid hI
              refine H3.step_run (.inl rfl) ?_
              clear hX hd hI
              go_simp
              exact hK _ _ (HI.out.other (by decide) _) trivial (GV.of (by decide) (fun u h => by cases h; rfl))
            · intro listed ys X W1 hsz hsd hi2 hall hX hI hd K hK
              have e34 : X.tmps.getD 34 undef = .pointer (some ⟨q, j * 3, none⟩) := (hX 34 (Nat.le_of_ble_eq_true rfl)).trans (GV.val (hd ⟨0, .data⟩ (by simp) rfl) (by decide) rfl)
              obtain rfl := hI.1 (H3.not_yet hsd hi2 (by kernel_rfl))
              have HI := Lib.hid hI
              refine H3.step_run (.inl rfl) ?_
              clear hX hd hI
              go_simp
              exact hK _ _ (HI.out.other (by decide) _) trivial (GV.of (by decide) (fun u h => by cases h; rfl))
            · intro listed ys X W1 hsz hsd hi2 hall hX hI hd K hK
              have e35 : X.tmps.getD 35 undef = .pointer (some ⟨q, j * 3, none⟩) := (hX 35 (Nat.le_of_ble_eq_true rfl)).trans (GV.val (hd ⟨1, .data⟩ (by simp) rfl) (by decide) rfl)
              obtain rfl := hI.1 (H3.not_yet hsd hi2 (by kernel_rfl))
              have HI := Lib.hid hI
              refine H3.step_run (.inl rfl) ?_
              clear hX hd hI
              go_simp
              exact hK _ _ (HI.out.other (by decide) _) trivial (GV.of (by decide) (fun u h => by cases h; rfl))
            · intro listed ys X W1 hsz hsd hi2 hall hX hI hd K hK
              have e36 : X.tmps.getD 36 undef = .pointer (some ⟨q, j * 3 + 2, none⟩) := (hX 36 (Nat.le_of_ble_eq_true rfl)).trans (GV.val (hd ⟨2, .data⟩ (by simp) rfl) (by decide) rfl)
              obtain rfl := hI.1 (H3.not_yet hsd hi2 (by kernel_rfl))
              have HI := Lib.hid hI
              refine H3.step_run (.inl rfl) ?_
              clear hX hd hI
              go_simp
              exact hK _ _ (HI.out.other (by decide) _) trivial (GV.of (by decide) (fun u h => by cases h; rfl))
            · intro listed ys X W1 hsz hsd hi2 hall hX hI hd K hK
              have e7 : X.tmps.getD 7 undef = .pointer (some ⟨wr.heap.size, 0, none⟩) := hX 7 (Nat.le_of_ble_eq_true rfl)
              obtain rfl := hI.1 (H3.not_yet hsd hi2 (by kernel_rfl))
              have HI := Lib.hid hI
              refine H3.step_run (.inl rfl) ?_
              clear hX hd hI
              go_simp
              exact hK _ _ (HI.out.other (by decide) _) trivial (GV.of (by decide) (fun u h => by cases h; rfl))
            · intro listed ys X W1 hsz hsd hi2 hall hX hI hd K hK
              have e37 : X.tmps.getD 37 undef = .iface tk (.pointer (some ⟨gb, 0, none⟩)) := (hX 37 (Nat.le_of_ble_eq_true rfl)).trans (GV.val (hd ⟨3, .data⟩ (by simp) rfl) (by decide) rfl)
              have e38 : X.tmps.getD 38 undef = .agg #[.int .i64 en.tm, .slice rl en.labs.length rc, .string en.line] := (hX 38 (Nat.le_of_ble_eq_true rfl)).trans (GV.val (hd ⟨4, .data⟩ (by simp) rfl) (by decide) rfl)
              obtain rfl := hI.1 hi2
              refine H3.step_run (.inl rfl) ?_
              clear hX hd
              go_simp
              refine ⟨trivial, (callsIn_wide.2 (HADD.out)).mono ?_⟩
              rintro x w6 ⟨rfl, hp6, hk6, hb6⟩
              exact hK _ _ (H3.waistI.call (by rw [hsz]; decide) ⟨hp6, hk6, ((lay_below ((Keep.refl (fun _ => False) w5).drew)).mono (Nat.zero_le _)).trans hb6⟩) trivial (GV.of (by decide) (fun u h => by cases h))
          case fin =>
            intro listed ys w6 hall hI _
            obtain ⟨he6, hk6, hb6⟩ := hI.2 (hall 5 (by decide))
            have hf := HG5.out.fed (by rw [List.length_set]; exact hj) (b := gb) (by rw [List.getElem_set_self]) (by rw [List.getElem_set_self, ← HPK.out]; exact he6) hk6 hb6
            have HF1 := Lib.hid hf.1
            have HF2 := Lib.hid (HTR.out.trans ((Turns.of (lay_below HL5.out)).trans hf.2))
            clear hall hI he6 hk6 hb6 hf u0 u1 u2 z3
            simp only [H3.putsFrom]
            simp only [Nat.zero_add, Nat.reduceAdd, Act.put, List.setIfInBounds_toArray, List.set_cons_succ, List.set_cons_zero]
            go_wp2
            go_roundw
            case rel =>
              refine ⟨n + 1, _, by go_num, by omega, HF1.out.swap fun i hi hu => ?_, HF2.out⟩
              by_cases h1 : i = j
              · subst h1
                rw [if_pos rfl, if_pos rfl, addAll_take [] log n HLL.out, HLE.out]
              · simp only [h1, if_false]
            case measure => simp [intOf]; omega
        · obtain rfl : n = R.length := by omega
          have hjl : j < (P.set j { P[j] with eb := some gb }).length := by rw [List.length_set]; exact hj
          have hgs := hgc.swap (E' := fun _ => addAll [] log) fun i hi hu => by
            by_cases h1 : i = j
            · rw [if_pos h1, HRN.out, List.take_length]
            · rw [if_neg h1]
          obtain ⟨q2, c2, hv2, -, -, -, z1, -, f1, -⟩ := hgs.r.rep hjl
          rw [List.length_set] at hv2
          simp only [Value.slice.injEq, true_and, Option.some.injEq, Addr.mk.injEq, and_true] at hv2
          obtain ⟨rfl, -⟩ := hv2
          rw [List.getElem_set_self] at z1
          have hgs' : GC ρi (fun _ => addAll [] log) wr g log (P.set j { P[j] with eb := some gb }) (.slice al R.length cl) (.slice (some ⟨q, 0, none⟩) (P.set j { P[j] with eb := some gb }).length c) R := by rw [List.length_set]; exact hgs
          obtain ⟨hg9, hk9⟩ := hgs'.setep hjl (P[j].ep + 1)
          rw [List.getElem_set_self, List.set_set] at hg9
          have hep := HEP.out
          have HEND : Hid (GAt ρi (wr.setCell ⟨q, j * 3 + 1, none⟩ (.int .i64 ((P[j].ep + 1 : Nat) : Int))) g log (P.set j ⟨P[j].k, P[j].ep + 1, some gb⟩)) := Lib.hid ⟨_, _, _, hg9⟩
          have HTE : Hid (Turns ρ ρi w (wr.setCell ⟨q, j * 3 + 1, none⟩ (.int .i64 ((P[j].ep + 1 : Nat) : Int)))) := Lib.hid ((HT4.out.trans HTR.out).trans (Turns.keep4 hk9))
          obtain ⟨ep, hepe⟩ : ∃ ep, ep = P[j].ep := ⟨_, rfl⟩
          simp only [← hepe] at z1 hep HEND HTE ⊢
          have hwr : IntKind.i64.wrap ((ep : Int) + 1) = ((ep + 1 : Nat) : Int) := by rw [IntKind.wrap_i64]; omega
          have HEPE := Lib.hid hepe
          clear hgs hgs' hg9 hk9 hgc ht hepe
          go_wp2_with fail
          refine bodyPost_ret (v := .int .i64 0) (by simp [results, Tryz.results11, go_sem]) rfl ?_
          exact ⟨rfl, ρi, ⟨gb, by rw [← HEPE.out]; exact HEND.out⟩, HTE.out⟩
end Go.Proofs.YtoobjjpheegmdaaGreat.E4
