/-
  magpielaw04.RecordStreams: the walk.
-/
import Derived.Test.YtgcldnojmdabpaaAlive
import Derived.Test.YtgcldnojmdabpaaInj
import Derived.Laws.StructEq
namespace Go.Proofs.Ytgcldnojmdabpaa
open Go.RowKit Go

theorem grown_layS {f : Nat} {args : Array Value} {w w0 : World} {v : Value} (hc : ∀ W, Lay w0 W → Calls Try.prog f args W fun e w' => e = .returned v ∧ Lay W w') (hl : Lay w0 w) (n : Nat) (os : Array Obj) :
    Calls Try.prog f args (Sort.grow (w.drewN n) os) fun e w'' => e = .returned v ∧ ∃ p : GrownBy, w'' = Sort.grow (w.drewN p.n) p.os :=
  grown_of_lay (hc _ (hl.trans (Lay.of_grown n os)))

theorem labsMod_of {e : Ent} (hb : e.big = false) : LabsMod e.labs :=
  (mod_of (e := ⟨0, e.labs, e.line⟩) ⟨by show (-9223372036854775808 : Int) ≤ 0; decide, by show (0 : Int) ≤ 9223372036854775807; decide⟩ hb).1.labs

theorem entC_same (t : Int) (l m : List Lab) (s : ByteArray) : entC ⟨t, l, s⟩ ⟨t, m, s⟩ = 0 ↔ l = m := by
  constructor
  · intro h
    have := entC_lc.eq _ _ h
    injection this
  · rintro rfl
    exact entC_lc.refl _

theorem take_eq_step {l m : List Lab} {k : Nat} (h1 : k < l.length) (h2 : k < m.length) : l.take (k + 1) = m.take (k + 1) ↔ l.take k = m.take k ∧ l[k] = m[k] := by
  rw [List.take_succ_eq_append_getElem h1, List.take_succ_eq_append_getElem h2]
  constructor
  · intro h
    have := List.append_inj' h rfl
    simpa using this
  · rintro ⟨a, b⟩
    rw [a, b]

theorem lab_eq_iff (p q : Lab) : p = q ↔ p.n.toList = q.n.toList ∧ p.v.toList = q.v.toList := by
  obtain ⟨pn, pv⟩ := p
  obtain ⟨qn, qv⟩ := q
  simp only [Lab.mk.injEq]
  exact ⟨fun ⟨h1, h2⟩ => ⟨by rw [h1], by rw [h2]⟩, fun ⟨h1, h2⟩ => ⟨toList_inj _ _ h1, toList_inj _ _ h2⟩⟩

set_option maxHeartbeats 16000000 in
set_option maxRecDepth 100000 in
theorem streams_walk (x y : Ent) (xl yl : Value) (w : World) (hx : LabsAt (fun _ => True) w xl x.labs) (hy : LabsAt (fun _ => True) w yl y.labs) :
    Calls Try.prog 8 #[x.val xl, y.val yl] w fun e w' => e = .returned (.bool true) ∧ Below w.heap.size w w' := by
  obtain ⟨a, ca, rfl, hx63, hxa⟩ := id hx
  obtain ⟨b, cb, rfl, hy63, hyb⟩ := id hy
  obtain ⟨W0, hW0⟩ : ∃ W0, W0 = ((w.alloc (.cells #[.int .i64 x.tm, .slice a x.labs.length ca, .string x.line] 24)).alloc (.cells #[.int .i64 y.tm, .slice b y.labs.length cb, .string y.line] 24)) := ⟨_, rfl⟩
  have hl0 : Lay w W0 := by rw [hW0]; exact ((Keep.refl _ _).alloc _).alloc _
  have hbox : ∀ W, Lay W0 W →
      (W.cell? ⟨w.heap.size, 0, none⟩ = some (.int .i64 x.tm) ∧ W.cell? ⟨w.heap.size, 1, none⟩ = some (.slice a x.labs.length ca) ∧ W.cell? ⟨w.heap.size, 2, none⟩ = some (.string x.line)) ∧
      (W.cell? ⟨w.heap.size + 1, 0, none⟩ = some (.int .i64 y.tm) ∧ W.cell? ⟨w.heap.size + 1, 1, none⟩ = some (.slice b y.labs.length cb) ∧ W.cell? ⟨w.heap.size + 1, 2, none⟩ = some (.string y.line)) := by
    intro W hl
    rw [hW0] at hl
    refine ⟨⟨(hl.cell (by simp; try omega)).trans ?_, (hl.cell (by simp; try omega)).trans ?_, (hl.cell (by simp; try omega)).trans ?_⟩, ⟨(hl.cell (by simp; try omega)).trans ?_, (hl.cell (by simp; try omega)).trans ?_, (hl.cell (by simp; try omega)).trans ?_⟩⟩
    all_goals go_simp
  have hsz : w.heap.size + 2 ≤ W0.heap.size := by rw [hW0]; simp
  have HBOX := Lib.hid hbox
  have HL0 := Lib.hid hl0
  have CX : Hid (∀ W, Lay W0 W → Calls Try.prog 11 #[.agg #[.int .i64 x.tm, .slice a x.labs.length ca, .string x.line]] W fun e w' => e = .returned (.bool x.big) ∧ Lay W w') := Lib.hid fun W hl => great_any (hx.lay (hl0.trans hl))
  have CY : Hid (∀ W, Lay W0 W → Calls Try.prog 11 #[.agg #[.int .i64 y.tm, .slice b y.labs.length cb, .string y.line]] W fun e w' => e = .returned (.bool y.big) ∧ Lay W w') := Lib.hid fun W hl => great_any (hy.lay (hl0.trans hl))
  obtain ⟨SX, hSX⟩ := text_ex (labsB x.labs)
  obtain ⟨SY, hSY⟩ := text_ex (labsB y.labs)
  have TX : Hid (x.big = false → ∀ W, Lay W0 W → Calls Try.prog 19 #[.agg #[.int .i64 x.tm, .slice a x.labs.length ca, .string x.line]] W fun e w' => e = .returned (.string SX) ∧ Lay W w') := Lib.hid fun hb W hl => stream_any (hx.lay (hl0.trans hl)) (labsMod_of hb) SX hSX
  have TY : Hid (y.big = false → ∀ W, Lay W0 W → Calls Try.prog 19 #[.agg #[.int .i64 y.tm, .slice b y.labs.length cb, .string y.line]] W fun e w' => e = .returned (.string SY) ∧ Lay W w') := Lib.hid fun hb W hl => stream_any (hy.lay (hl0.trans hl)) (labsMod_of hb) SY hSY
  have TC : Hid (x.big = false → ∀ W, Lay W0 W → Calls Try.prog 19 #[.agg #[.int .i64 y.tm, .slice a x.labs.length ca, .string y.line]] W fun e w' => e = .returned (.string SX) ∧ Lay W w') := Lib.hid fun hb W hl => stream_any (e := ⟨y.tm, x.labs, y.line⟩) (hx.lay (hl0.trans hl)) (show LabsMod x.labs from labsMod_of hb) SX hSX
  have KC : Hid (∀ W, Lay W0 W → Calls Try.prog 24 #[.agg #[.int .i64 y.tm, .slice a x.labs.length ca, .string y.line], .agg #[.int .i64 y.tm, .slice b y.labs.length cb, .string y.line]] W fun e w' => e = .returned (.int .i64 (entC ⟨y.tm, x.labs, y.line⟩ y)) ∧ Lay W w') := Lib.hid fun W hl => compare_any (x := ⟨y.tm, x.labs, y.line⟩) (hx.lay (hl0.trans hl)) (hy.lay (hl0.trans hl))
  have hS : Hid (x.big = false → y.big = false → (x.labs = y.labs → SY = SX) ∧ (x.labs ≠ y.labs → (SX.toList == SY.toList) = false)) := Lib.hid (by
    intro h1 h2
    refine ⟨fun h => ?_, fun h => ?_⟩
    · rw [← h] at hSY
      exact data_inj (hSY.trans hSX.symm)
    · rw [beq_eq_false_iff_ne]
      intro h3
      refine h (labsB_inj (r := []) (s := []) (labsMod_of h1) (labsMod_of h2) ?_).1
      rw [List.append_nil, List.append_nil, ← hSX, ← hSY, ← Lib.toList_data, ← Lib.toList_data, h3])
  have hC : Hid ((x.labs = y.labs → entC ⟨y.tm, x.labs, y.line⟩ y = 0) ∧ (x.labs ≠ y.labs → ¬ entC ⟨y.tm, x.labs, y.line⟩ y = 0)) := Lib.hid ⟨(entC_same _ _ _ _).2, fun h h2 => h ((entC_same _ _ _ _).1 h2)⟩
  generalize entC ⟨y.tm, x.labs, y.line⟩ y = r at KC hC
  have HXA := Lib.hid hxa
  have HYB := Lib.hid hyb
  have hmx : Try.prog.follows .mixedOrders = true := by kernel_rfl
  unfold Ent.val
  clear hx hy hbox hl0 hSX hSY hxa hyb
  go_enter Try.func8, Try.ntmps8
  go_wp2_with fail
  rw [← hW0]
  refine (alive_any W0).mono ?_
  rintro e w1 ⟨rfl, hl1⟩
  have HL1 := Lib.hid hl1
  obtain ⟨⟨x0, x1, x2⟩, ⟨y0, y1, y2⟩⟩ := HBOX.out w1 hl1
  clear hl1
  cases hbx : x.big with
  | true =>
    rw [hbx] at CX
    go_wp2_with fail
    refine (CX.out _ HL1.out).mono ?_
    rintro e w2 ⟨rfl, hl2⟩
    have HL2 := Lib.hid (Keep.trans HL1.out hl2)
    clear hl2
    go_wp2_with fail
    go_ret
    exact ⟨rfl, Lay.below (Keep.trans HL0.out HL2.out)⟩
  | false =>
    rw [hbx] at CX
    go_wp2_with fail
    refine (CX.out _ HL1.out).mono ?_
    rintro e w2 ⟨rfl, hl2⟩
    have HL2 := Lib.hid (Keep.trans HL1.out hl2)
    obtain ⟨⟨x0, x1, x2⟩, ⟨y0, y1, y2⟩⟩ := HBOX.out w2 HL2.out
    clear hl2
    cases hby : y.big with
    | true =>
      rw [hby] at CY
      go_wp2_with fail
      refine (CY.out _ HL2.out).mono ?_
      rintro e w3 ⟨rfl, hl3⟩
      have HL3 := Lib.hid (Keep.trans HL2.out hl3)
      clear hl3
      go_wp2_with fail
      go_ret
      exact ⟨rfl, Lay.below (Keep.trans HL0.out HL3.out)⟩
    | false =>
      rw [hby] at CY
      go_wp2_with fail
      refine (CY.out _ HL2.out).mono ?_
      rintro e w3 ⟨rfl, hl3⟩
      have HL3 := Lib.hid (Keep.trans HL2.out hl3)
      obtain ⟨⟨x0, x1, x2⟩, ⟨y0, y1, y2⟩⟩ := HBOX.out w3 HL3.out
      have TX := Lib.hid (TX.out hbx)
      have TY := Lib.hid (TY.out hby)
      have TC := Lib.hid (TC.out hbx)
      have HS := Lib.hid (hS.out hbx hby)
      clear hl3 CX CY hS
      go_wp2_with fail
      go_loopw [26, 5] (fun vi vb wr => ∃ (k : Nat) (β : Bool), vi = .int .i64 k ∧ vb = .bool β ∧ k ≤ x.labs.length ∧ Lay w3 wr ∧ (β = true ↔ x.labs.length = y.labs.length ∧ x.labs.take k = y.labs.take k)) (fun vi _ _ => x.labs.length - (intOf vi).toNat)
      case atStart =>
        exact ⟨0, ((x.labs.length : Int) == (y.labs.length : Int)), rfl, rfl, Nat.zero_le _, Keep.refl _ _, by simp only [List.take_zero, and_true, beq_iff_eq]; omega⟩
      case round =>
        obtain ⟨k, β, rfl, rfl, hk, hl, hβ⟩ := hrel
        have HLr := Lib.hid (Keep.trans HL3.out hl)
        have HLk := Lib.hid hl
        obtain ⟨⟨x0, x1, x2⟩, ⟨y0, y1, y2⟩⟩ := HBOX.out wr HLr.out
        by_cases hlt : k < x.labs.length
        · cases β with
          | false =>
            have HB := Lib.hid hβ
            clear hl hβ
            go_wp2_with fail
            go_quiet (fail)
            go_wp2_with fail
            go_roundw
            case rel =>
              refine ⟨k + 1, false, by go_num, rfl, by omega, HLk.out.drewN _, ⟨nofun, fun ⟨h1, h2⟩ => HB.out.2 ⟨h1, ?_⟩⟩⟩
              exact ((take_eq_step hlt (by omega)).1 h2).1
            case measure => simp [intOf]; omega
          | true =>
            obtain ⟨hlen, htk⟩ := hβ.1 rfl
            have hlt2 : k < y.labs.length := by omega
            have hi1 : (k : Int) < (x.labs.length : Int) := by omega
            have hi2 : (k : Int) < (y.labs.length : Int) := by omega
            have hi0 : ¬ (k : Int) < 0 := by omega
            rcases HXA.out with h0 | ⟨bx, ox, rfl, _, hbx2, hcx⟩
            · exact absurd hlt (by rw [h0]; simp)
            rcases HYB.out with h0 | ⟨by', oy, rfl, _, hby2, hcy⟩
            · exact absurd hlt2 (by rw [h0]; simp)
            have hw := Keep.trans HL0.out HLr.out
            have g0 := (Lay.cell hw hbx2).trans (hcx k hlt).1
            have g1 := (Lay.cell hw hbx2).trans (hcx k hlt).2
            have h0 := (Lay.cell hw hby2).trans (hcy k hlt2).1
            have h1 := (Lay.cell hw hby2).trans (hcy k hlt2).2
            have HST := Lib.hid (take_eq_step hlt hlt2)
            have HPQ := Lib.hid (lab_eq_iff x.labs[k] y.labs[k])
            have HTK := Lib.hid htk
            have HLEN := Lib.hid hlen
            generalize x.labs[k] = p at g0 g1 HST HPQ
            generalize y.labs[k] = q at h0 h1 HST HPQ
            clear hl hβ hcx hcy hw htk hlen
            by_cases hn : p.n.toList = q.n.toList
            · by_cases hv : p.v.toList = q.v.toList
              · have HQ := Lib.hid (HPQ.out.2 ⟨hn, hv⟩)
                go_wp2_with fail
                go_quiet (fail)
                go_wp2_with fail
                go_roundw
                case rel => exact ⟨k + 1, true, by go_num, rfl, by omega, HLk.out.drewN _, ⟨fun _ => ⟨HLEN.out, HST.out.2 ⟨HTK.out, HQ.out⟩⟩, fun _ => rfl⟩⟩
                case measure => simp [intOf]; omega
              · have HQ := Lib.hid (fun h : p = q => hv (HPQ.out.1 h).2)
                go_wp2_with fail
                go_quiet (fail)
                go_wp2_with fail
                go_roundw
                case rel => exact ⟨k + 1, false, by go_num, rfl, by omega, HLk.out.drewN _, ⟨nofun, fun ⟨_, h2⟩ => absurd (HST.out.1 h2).2 HQ.out⟩⟩
                case measure => simp [intOf]; omega
            · have HQ := Lib.hid (fun h : p = q => hn (HPQ.out.1 h).1)
              go_wp2_with fail
              go_quiet (fail)
              go_wp2_with fail
              go_roundw
              case rel => exact ⟨k + 1, false, by go_num, rfl, by omega, HLk.out.drewN _, ⟨nofun, fun ⟨_, h2⟩ => absurd (HST.out.1 h2).2 HQ.out⟩⟩
              case measure => simp [intOf]; omega
        · obtain rfl : k = x.labs.length := by omega
          have hE : β = true ↔ x.labs = y.labs := by
            rw [hβ]
            constructor
            · rintro ⟨h1, h2⟩
              rwa [List.take_length, h1, List.take_length] at h2
            · intro h
              rw [h]
              exact ⟨rfl, rfl⟩
          have HE := Lib.hid hE
          have hsr : w.heap.size + 2 ≤ wr.heap.size := Nat.le_trans hsz HLr.out.size
          have hb0 : w.heap.size < wr.heap.size := by omega
          have hb1 : w.heap.size + 1 < wr.heap.size := by omega
          have hn0 : ¬ w.heap.size = wr.heap.size := by omega
          have hn1 : ¬ w.heap.size + 1 = wr.heap.size := by omega
          clear hl hβ hE
          go_wp2_with fail
          have HLC := Lib.hid (Keep.alloc HLr.out (.cells #[.int .i64 y.tm, .slice a x.labs.length ca, .string y.line] 24))
          obtain ⟨⟨x0, x1, x2⟩, ⟨y0, y1, y2⟩⟩ := HBOX.out _ HLC.out
          have z0 : (wr.alloc (.cells #[.int .i64 y.tm, .slice a x.labs.length ca, .string y.line] 24)).cell? ⟨wr.heap.size, 0, none⟩ = some (.int .i64 y.tm) := by go_simp
          have z1 : (wr.alloc (.cells #[.int .i64 y.tm, .slice a x.labs.length ca, .string y.line] 24)).cell? ⟨wr.heap.size, 1, none⟩ = some (.slice a x.labs.length ca) := by go_simp
          have z2 : (wr.alloc (.cells #[.int .i64 y.tm, .slice a x.labs.length ca, .string y.line] 24)).cell? ⟨wr.heap.size, 2, none⟩ = some (.string y.line) := by go_simp
          have hss : wr.heap.size < (wr.alloc (.cells #[.int .i64 y.tm, .slice a x.labs.length ca, .string y.line] 24)).heap.size := by simp
          generalize wr.alloc (.cells #[.int .i64 y.tm, .slice a x.labs.length ca, .string y.line] 24) = wc at HLC x0 x1 x2 y0 y1 y2 z0 z1 z2 hss ⊢
          have fx0 := cell_grown (w := wc) (a := ⟨w.heap.size, 0, none⟩) (by show w.heap.size < _; omega) x0
          have fx1 := cell_grown (w := wc) (a := ⟨w.heap.size, 1, none⟩) (by show w.heap.size < _; omega) x1
          have fx2 := cell_grown (w := wc) (a := ⟨w.heap.size, 2, none⟩) (by show w.heap.size < _; omega) x2
          have fy0 := cell_grown (w := wc) (a := ⟨w.heap.size + 1, 0, none⟩) (by show w.heap.size + 1 < _; omega) y0
          have fy1 := cell_grown (w := wc) (a := ⟨w.heap.size + 1, 1, none⟩) (by show w.heap.size + 1 < _; omega) y1
          have fy2 := cell_grown (w := wc) (a := ⟨w.heap.size + 1, 2, none⟩) (by show w.heap.size + 1 < _; omega) y2
          have fz0 := cell_grown (w := wc) (a := ⟨wr.heap.size, 0, none⟩) hss z0
          have fz1 := cell_grown (w := wc) (a := ⟨wr.heap.size, 1, none⟩) hss z1
          have fz2 := cell_grown (w := wc) (a := ⟨wr.heap.size, 2, none⟩) hss z2
          have TX6 := grown_layS TX.out HLC.out
          have TY6 := grown_layS TY.out HLC.out
          have TC6 := grown_layS TC.out HLC.out
          have KC6 := grown_layS KC.out HLC.out
          clear x0 x1 x2 y0 y1 y2 z0 z1 z2 HXA HYB
          cases β with
          | true =>
            have hq := HE.out.1 rfl
            obtain rfl := HS.out.1 hq
            have hr := hC.out.1 hq
            subst hr
            clear hq hC HS HE
            go_quiet_grown ((first | (go_at_call 19; with_reducible (first | exact TX6 _ _ | exact TY6 _ _ | exact TC6 _ _)) | (go_at_call 24; with_reducible exact KC6 _ _)))
            go_wp2_with fail
            go_ret
            exact ⟨rfl, Lay.below (Keep.trans HL0.out (Keep.trans HLC.out (Lay.of_grown nq osq)))⟩
          | false =>
            have hq : ¬ x.labs = y.labs := fun h => by have := HE.out.2 h; cases this
            have hs := HS.out.2 hq
            have hr := hC.out.2 hq
            have hs2 : ¬ SX.toList = SY.toList := by rwa [beq_eq_false_iff_ne] at hs
            have hr2 : (r == 0) = false := by simpa using hr
            clear hq hC HS HE
            go_quiet_grown ((first | (go_at_call 19; with_reducible (first | exact TX6 _ _ | exact TY6 _ _ | exact TC6 _ _)) | (go_at_call 24; with_reducible exact KC6 _ _)))
            go_wp2_with fail
            go_ret
            exact ⟨rfl, Lay.below (Keep.trans HL0.out (Keep.trans HLC.out (Lay.of_grown nq osq)))⟩

end Go.Proofs.Ytgcldnojmdabpaa
