/-
  magpielaw04.RecordBack: the walk.
-/
import Derived.Test.YtgcldnojmdabpaaAlive
import Derived.Test.YtgcldnojmdabpaaBackMath
import Derived.Test.YtgcldnojmdabpaaOpen
import Derived.Test.YtgcldnojmdabpaaRefGood
namespace Go.Proofs.Ytgcldnojmdabpaa
open Go.RowKit Go

/-- What the operations of the region that compares bytes leave. -/
def BV (x y : Ent) (SX SY : ByteArray) (gx gy : Value) (β : Bool) (s0 : Nat) : Nat → Value → World → Prop
  | 0, v, _ => v = gy
  | 1, v, W => By (fun k => s0 ≤ k) W v y.bytes
  | 2, v, _ => v = .string SY
  | 3, v, _ => v = gx
  | 4, v, W => By (fun k => s0 ≤ k) W v x.bytes
  | 5, v, _ => v = .string SX
  | 6, v, _ => v = .bool β
  | 7, v, _ => v = gy
  | 8, v, _ => v = gx
  | 9, v, _ => v = .bool β
  | _, v, _ => v = .bool false

theorem BV.lay {x y : Ent} {SX SY : ByteArray} {gx gy : Value} {β : Bool} {s0 j : Nat} {v : Value} {W W' : World} (h : BV x y SX SY gx gy β s0 j v W) (hl : Lay W W') : BV x y SX SY gx gy β s0 j v W' := by
  by_cases j1 : j = 1
  · subst j1
    exact Rk.lay h hl
  by_cases j4 : j = 4
  · subst j4
    exact Rk.lay h hl
  · unfold BV at h ⊢
    split at h <;> first | exact h | exact absurd rfl j1 | exact absurd rfl j4

set_option maxHeartbeats 16000000 in
set_option maxRecDepth 100000 in
theorem back_walk (es : List Ent) (x : Ent) (v xl : Value) (w : World) (hv : EntsAt (fun _ => True) (fun _ => True) w v es) (hx : LabsAt (fun _ => True) w xl x.labs) (hws : ∀ e ∈ es, e.Wf) (hwx : x.Wf) :
    Calls Try.prog 7 #[v, x.val xl] w fun e w' => e = .returned (.bool true) ∧ Below w.heap.size w w' := by
  obtain ⟨al, cl, rfl, hl63, hal⟩ := id hv
  obtain ⟨a, ca, rfl, hx63, _⟩ := id hx
  obtain ⟨W0, hW0⟩ : ∃ W0, W0 = w.alloc (.cells #[.int .i64 x.tm, .slice a x.labs.length ca, .string x.line] 24) := ⟨_, rfl⟩
  have hl0 : Lay w W0 := by rw [hW0]; exact (Keep.refl _ _).alloc _
  have hbox : ∀ W, Lay W0 W →
      W.cell? ⟨w.heap.size, 0, none⟩ = some (.int .i64 x.tm) ∧ W.cell? ⟨w.heap.size, 1, none⟩ = some (.slice a x.labs.length ca) ∧ W.cell? ⟨w.heap.size, 2, none⟩ = some (.string x.line) := by
    intro W hl
    rw [hW0] at hl
    refine ⟨(hl.cell (by simp; try omega)).trans ?_, (hl.cell (by simp; try omega)).trans ?_, (hl.cell (by simp; try omega)).trans ?_⟩
    all_goals go_simp
  have hsz : w.heap.size + 1 ≤ W0.heap.size := by rw [hW0]; simp
  have HBOX := Lib.hid hbox
  have HL0 := Lib.hid hl0
  have HX := Lib.hid hx
  have HA := Lib.hid hal
  have HWS := Lib.hid hws
  have CX : Hid (∀ W, Lay W0 W → Calls Try.prog 11 #[.agg #[.int .i64 x.tm, .slice a x.labs.length ca, .string x.line]] W fun e w' => e = .returned (.bool x.big) ∧ Lay W w') := Lib.hid fun W hl => great_any (hx.lay (hl0.trans hl))
  have CM : Hid (∀ W, Lay W0 W → Calls Try.prog 26 #[.slice al es.length cl, .int .i64 30] W fun e w' => e = .returned (.bool (decide (30 < es.length) || es.any Ent.big)) ∧ Lay W w') := Lib.hid fun W hl => many_any (hv.lay (hl0.trans hl)) 30 (by omega)
  obtain ⟨SX, hSX⟩ := text_ex x.bytes
  have HSX := Lib.hid hSX
  have PX0 : Hid (x.big = false → ∀ W, Lay W0 W → Calls Try.prog 21 #[.slice none 0 0, .agg #[.int .i64 x.tm, .slice a x.labs.length ca, .string x.line]] W (PutPost (.slice none 0 0) x.bytes W)) := Lib.hid fun hb W hl =>
    put_any (l := []) (Rk.nil 1 (fun _ => True) _) (hx.lay (hl0.trans hl)) (fun k _ _ hat => not_at_nil k hat) (mod_of ⟨hwx.lo, hwx.hi⟩ hb).1 (by decide)
  have HMX : Hid (x.big = false → x.Mod) := Lib.hid fun hb => (mod_of ⟨hwx.lo, hwx.hi⟩ hb).1
  unfold Ent.val
  clear hx hv hbox hl0 hSX hal hws
  go_enter Try.func7, Try.ntmps7
  go_wp2_with fail
  rw [← hW0]
  clear hW0
  refine (alive_any W0).mono ?_
  rintro e w1 ⟨rfl, hl1⟩
  have HL1 := Lib.hid hl1
  obtain ⟨x0, x1, x2⟩ := HBOX.out w1 hl1
  clear hl1
  cases hmany : (decide (30 < es.length) || es.any Ent.big) with
  | true =>
    rw [hmany] at CM
    go_wp2_with fail
    refine (CM.out _ HL1.out).mono ?_
    rintro e w2 ⟨rfl, hl2⟩
    have HL2 := Lib.hid (Keep.trans HL1.out hl2)
    clear hl2
    go_wp2_with fail
    go_ret
    exact ⟨rfl, Lay.below (Keep.trans HL0.out HL2.out)⟩
  | false =>
    rw [hmany] at CM
    simp only [Bool.or_eq_false_iff, decide_eq_false_iff_not] at hmany
    have h30 : es.length ≤ 30 := by omega
    have HBIG : Hid (∀ y ∈ es, y.big = false) := Lib.hid fun y hy => by
      have := List.any_eq_false.1 hmany.2 y hy
      simpa using this
    clear hmany
    go_wp2_with fail
    refine (CM.out _ HL1.out).mono ?_
    rintro e w2 ⟨rfl, hl2⟩
    have HL2 := Lib.hid (Keep.trans HL1.out hl2)
    obtain ⟨x0, x1, x2⟩ := HBOX.out w2 HL2.out
    clear hl2 CM
    cases hbx : x.big with
    | true =>
      rw [hbx] at CX
      go_wp2_with fail
      refine (CX.out _ HL2.out).mono ?_
      rintro e w3 ⟨rfl, hl3⟩
      have HL3 := Lib.hid (Keep.trans HL2.out hl3)
      clear hl3
      go_wp2_with fail
      go_ret
      exact ⟨rfl, Lay.below (Keep.trans HL0.out HL3.out)⟩
    | false =>
      rw [hbx] at CX
      go_wp2_with fail
      refine (CX.out _ HL2.out).mono ?_
      rintro e w3 ⟨rfl, hl3⟩
      have HL3 := Lib.hid (Keep.trans HL2.out hl3)
      have PX1 := Lib.hid (PX0.out hbx)
      have HMX := Lib.hid (HMX.out hbx)
      clear hl3 CX x0 x1 x2 PX0
      go_wp2_with fail
      go_loopw [23, 5] (fun vi vb wr => ∃ (k : Nat), vi = .int .i64 k ∧ k ≤ es.length ∧ By (fun b => W0.heap.size ≤ b) wr vb (bytesF (es.take k)) ∧ Lay W0 wr ∧ (∀ y ∈ es.take k, y.ok = true)) (fun vi _ _ => es.length - (intOf vi).toNat)
      case atStart => exact ⟨0, rfl, Nat.zero_le _, by rw [List.take_zero]; exact Rk.nil 1 (fun b => W0.heap.size ≤ b) w3, HL3.out, fun y hy => by simp at hy⟩
      case round =>
        obtain ⟨k, rfl, hk, hby, hl, hoks⟩ := hrel
        have HBY5 := Lib.hid hby
        have HLR := Lib.hid hl
        have HOKS := Lib.hid hoks
        clear hby hoks
        by_cases hlt : k < es.length
        · rcases HA.out with h0 | ⟨bx, ox, rfl, hgx, hbx2, hcx⟩
          · exact absurd hlt (by rw [h0]; simp)
          obtain ⟨lv, c0, c1, c2, c3⟩ := hcx k hlt
          have hw := Keep.trans HL0.out hl
          have g0 := (Lay.cell hw hbx2).trans c0
          have g1 := (Lay.cell hw hbx2).trans c1
          have g2 := (Lay.cell hw hbx2).trans c2
          have htk := Lib.hid (List.take_succ_eq_append_getElem hlt)
          have hbigy := HBIG.out es[k] (List.getElem_mem hlt)
          have hwfy := HWS.out es[k] (List.getElem_mem hlt)
          generalize es[k] = y at g0 g1 g2 c0 c1 c2 c3 htk hbigy hwfy
          have HMY := Lib.hid (mod_of ⟨hwfy.lo, hwfy.hi⟩ hbigy).1
          obtain ⟨ay, cy, rfl, _⟩ := id c3
          have HYL := Lib.hid (c3.mono (H := fun b => b < w.heap.size) fun b _ h => h)
          have hlb : Lay w (wr.alloc (.cells #[.int .i64 y.tm, .slice ay y.labs.length cy, .string y.line] 24)) := Keep.alloc hw _
          have HLB := Lib.hid hlb
          have HG : Hid (Calls Try.prog 15 #[.agg #[.int .i64 y.tm, .slice ay y.labs.length cy, .string y.line]] (wr.alloc (.cells #[.int .i64 y.tm, .slice ay y.labs.length cy, .string y.line] 24)) fun e w' => e = .returned (.bool y.ok) ∧ Lay (wr.alloc (.cells #[.int .i64 y.tm, .slice ay y.labs.length cy, .string y.line] 24)) w') := Lib.hid (refGood_any (c3.lay hlb))
          have HBYB : Hid (∀ W, Lay (wr.alloc (.cells #[.int .i64 y.tm, .slice ay y.labs.length cy, .string y.line] 24)) W → W.cell? ⟨wr.heap.size, 0, none⟩ = some (.int .i64 y.tm) ∧ W.cell? ⟨wr.heap.size, 1, none⟩ = some (.slice ay y.labs.length cy) ∧ W.cell? ⟨wr.heap.size, 2, none⟩ = some (.string y.line)) := Lib.hid fun W hlW =>
            ⟨(Lay.cell hlW (by simp)).trans (by go_simp), (Lay.cell hlW (by simp)).trans (by go_simp), (Lay.cell hlW (by simp)).trans (by go_simp)⟩
          clear c0 c1 c2 c3 hcx hl hw hlb hwfy hbigy
          cases hok : y.ok with
          | false =>
            rw [hok] at HG
            go_wp2_with fail
            refine HG.out.mono ?_
            rintro e w2 ⟨rfl, hl2⟩
            have HL2 := Lib.hid (Keep.trans (Keep.alloc HLR.out _) hl2)
            clear hl2
            go_wp2_with fail
            go_ret
            exact ⟨rfl, Lay.below (Keep.trans HL0.out HL2.out)⟩
          | true =>
            rw [hok] at HG
            have HOK := Lib.hid hok
            clear hok
            go_wp2_with fail
            refine HG.out.mono ?_
            rintro e w2 ⟨rfl, hl2⟩
            have HLb2 := Lib.hid hl2
            have HL2 := Lib.hid (Keep.trans (Keep.alloc HLR.out _) hl2)
            have HBY : Hid (∀ W, Lay w2 W → W.cell? ⟨wr.heap.size, 0, none⟩ = some (.int .i64 y.tm) ∧ W.cell? ⟨wr.heap.size, 1, none⟩ = some (.slice ay y.labs.length cy) ∧ W.cell? ⟨wr.heap.size, 2, none⟩ = some (.string y.line)) := Lib.hid fun W hlW => HBYB.out W (Keep.trans HLb2.out hlW)
            have PX : Hid (∀ W, Lay w2 W → Calls Try.prog 21 #[.slice none 0 0, .agg #[.int .i64 x.tm, .slice a x.labs.length ca, .string x.line]] W (PutPost (.slice none 0 0) x.bytes W)) := Lib.hid fun W hlW => PX1.out W (Keep.trans HL2.out hlW)
            have PY : Hid (∀ W, Lay w2 W → Calls Try.prog 21 #[.slice none 0 0, .agg #[.int .i64 y.tm, .slice ay y.labs.length cy, .string y.line]] W (PutPost (.slice none 0 0) y.bytes W)) := Lib.hid fun W hlW =>
              put_any (l := []) (Rk.nil 1 (fun _ => True) _) (HYL.out.lay (HLB.out.trans (HLb2.out.trans hlW))) (fun k _ _ hat => not_at_nil k hat) HMY.out (by decide)
            have SAME0 : Hid (∀ W, Lay w2 W → Calls Try.prog 33 #[.agg #[.int .i64 y.tm, .slice ay y.labs.length cy, .string y.line], .agg #[.int .i64 x.tm, .slice a x.labs.length ca, .string x.line]] W fun e w' => e = .returned (.bool (decide (entC y x = 0))) ∧ Lay W w') := Lib.hid fun W hlW =>
              same_any (HYL.out.lay (HLB.out.trans (HLb2.out.trans hlW))) (HX.out.lay (HL0.out.trans (HL2.out.trans hlW)))
            obtain ⟨SY, hSY⟩ := text_ex y.bytes
            have HSY := Lib.hid hSY
            have heq : (SY.toList == SX.toList) = decide (entC y x = 0) := by
              rw [Bool.eq_iff_iff, beq_iff_eq, decide_eq_true_eq]
              constructor
              · intro h
                have h2 : y.bytes ++ [] = x.bytes ++ [] := by
                  rw [List.append_nil, List.append_nil, ← hSY, ← HSX.out, ← Lib.toList_data, ← Lib.toList_data, h]
                obtain ⟨rfl, _⟩ := bytes_inj HMY.out HMX.out h2
                exact entC_lc.refl _
              · intro h
                have h2 := entC_lc.eq _ _ h
                rw [Lib.toList_data, Lib.toList_data, hSY, HSX.out, h2]
            have HEQ0 := Lib.hid heq
            obtain ⟨β, hβ⟩ : ∃ β, β = decide (entC y x = 0) := ⟨_, rfl⟩
            have SAME : Hid (∀ W, Lay w2 W → Calls Try.prog 33 #[.agg #[.int .i64 y.tm, .slice ay y.labs.length cy, .string y.line], .agg #[.int .i64 x.tm, .slice a x.labs.length ca, .string x.line]] W fun e w' => e = .returned (.bool β) ∧ Lay W w') := by rw [hβ]; exact SAME0
            have HEQ : Hid ((SY.toList == SX.toList) = β) := by rw [hβ]; exact HEQ0
            have HS2 : Hid (W0.heap.size ≤ w2.heap.size) := Lib.hid HL2.out.size
            have HBY52 : Hid (By (fun b => W0.heap.size ≤ b) w2 u5 (bytesF (es.take k))) := Lib.hid (Rk.lay (Rk.alloc HBY5.out _) hl2)
            clear hl2 hSY heq hβ HEQ0 SAME0 HG HBY5 g0 g1 g2
            go_wp2_with fail
            refine wp_region_flow (by kernel_rfl) (fun W => Lay w2 W) (fun _ W W' => Lay W W') (BV x y SX SY (.agg #[.int .i64 x.tm, .slice a x.labs.length ca, .string x.line]) (.agg #[.int .i64 y.tm, .slice ay y.labs.length cy, .string y.line]) β w2.heap.size) (fun j => j == 10) (by kernel_rfl) (by kernel_rfl) (fun _ _ _ _ _ _ _ _ h _ hl => h.lay hl) (Keep.refl _ _).drew ?step ?fin
            case step =>
              refine ⟨?_, ?_, ?_, ?_, ?_, ?_, ?_, ?_, ?_, ?_, ?_, trivial⟩
              · intro ys A W hA hI hd K hK
                have e7 : A.tmps.getD 7 undef = .pointer (some ⟨wr.heap.size, 0, none⟩) := hA 7 (Nat.le_of_ble_eq_true rfl)
                refine step_run (.inl rfl) ?_
                clear hA hd
                obtain ⟨k0, k1, k2⟩ := HBY.out W hI
                go_simp
                exact hK _ _ hI (Keep.refl _ _) rfl
              · intro ys A W hA hI hd K hK
                have e30 : A.tmps.getD 30 undef = .agg #[.int .i64 y.tm, .slice ay y.labs.length cy, .string y.line] := (hA 30 (Nat.le_of_ble_eq_true rfl)).trans (hd ⟨0, .data⟩ (by simp) rfl)
                refine step_run (.inl rfl) ?_
                clear hA hd
                go_simp
                refine (PY.out _ hI).mono ?_
                rintro e w' ⟨v', rfl, hb, hk⟩
                have hl := lay_nil hk
                exact hK _ _ (Keep.trans hI hl) hl (hb.mono fun k hk _ => hk.elim (fun h => absurd h (not_at_nil k)) (fun h => Nat.le_trans hI.size h))
              · intro ys A W hA hI hd K hK
                have e31 : A.tmps.getD 31 undef = ys 1 := hA 31 (Nat.le_of_ble_eq_true rfl)
                have hb1 : By (fun k => w2.heap.size ≤ k) W (ys 1) y.bytes := hd ⟨1, .data⟩ (by simp) rfl
                refine step_run (.inl rfl) ?_
                clear hA hd
                have hrun := bs_string_of hb1.bs SY HSY.out
                go_simp
                exact hK _ _ hI (Keep.refl _ _) rfl
              · intro ys A W hA hI hd K hK
                have e3 : A.tmps.getD 3 undef = .pointer (some ⟨w.heap.size, 0, none⟩) := hA 3 (Nat.le_of_ble_eq_true rfl)
                refine step_run (.inl rfl) ?_
                clear hA hd
                obtain ⟨k0, k1, k2⟩ := HBOX.out W (Keep.trans HL2.out hI)
                go_simp
                exact hK _ _ hI (Keep.refl _ _) rfl
              · intro ys A W hA hI hd K hK
                have e33 : A.tmps.getD 33 undef = .agg #[.int .i64 x.tm, .slice a x.labs.length ca, .string x.line] := (hA 33 (Nat.le_of_ble_eq_true rfl)).trans (hd ⟨3, .data⟩ (by simp) rfl)
                refine step_run (.inl rfl) ?_
                clear hA hd
                go_simp
                refine (PX.out _ hI).mono ?_
                rintro e w' ⟨v', rfl, hb, hk⟩
                have hl := lay_nil hk
                exact hK _ _ (Keep.trans hI hl) hl (hb.mono fun k hk _ => hk.elim (fun h => absurd h (not_at_nil k)) (fun h => Nat.le_trans hI.size h))
              · intro ys A W hA hI hd K hK
                have e34 : A.tmps.getD 34 undef = ys 4 := hA 34 (Nat.le_of_ble_eq_true rfl)
                have hb4 : By (fun k => w2.heap.size ≤ k) W (ys 4) x.bytes := hd ⟨4, .data⟩ (by simp) rfl
                refine step_run (.inl rfl) ?_
                clear hA hd
                have hrun := bs_string_of hb4.bs SX HSX.out
                go_simp
                exact hK _ _ hI (Keep.refl _ _) rfl
              · intro ys A W hA hI hd K hK
                have e32 : A.tmps.getD 32 undef = .string SY := (hA 32 (Nat.le_of_ble_eq_true rfl)).trans (hd ⟨2, .data⟩ (by simp) rfl)
                have e35 : A.tmps.getD 35 undef = .string SX := (hA 35 (Nat.le_of_ble_eq_true rfl)).trans (hd ⟨5, .data⟩ (by simp) rfl)
                refine step_run (.inl rfl) ?_
                clear hA hd
                go_simp
                exact hK _ _ hI (Keep.refl _ _) (congrArg Value.bool HEQ.out)
              · intro ys A W hA hI hd K hK
                have e7 : A.tmps.getD 7 undef = .pointer (some ⟨wr.heap.size, 0, none⟩) := hA 7 (Nat.le_of_ble_eq_true rfl)
                refine step_run (.inl rfl) ?_
                clear hA hd
                obtain ⟨k0, k1, k2⟩ := HBY.out W hI
                go_simp
                exact hK _ _ hI (Keep.refl _ _) rfl
              · intro ys A W hA hI hd K hK
                have e3 : A.tmps.getD 3 undef = .pointer (some ⟨w.heap.size, 0, none⟩) := hA 3 (Nat.le_of_ble_eq_true rfl)
                refine step_run (.inl rfl) ?_
                clear hA hd
                obtain ⟨k0, k1, k2⟩ := HBOX.out W (Keep.trans HL2.out hI)
                go_simp
                exact hK _ _ hI (Keep.refl _ _) rfl
              · intro ys A W hA hI hd K hK
                have e37 : A.tmps.getD 37 undef = .agg #[.int .i64 y.tm, .slice ay y.labs.length cy, .string y.line] := (hA 37 (Nat.le_of_ble_eq_true rfl)).trans (hd ⟨7, .data⟩ (by simp) rfl)
                have e38 : A.tmps.getD 38 undef = .agg #[.int .i64 x.tm, .slice a x.labs.length ca, .string x.line] := (hA 38 (Nat.le_of_ble_eq_true rfl)).trans (hd ⟨8, .data⟩ (by simp) rfl)
                refine step_run (.inl rfl) ?_
                clear hA hd
                go_simp
                refine (SAME.out _ hI).mono ?_
                rintro e w' ⟨rfl, hl⟩
                exact hK _ _ (Keep.trans hI hl) hl rfl
              · intro ys A W hA hI hd K hK
                have e36 : A.tmps.getD 36 undef = .bool β := (hA 36 (Nat.le_of_ble_eq_true rfl)).trans (hd ⟨6, .data⟩ (by simp) rfl)
                have e39 : A.tmps.getD 39 undef = .bool β := (hA 39 (Nat.le_of_ble_eq_true rfl)).trans (hd ⟨9, .data⟩ (by simp) rfl)
                refine step_run (.inl rfl) ?_
                clear hA hd
                go_simp
                exact hK _ _ hI (Keep.refl _ _) rfl
            case fin =>
              intro ys W hI hF
              have hv : ys 10 = .bool false := hF 10 (Nat.le_of_ble_eq_true rfl) rfl
              have HI := Lib.hid hI
              obtain ⟨k0, k1, k2⟩ := HBY.out W hI
              have hby5 := HBY52.out.lay hI
              have HPUT : Hid (Calls Try.prog 21 #[u5, .agg #[.int .i64 y.tm, .slice ay y.labs.length cy, .string y.line]] W (PutPost u5 (bytesF (es.take k) ++ y.bytes) W)) := Lib.hid (put_any hby5 (HYL.out.lay (HLB.out.trans (HLb2.out.trans hI))) (fun b hb _ hat => by
                have h1 := (hby5.at hat).1
                omega) HMY.out (by
                have h1 := bytesF_len (es.take k) (fun z hz => small_len ⟨(HWS.out z (List.mem_of_mem_take hz)).lo, (HWS.out z (List.mem_of_mem_take hz)).hi⟩ (HBIG.out z (List.mem_of_mem_take hz)))
                rw [List.length_take] at h1
                omega))
              have HBYW := Lib.hid hby5
              clear hI hF hby5
              simp only [putsFrom]
              simp only [hv, Act.put, List.setIfInBounds_toArray, List.set_cons_succ, List.set_cons_zero]
              go_wp2_with fail
              refine HPUT.out.mono ?_
              rintro e w4 ⟨v', rfl, hb4, hk4⟩
              have HB4 : Hid (By (fun b => W0.heap.size ≤ b) w4 v' (bytesF (es.take (k + 1)))) := Lib.hid (by
                rw [htk.out, bytesF_append]
                have e1 : bytesF [y] = y.bytes := by simp [bytesF]
                rw [e1]
                exact hb4.mono fun b hb _ => hb.elim (fun h => (HBYW.out.at h).1) (fun h => by have := HS2.out; have := HI.out.size; omega))
              have HL4 : Hid (Lay W0 w4) := Lib.hid (lay_keepB (Keep.trans HL2.out HI.out) hk4 fun b hb => (HBYW.out.at hb).1)
              clear hb4 hk4 k0 k1 k2
              go_wp2_with fail
              go_roundw
              case rel =>
                refine ⟨k + 1, by go_num, by omega, HB4.out, HL4.out, fun z hz => ?_⟩
                rw [htk.out, List.mem_append, List.mem_singleton] at hz
                rcases hz with hz | rfl
                · exact HOKS.out z hz
                · exact HOK.out
              case measure => simp [intOf]; omega
        · obtain rfl : k = es.length := by omega
          obtain ⟨SS, hSS⟩ := text_ex (bytesF es)
          have hby := HBY5.out
          rw [List.take_length] at hby
          have hoks := HOKS.out
          rw [List.take_length] at hoks
          have hrun := bs_string_of hby.bs SS hSS
          have HFROM := Lib.hid (from_any SS (by
            rw [← dlen, hSS]
            have h1 := bytesF_len es (fun z hz => small_len ⟨(HWS.out z hz).lo, (HWS.out z hz).hi⟩ (HBIG.out z hz))
            omega) wr)
          have HOKA := Lib.hid hoks
          have HSS := Lib.hid hSS
          have hwr : w.heap.size ≤ wr.heap.size := by have := HL0.out.size; have := hl.size; omega
          clear hby hoks hSS hl HBY5
          go_wp2_with fail
          refine HFROM.out.mono ?_
          rintro e w5 ⟨rfl, _, hrd5, hbl5⟩
          have HRD5 := Lib.hid hrd5
          have HBL5 : Hid (Below w.heap.size w w5) := Lib.hid ((below_lay (Below.refl _ _) (Keep.trans HL0.out HLR.out) (Nat.le_refl _)).trans (hbl5.mono hwr))
          clear hrd5 hbl5 HFROM hrun
          go_wp2_with fail
          generalize wr.heap.size = gq at HRD5 hwr ⊢
          go_loopw [50] (fun vi wr => ∃ (k : Nat), vi = .int .i64 k ∧ k ≤ es.length ∧ Rd wr gq (bytesF (es.drop k)) false ∧ Below w.heap.size w wr) (fun vi _ => es.length - (intOf vi).toNat)
          case atStart => exact ⟨0, rfl, Nat.zero_le _, by rw [List.drop_zero, ← HSS.out]; exact HRD5.out, HBL5.out⟩
          case round =>
            obtain ⟨k, rfl, hk, hrd, hbl⟩ := hrel
            have HRD := Lib.hid hrd
            have HBL := Lib.hid hbl
            by_cases hlt : k < es.length
            · rcases HA.out with h0 | ⟨bx, ox, rfl, hgx, hbx2, hcx⟩
              · exact absurd hlt (by rw [h0]; simp)
              obtain ⟨lv, c0, c1, c2, c3⟩ := hcx k hlt
              have g0 := (hbl.cell (p := ⟨bx, ox + k * 3, none⟩) hbx2).trans c0
              have g1 := (hbl.cell (p := ⟨bx, ox + k * 3 + 1, none⟩) hbx2).trans c1
              have g2 := (hbl.cell (p := ⟨bx, ox + k * 3 + 2, none⟩) hbx2).trans c2
              have hdr := List.drop_eq_getElem_cons hlt
              have hwfy := HWS.out es[k] (List.getElem_mem hlt)
              have hoky := HOKA.out es[k] (List.getElem_mem hlt)
              generalize es[k] = y at g0 g1 g2 c0 c1 c2 c3 hdr hwfy hoky
              obtain ⟨ay, cy, rfl, _⟩ := id c3
              have hbytes : bytesF (es.drop k) = y.bytes ++ bytesF (es.drop (k + 1)) := by rw [hdr]; rfl
              have hlb : Below w.heap.size w (wr.alloc (.cells #[.int .i64 y.tm, .slice ay y.labs.length cy, .string y.line] 24)) := hbl.alloc (by have := hbl.size; omega) _
              have HYL := Lib.hid c3
              have HLB := Lib.hid hlb
              have HOKY := Lib.hid hoky
              have HWFY := Lib.hid hwfy
              have HBYT := Lib.hid hbytes
              have HGET := Lib.hid (get_any gq (bytesF (es.drop k)) false _ (hrd.alloc (.cells #[.int .i64 y.tm, .slice ay y.labs.length cy, .string y.line] 24)))
              have hgq : gq < wr.heap.size := hrd.lt
              have hqq : w.heap.size ≤ wr.heap.size := hbl.size
              clear c0 c1 c2 c3 hcx hdr hrd hbl hlb hoky hwfy hbytes
              go_wp2_with fail
              refine HGET.out.mono ?_
              rintro e w6 ⟨x', lv', l', bad', hre, _, hrd6, hch6, hlabs6, rfl⟩
              obtain ⟨o1, o2, o3⟩ := ok_small HOKY.out
              obtain ⟨rfl, rfl, rfl⟩ := re_put o1 o2 o3 ⟨HWFY.out.lo, HWFY.out.hi⟩ HBYT.out hre
              rw [HOKY.out]
              obtain ⟨a6, c6, rfl, _⟩ := id hlabs6
              have hbb := hch6.block wr.heap.size (by simp) (by omega)
              have y0 : w6.cell? ⟨wr.heap.size, 0, none⟩ = some (.int .i64 x'.tm) := (World.cell?_of_block (a := ⟨wr.heap.size, 0, none⟩) hbb).trans (by go_simp)
              have y1 : w6.cell? ⟨wr.heap.size, 1, none⟩ = some (.slice ay x'.labs.length cy) := (World.cell?_of_block (a := ⟨wr.heap.size, 1, none⟩) hbb).trans (by go_simp)
              have y2 : w6.cell? ⟨wr.heap.size, 2, none⟩ = some (.string x'.line) := (World.cell?_of_block (a := ⟨wr.heap.size, 2, none⟩) hbb).trans (by go_simp)
              have hs6 : wr.heap.size < w6.heap.size := by have := hch6.size; simp at this; omega
              have hn6 : ¬ wr.heap.size = w6.heap.size := by omega
              have HBL6 : Hid (Below w.heap.size w w6) := Lib.hid (HLB.out.trans (hch6.below hwr (by simp; omega)))
              have HRD6 := Lib.hid hrd6
              have HSAME : Hid (Calls Try.prog 33 #[.agg #[.int .i64 x'.tm, .slice ay x'.labs.length cy, .string x'.line], .agg #[.int .i64 x'.tm, .slice a6 x'.labs.length c6, .string x'.line]] (w6.alloc (.cells #[.int .i64 x'.tm, .slice a6 x'.labs.length c6, .string x'.line] 24)) fun e w' => e = .returned (.bool true) ∧ Lay (w6.alloc (.cells #[.int .i64 x'.tm, .slice a6 x'.labs.length c6, .string x'.line] 24)) w') := Lib.hid (by
                have h1 := same_any ((HYL.out.below HBL6.out (fun b _ h => h)).alloc (.cells #[.int .i64 x'.tm, .slice a6 x'.labs.length c6, .string x'.line] 24)) (hlabs6.alloc (.cells #[.int .i64 x'.tm, .slice a6 x'.labs.length c6, .string x'.line] 24))
                rw [same_self] at h1
                exact h1)
              unfold Ent.val
              clear hre hrd6 hch6 hlabs6 hbb HGET g0 g1 g2
              simp only [Bool.not_false, Bool.and_self, if_true]
              go_wp2_with fail
              refine HSAME.out.mono ?_
              rintro e w7 ⟨rfl, hl7⟩
              have HL7 := Lib.hid (Keep.trans ((Keep.refl _ w6).alloc _) hl7)
              clear hl7
              go_wp2_with fail
              go_roundw
              case rel => exact ⟨k + 1, by go_num, by omega, HRD6.out.carry (Lay.block HL7.out HRD6.out.lt), below_lay HBL6.out HL7.out (by omega)⟩
              case measure => simp [intOf]; omega
            · obtain rfl : k = es.length := by omega
              have hrde := HRD.out
              rw [List.drop_length] at hrde
              have HEND := Lib.hid (end_any _ _ _ _ hrde)
              clear hrd hbl hrde
              go_wp2_with fail
              refine HEND.out.mono ?_
              rintro e w8 ⟨rfl, rfl⟩
              go_wp2_with fail
              go_ret
              exact ⟨rfl, HBL.out⟩

end Go.Proofs.Ytgcldnojmdabpaa
