/-
  Ga16.
-/
import Derived.Test.YtoobjjpheegmdaaGreatJ48
import Derived.Test.YtoobjjpheegmdaaGreatJ49
import Derived.Test.YtoobjjpheegmdaaGreatJ45
import Derived.Test.YtoobjjpheegmdaaGreatJ50
import Derived.Test.YtoobjjpheegmdaaGreatJ46
namespace Go.Proofs.YtoobjjpheegmdaaGreat.E4
open Go.RowKit Go
set_option maxHeartbeats 8000000 in
set_option maxRecDepth 100000 in
theorem alike_walk16 {w : World} {kv cv : Value} {l : List Int} {S : List Cl} (h : IntsAt w kv l) (hs : CallsAt w cv S) (hm : MaxI w) : Calls Tryz.prog 3 #[kv, cv] w fun x w' => x = .returned (.bool true) ∧ Below w.heap.size w w' := by
  have hmx : Tryz.prog.follows .mixedOrders = true := by kernel_rfl
  obtain ⟨ka, kc, rfl, hk63, hkce⟩ := id h
  obtain ⟨ca, cc, rfl, hc63, hcce⟩ := id hs
  have HAL := Lib.hid (aliveG_any w hm)
  have HM := Lib.hid hm
  have HI : Hid (∀ W, Below w.heap.size w W → IntsAt W (.slice ka l.length kc) l) := Lib.hid fun W hW => by
    obtain ⟨a', c', hv, h1, h2 | ⟨b, off, ha, hlt, hc⟩⟩ := h
    · exact ⟨a', c', hv, h1, .inl h2⟩
    · exact ⟨a', c', hv, h1, .inr ⟨b, off, ha, Nat.lt_of_lt_of_le hlt hW.size, fun i hi => (World.cell?_of_block (a := ⟨b, off + i, none⟩) (hW.block b hlt)).trans (hc i hi)⟩⟩
  have HS := Lib.hid hs
  have HKCE := Lib.hid hkce
  have HCCE := Lib.hid hcce
  clear hm h hs hkce hcce
  go_enter Tryz.func3, Tryz.ntmps3
  go_upto_region 3 with (go_at_call 6; refine HAL.out.mono ?_; rintro x wa ⟨rfl, hba⟩)
  have HBA := Lib.hid hba
  have HGT := Lib.hid (lawGreat_any (HS.out.below hba) 130 (by omega))
  clear hba HAL
  by_cases hl20 : 20 < l.length
  · have hl2 : (20 : Int) < (l.length : Int) := by omega
    go_wp2_with fail
    go_ret
    exact ⟨rfl, HBA.out⟩
  have hl2 : (l.length : Int) ≤ 20 := by omega
  cases hgt : bigS S 130 with
  | true =>
    rw [hgt] at HGT
    clear hgt
    go_wp2_with (go_at_call 7; refine HGT.out.mono ?_; rintro x wb ⟨rfl, hbb⟩)
    go_ret
    exact ⟨rfl, below_mid HBA.out hbb⟩
  | false =>
    rw [hgt] at HGT
    have HSL : Hid (S.length ≤ 130) := Lib.hid (by
      unfold bigS at hgt
      rw [Bool.or_eq_false_iff, decide_eq_false_iff_not] at hgt
      omega)
    clear hgt
    go_upto_region 5 with (go_at_call 7; refine HGT.out.mono ?_; rintro x wb ⟨rfl, hbb⟩)
    have HBB := Lib.hid (below_mid HBA.out hbb)
    have HNW := Lib.hid (newG_any (HI.out wb HBB.out) (HM.out.below1 HBB.out))
    clear hbb HGT
    go_wp2_with fail
    refine HNW.out.mono ?_
    rintro x wd ⟨hbd, ⟨-, rfl⟩ | ⟨-, g, ρ, P0, rfl, hg, hz, hf⟩⟩
    · have HBD := Lib.hid (below_mid HBB.out hbd)
      clear hbd
      go_wp2_with fail
      go_ret
      exact ⟨rfl, HBD.out⟩
    have HGD := Lib.hid hg
    have HBD := Lib.hid (below_mid HBB.out hbd)
    have HZ : Hid (∀ b, b < w.heap.size → ρ b = 0) := Lib.hid fun b hb => hz b (Nat.lt_of_lt_of_le hb HBB.out.size)
    have HF := Lib.hid (Kin.of hf)
    clear hbd hg hz hf HNW
    go_wp2_with fail
    go_loopw [33] (fun vi wr => ∃ (i : Nat) (ρi : Nat → Nat) (lg : List Ent) (P : List Rep), vi = .int .i64 i ∧ i ≤ S.length ∧ GAt ρi wr g lg P ∧ Turns ρ ρi wd wr ∧ Kin l (1 + i) P) (fun vi _ => S.length - (intOf vi).toNat)
    case atStart => exact ⟨0, ρ, [], P0, rfl, Nat.zero_le _, HGD.out, Turns.of (Below.refl _ _), HF.out⟩
    case round =>
      obtain ⟨i, ρi, lg, P, rfl, hi, hgr, htr, hkin⟩ := hrel
      have HGR := Lib.hid hgr
      have HTR := Lib.hid htr
      have HKIN := Lib.hid hkin
      have hbr : Below w.heap.size w wr := HBD.out.trans (htr.below HBD.out.size HZ.out)
      have HBR := Lib.hid hbr
      have hsl := HSL.out
      clear hgr htr hkin
      by_cases hlt : i < S.length
      · obtain ⟨b, off, rfl, hblt, hx⟩ := HCCE.out.resolve_left fun e => by rw [e] at hlt; exact absurd hlt (Nat.not_lt_zero _)
        obtain ⟨lv, av, mv, ml, hc⟩ := hx i hlt
        generalize S[i] = cl at hc
        have hlw : LabsAt (fun b => b < w.heap.size) w lv cl.e.labs := hc.hl.mono fun b _ hb => hb
        obtain ⟨la, lc, hlv, _⟩ := id hc.hl
        obtain ⟨aa, ac, hav, _⟩ := id hc.ha
        obtain ⟨ma, mc, hmv, _⟩ := id hc.hb
        obtain ⟨ya, yc, hml, _⟩ := id hc.hm
        subst hlv hav hmv hml
        have cel : ∀ j (hj : j < (cl.cells (.slice la cl.e.labs.length lc) (.slice aa cl.a.all.length ac) (.slice ma cl.a.mat.length mc) (.slice ya cl.m.labs.length yc)).length), wr.cell? ⟨b, off + i * 15 + j, none⟩ = _ := fun j hj => (World.cell?_of_block (a := ⟨b, off + i * 15 + j, none⟩) (hbr.block b hblt)).trans (hc.x j hj)
        have x0 := cel 0 (Nat.le_of_ble_eq_true rfl)
        have x1 := cel 1 (Nat.le_of_ble_eq_true rfl)
        have x2 := cel 2 (Nat.le_of_ble_eq_true rfl)
        have x3 := cel 3 (Nat.le_of_ble_eq_true rfl)
        have x4 := cel 4 (Nat.le_of_ble_eq_true rfl)
        have x5 := cel 5 (Nat.le_of_ble_eq_true rfl)
        have x6 := cel 6 (Nat.le_of_ble_eq_true rfl)
        have x7 := cel 7 (Nat.le_of_ble_eq_true rfl)
        have x8 := cel 8 (Nat.le_of_ble_eq_true rfl)
        have x9 := cel 9 (Nat.le_of_ble_eq_true rfl)
        have x10 := cel 10 (Nat.le_of_ble_eq_true rfl)
        have x11 := cel 11 (Nat.le_of_ble_eq_true rfl)
        have x12 := cel 12 (Nat.le_of_ble_eq_true rfl)
        have x13 := cel 13 (Nat.le_of_ble_eq_true rfl)
        have x14 := cel 14 (Nat.le_of_ble_eq_true rfl)
        simp only [Cl.cells, List.getElem_cons_succ, List.getElem_cons_zero, Nat.add_zero] at x0 x1 x2 x3 x4 x5 x6 x7 x8 x9 x10 x11 x12 x13 x14
        obtain ⟨w5, hw5⟩ : ∃ w5, w5 = wr.alloc (.cells #[.int .i64 cl.kd, .int .i64 cl.i, .int .i64 cl.e.tm, .slice la cl.e.labs.length lc, .string cl.e.line, .int .i64 cl.a.kd, .int .i64 cl.a.src, .int .i64 cl.a.til, .slice aa cl.a.all.length ac, .slice ma cl.a.mat.length mc, .bool cl.has, .int .i64 cl.m.tm, .slice ya cl.m.labs.length yc, .string cl.m.line, .int .i64 cl.n] 40) := ⟨_, rfl⟩
        have hb5 : Below wr.heap.size wr w5 := by rw [hw5]; exact (Below.refl _ wr).alloc (Nat.le_refl _) _
        have hk5 : Bl w5 wr.heap.size 40 #[.int .i64 cl.kd, .int .i64 cl.i, .int .i64 cl.e.tm, .slice la cl.e.labs.length lc, .string cl.e.line, .int .i64 cl.a.kd, .int .i64 cl.a.src, .int .i64 cl.a.til, .slice aa cl.a.all.length ac, .slice ma cl.a.mat.length mc, .bool cl.has, .int .i64 cl.m.tm, .slice ya cl.m.labs.length yc, .string cl.m.line, .int .i64 cl.n] := by rw [hw5]; exact Bl.new wr 40 _
        have u0 := hk5.cell 0
        have u1 := hk5.cell 1
        have u2 := hk5.cell 2
        have u3 := hk5.cell 3
        have u4 := hk5.cell 4
        simp only [List.getElem?_toArray, List.getElem?_cons_succ, List.getElem?_cons_zero] at u0 u1 u2 u3 u4
        have HW5 := Lib.hid hw5.symm
        have hg5 := HGR.out.below hb5
        have hz0 : ∀ b, b < w.heap.size → ρi b = 0 := fun b hb => (HTR.out.ag b (Nat.lt_of_lt_of_le hb HBD.out.size)).trans (HZ.out b hb)
        have hl5 : LabsAt (fun b => b < w.heap.size) w5 (.slice la cl.e.labs.length lc) cl.e.labs := (hlw.carry hbr.size fun b hb _ => hbr.block b hb).below1 hb5
        have HT5 := Lib.hid (HTR.out.trans (Turns.of hb5))
        have HTK := Lib.hid (gTake_any hg5 hl5 hz0)
        have HCR := Lib.hid (gCrash_any hg5 cl.i)
        have HRS := Lib.hid (gRestart_any hg5 (fun x hx => by have := HKIN.out.ep x hx; omega) cl.i)
        have HG5 := Lib.hid hg5
        simp only [Ent.val] at HTK
        clear hw5 hb5 hk5 hc hx hlw hl5 hz0 hbr cel hg5
        go_upto_region 11 with fail
        rw [HW5.out]
        clear x0 x1 x2 x3 x4 x5 x6 x7 x8 x9 x10 x11 x12 x13 x14
        by_cases k0 : cl.kd = 0
        · have e0 : (cl.kd == 0) = true := by simp [k0]
          clear k0
          go_wp2_with (go_at_call 9; refine HTK.out.mono ?_; rintro x w6 ⟨ρ6, rfl, hg6, ht6⟩)
          have HG6 := Lib.hid hg6
          have HT6 := Lib.hid (HT5.out.trans ht6)
          clear hg6 ht6 u0 u1 u2 u3 u4
          go_wp2
          go_roundw
          case rel => exact ⟨i + 1, ρ6, _, P, by go_num, by omega, HG6.out, HT6.out, HKIN.out.mono (by omega)⟩
          case measure => simp [intOf]; omega
        by_cases k1 : cl.kd = 1
        · have e0 : (cl.kd == 0) = false := by rw [beq_eq_false_iff_ne]; exact k0
          have e1 : (cl.kd == 1) = true := by simp [k1]
          clear k0 k1
          go_wp2_with (go_at_call 10; refine HCR.out.mono ?_; rintro x w6 ⟨rfl, hg6, ht6⟩)
          have HG6 := Lib.hid hg6
          have HT6 := Lib.hid (HT5.out.trans ht6)
          clear hg6 ht6 u0 u1 u2 u3 u4
          go_wp2
          go_roundw
          case rel => exact ⟨i + 1, ρi, _, _, by go_num, by omega, HG6.out, HT6.out, (HKIN.out.crash cl.i).mono (by omega)⟩
          case measure => simp [intOf]; omega
        by_cases k2 : cl.kd = 2
        · have e0 : (cl.kd == 0) = false := by rw [beq_eq_false_iff_ne]; exact k0
          have e1 : (cl.kd == 1) = false := by rw [beq_eq_false_iff_ne]; exact k1
          have e2 : (cl.kd == 2) = true := by simp [k2]
          clear k0 k1 k2
          go_wp2_with (go_at_call 11; refine HRS.out.mono ?_; rintro x w6 ⟨rfl, ρ6, ⟨gb, hg6⟩, ht6⟩)
          have HG6 := Lib.hid hg6
          have HT6 := Lib.hid (HT5.out.trans ht6)
          clear hg6 ht6 u0 u1 u2 u3 u4
          go_wp2
          go_roundw
          case rel => exact ⟨i + 1, ρ6, _, _, by go_num, by omega, HG6.out, HT6.out, (HKIN.out.restart cl.i gb).mono (by omega)⟩
          case measure => simp [intOf]; omega
        have e0 : (cl.kd == 0) = false := by rw [beq_eq_false_iff_ne]; exact k0
        have e1 : (cl.kd == 1) = false := by rw [beq_eq_false_iff_ne]; exact k1
        have e2 : (cl.kd == 2) = false := by rw [beq_eq_false_iff_ne]; exact k2
        clear k0 k1 k2
        go_wp2_with fail
        go_roundw
        case rel => exact ⟨i + 1, ρi, _, _, by go_num, by omega, HG5.out, HT5.out, HKIN.out.mono (by omega)⟩
        case measure => simp [intOf]; omega
      · obtain rfl : i = S.length := by omega
        clear hlt hbr
        obtain ⟨wz, rfl⟩ : ∃ wz, wz = wr := ⟨_, rfl⟩
        have HLOG := Lib.hid (gLog_any HGR.out)
        go_wp2_with fail
        refine HLOG.out.mono ?_
        rintro x we ⟨vl, rfl, hel, hbe⟩
        obtain ⟨lv, rv, R, hG⟩ := id HGR.out
        have HOKG : Hid ((∀ x ∈ lg, x.ok = true) ∧ lg.length ≤ 100 ∧ P.length ≤ 3 ∧ ∀ x ∈ P, x.k = 1 ∨ x.k = 2 ∨ x.k = 3) := Lib.hid ⟨hG.ok, hG.hl, hG.n, hG.k⟩
        have HSRT := Lib.hid (refSort_any false hel (by have := hG.hl; omega))
        have HBE := Lib.hid hbe
        obtain ⟨vla, vlc, rfl, _⟩ := id hel
        clear hel hbe hG HLOG
        go_wp2_with fail
        refine HSRT.out.mono ?_
        rintro x wf ⟨vs, R', rfl, hrk, hrl, hso, hlf⟩
        have hent := hrk.ents hrl
        have HBF := Lib.hid (below_mid HBE.out (lay_below hlf))
        obtain ⟨srt, hsr⟩ : ∃ srt, srt = R'.map Prod.snd := ⟨_, rfl⟩
        rw [← hsr] at hent hso
        obtain ⟨sa, sc, rfl, _⟩ := id hent
        have HENT : Hid (EntsAt (fun _ => True) (fun _ => True) wf (.slice sa srt.length sc) srt) := Lib.hid hent.any
        have HSO : Hid (srtOf false lg = srt) := Lib.hid (srtOf_eq hso)
        clear hrk hrl hlf hent hso hsr HSRT
        go_wp2_with fail
        go_loopw [63] (fun vi wr => ∃ j : Nat, vi = .int .i64 j ∧ j ≤ l.length ∧ Below wf.heap.size wf wr) (fun vi _ => l.length - (intOf vi).toNat)
        case atStart => exact ⟨0, rfl, Nat.zero_le _, Below.refl _ _⟩
        case round =>
          obtain ⟨j, rfl, hj, hbq⟩ := hrel
          have HBQ := Lib.hid (below_mid HBF.out hbq)
          have HEQ := Lib.hid (HENT.out.below1 hbq)
          have HBQW : Hid (Below w.heap.size w wr) := Lib.hid (HBR.out.trans (HBQ.out.mono HBR.out.size))
          have HBQF := Lib.hid hbq
          clear hbq
          by_cases hlt : j < l.length
          · obtain ⟨b, off, rfl, hblt, hx⟩ := HKCE.out.resolve_left fun e => by rw [e] at hlt; exact absurd hlt (Nat.not_lt_zero _)
            have x0 : wr.cell? ⟨b, off + j, none⟩ = some (.int .i64 l[j]) := (World.cell?_of_block (a := ⟨b, off + j, none⟩) (HBQW.out.block b hblt)).trans (hx j hlt)
            have hjp : j < P.length := by rw [HKIN.out.len]; exact hlt
            have hkj := HKIN.out.k j hjp hlt
            have hk3 := HOKG.out.2.2.2 P[j] (List.getElem_mem hjp)
            rw [← hkj] at x0
            obtain ⟨k, hkk⟩ : ∃ k, k = P[j].k := ⟨_, rfl⟩
            rw [← hkk] at x0 hk3
            have HREP : Hid (repAt P (j : Int) = some P[j]) := Lib.hid (by rw [repAt_nat, List.getElem?_eq_getElem hjp])
            have HKK := Lib.hid hkk
            have HK3 := Lib.hid hk3
            obtain ⟨w5, hw5⟩ : ∃ w5, w5 = wr.alloc (.cells #[.int .i64 (k : Int), .int .i64 (-1099511627776), .int .i64 1099511627776, .slice none 0 0, .slice none 0 0] 36) := ⟨_, rfl⟩
            have hb5 : Below wr.heap.size wr w5 := by rw [hw5]; exact (Below.refl _ wr).alloc (Nat.le_refl _) _
            have hk5 : Bl w5 wr.heap.size 36 #[.int .i64 (k : Int), .int .i64 (-1099511627776), .int .i64 1099511627776, .slice none 0 0, .slice none 0 0] := by rw [hw5]; exact Bl.new wr 36 _
            obtain ⟨dv, hdv⟩ : ∃ dv, dv = (aE16 (k : Int)).dyn (.slice none 0 0) (.slice none 0 0) := ⟨_, rfl⟩
            have HANY : Hid (∀ W, Calls Tryz.prog 15 #[.agg #[.int .i64 (k : Int), .int .i64 (-1099511627776), .int .i64 1099511627776, .slice none 0 0, .slice none 0 0]] W fun x w' => x = .returned dv ∧ Below W.heap.size W w') := Lib.hid fun W => by rw [hdv]; exact anyOf_any (aE16 (k : Int)) (.slice none 0 0) (.slice none 0 0) W ⟨_, _, _, rfl⟩ ⟨_, _, _, rfl⟩
            have HUP : Hid (∀ W, Below wz.heap.size wz W → Calls Tryz.prog 16 #[.pointer (some ⟨g, 0, none⟩), .int .i64 (j : Int)] W fun x w' => x = .returned (.bool P[j].eb.isSome) ∧ w' = W) := Lib.hid fun W hW => by
              obtain ⟨lv, rv, R, hG⟩ := HGR.out.below hW
              have hc := gUp_any hG (j : Int)
              rw [show upOf P (j : Int) = P[j].eb.isSome by unfold upOf; rw [HREP.out]; rfl] at hc
              exact hc
            have HASK : Hid (∀ W, Below wz.heap.size wz W → Calls Tryz.prog 14 #[.pointer (some ⟨g, 0, none⟩), .int .i64 (j : Int), dv, .agg #[.bool false, .int .i64 0, .slice none 0 0, .string ⟨#[]⟩], .bool false, .int .i64 1000] W (Ans (ansG P lg (j : Int) (aE16 (k : Int)) (mkO false ⟨0, [], ⟨#[]⟩⟩) false 1000) W)) := Lib.hid fun W hW => by
              have hc := gAsk_any (HGR.out.below hW) (j : Int) (a := aE16 (k : Int)) (av := .slice none 0 0) (mv := .slice none 0 0) (has := false) (desc := false) (m := ⟨0, [], ⟨#[]⟩⟩) (ml := .slice none 0 0) (n := 1000) ⟨none, 0, rfl, (by show 0 ≤ _; decide), .inl rfl⟩ ⟨none, 0, rfl, (by show 0 ≤ _; decide), .inl rfl⟩ (LabsAt.nil _ _) (all_great _) (fun _ h => absurd rfl h)
              rw [← hdv] at hc
              exact hc
            have HB5 := Lib.hid hb5
            have HW5 := Lib.hid hw5.symm
            have u0 := hk5.cell 0
            have u1 := hk5.cell 1
            have u2 := hk5.cell 2
            have u3 := hk5.cell 3
            have u4 := hk5.cell 4
            simp only [List.getElem?_toArray, List.getElem?_cons_succ, List.getElem?_cons_zero] at u0 u1 u2 u3 u4
            clear hw5 hb5 hk5 hdv hx hkj hk3 hkk
            go_upto_region 24 with fail
            rw [HW5.out]
            clear x0
            go_wp2_with fail
            refine (HANY.out w5).mono ?_
            rintro x w6 ⟨rfl, hb6⟩
            have HB6 := Lib.hid (below_mid HB5.out hb6)
            clear hb6 u0 u1 u2 u3 u4
            cases he : P[j].eb with
            | none =>
              have hr : ansG P lg (j : Int) (aE16 (k : Int)) (mkO false ⟨0, [], ⟨#[]⟩⟩) false 1000 = ([], false, 10) := by
                unfold ansG
                rw [HREP.out]
                show (if P[j].eb.isSome = true then _ else (([], false, 10) : List Ent × Bool × Int)) = _
                rw [he]
                rfl
              have HA6 : Hid (Calls Tryz.prog 14 #[.pointer (some ⟨g, 0, none⟩), .int .i64 (j : Int), dv, .agg #[.bool false, .int .i64 0, .slice none 0 0, .string ⟨#[]⟩], .bool false, .int .i64 1000] w6 fun x w' => ∃ u, x = .returned (.tuple #[u, .bool false, .int .i64 10]) ∧ EntsAt (fun b => w6.heap.size ≤ b) (fun _ => True) w' u [] ∧ Below w6.heap.size w6 w') := Lib.hid (by
                have hc := HASK.out w6 (below_mid HBQ.out HB6.out)
                rw [hr] at hc
                exact hc)
              rw [he] at HUP
              clear hr he
              go_wp2_with fail
              refine HA6.out.mono ?_
              rintro x w7 ⟨ux, rfl, hent, hb7⟩
              obtain ⟨xa, xc, rfl, _⟩ := id hent
              have HB7 := Lib.hid (below_mid HB6.out hb7)
              have HU7 := Lib.hid (HUP.out w7 (below_mid HBQ.out HB7.out))
              clear hent hb7
              go_wp2_with (go_at_call 16; refine HU7.out.mono ?_; rintro x w8 ⟨rfl, hw8⟩; obtain rfl := hw8.symm)
              go_roundw
              case rel => exact ⟨j + 1, by go_num, by omega, below_mid HBQF.out HB7.out⟩
              case measure => simp [intOf]; omega
            | some eb =>
              have hr : ansG P lg (j : Int) (aE16 (k : Int)) (mkO false ⟨0, [], ⟨#[]⟩⟩) false 1000 = (srt, true, 0) := by
                unfold ansG
                rw [HREP.out]
                show (if P[j].eb.isSome = true then ansK P[j].k lg (aE16 (k : Int)) (mkO false ⟨0, [], ⟨#[]⟩⟩) false 1000 else ([], false, 10)) = _
                rw [he, Option.isSome_some, if_pos rfl, ← HKK.out, all_ans HK3.out HOKG.out.1 HOKG.out.2.1, HSO.out]
              have HA6 : Hid (Calls Tryz.prog 14 #[.pointer (some ⟨g, 0, none⟩), .int .i64 (j : Int), dv, .agg #[.bool false, .int .i64 0, .slice none 0 0, .string ⟨#[]⟩], .bool false, .int .i64 1000] w6 fun x w' => ∃ u, x = .returned (.tuple #[u, .bool true, .int .i64 0]) ∧ EntsAt (fun b => w6.heap.size ≤ b) (fun _ => True) w' u srt ∧ Below w6.heap.size w6 w') := Lib.hid (by
                have hc := HASK.out w6 (below_mid HBQ.out HB6.out)
                rw [hr] at hc
                exact hc)
              rw [he] at HUP
              clear hr he
              go_wp2_with fail
              refine HA6.out.mono ?_
              rintro x w7 ⟨ux, rfl, hent, hb7⟩
              obtain ⟨xa, xc, rfl, _⟩ := id hent
              have HB7 := Lib.hid (below_mid HB6.out hb7)
              have HU7 := Lib.hid (HUP.out w7 (below_mid HBQ.out HB7.out))
              have HALL := Lib.hid (all_any hent (HEQ.out.below1 HB7.out))
              clear hent hb7
              go_upto_region 28 with (go_at_call 16; refine HU7.out.mono ?_; rintro x w8 ⟨rfl, hw8⟩; obtain rfl := hw8.symm)
              go_wp2_with (go_at_call 17; refine HALL.out.mono ?_; rintro x w9 ⟨rfl, hl9⟩)
              have HB9 := Lib.hid (below_mid HB7.out (lay_below hl9))
              clear hl9
              go_wp2
              go_roundw
              case rel => exact ⟨j + 1, by go_num, by omega, below_mid HBQF.out HB9.out⟩
              case measure => simp [intOf]; omega
          · obtain rfl : j = l.length := by omega
            go_wp2_with fail
            go_ret
            exact ⟨rfl, HBQW.out⟩
end Go.Proofs.YtoobjjpheegmdaaGreat.E4
