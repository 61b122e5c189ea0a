/-
  Ep16.
-/
import Derived.Test.YtoobjjpheegmdaaGreatJ45
import Derived.Test.YtoobjjpheegmdaaGreatJ46
namespace Go.Proofs.YtoobjjpheegmdaaGreat.E4
open Go.RowKit Go
set_option maxHeartbeats 8000000 in
set_option maxRecDepth 100000 in
theorem epochs_walk16 {G L : Nat → Prop} {w : World} {v : Value} {es : List Ent} (h : EntsAt G L w v es) (hm : MaxI w) (kind turns : Int) : Calls Tryz.prog 5 #[.int .i64 kind, v, .int .i64 turns] w fun x w' => x = .returned (.bool true) ∧ Below w.heap.size w w' := by
  have hmx : Tryz.prog.follows .mixedOrders = true := by kernel_rfl
  obtain ⟨ae, ce, rfl, he63, _⟩ := id h
  have HAL := Lib.hid (aliveG_any w hm)
  have HM := Lib.hid hm
  have HH := Lib.hid (h.mono (H := fun b => b < w.heap.size) (M := fun b => b < w.heap.size) (fun _ _ hb => hb) fun _ _ hb => hb)
  clear hm h
  by_cases hk : 1 ≤ kind ∧ kind ≤ 3
  · obtain ⟨k, rfl⟩ : ∃ k : Nat, kind = (k : Int) := ⟨kind.toNat, by omega⟩
    have hk3 : k = 1 ∨ k = 2 ∨ k = 3 := by omega
    have HK3 := Lib.hid hk3
    have hk1 := hk.1
    have hk2 := hk.2
    clear hk hk3
    go_enter Tryz.func5, Tryz.ntmps5
    go_upto_region 3 with (go_at_call 6; refine HAL.out.mono ?_; rintro x wa ⟨rfl, hba⟩)
    have HBA := Lib.hid hba
    have HMN := Lib.hid (many_any (HH.out.below1 hba) 60 (by omega))
    clear hba HAL
    cases hmany : (decide (60 < es.length) || es.any Ent.big) with
    | true =>
      rw [hmany] at HMN
      clear hmany
      go_wp2_with (go_at_call 19; refine HMN.out.mono ?_; rintro x wb ⟨rfl, hlb⟩)
      all_goals (go_ret; exact ⟨rfl, below_mid HBA.out (lay_below hlb)⟩)
    | false =>
      rw [hmany] at HMN
      have hlen : es.length ≤ 60 := by
        rw [Bool.or_eq_false_iff, decide_eq_false_iff_not] at hmany
        omega
      have HLEN := Lib.hid hlen
      clear hmany hlen
      by_cases ht : 0 ≤ turns ∧ turns ≤ 60
      · have ht1 := ht.1
        have ht2 := ht.2
        clear ht
        go_upto_region 5 with (go_at_call 19; refine HMN.out.mono ?_; rintro x wb ⟨rfl, hlb⟩)
        have HBB := Lib.hid (below_mid HBA.out (lay_below hlb))
        obtain ⟨wc, hwc⟩ : ∃ wc, wc = wb.alloc (.cells #[.int .i64 (k : Int), .int .i64 (k : Int)] 3) := ⟨_, rfl⟩
        have hbc : Below wb.heap.size wb wc := by rw [hwc]; exact (Below.refl _ wb).alloc (Nat.le_refl _) _
        have HBC := Lib.hid (below_mid HBB.out hbc)
        have HNW := Lib.hid (newG_any (by rw [hwc]; exact ints_two wb (k : Int) (k : Int) 3 : IntsAt wc (.slice (some ⟨wb.heap.size, 0, none⟩) 2 2) [(k : Int), (k : Int)]) (HM.out.below1 HBC.out))
        have HWC := Lib.hid hwc.symm
        have HKO : Hid (kindsOK [(k : Int), (k : Int)] = true) := Lib.hid (by
          rcases HK3.out with rfl | rfl | rfl <;> rfl)
        clear hlb hbc hwc HMN
        go_wp2_with fail
        rw [HWC.out]
        refine HNW.out.mono ?_
        rintro x wd ⟨hbd, ⟨hko, _⟩ | ⟨-, g, ρ, P, rfl, hg, hz, hf⟩⟩
        · rw [HKO.out] at hko
          cases hko
        obtain ⟨p0, p1, rfl, h0, h1, h2, h3, h4, h5⟩ := two_of hf
        have HGD := Lib.hid hg
        have HBD := Lib.hid (below_mid HBC.out hbd)
        have HZ : Hid (∀ b, b < w.heap.size → ρ b = 0) := Lib.hid fun b hb => hz b (Nat.lt_of_lt_of_le hb HBC.out.size)
        have HP : Hid (p0.k = k ∧ p1.k = k ∧ p0.ep = 1 ∧ p1.ep = 1 ∧ p0.eb.isSome = true ∧ p1.eb.isSome = true) := Lib.hid ⟨by omega, by omega, h2, h3, h4, h5⟩
        clear hbd hg hz hf h0 h1 h2 h3 h4 h5 HNW
        go_wp2_with fail
        go_loopw [47] (fun vi wr => ∃ (i : Nat) (ρi : Nat → Nat) (lg : List Ent) (q0 q1 : Rep), vi = .int .i64 i ∧ i ≤ es.length ∧ GAt ρi wr g lg [q0, q1] ∧ Turns ρ ρi wd wr ∧ q0.k = k ∧ q1.k = k ∧ q0.ep = 1 ∧ (q1.ep : Int) = 1 + min turns i ∧ q0.eb.isSome = true ∧ q1.eb.isSome = true) (fun vi _ => es.length - (intOf vi).toNat)
        case atStart =>
          obtain ⟨h0, h1, h2, h3, h4, h5⟩ := HP.out
          exact ⟨0, ρ, [], p0, p1, rfl, Nat.zero_le _, HGD.out, Turns.of (Below.refl _ _), h0, h1, h2, by rw [h3]; omega, h4, h5⟩
        case round =>
          obtain ⟨i, ρi, lg, q0, q1, rfl, hi, hgr, htr, h0, h1, h2, h3, h4, h5⟩ := hrel
          have HGR := Lib.hid hgr
          have HTR := Lib.hid htr
          have HQ := Lib.hid (And.intro h0 (And.intro h1 (And.intro h2 (And.intro h3 (And.intro h4 h5)))))
          have hbr : Below w.heap.size w wr := HBD.out.trans (htr.below HBD.out.size HZ.out)
          have HBR := Lib.hid hbr
          have hl60 := HLEN.out
          clear hgr htr h0 h1 h2 h3 h4 h5 hbr
          by_cases hlt : i < es.length
          · obtain ⟨gg, og, rfl, hgl, hce⟩ : ∃ gg og, ae = some ⟨gg, og, none⟩ ∧ gg < w.heap.size ∧ ∀ i (h : i < es.length), ∃ lv, w.cell? ⟨gg, og + i * 3, none⟩ = some (.int .i64 es[i].tm) ∧ w.cell? ⟨gg, og + i * 3 + 1, none⟩ = some lv ∧ w.cell? ⟨gg, og + i * 3 + 2, none⟩ = some (.string es[i].line) ∧ LabsAt (fun b => b < w.heap.size) w lv es[i].labs := by
              obtain ⟨a', c', hv, _, hx⟩ := HH.out
              simp only [Value.slice.injEq, true_and] at hv
              obtain ⟨rfl, rfl⟩ := hv
              rcases hx with h0 | ⟨g, og, rfl, _, hgl, hce⟩
              · exact absurd hlt (by rw [h0]; simp)
              · exact ⟨g, og, rfl, hgl, hce⟩
            obtain ⟨lv, x0, x1, x2, x3⟩ := hce i hlt
            generalize es[i] = e at x0 x1 x2 x3
            obtain ⟨al, cl, rfl, _⟩ := id x3
            have y0 : wr.cell? ⟨gg, og + i * 3, none⟩ = _ := (HBR.out.cell hgl).trans x0
            have y1 : wr.cell? ⟨gg, og + i * 3 + 1, none⟩ = _ := (HBR.out.cell hgl).trans x1
            have y2 : wr.cell? ⟨gg, og + i * 3 + 2, none⟩ = _ := (HBR.out.cell hgl).trans x2
            obtain ⟨w5, hw5⟩ : ∃ w5, w5 = wr.alloc (.cells #[.int .i64 e.tm, .slice al e.labs.length cl, .string e.line] 32) := ⟨_, rfl⟩
            have hl5 : Lay wr w5 := by rw [hw5]; exact (Keep.refl _ wr).alloc _
            have hk5 : Bl w5 wr.heap.size 32 #[.int .i64 e.tm, .slice al e.labs.length cl, .string e.line] := by rw [hw5]; exact Bl.new wr 32 _
            have hlab : LabsAt (fun b => b < w.heap.size) w5 (.slice al e.labs.length cl) e.labs := ((x3.carry HBR.out.size fun b hb _ => HBR.out.block b hb)).lay hl5
            have hz0 : ∀ b, b < w.heap.size → ρi b = 0 := fun b hb => (HTR.out.ag b (Nat.lt_of_lt_of_le hb HBD.out.size)).trans (HZ.out b hb)
            have HTK := Lib.hid (gTake_any (HGR.out.below (lay_below hl5)) hlab hz0)
            simp only [Ent.val] at HTK
            have HL5 := Lib.hid hl5
            have HW5 := Lib.hid hw5.symm
            have u0 := hk5.cell 0
            have u1 := hk5.cell 1
            have u2 := hk5.cell 2
            simp only [List.getElem?_toArray, List.getElem?_cons_succ, List.getElem?_cons_zero] at u0 u1 u2
            clear x0 x1 x2 x3 hw5 hl5 hk5 hlab hz0 hce
            go_upto_region 9 with fail
            rw [HW5.out]
            clear y0 y1 y2
            go_upto_region 10 with (go_at_call 9; refine HTK.out.mono ?_; rintro x w6 ⟨ρ6, rfl, hg6, ht6⟩)
            have HG6 := Lib.hid hg6
            have HT6 := Lib.hid ((HTR.out.trans (Turns.of (lay_below HL5.out))).trans ht6)
            clear hg6 ht6 HTK u0 u1 u2
            by_cases htn : (i : Int) < turns
            · have HCR := Lib.hid (gCrash_any HG6.out 1)
              obtain ⟨h0, h1, h2, h3, h4, h5⟩ := HQ.out
              rw [crash_two h5] at HCR
              have hep1 : (q1.ep : Int) ≤ 100 := by omega
              clear h0 h1 h2 h3 h4 h5
              go_wp2_with fail
              refine HCR.out.mono ?_
              rintro x w7 ⟨rfl, hg7, ht7⟩
              have HRS := Lib.hid (gRestart_any hg7 (fun x hx => by
                have hq := HQ.out.2.2.1
                rcases List.mem_cons.1 hx with rfl | hx
                · omega
                · rw [List.mem_singleton.1 hx]; show q1.ep ≤ 1000000; omega) 1)
              have HRC : Hid (restartC [q0, ⟨q1.k, q1.ep, none⟩] 1 = 0) := Lib.hid rfl
              rw [HRC.out] at HRS
              have HT7 := Lib.hid (HT6.out.trans ht7)
              clear hg7 ht7 HCR
              go_wp2_with fail
              refine HRS.out.mono ?_
              rintro x w8 ⟨rfl, ρ8, ⟨gb, hg8⟩, ht8⟩
              have hg8' : GAt ρ8 w8 g (takeP lg e).1 [q0, ⟨q1.k, q1.ep + 1, some gb⟩] := hg8
              have HG8 := Lib.hid hg8'
              have HT8 := Lib.hid (HT7.out.trans ht8)
              clear hg8 hg8' ht8 HRS
              go_wp2
              go_roundw
              case rel =>
                obtain ⟨h0, h1, h2, h3, h4, h5⟩ := HQ.out
                exact ⟨i + 1, ρ8, _, q0, ⟨q1.k, q1.ep + 1, some gb⟩, by go_num, by omega, HG8.out, HT8.out, h0, h1, h2, by show ((q1.ep + 1 : Nat) : Int) = _; omega, h4, rfl⟩
              case measure => simp [intOf]; omega
            · have htn2 : turns ≤ (i : Int) := by omega
              clear htn
              go_wp2_with fail
              go_roundw
              case rel =>
                obtain ⟨h0, h1, h2, h3, h4, h5⟩ := HQ.out
                exact ⟨i + 1, ρ6, _, q0, q1, by go_num, by omega, HG6.out, HT6.out, h0, h1, h2, by omega, h4, h5⟩
              case measure => simp [intOf]; omega
          · obtain rfl : i = es.length := by omega
            clear he63
            obtain ⟨w5, hw5⟩ : ∃ w5, w5 = wr.alloc (.cells #[.int .i64 (k : Int), .int .i64 (-1099511627776), .int .i64 1099511627776, .slice none 0 0, .slice none 0 0] 36) := ⟨_, rfl⟩
            have hb5 : Below wr.heap.size wr w5 := by rw [hw5]; exact (Below.refl _ wr).alloc (Nat.le_refl _) _
            have hk5 : Bl w5 wr.heap.size 36 #[.int .i64 (k : Int), .int .i64 (-1099511627776), .int .i64 1099511627776, .slice none 0 0, .slice none 0 0] := by rw [hw5]; exact Bl.new wr 36 _
            obtain ⟨dv, hdv⟩ : ∃ dv, dv = (aE16 (k : Int)).dyn (.slice none 0 0) (.slice none 0 0) := ⟨_, rfl⟩
            have HANY : Hid (∀ W, Calls Tryz.prog 15 #[.agg #[.int .i64 (k : Int), .int .i64 (-1099511627776), .int .i64 1099511627776, .slice none 0 0, .slice none 0 0]] W fun x w' => x = .returned dv ∧ Below W.heap.size W w') := Lib.hid fun W => by rw [hdv]; exact anyOf_any (aE16 (k : Int)) (.slice none 0 0) (.slice none 0 0) W ⟨_, _, _, rfl⟩ ⟨_, _, _, rfl⟩
            obtain ⟨lv, rv, R, hG⟩ := id HGR.out
            have hans := all_ans HK3.out hG.ok hG.hl
            have HA0 : Hid (∀ W, Below wr.heap.size wr W → Calls Tryz.prog 14 #[.pointer (some ⟨g, 0, none⟩), .int .i64 0, dv, .agg #[.bool false, .int .i64 0, .slice none 0 0, .string ⟨#[]⟩], .bool false, .int .i64 1000] W fun x w' => ∃ u, x = .returned (.tuple #[u, .bool true, .int .i64 0]) ∧ EntsAt (fun b => W.heap.size ≤ b) (fun _ => True) w' u (srtOf false lg) ∧ Below W.heap.size W w') := Lib.hid fun W hW => by
              have hc := gAsk_any (HGR.out.below hW) 0 (a := aE16 (k : Int)) (av := .slice none 0 0) (mv := .slice none 0 0) (has := false) (desc := false) (m := ⟨0, [], ⟨#[]⟩⟩) (ml := .slice none 0 0) (n := 1000) ⟨none, 0, rfl, (by show 0 ≤ _; decide), .inl rfl⟩ ⟨none, 0, rfl, (by show 0 ≤ _; decide), .inl rfl⟩ (LabsAt.nil _ _) (all_great _) (fun _ h => absurd rfl h)
              rw [show ansG [q0, q1] lg 0 (aE16 (k : Int)) (mkO false ⟨0, [], ⟨#[]⟩⟩) false 1000 = (srtOf false lg, true, 0) by
                show (if q0.eb.isSome = true then ansK q0.k lg (aE16 (k : Int)) (mkO false ⟨0, [], ⟨#[]⟩⟩) false 1000 else ([], false, 10)) = _
                rw [if_pos HQ.out.2.2.2.2.1, HQ.out.1, hans], ← hdv] at hc
              exact hc
            have HA1 : Hid (∀ W, Below wr.heap.size wr W → Calls Tryz.prog 14 #[.pointer (some ⟨g, 0, none⟩), .int .i64 1, dv, .agg #[.bool false, .int .i64 0, .slice none 0 0, .string ⟨#[]⟩], .bool false, .int .i64 1000] W fun x w' => ∃ u, x = .returned (.tuple #[u, .bool true, .int .i64 0]) ∧ EntsAt (fun b => W.heap.size ≤ b) (fun _ => True) w' u (srtOf false lg) ∧ Below W.heap.size W w') := Lib.hid fun W hW => by
              have hc := gAsk_any (HGR.out.below hW) 1 (a := aE16 (k : Int)) (av := .slice none 0 0) (mv := .slice none 0 0) (has := false) (desc := false) (m := ⟨0, [], ⟨#[]⟩⟩) (ml := .slice none 0 0) (n := 1000) ⟨none, 0, rfl, (by show 0 ≤ _; decide), .inl rfl⟩ ⟨none, 0, rfl, (by show 0 ≤ _; decide), .inl rfl⟩ (LabsAt.nil _ _) (all_great _) (fun _ h => absurd rfl h)
              rw [show ansG [q0, q1] lg 1 (aE16 (k : Int)) (mkO false ⟨0, [], ⟨#[]⟩⟩) false 1000 = (srtOf false lg, true, 0) by
                show (if q1.eb.isSome = true then ansK q1.k lg (aE16 (k : Int)) (mkO false ⟨0, [], ⟨#[]⟩⟩) false 1000 else ([], false, 10)) = _
                rw [if_pos HQ.out.2.2.2.2.2, HQ.out.2.1, hans], ← hdv] at hc
              exact hc
            obtain ⟨srt, hsrt⟩ : ∃ srt, srt = srtOf false lg := ⟨_, rfl⟩
            rw [← hsrt] at HA0 HA1
            have HB5 := Lib.hid hb5
            have HK5 := Lib.hid hk5
            have HW5 := Lib.hid hw5.symm
            have u0 := hk5.cell 0
            have u1 := hk5.cell 1
            have u2 := hk5.cell 2
            have u3 := hk5.cell 3
            have u4 := hk5.cell 4
            simp only [List.getElem?_toArray, List.getElem?_cons_succ, List.getElem?_cons_zero] at u0 u1 u2 u3 u4
            clear hw5 hb5 hk5 hdv hG hans hsrt hlt
            go_upto_region 14 with fail
            rw [HW5.out]
            go_wp2_with fail
            refine (HANY.out w5).mono ?_
            rintro x w6 ⟨rfl, hb6⟩
            have HB6 := Lib.hid (below_mid HB5.out hb6)
            have hk6 := HK5.out.below hb6
            have HK6 := Lib.hid hk6
            clear hb6 u0 u1 u2 u3 u4 hk6
            go_wp2_with fail
            refine (HA0.out w6 HB6.out).mono ?_
            rintro x w7 ⟨ux, rfl, hent, hb7⟩
            obtain ⟨xa, xc, rfl, _⟩ := id hent
            have HENT := Lib.hid hent
            clear hent
            go_upto_region 15 with fail
            have HB7 := Lib.hid (below_mid HB6.out hb7)
            have hk7 := HK6.out.below hb7
            have HK7 := Lib.hid hk7
            have u0 := hk7.cell 0
            have u1 := hk7.cell 1
            have u2 := hk7.cell 2
            have u3 := hk7.cell 3
            have u4 := hk7.cell 4
            simp only [List.getElem?_toArray, List.getElem?_cons_succ, List.getElem?_cons_zero] at u0 u1 u2 u3 u4
            clear hb7 hk7
            go_wp2_with fail
            refine (HANY.out w7).mono ?_
            rintro x w8 ⟨rfl, hb8⟩
            have HB8 := Lib.hid (below_mid HB7.out hb8)
            have HENT8 := Lib.hid (HENT.out.below1 hb8)
            clear hb8 u0 u1 u2 u3 u4
            go_wp2_with fail
            refine (HA1.out w8 HB8.out).mono ?_
            rintro x w9 ⟨uy, rfl, hent2, hb9⟩
            obtain ⟨ya, yc, rfl, _⟩ := id hent2
            have HALL := Lib.hid (all_any (HENT8.out.below1 hb9) hent2)
            clear hent2
            go_upto_region 16 with fail
            have HB9 := Lib.hid (below_mid HB8.out hb9)
            have HEP : Hid (∀ W, Below wr.heap.size wr W → Calls Tryz.prog 20 #[.pointer (some ⟨g, 0, none⟩), .int .i64 1] W fun x w' => x = .returned (.int .i64 (1 + min turns (es.length : Int))) ∧ w' = W) := Lib.hid fun W hW => by
              obtain ⟨lv, rv, R, hG⟩ := HGR.out.below hW
              have hc := gEpoch_any hG 1
              rw [show epochOf [q0, q1] 1 = 1 + min turns (es.length : Int) from HQ.out.2.2.2.1] at hc
              exact hc
            have HEQ : Hid (∀ W, Below wr.heap.size wr W → Calls Tryz.prog 20 #[.pointer (some ⟨g, 0, none⟩), .int .i64 0] W fun x w' => x = .returned (.int .i64 1) ∧ w' = W) := Lib.hid fun W hW => by
              obtain ⟨lv, rv, R, hG⟩ := HGR.out.below hW
              have hc := gEpoch_any hG 0
              rw [show epochOf [q0, q1] 0 = 1 by show ((q0.ep : Nat) : Int) = 1; rw [HQ.out.2.2.1]; rfl] at hc
              exact hc
            obtain ⟨mt, hmt⟩ : ∃ mt, min turns (es.length : Int) = mt := ⟨_, rfl⟩
            have hm1 : 0 ≤ mt := by omega
            have hm2 : mt ≤ 60 := by omega
            rw [hmt] at HEP
            clear hb9
            go_wp2_with fail
            refine HALL.out.mono ?_
            rintro x wA ⟨rfl, hlA⟩
            have HBA2 := Lib.hid (below_mid HB9.out (lay_below hlA))
            clear hlA
            go_wp2_with fail
            refine (HEP.out wA HBA2.out).mono ?_
            rintro x wB ⟨rfl, hwB⟩
            obtain rfl := hwB.symm
            go_wp2_with (refine (HEQ.out wA HBA2.out).mono ?_; rintro x wC ⟨rfl, hwC⟩; obtain rfl := hwC.symm)
            go_ret
            exact ⟨rfl, HBR.out.trans (HBA2.out.mono HBR.out.size)⟩
      · clear HLEN
        by_cases hneg : turns < 0
        · clear ht
          go_wp2_with (go_at_call 19; refine HMN.out.mono ?_; rintro x wb ⟨rfl, hlb⟩)
          all_goals (go_ret; exact ⟨rfl, below_mid HBA.out (lay_below hlb)⟩)
        · have hbig : 60 < turns := by omega
          have hneg2 : 0 ≤ turns := by omega
          clear ht hneg
          go_wp2_with (go_at_call 19; refine HMN.out.mono ?_; rintro x wb ⟨rfl, hlb⟩)
          all_goals (go_ret; exact ⟨rfl, below_mid HBA.out (lay_below hlb)⟩)
  · by_cases hlo : kind < 1
    · clear hk
      go_enter Tryz.func5, Tryz.ntmps5
      go_wp2_with (go_at_call 6; refine HAL.out.mono ?_; rintro x wa ⟨rfl, hba⟩)
      all_goals (go_ret; exact ⟨rfl, hba⟩)
    · have hhi : 3 < kind := by omega
      have hlo2 : 1 ≤ kind := by omega
      clear hk hlo
      go_enter Tryz.func5, Tryz.ntmps5
      go_wp2_with (go_at_call 6; refine HAL.out.mono ?_; rintro x wa ⟨rfl, hba⟩)
      all_goals (go_ret; exact ⟨rfl, hba⟩)
end Go.Proofs.YtoobjjpheegmdaaGreat.E4
