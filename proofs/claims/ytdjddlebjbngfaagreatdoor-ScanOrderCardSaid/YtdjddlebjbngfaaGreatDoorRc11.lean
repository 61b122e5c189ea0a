/-
  magpieref11.Cut: the document's own: going over the list.
-/
import Derived.Test.YtdjddlebjbngfaaGreatDoorCt13
import Derived.Test.YtdjddlebjbngfaaGreatDoorEr
namespace Go.Proofs.YtdjddlebjbngfaaGreatDoor.E4
open Go.RowKit Go
open Go.Sort (grow)

set_option maxHeartbeats 16000000 in
set_option maxRecDepth 100000 in
theorem refCut_any (desc has : Bool) (m : Ent) (ml : Value) {G L : Nat → Prop} (l : List Ent) (v : Value) (n : Nat) (w : World) (hl : EntsAt G L w v l) (hm : LabsAt (fun _ => True) w ml m.labs) (hn : l.length ≤ 1000000) :
    Calls Tryz.prog 30 #[v, .bool desc, mkV has m ml, .int .i64 (n : Nat)] w (CutP (Md.cut (ordC desc) (mkO has m) n l) w) := by
  have hmx : Tryz.prog.follows .mixedOrders = true := by kernel_rfl
  obtain ⟨i24, z24, E24⟩ := elem24
  obtain ⟨am, cm, rfl, hm63, _⟩ := id hm
  obtain ⟨al, cl, rfl, hl63, hlc⟩ := id hl
  obtain ⟨w1, hw1⟩ : ∃ w1, w1 = w.alloc (.cells #[.bool has, .int .i64 m.tm, .slice am m.labs.length cm, .string m.line] 31) := ⟨_, rfl⟩
  have hl1 : Lay w w1 := by rw [hw1]; exact (Keep.refl _ _).alloc _
  have hk1 : CB w1 w.heap.size 31 #[.bool has, .int .i64 m.tm, .slice am m.labs.length cm, .string m.line] := by rw [hw1]; exact CB.new w 31 _
  obtain ⟨cut, hcut⟩ : ∃ cut, cut = Md.cut (ordC desc) (mkO has m) n l := ⟨_, rfl⟩
  have HLOOP : Hid (Md.loop (ordC desc) (mkO has m) n l [] = cut) := Lib.hid (by rw [hcut]; exact Md.loop_all _ _ _)
  rw [← hcut]
  have HS1 : Hid (w1.heap.size = w.heap.size + 1) := Lib.hid (by rw [hw1]; simp)
  have HL1 := Lib.hid hl1
  have HK1 := Lib.hid hk1
  have HW1 := Lib.hid hw1.symm
  have HM := Lib.hid hm
  have HLC := Lib.hid hlc
  clear hl hm hlc hl1 hk1 hw1 hcut
  unfold mkV
  go_enter Tryz.func30, Tryz.ntmps30
  go_wp2_with fail
  rw [HW1.out]
  go_loopw [15, 10] (fun vi vb wr => ∃ (k : Nat) (R : List (Value × Ent)), vi = .int .i64 k ∧ k ≤ l.length ∧ R.length ≤ k ∧ Rk 3 (fun b => w1.heap.size ≤ b) wr vb R.length (flatR R) ∧ RawL (fun b => b < w1.heap.size) wr R ∧ Md.loop (ordC desc) (mkO has m) n (l.drop k) (R.map Prod.snd) = cut ∧ Lay w1 wr) (fun vi _ _ => l.length - (intOf vi).toNat)
  case atStart => exact ⟨0, [], rfl, Nat.zero_le _, Nat.le_refl _, Rk.nil 3 _ _, fun x hx => by simp at hx, by simpa using HLOOP.out, Keep.refl _ _⟩
  case round =>
    obtain ⟨k, R, rfl, hk, hRk, hrk, hrl, hlp, hlr⟩ := hrel
    obtain ⟨ao, co, rfl⟩ : ∃ a c, u10 = .slice a R.length c := by
      rcases hrk.sq with ⟨h1, h2⟩ | ⟨g, c, h1, _⟩
      · exact ⟨none, 0, by rw [h1, h2]⟩
      · exact ⟨_, c, h1⟩
    have HRK := Lib.hid hrk
    have HRL := Lib.hid hrl
    have HLR := Lib.hid hlr
    clear hrk hrl
    by_cases hlt : k < l.length
    · rcases HLC.out with h0 | ⟨b, off, rfl, _, hb, hcs⟩
      · exact absurd hlt (by rw [h0]; simp)
      obtain ⟨lv, x0, x1, x2, x3⟩ := hcs k hlt
      have hdr : l.drop k = l[k] :: l.drop (k + 1) := List.drop_eq_getElem_cons hlt
      rw [hdr, Md.loop] at hlp
      generalize l[k] = x at x0 x1 x2 x3 hlp
      obtain ⟨ax, cx, rfl, hx63, _⟩ := id x3
      have hlw : Lay w wr := HL1.out.trans hlr
      have y0 : wr.cell? ⟨b, off + k * 3, none⟩ = _ := (hlw.cell hb).trans x0
      have y1 : wr.cell? ⟨b, off + k * 3 + 1, none⟩ = _ := (hlw.cell hb).trans x1
      have y2 : wr.cell? ⟨b, off + k * 3 + 2, none⟩ = _ := (hlw.cell hb).trans x2
      have hkm := HK1.out
      have hltm : w.heap.size < wr.heap.size := Nat.lt_of_lt_of_le hkm.lt hlr.size
      have m0 := (hlr.cell (o := 0) hkm.lt).trans (hkm.cell 0)
      have m1 := (hlr.cell (o := 1) hkm.lt).trans (hkm.cell 1)
      have m2 := (hlr.cell (o := 2) hkm.lt).trans (hkm.cell 2)
      have m3 := (hlr.cell (o := 3) hkm.lt).trans (hkm.cell 3)
      simp only [List.getElem?_toArray, List.getElem?_cons_succ, List.getElem?_cons_zero] at m0 m1 m2 m3
      have hl6 : Lay wr (wr.alloc (.cells #[.int .i64 x.tm, .slice ax x.labs.length cx, .string x.line] 29)) := (Keep.refl _ _).alloc _
      have HA6 := Lib.hid (ahead_any desc (x := m) (y := x) (HM.out.lay (hlw.trans hl6)) (x3.lay (hlw.trans hl6)))
      have HX3 := Lib.hid x3
      have HLP := Lib.hid hlp
      simp only [Ent.val] at HA6
      have he6 := CB.new wr 29 #[.int .i64 x.tm, .slice ax x.labs.length cx, .string x.line]
      have HE6 := Lib.hid he6
      have HL6 := Lib.hid hl6
      have hRn : R.length ≤ 1000000 := by omega
      have hnn : (0 : Int) ≤ (n : Int) := by omega
      clear x0 x1 x2 x3 hlr hlw hdr hlp he6 hl6 hcs hkm
      cases has with
      | false =>
        clear HA6 m1 m2 m3
        by_cases hge : n ≤ R.length
        · have hge' : (n : Int) ≤ (R.length : Int) := by omega
          have hc : (R.map Prod.snd, false) = cut := by
            have h := HLP.out
            rw [if_pos (show Md.behind (ordC desc) (mkO false m) x = true from rfl), if_pos (by rw [List.length_map]; exact hge)] at h
            exact h
          have HC := Lib.hid hc
          have HW := Lib.hid (Keep.trans HLR.out HL6.out)
          clear hc
          go_wp2_with fail
          go_ret2
          refine ⟨_, by rw [← HC.out]; rfl, ?_, HL1.out.trans HW.out⟩
          rw [← HC.out]
          exact ((HRK.out.lay HL6.out).ents (HRL.out.lay HL6.out)).mono (fun b hb _ => Nat.le_trans HL1.out.size hb) (fun _ _ _ => trivial)
        · have hge' : ¬ (n : Int) ≤ (R.length : Int) := by omega
          have hc : Md.loop (ordC desc) (mkO false m) n (l.drop (k + 1)) ((R ++ [((.slice ax x.labs.length cx : Value), x)]).map Prod.snd) = cut := by
            have h := HLP.out
            rw [if_pos (show Md.behind (ordC desc) (mkO false m) x = true from rfl), if_neg (by rw [List.length_map]; exact hge)] at h
            rw [List.map_append]
            exact h
          have HC := Lib.hid hc
          have hsrc : Src Tryz.prog 3 22 (.slice (some ⟨(wr.alloc (.cells #[.int .i64 x.tm, .slice ax x.labs.length cx, .string x.line] 29)).heap.size, 0, none⟩) 1 1) 1 (flatR [((.slice ax x.labs.length cx : Value), x)]) ((wr.alloc (.cells #[.int .i64 x.tm, .slice ax x.labs.length cx, .string x.line] 29)).alloc (.cells #[.int .i64 x.tm, .slice ax x.labs.length cx, .string x.line] 29)) :=
            Rk.src Tryz.underlying22 (rk_new 3 (wr.alloc (.cells #[.int .i64 x.tm, .slice ax x.labs.length cx, .string x.line] 29)) 1 (flatR [((.slice ax x.labs.length cx : Value), x)]) 29 rfl (by omega)) (fun u hu => by
              simp only [flatR, rawC, List.append_nil, List.mem_cons, List.not_mem_nil, or_false] at hu
              rcases hu with rfl | rfl | rfl <;> rfl)
          simp only [World.size_alloc] at hsrc
          have HSRC := Lib.hid hsrc
          have HRKX := Lib.hid (HRK.out.lay HL6.out)
          have HLX := Lib.hid (Keep.trans HLR.out HL6.out)
          have HNX := Lib.hid (Nat.lt_of_not_le hge)
          clear hc hsrc
          go_wp2_with (at_builtin; refine wpList_append_rk E24 _ rfl _ _ 22 rfl (G := fun b => w1.heap.size ≤ b) rfl (HRKX.out.alloc _) ?c1 (.slice (some ⟨wr.heap.size + 1, 0, none⟩) 1 1) 1 (flatR [((.slice ax x.labs.length cx : Value), x)]) rfl HSRC.out ?c3 ?c4 ?_)
          case c1 =>
            intro b hb
            have h1 := HLX.out.size
            simp at hb h1
            omega
          case c3 => omega
          case c4 => omega
          intro v' w8 hrk8 hk8
          have hl8 : Lay w1 w8 := lay_keepB (HLX.out.alloc _) hk8 fun b hb => (HRKX.out.at hb).1
          have HRK8 : Hid (Rk 3 (fun b => w1.heap.size ≤ b) w8 v' (R ++ [((.slice ax x.labs.length cx : Value), x)]).length (flatR (R ++ [((.slice ax x.labs.length cx : Value), x)]))) := Lib.hid (by
            have := hrk8.mono (G' := fun b => w1.heap.size ≤ b) fun b hb _ => hb.1
            rw [flatR_append, List.length_append]
            exact this)
          have hraw : RawL (fun b => b < w1.heap.size) w8 (R ++ [((.slice ax x.labs.length cx : Value), x)]) := fun z hz => by
            have hsz : wr.heap.size ≤ w8.heap.size := Nat.le_trans (Keep.size HL6.out) (Nat.le_trans ((Keep.refl (fun _ => False) _).alloc _).size hk8.size)
            rcases List.mem_append.1 hz with hz | hz
            · exact (HRL.out z hz).both (lay_below HLR.out) (lay_below hl8) hsz
            · obtain rfl := List.mem_singleton.1 hz
              have hw8 : Lay w w8 := HL1.out.trans hl8
              exact ((HX3.out.mono (H := fun b => b < w1.heap.size) (fun b _ hlt => Nat.lt_of_lt_of_le hlt HL1.out.size)).lay hw8)
          have HRAW := Lib.hid hraw
          have HL8 := Lib.hid hl8
          clear hrk8 hk8 hraw hl8 m0 y0 y1 y2
          go_wp2
          go_roundw
          case rel => exact ⟨k + 1, R ++ [((.slice ax x.labs.length cx : Value), x)], by go_num, by omega, by simp; omega, HRK8.out, HRAW.out, HC.out, HL8.out⟩
          case measure => simp [intOf]; omega
      | true =>
        by_cases hb : ordC desc m x = -1
        · rw [decide_eq_true hb] at HA6
          have hbh : Md.behind (ordC desc) (mkO true m) x = true := by simp [Md.behind, mkO, hb]
          have HBH := Lib.hid hbh
          clear hbh hb
          go_wp2_with fail
          refine HA6.out.mono ?_
          rintro e w7 ⟨rfl, hl7⟩
          have he7 : CB w7 wr.heap.size 29 #[.int .i64 x.tm, .slice ax x.labs.length cx, .string x.line] := (hl7.block HE6.out.lt).trans HE6.out
          have d0 := he7.cell 0
          have d1 := he7.cell 1
          have d2 := he7.cell 2
          simp only [List.getElem?_toArray, List.getElem?_cons_succ, List.getElem?_cons_zero] at d0 d1 d2
          have HL7 : Hid (Lay wr w7) := Lib.hid (HL6.out.trans hl7)
          clear he7 hl7 HA6 m0 m1 m2 m3 y0 y1 y2 hltm
          by_cases hge : n ≤ R.length
          · have hge' : (n : Int) ≤ (R.length : Int) := by omega
            have hc : (R.map Prod.snd, false) = cut := by
              have h := HLP.out
              rw [if_pos (HBH.out), if_pos (by rw [List.length_map]; exact hge)] at h
              exact h
            have HC := Lib.hid hc
            have HW := Lib.hid (Keep.trans HLR.out HL7.out)
            clear hc
            go_wp2_with fail
            go_ret2
            refine ⟨_, by rw [← HC.out]; rfl, ?_, HL1.out.trans HW.out⟩
            rw [← HC.out]
            exact ((HRK.out.lay HL7.out).ents (HRL.out.lay HL7.out)).mono (fun b hb _ => Nat.le_trans HL1.out.size hb) (fun _ _ _ => trivial)
          · have hge' : ¬ (n : Int) ≤ (R.length : Int) := by omega
            have hc : Md.loop (ordC desc) (mkO true m) n (l.drop (k + 1)) ((R ++ [((.slice ax x.labs.length cx : Value), x)]).map Prod.snd) = cut := by
              have h := HLP.out
              rw [if_pos (HBH.out), if_neg (by rw [List.length_map]; exact hge)] at h
              rw [List.map_append]
              exact h
            have HC := Lib.hid hc
            have hsrc : Src Tryz.prog 3 22 (.slice (some ⟨(w7).heap.size, 0, none⟩) 1 1) 1 (flatR [((.slice ax x.labs.length cx : Value), x)]) ((w7).alloc (.cells #[.int .i64 x.tm, .slice ax x.labs.length cx, .string x.line] 29)) :=
              Rk.src Tryz.underlying22 (rk_new 3 (w7) 1 (flatR [((.slice ax x.labs.length cx : Value), x)]) 29 rfl (by omega)) (fun u hu => by
                simp only [flatR, rawC, List.append_nil, List.mem_cons, List.not_mem_nil, or_false] at hu
                rcases hu with rfl | rfl | rfl <;> rfl)
            
            have HSRC := Lib.hid hsrc
            have HRKX := Lib.hid (HRK.out.lay HL7.out)
            have HLX := Lib.hid (Keep.trans HLR.out HL7.out)
            have HNX := Lib.hid (Nat.lt_of_not_le hge)
            clear hc hsrc
            go_wp2_with (at_builtin; refine wpList_append_rk E24 _ rfl _ _ 22 rfl (G := fun b => w1.heap.size ≤ b) rfl (HRKX.out.alloc _) ?c1 (.slice (some ⟨w7.heap.size, 0, none⟩) 1 1) 1 (flatR [((.slice ax x.labs.length cx : Value), x)]) rfl HSRC.out ?c3 ?c4 ?_)
            case c1 =>
              intro b hb
              have h1 := HLX.out.size
              simp at hb h1
              omega
            case c3 => omega
            case c4 => omega
            intro v' w8 hrk8 hk8
            have hl8 : Lay w1 w8 := lay_keepB (HLX.out.alloc _) hk8 fun b hb => (HRKX.out.at hb).1
            have HRK8 : Hid (Rk 3 (fun b => w1.heap.size ≤ b) w8 v' (R ++ [((.slice ax x.labs.length cx : Value), x)]).length (flatR (R ++ [((.slice ax x.labs.length cx : Value), x)]))) := Lib.hid (by
              have := hrk8.mono (G' := fun b => w1.heap.size ≤ b) fun b hb _ => hb.1
              rw [flatR_append, List.length_append]
              exact this)
            have hraw : RawL (fun b => b < w1.heap.size) w8 (R ++ [((.slice ax x.labs.length cx : Value), x)]) := fun z hz => by
              have hsz : wr.heap.size ≤ w8.heap.size := Nat.le_trans (Keep.size HL7.out) (Nat.le_trans ((Keep.refl (fun _ => False) _).alloc _).size hk8.size)
              rcases List.mem_append.1 hz with hz | hz
              · exact (HRL.out z hz).both (lay_below HLR.out) (lay_below hl8) hsz
              · obtain rfl := List.mem_singleton.1 hz
                have hw8 : Lay w w8 := HL1.out.trans hl8
                exact ((HX3.out.mono (H := fun b => b < w1.heap.size) (fun b _ hlt => Nat.lt_of_lt_of_le hlt HL1.out.size)).lay hw8)
            have HRAW := Lib.hid hraw
            have HL8 := Lib.hid hl8
            clear hrk8 hk8 hraw hl8 d0 d1 d2
            go_wp2
            go_roundw
            case rel => exact ⟨k + 1, R ++ [((.slice ax x.labs.length cx : Value), x)], by go_num, by omega, by simp; omega, HRK8.out, HRAW.out, HC.out, HL8.out⟩
            case measure => simp [intOf]; omega
        · rw [decide_eq_false hb] at HA6
          have hbh : ¬ Md.behind (ordC desc) (mkO true m) x = true := by simp [Md.behind, mkO, hb]
          have HBH := Lib.hid hbh
          clear hbh hb
          go_wp2_with fail
          refine HA6.out.mono ?_
          rintro e w7 ⟨rfl, hl7⟩
          have HL7 : Hid (Lay wr w7) := Lib.hid (HL6.out.trans hl7)
          clear hl7 HA6 m0 m1 m2 m3 y0 y1 y2 hltm
          go_wp2
          go_roundw
          case rel => exact ⟨k + 1, R, by go_num, by omega, by omega, HRK.out.lay HL7.out, HRL.out.lay HL7.out, by have h := HLP.out; rw [if_neg HBH.out] at h; exact h, HLR.out.trans HL7.out⟩
          case measure => simp [intOf]; omega
    · obtain rfl : k = l.length := by omega
      have hlp' : (R.map Prod.snd, true) = cut := by rw [List.drop_length, Md.loop] at hlp; exact hlp
      have HLP := Lib.hid hlp'
      clear hlr hlp hlp'
      go_wp2_with fail
      go_ret2
      refine ⟨_, by rw [← HLP.out]; rfl, ?_, HL1.out.trans HLR.out⟩
      rw [← HLP.out]
      exact (HRK.out.ents HRL.out).mono (fun b hb _ => Nat.le_trans HL1.out.size hb) (fun _ _ _ => trivial)

end Go.Proofs.YtdjddlebjbngfaaGreatDoor.E4
