/-
  magpieref15.Ask: THE DOCUMENT'S ANSWER.
-/
import Derived.Test.YtdjddlebjbngfaaGreatDoorRf15
namespace Go.Proofs.YtdjddlebjbngfaaGreatDoor.E4
open Go.RowKit Go
open Go.Sort (grow)

/-- What the document's Cut hands on. -/
def RTc (B0 : Nat) (l : List Ent) (desc : Bool) (mo : Option Ent) (n : Nat) (v : Value) (w : World) : Prop :=
  ∃ v' srt, Sorts (ordC desc) l srt ∧ v = .tuple #[v', .bool (Md.cut (ordC desc) mo n srt).2] ∧ EntsAt (fun b => B0 ≤ b) (fun _ => True) w v' (Md.cut (ordC desc) mo n srt).1
def RL (B0 : Nat) (l : List Ent) (desc : Bool) (mo : Option Ent) (n : Nat) (v : Value) (w : World) : Prop :=
  ∃ srt, Sorts (ordC desc) l srt ∧ EntsAt (fun b => B0 ≤ b) (fun _ => True) w v (Md.cut (ordC desc) mo n srt).1
def RZ (B0 : Nat) (l : List Ent) (desc : Bool) (mo : Option Ent) (n : Nat) : Nat → Value → World → Prop
  | 2, v, w => ∃ srt, Sorts (ordC desc) l srt ∧ EntsAt (fun _ => True) (fun _ => True) w v srt
  | 7, v, w => RTc B0 l desc mo n v w
  | 8, v, w => RTc B0 l desc mo n v w
  | 9, v, w => RL B0 l desc mo n v w
  | 11, v, w => RL B0 l desc mo n v w
  | 10, v, _ => ∃ srt, Sorts (ordC desc) l srt ∧ v = .bool (Md.cut (ordC desc) mo n srt).2
  | 12, v, _ => ∃ srt, Sorts (ordC desc) l srt ∧ v = .bool (Md.cut (ordC desc) mo n srt).2
  | _, _, _ => True
theorem RTc.below {B0 : Nat} {l : List Ent} {desc : Bool} {mo : Option Ent} {n : Nat} {v : Value} {w w' : World} (h : RTc B0 l desc mo n v w) (hb : Below w.heap.size w w') : RTc B0 l desc mo n v w' := by
  obtain ⟨v', srt, h1, h2, h3⟩ := h
  exact ⟨v', srt, h1, h2, h3.below1 hb⟩
theorem RL.below {B0 : Nat} {l : List Ent} {desc : Bool} {mo : Option Ent} {n : Nat} {v : Value} {w w' : World} (h : RL B0 l desc mo n v w) (hb : Below w.heap.size w w') : RL B0 l desc mo n v w' := by
  obtain ⟨srt, h1, h3⟩ := h
  exact ⟨srt, h1, h3.below1 hb⟩
theorem RZ.below {B0 : Nat} {l : List Ent} {desc : Bool} {mo : Option Ent} {n : Nat} {j : Nat} {v : Value} {w w' : World} (h : RZ B0 l desc mo n j v w) (hb : Below w.heap.size w w') : RZ B0 l desc mo n j v w' := by
  unfold RZ at h ⊢
  split at h
  · obtain ⟨srt, h1, h3⟩ := h
    exact ⟨srt, h1, h3.below1 hb⟩
  · exact RTc.below h hb
  · exact RTc.below h hb
  · exact RL.below h hb
  · exact RL.below h hb
  · exact h
  · exact h
  · trivial

set_option maxHeartbeats 8000000 in
set_option maxRecDepth 100000 in
theorem refAsk_any (es : List Ent) (a : Ask) (v qv : Value) (has desc : Bool) (m : Ent) (ml : Value) (n : Int) {G L : Nat → Prop} (w : World) (h : EntsAt G L w v es) (hq : AskAt w qv a) (hm : LabsAt (fun _ => True) w ml m.labs)
    (hn : es.length ≤ 1000) :
    Calls Tryz.prog 12 #[.int .i64 3, v, qv, mkV has m ml, .bool desc, .int .i64 n] w (AskP (es.filter Ent.ok) a (mkO has m) desc n w) := by
  have hmx : Tryz.prog.follows .mixedOrders = true := by kernel_rfl
  obtain ⟨i24, z24, E24⟩ := elem24
  obtain ⟨ae, ce, rfl, he63, hec⟩ := id h
  obtain ⟨ma, mc, rfl, hm63, _⟩ := id hm
  obtain ⟨av, mv, rfl, hall, hmat⟩ := id hq
  obtain ⟨aa, ca, rfl, ha63, _⟩ := id hall
  obtain ⟨am, cm, rfl, hm6, _⟩ := id hmat
  unfold mkV Ask.cells
  unfold Ask.cells at hq
  obtain ⟨w1, hw1⟩ : ∃ w1, w1 = w.alloc (.cells #[.int .i64 a.kd, .int .i64 a.src, .int .i64 a.til, .slice aa a.all.length ca, .slice am a.mat.length cm] 26) := ⟨_, rfl⟩
  have hb1 : Below w.heap.size w w1 := by rw [hw1]; exact (Below.refl _ w).alloc (Nat.le_refl _) _
  have hk1 : Bl w1 w.heap.size 26 #[.int .i64 a.kd, .int .i64 a.src, .int .i64 a.til, .slice aa a.all.length ca, .slice am a.mat.length cm] := by rw [hw1]; exact Bl.new w 26 _
  obtain ⟨w2, hw2⟩ : ∃ w2, w2 = w1.alloc (.cells #[.bool has, .int .i64 m.tm, .slice ma m.labs.length mc, .string m.line] 31) := ⟨_, rfl⟩
  have hb12 : Below w1.heap.size w1 w2 := by rw [hw2]; exact (Below.refl _ w1).alloc (Nat.le_refl _) _
  obtain ⟨M, hM⟩ : ∃ M, M = w1.heap.size := ⟨_, rfl⟩
  have hk2 : Bl w2 M 31 #[.bool has, .int .i64 m.tm, .slice ma m.labs.length mc, .string m.line] := by rw [hw2, hM]; exact Bl.new w1 31 _
  have hb2 := below_mid hb1 hb12
  have hka := Bl.below hk1 hb12
  have hMs : M = w.heap.size + 1 := by rw [hM, hw1]; simp
  rw [hw1] at hw2
  have HMS := Lib.hid hMs
  have HW2 := Lib.hid hw2.symm
  have HB2 := Lib.hid hb2
  have HKA := Lib.hid hka
  have HKM := Lib.hid hk2
  have HEC : Hid (EntsAt (fun b => b < w.heap.size) (fun b => b < w.heap.size) w2 (.slice ae es.length ce) es) := Lib.hid ((h.mono (H := fun b => b < w.heap.size) (M := fun b => b < w.heap.size) (fun _ _ hb => hb) (fun _ _ hb => hb)).below1 hb2)
  have HQ := Lib.hid (hq.below hb2)
  have HM2 := Lib.hid (hm.below1 hb2)
  have HN := Lib.hid hn
  have c0 := hka.cell 0
  simp only [List.getElem?_toArray, List.getElem?_cons_zero] at c0
  clear h hq hm hall hmat hw1 hw2 hb1 hb12 hb2 hk1 hk2 hka hec hM hMs hn
  go_enter Tryz.func12, Tryz.ntmps12
  go_upto_region 1 with fail
  rw [HW2.out]
  by_cases hk : a.kd = 3
  · have HKD := Lib.hid hk
    have HG := Lib.hid (refGood3 a hk _ w2 HQ.out)
    have k1 : (a.kd == 3) = true := by simp [hk]
    clear hk
    have c1 := HKA.out.cell 1
    have c2 := HKA.out.cell 2
    have c3 := HKA.out.cell 3
    have c4 := HKA.out.cell 4
    simp only [List.getElem?_toArray, List.getElem?_cons_succ, List.getElem?_cons_zero] at c1 c2 c3 c4
    cases hgd : a.gd with
    | false =>
      rw [hgd] at HG
      go_wp2_with (go_at_call 17; refine HG.out.mono ?_; rintro x w4 ⟨rfl, hb4⟩)
      refine bodyPost_ret (v := .tuple #[.slice none 0 0, .bool false, .int .i64 1]) (by simp [results, Tryz.results12, go_sem]) rfl ⟨below_mid HB2.out hb4, .inr (.inl ⟨HKD.out, hgd, rfl⟩)⟩
    | true =>
      rw [hgd] at HG
      have HGD := Lib.hid hgd
      clear hgd
      go_upto_region 5 with (go_at_call 17; refine HG.out.mono ?_; rintro x w4 ⟨rfl, hb4⟩)
      have HB4 := Lib.hid (below_mid HB2.out hb4)
      have HKA4 := Lib.hid (HKA.out.below hb4)
      have HKM4 := Lib.hid (HKM.out.below hb4)
      have HEC4 := Lib.hid (HEC.out.below1 hb4)
      have HQ4 := Lib.hid (HQ.out.below hb4)
      have HM4 := Lib.hid (HM2.out.below1 hb4)
      clear hb4 c0 c1 c2 c3 c4 HG k1 HKA HKM HEC HQ HM2
      obtain ⟨P, hP⟩ : ∃ P : Ent → Bool, P = fun e => e.ok && inT a.src a.til e := ⟨_, rfl⟩
      have HPE : Hid (∀ e, P e = (e.ok && inT a.src a.til e)) := Lib.hid fun e => by rw [hP]
      have HPP : Hid (es.filter P = (es.filter Ent.ok).filter (inT a.src a.til)) := Lib.hid (by
        rw [hP, List.filter_filter]
        exact List.filter_congr fun x _ => Bool.and_comm _ _)
      have HFN : Hid ((es.filter P).length ≤ 1000) := Lib.hid (Nat.le_trans (List.length_filter_le _ _) HN.out)
      clear hP
      have HK4 : Hid (∀ (e : Ent) (al : Option Addr) (nl cl : Nat) (W : World), Below w4.heap.size w4 W → Calls Tryz.prog 29 #[.agg #[.int .i64 a.kd, .int .i64 a.src, .int .i64 a.til, .slice aa a.all.length ca, .slice am a.mat.length cm], .agg #[.int .i64 e.tm, .slice al nl cl, .string e.line]] W fun x w' => x = .returned (.bool (inT a.src a.til e)) ∧ Below W.heap.size W w') := Lib.hid fun e al nl cl W hW => refKeeps3 a HKD.out _ e al nl cl W (HQ4.out.below hW)
      go_wp2_with fail
      go_loopw [29, 15] (fun vi vb wr => ∃ (i : Nat) (S : List (Value × Ent)), vi = .int .i64 i ∧ i ≤ es.length ∧ Rk 3 (fun b => w4.heap.size ≤ b) wr vb S.length (flatR S) ∧ RawL (fun b => b < w4.heap.size) wr S ∧ S.map Prod.snd = (es.take i).filter P ∧ Below w4.heap.size w4 wr) (fun vi _ _ => es.length - (intOf vi).toNat)
      case atStart => exact ⟨0, [], rfl, Nat.zero_le _, Rk.nil 3 _ _, fun x hx => by simp at hx, by simp, Below.refl _ _⟩
      case round =>
        obtain ⟨i, S, rfl, hi, hsk, hsl, hS, hb⟩ := hrel
        have HSK := Lib.hid hsk
        have HSL := Lib.hid hsl
        have HSS := Lib.hid hS
        have HB := Lib.hid hb
        have HSn : Hid (S.length ≤ 1000) := Lib.hid (by
          have h1 := congrArg List.length hS
          have h2 := List.length_filter_le P (es.take i)
          have h3 := HN.out
          rw [List.length_map] at h1
          rw [List.length_take] at h2
          omega)
        clear hsk hsl hS
        by_cases hlt : i < es.length
        · obtain ⟨g, og, rfl, hgl, hce⟩ : ∃ g og, ae = some ⟨g, og, none⟩ ∧ g < w4.heap.size ∧ ∀ i (h : i < es.length), ∃ lv, w4.cell? ⟨g, og + i * 3, none⟩ = some (.int .i64 es[i].tm) ∧ w4.cell? ⟨g, og + i * 3 + 1, none⟩ = some lv ∧ w4.cell? ⟨g, og + i * 3 + 2, none⟩ = some (.string es[i].line) ∧ LabsAt (fun b => b < w.heap.size) w4 lv es[i].labs := by
            obtain ⟨a', c', hv, _, hx⟩ := HEC4.out
            simp only [Value.slice.injEq, true_and] at hv
            obtain ⟨rfl, rfl⟩ := hv
            rcases hx with h0 | ⟨g, og, rfl, _, hgl, hce⟩
            · exact absurd hlt (by rw [h0]; simp)
            · exact ⟨g, og, rfl, hgl, hce⟩
          obtain ⟨lv, x0, x1, x2, x3⟩ := hce i hlt
          have hft := filter_take P es i hlt
          have hpe := HPE.out es[i]
          generalize es[i] = e at x0 x1 x2 x3 hft hpe
          obtain ⟨al, cl, rfl, _⟩ := id x3
          have y0 : wr.cell? ⟨g, og + i * 3, none⟩ = _ := (hb.cell hgl).trans x0
          have y1 : wr.cell? ⟨g, og + i * 3 + 1, none⟩ = _ := (hb.cell hgl).trans x1
          have y2 : wr.cell? ⟨g, og + i * 3 + 2, none⟩ = _ := (hb.cell hgl).trans x2
          obtain ⟨w7, hw7⟩ : ∃ w7, w7 = wr.alloc (.cells #[.int .i64 e.tm, .slice al e.labs.length cl, .string e.line] 29) := ⟨_, rfl⟩
          have hb7 : Below wr.heap.size wr w7 := by rw [hw7]; exact (Below.refl _ wr).alloc (Nat.le_refl _) _
          have hlab : LabsAt (fun b => b < w4.heap.size) w7 (.slice al e.labs.length cl) e.labs := ((x3.mono (H := fun b => b < w4.heap.size) fun b _ hlt => hlt).below1 hb).below1 hb7
          have hne7 : Bl w7 wr.heap.size 29 #[.int .i64 e.tm, .slice al e.labs.length cl, .string e.line] := by rw [hw7]; exact Bl.new wr 29 _
          have HGE := Lib.hid (refGood_any hlab)
          have HB7 := Lib.hid hb7
          have HLAB := Lib.hid hlab
          have HFT := Lib.hid hft
          have HPX := Lib.hid hpe
          have HW7 := Lib.hid hw7.symm
          have HN7 := Lib.hid hne7
          have z0 := hne7.cell 0
          have z1 := hne7.cell 1
          have z2 := hne7.cell 2
          simp only [List.getElem?_toArray, List.getElem?_cons_succ, List.getElem?_cons_zero] at z0 z1 z2
          simp only [Ent.val] at HGE
          clear x0 x1 x2 x3 hb7 hlab hft hb hne7 hw7 hce hpe
          go_upto_region 9 with fail
          rw [HW7.out]
          clear y0 y1 y2
          cases hok : e.ok with
          | false =>
            rw [hok] at HGE
            go_wp2_with (go_at_call 28; refine HGE.out.mono ?_; rintro x w8 ⟨rfl, hl8⟩)
            have HB8 := Lib.hid (below_mid HB7.out (lay_below hl8))
            have HOK : Hid (P e = false) := Lib.hid (by rw [HPX.out, hok]; rfl)
            clear hl8 hok HGE z0 z1 z2
            go_wp2
            go_roundw
            case rel => exact ⟨i + 1, S, by go_num, by omega, HSK.out.below1 HB8.out, HSL.out.below1 HB8.out, by rw [HSS.out, HFT.out, HOK.out]; simp, HB.out.trans (HB8.out.mono HB.out.size)⟩
            case measure => simp [intOf]; omega
          | true =>
            rw [hok] at HGE
            go_wp2_with fail
            refine HGE.out.mono ?_
            rintro x wg ⟨rfl, hl8⟩
            have hb8 := lay_below hl8
            have hbw8 : Below w4.heap.size w4 wg := HB.out.trans ((below_mid HB7.out hb8).mono HB.out.size)
            have hka := HKA4.out.below hbw8
            have c0 := hka.cell 0
            have c1 := hka.cell 1
            have c2 := hka.cell 2
            have c3 := hka.cell 3
            have c4 := hka.cell 4
            have hn8 := HN7.out.below hb8
            have z0 := hn8.cell 0
            have z1 := hn8.cell 1
            have z2 := hn8.cell 2
            simp only [List.getElem?_toArray, List.getElem?_cons_succ, List.getElem?_cons_zero] at z0 z1 z2 c0 c1 c2 c3 c4
            have HKP := Lib.hid (HK4.out e al e.labs.length cl wg hbw8)
            have HB78 := Lib.hid hb8
            have HOK := Lib.hid hok
            have HMS' := HMS.out
            clear hl8 hb8 hbw8 hka hn8 hok HGE
            cases hkp : inT a.src a.til e with
            | false =>
              rw [hkp] at HKP
              go_wp2_with (go_at_call 29; refine HKP.out.mono ?_; rintro x w9 ⟨rfl, hb9⟩)
              have HB9 := Lib.hid (below_mid (below_mid HB7.out HB78.out) hb9)
              have HPF : Hid (P e = false) := Lib.hid (by rw [HPX.out, hkp, Bool.and_false])
              clear hb9 hkp HKP z0 z1 z2 c0 c1 c2 c3 c4
              go_wp2
              go_roundw
              case rel => exact ⟨i + 1, S, by go_num, by omega, HSK.out.below1 HB9.out, HSL.out.below1 HB9.out, by rw [HSS.out, HFT.out, HPF.out]; simp, HB.out.trans (HB9.out.mono HB.out.size)⟩
              case measure => simp [intOf]; omega
            | true =>
              rw [hkp] at HKP
              go_wp2_with fail
              refine HKP.out.mono ?_
              rintro x w8 ⟨rfl, hb9⟩
              have hb78 : Below w7.heap.size w7 w8 := below_mid HB78.out hb9
              have HPT : Hid (P e = true) := Lib.hid (by rw [HPX.out, hkp, HOK.out]; rfl)
              have hn8 := HN7.out.below hb78
              have z0 := hn8.cell 0
              have z1 := hn8.cell 1
              have z2 := hn8.cell 2
              simp only [List.getElem?_toArray, List.getElem?_cons_succ, List.getElem?_cons_zero] at z0 z1 z2
              clear hb9 hkp HKP c0 c1 c2 c3 c4 HOK
              have hsrc := src_entN (e := e) (w := w8) (al := al) (cl := cl)
              have HSRC := Lib.hid hsrc
              have hsn := HSn.out
              have HB8 := Lib.hid (below_mid HB7.out hb78)
              have HL8 := Lib.hid (HLAB.out.below1 hb78)
              have HS8 : Hid (w4.heap.size ≤ w8.heap.size) := Lib.hid (Nat.le_trans HB.out.size HB8.out.size)
              clear hsrc hb78 hn8
              go_wp2_with (at_builtin; refine wpList_append_rk E24 _ rfl _ _ 22 rfl (G := fun b => w4.heap.size ≤ b) rfl ((HSK.out.below1 HB8.out).alloc _) ?c1 (.slice (some ⟨w8.heap.size, 0, none⟩) 1 1) 1 (flatR [((.slice al e.labs.length cl : Value), e)]) rfl HSRC.out ?c3 ?c4 ?_)
              case c1 =>
                intro k hk
                have h1 := HS8.out
                simp at hk
                omega
              case c3 => omega
              case c4 => omega
              intro v' w9 hrk9 hk9
              have hba : Below w8.heap.size w8 (w8.alloc (.cells #[.int .i64 e.tm, .slice al e.labs.length cl, .string e.line] 29)) := (Below.refl _ _).alloc (Nat.le_refl _) _
              have hb1a : Below w4.heap.size w4 (w8.alloc (.cells #[.int .i64 e.tm, .slice al e.labs.length cl, .string e.line] 29)) := HB.out.trans ((below_mid HB8.out hba).mono HB.out.size)
              have hb9 : Below w4.heap.size w4 w9 := keep_below ((HSK.out.below1 HB8.out).alloc _) (fun b hb => hb) hb1a hk9
              have HRK9 : Hid (Rk 3 (fun b => w4.heap.size ≤ b) w9 v' (S ++ [((.slice al e.labs.length cl : Value), e)]).length (flatR (S ++ [((.slice al e.labs.length cl : Value), e)]))) := Lib.hid (by
                have := hrk9.mono (G' := fun b => w4.heap.size ≤ b) fun b hb _ => hb.1
                rw [flatR_append, List.length_append]
                exact this)
              have hraw : RawL (fun b => b < w4.heap.size) w9 (S ++ [((.slice al e.labs.length cl : Value), e)]) := fun z hz => by
                have hold : ∀ b, b < w4.heap.size → ∀ u : World, Below w4.heap.size w4 u → w9.heap[b]? = u.heap[b]? := fun b hb u hu => (hb9.block b hb).trans (hu.block b hb).symm
                rcases List.mem_append.1 hz with hz | hz
                · exact (HSL.out z hz).carry (Nat.le_trans HB8.out.size (Nat.le_trans hba.size hk9.size)) fun b hb _ => hold b hb wr HB.out
                · obtain rfl := List.mem_singleton.1 hz
                  exact HL8.out.carry (Nat.le_trans hba.size hk9.size) fun b hb _ => hold b hb _ (HB.out.trans (HB8.out.mono HB.out.size))
              have HRAW := Lib.hid hraw
              have HB9 := Lib.hid hb9
              clear hrk9 hk9 hba hb1a hb9 hraw z0 z1 z2
              go_wp2
              go_roundw
              case rel => exact ⟨i + 1, S ++ [((.slice al e.labs.length cl : Value), e)], by go_num, by omega, HRK9.out, HRAW.out, by rw [List.map_append, HSS.out, HFT.out, HPT.out]; rfl, HB9.out⟩
              case measure => simp [intOf]; omega
        · obtain rfl : i = es.length := by omega
          have hR' := HSS.out
          rw [List.take_of_length_le (Nat.le_refl _)] at hR'
          have hents := HSK.out.ents HSL.out
          rw [hR'] at hents
          obtain ⟨xl, xc, rfl, _⟩ := id hents
          have hdr : Below wr.heap.size wr wr.drew := lay_below ((Keep.refl (fun _ => False) wr).drew)
          have HLS : Hid (∀ W1, Below wr.drew.heap.size wr.drew W1 → EntsAt (fun _ => True) (fun _ => True) W1 (.slice xl (es.filter P).length xc) (es.filter P)) := Lib.hid fun W1 hW => hents.any.below1 (below_mid hdr hW)
          have HML : Hid (∀ W1, Below wr.drew.heap.size wr.drew W1 → LabsAt (fun _ => True) W1 (.slice ma m.labs.length mc) m.labs) := Lib.hid fun W1 hW => (HM4.out.below1 hb).below1 (below_mid hdr hW)
          have HMB : Hid (∀ W1, Below wr.drew.heap.size wr.drew W1 → Bl W1 (w.heap.size + 1) 31 #[.bool has, .int .i64 m.tm, .slice ma m.labs.length mc, .string m.line]) := Lib.hid fun W1 hW => by rw [← HMS.out]; exact (HKM4.out.below hb).below (below_mid hdr hW)
          clear hR' hents hdr hb
          go_upto_region 12 with fail
          refine (wpIn_wide (n := 9)).1 ?_
          refine H3.wpIn_region_flow (fun _ => trivial) (by kernel_rfl) (fun _ _ W => Below wr.drew.heap.size wr.drew W) (fun _ _ W1 W2 => Below W1.heap.size W1 W2) (GV [some (.bool desc), some (.slice xl (es.filter P).length xc), none, some (.bool desc), some (.agg #[.bool has, .int .i64 m.tm, .slice ma m.labs.length mc, .string m.line]), some (.int .i64 n), some (.int .i64 (max n 0)), none, none, none, none, none, none] [2, 7, 8, 9, 10, 11, 12] (RZ wr.drew.heap.size (es.filter P) desc (mkO has m) n.toNat)) (fun j => j == 11 || j == 12) (by kernel_rfl) (by kernel_rfl) ?hst (Below.refl _ _) ?step ?fin
          case hst =>
            intro i j ys v w1 w2 hij hanc hned hV hR
            by_cases hj2 : j = 2
            · subst hj2
              exact GV.keep (sp := RZ wr.drew.heap.size (es.filter P) desc (mkO has m) n.toNat) (fun _ _ _ _ h hb => RZ.below h hb) hij hV hR
            by_cases hj7 : j = 7
            · subst hj7
              exact GV.keep (sp := RZ wr.drew.heap.size (es.filter P) desc (mkO has m) n.toNat) (fun _ _ _ _ h hb => RZ.below h hb) hij hV hR
            by_cases hj8 : j = 8
            · subst hj8
              exact GV.keep (sp := RZ wr.drew.heap.size (es.filter P) desc (mkO has m) n.toNat) (fun _ _ _ _ h hb => RZ.below h hb) hij hV hR
            by_cases hj9 : j = 9
            · subst hj9
              exact GV.keep (sp := RZ wr.drew.heap.size (es.filter P) desc (mkO has m) n.toNat) (fun _ _ _ _ h hb => RZ.below h hb) hij hV hR
            by_cases hj10 : j = 10
            · subst hj10
              exact GV.keep (sp := RZ wr.drew.heap.size (es.filter P) desc (mkO has m) n.toNat) (fun _ _ _ _ h hb => RZ.below h hb) hij hV hR
            by_cases hj11 : j = 11
            · subst hj11
              exact GV.keep (sp := RZ wr.drew.heap.size (es.filter P) desc (mkO has m) n.toNat) (fun _ _ _ _ h hb => RZ.below h hb) hij hV hR
            by_cases hj12 : j = 12
            · subst hj12
              exact GV.keep (sp := RZ wr.drew.heap.size (es.filter P) desc (mkO has m) n.toNat) (fun _ _ _ _ h hb => RZ.below h hb) hij hV hR
            exact gvq_keep (by simp; omega) hij hV
          case step =>
            refine ⟨?_, ?_, ?_, ?_, ?_, ?_, ?_, ?_, ?_, ?_, ?_, ?_, ?_, trivial⟩
            · intro listed ys X W1 hsz hsd hi2 hall hX hI hd K hK
              have e4 : X.tmps.getD 4 undef = .bool desc := hX 4 (Nat.le_of_ble_eq_true rfl)
              have HI := Lib.hid hI
              refine H3.step_run (.inl rfl) ?_
              clear hX hd hI
              go_simp
              exact hK _ _ HI.out (Below.refl _ _) (GV.of (by decide) (fun u h => by cases h; rfl))
            · intro listed ys X W1 hsz hsd hi2 hall hX hI hd K hK
              have e15 : X.tmps.getD 15 undef = .slice xl (es.filter P).length xc := hX 15 (Nat.le_of_ble_eq_true rfl)
              have HI := Lib.hid hI
              refine H3.step_run (.inl rfl) ?_
              clear hX hd hI
              go_simp
              exact hK _ _ HI.out (Below.refl _ _) (GV.of (by decide) (fun u h => by cases h; rfl))
            · intro listed ys X W1 hsz hsd hi2 hall hX hI hd K hK
              have e46 : X.tmps.getD 46 undef = .bool desc := (hX 46 (Nat.le_of_ble_eq_true rfl)).trans (GV.val (hd ⟨0, .data⟩ (by simp) rfl) (by decide) rfl)
              have e47 : X.tmps.getD 47 undef = .slice xl (es.filter P).length xc := (hX 47 (Nat.le_of_ble_eq_true rfl)).trans (GV.val (hd ⟨1, .data⟩ (by simp) rfl) (by decide) rfl)
              have HI := Lib.hid hI
              have HSO := Lib.hid (refSort_any desc (HLS.out W1 hI) HFN.out)
              refine H3.step_run (.inl rfl) ?_
              clear hX hd hI
              go_simp
              refine ⟨trivial, (callsIn_wide.2 HSO.out).mono ?_⟩
              rintro x w7 ⟨v', R', rfl, hrk, hrl, hso, hl⟩
              have hb := lay_below hl
              exact hK _ _ (HI.out.trans (hb.mono HI.out.size)) hb (GV.ofsp (by decide) (show RZ _ _ _ _ _ 2 v' w7 from ⟨R'.map Prod.snd, hso, (hrk.ents hrl).any⟩))
            · intro listed ys X W1 hsz hsd hi2 hall hX hI hd K hK
              have e4 : X.tmps.getD 4 undef = .bool desc := hX 4 (Nat.le_of_ble_eq_true rfl)
              have HI := Lib.hid hI
              refine H3.step_run (.inl rfl) ?_
              clear hX hd hI
              go_simp
              exact hK _ _ HI.out (Below.refl _ _) (GV.of (by decide) (fun u h => by cases h; rfl))
            · intro listed ys X W1 hsz hsd hi2 hall hX hI hd K hK
              have e9 : X.tmps.getD 9 undef = .pointer (some ⟨w.heap.size + 1, 0, none⟩) := hX 9 (Nat.le_of_ble_eq_true rfl)
              have hx := HMB.out W1 hI
              have x0 := hx.cell 0
              have x1 := hx.cell 1
              have x2 := hx.cell 2
              have x3 := hx.cell 3
              simp only [List.getElem?_toArray, List.getElem?_cons_succ, List.getElem?_cons_zero] at x0 x1 x2 x3
              clear hx
              have HI := Lib.hid hI
              refine H3.step_run (.inl rfl) ?_
              clear hX hd hI
              go_simp
              exact hK _ _ HI.out (Below.refl _ _) (GV.of (by decide) (fun u h => by cases h; rfl))
            · intro listed ys X W1 hsz hsd hi2 hall hX hI hd K hK
              have e5 : X.tmps.getD 5 undef = .int .i64 n := hX 5 (Nat.le_of_ble_eq_true rfl)
              have HI := Lib.hid hI
              refine H3.step_run (.inl rfl) ?_
              clear hX hd hI
              go_simp
              exact hK _ _ HI.out (Below.refl _ _) (GV.of (by decide) (fun u h => by cases h; rfl))
            · intro listed ys X W1 hsz hsd hi2 hall hX hI hd K hK
              have e51 : X.tmps.getD 51 undef = .int .i64 n := (hX 51 (Nat.le_of_ble_eq_true rfl)).trans (GV.val (hd ⟨5, .data⟩ (by simp) rfl) (by decide) rfl)
              have HI := Lib.hid hI
              refine H3.step_run (.inl rfl) ?_
              clear hX hd hI
              go_simp
              exact hK _ _ HI.out (Below.refl _ _) (GV.of (by decide) (fun u h => by cases h; rfl))
            · intro listed ys X W1 hsz hsd hi2 hall hX hI hd K hK
              have e48 : X.tmps.getD 48 undef = ys 2 := hX 48 (Nat.le_of_ble_eq_true rfl)
              have hv2 := GV.spv (hd ⟨2, .data⟩ (by simp) rfl) (by decide)
              have e49 : X.tmps.getD 49 undef = .bool desc := (hX 49 (Nat.le_of_ble_eq_true rfl)).trans (GV.val (hd ⟨3, .data⟩ (by simp) rfl) (by decide) rfl)
              have e50 : X.tmps.getD 50 undef = .agg #[.bool has, .int .i64 m.tm, .slice ma m.labs.length mc, .string m.line] := (hX 50 (Nat.le_of_ble_eq_true rfl)).trans (GV.val (hd ⟨4, .data⟩ (by simp) rfl) (by decide) rfl)
              have e52 : X.tmps.getD 52 undef = .int .i64 (max n 0) := (hX 52 (Nat.le_of_ble_eq_true rfl)).trans (GV.val (hd ⟨6, .data⟩ (by simp) rfl) (by decide) rfl)
              have HI := Lib.hid hI
              obtain ⟨srt, hso, hent⟩ : ∃ srt, Sorts (ordC desc) (es.filter P) srt ∧ EntsAt (fun _ => True) (fun _ => True) W1 (ys 2) srt := hv2
              have hlen : srt.length ≤ 1000000 := by have h1 := Sorts.len13 hso; have := HFN.out; omega
              have HCU := Lib.hid (refCut_any desc has m (.slice ma m.labs.length mc) srt (ys 2) n.toNat W1 hent (HML.out W1 hI) hlen)
              have HSO := Lib.hid hso
              have hBW := HI.out.size
              simp only [mkV, show ((n.toNat : Nat) : Int) = max n 0 from by omega] at HCU
              refine H3.step_run (.inl rfl) ?_
              clear hX hd hI hso hent hlen
              go_simp
              refine ⟨trivial, (callsIn_wide.2 HCU.out).mono ?_⟩
              rintro x w7 ⟨v', rfl, hent, hl⟩
              have hb := lay_below hl
              exact hK _ _ (HI.out.trans (hb.mono HI.out.size)) hb (GV.ofsp (by decide) (show RZ _ _ _ _ _ 7 _ w7 from ⟨v', _, HSO.out, rfl, hent.mono (fun b hb2 _ => Nat.le_trans hBW hb2) (fun _ _ _ => trivial)⟩))
            · intro listed ys X W1 hsz hsd hi2 hall hX hI hd K hK
              have e53 : X.tmps.getD 53 undef = ys 7 := hX 53 (Nat.le_of_ble_eq_true rfl)
              have hv7 := GV.spv (hd ⟨7, .data⟩ (by simp) rfl) (by decide)
              have HI := Lib.hid hI
              have HV := Lib.hid hv7
              refine H3.step_run (.inl rfl) ?_
              clear hX hd hI hv7
              go_simp
              exact hK _ _ HI.out (Below.refl _ _) (GV.ofsp (by decide) (show RZ _ _ _ _ _ 8 _ W1 from HV.out))
            · intro listed ys X W1 hsz hsd hi2 hall hX hI hd K hK
              have e45 : X.tmps.getD 45 undef = ys 8 := hX 45 (Nat.le_of_ble_eq_true rfl)
              have hv8 := GV.spv (hd ⟨8, .data⟩ (by simp) rfl) (by decide)
              have HI := Lib.hid hI
              obtain ⟨v', srt, hso, hv, hr⟩ : RTc wr.drew.heap.size (es.filter P) desc (mkO has m) n.toNat (ys 8) W1 := hv8
              rw [hv] at e45
              have HV := Lib.hid (And.intro hso hr)
              refine H3.step_run (.inl rfl) ?_
              clear hX hd hI hso hr hv
              go_simp
              exact hK _ _ HI.out (Below.refl _ _) (GV.ofsp (by decide) (show RZ _ _ _ _ _ 9 _ W1 from ⟨srt, HV.out.1, HV.out.2⟩))
            · intro listed ys X W1 hsz hsd hi2 hall hX hI hd K hK
              have e45 : X.tmps.getD 45 undef = ys 8 := hX 45 (Nat.le_of_ble_eq_true rfl)
              have hv8 := GV.spv (hd ⟨8, .data⟩ (by simp) rfl) (by decide)
              have HI := Lib.hid hI
              obtain ⟨v', srt, hso, hv, hr⟩ : RTc wr.drew.heap.size (es.filter P) desc (mkO has m) n.toNat (ys 8) W1 := hv8
              rw [hv] at e45
              have HV := Lib.hid hso
              refine H3.step_run (.inl rfl) ?_
              clear hX hd hI hso hr hv
              go_simp
              exact hK _ _ HI.out (Below.refl _ _) (GV.ofsp (by decide) (show RZ _ _ _ _ _ 10 _ W1 from ⟨srt, HV.out, rfl⟩))
            · intro listed ys X W1 hsz hsd hi2 hall hX hI hd K hK
              have e54 : X.tmps.getD 54 undef = ys 9 := hX 54 (Nat.le_of_ble_eq_true rfl)
              have hv9 := GV.spv (hd ⟨9, .data⟩ (by simp) rfl) (by decide)
              have HI := Lib.hid hI
              have HV := Lib.hid hv9
              refine H3.step_run (.inl rfl) ?_
              clear hX hd hI hv9
              go_simp
              exact hK _ _ HI.out (Below.refl _ _) (GV.ofsp (by decide) (show RZ _ _ _ _ _ 11 _ W1 from HV.out))
            · intro listed ys X W1 hsz hsd hi2 hall hX hI hd K hK
              have e55 : X.tmps.getD 55 undef = ys 10 := hX 55 (Nat.le_of_ble_eq_true rfl)
              have hv10 := GV.spv (hd ⟨10, .data⟩ (by simp) rfl) (by decide)
              have HI := Lib.hid hI
              have HV := Lib.hid hv10
              refine H3.step_run (.inl rfl) ?_
              clear hX hd hI hv10
              go_simp
              exact hK _ _ HI.out (Below.refl _ _) (GV.ofsp (by decide) (show RZ _ _ _ _ _ 12 _ W1 from HV.out))
          case fin =>
            intro listed ys w5 hall hI hV
            obtain ⟨srt, hso, hent⟩ : RL wr.drew.heap.size (es.filter P) desc (mkO has m) n.toNat (ys 11) w5 := GV.spv (hV 11 (by decide) rfl) (by decide)
            obtain ⟨srt2, hso2, h12⟩ : ∃ srt, Sorts (ordC desc) (es.filter P) srt ∧ ys 12 = .bool (Md.cut (ordC desc) (mkO has m) n.toNat srt).2 := GV.spv (hV 12 (by decide) rfl) (by decide)
            obtain rfl := Sorts.unique (ordC_lc desc) hso2 hso fun _ => Iff.rfl
            obtain ⟨lv, hlv⟩ : ∃ v, ys 11 = v := ⟨_, rfl⟩
            rw [hlv] at hent
            have HFIN : Hid (Below w.heap.size w w5) := Lib.hid (HB4.out.trans ((HB.out.trans ((lay_below ((Keep.refl (fun _ => False) wr).drew)).trans (Below.mono hI (Nat.le_refl _)) |>.mono HB.out.size)).mono HB4.out.size))
            have HW : Hid (w.heap.size ≤ wr.heap.size) := Lib.hid (Nat.le_trans HB4.out.size HB.out.size)
            have HEN := Lib.hid hent
            have HSO := Lib.hid hso
            rw [HPP.out] at HSO
            obtain ⟨xl2, xc2, rfl, _⟩ := id hent
            clear hso hso2 hent hI hV hall
            simp only [H3.putsFrom]
            simp only [hlv, h12, Act.put, List.setIfInBounds_toArray, List.set_cons_succ, List.set_cons_zero]
            clear hlv h12
            go_wp2_with fail
            refine bodyPost_ret (v := .tuple #[.slice xl2 (Md.cut (ordC desc) (mkO has m) n.toNat srt2).1.length xc2, .bool (Md.cut (ordC desc) (mkO has m) n.toNat srt2).2, .int .i64 0]) (by simp [results, Tryz.results12, go_sem]) rfl ⟨HFIN.out, .inr (.inr ⟨HKD.out, HGD.out, _, srt2, HSO.out, rfl, ?_⟩)⟩
            exact HEN.out.mono (fun b hb _ => Nat.le_trans HW.out hb) (fun _ _ _ => trivial)
  · have k1 : (a.kd == 3) = false := by simp [hk]
    have HKD := Lib.hid hk
    clear hk
    go_wp2_with fail
    refine bodyPost_ret (v := .tuple #[.slice none 0 0, .bool false, .int .i64 12]) (by simp [results, Tryz.results12, go_sem]) rfl ⟨HB2.out, .inl ⟨HKD.out, rfl⟩⟩

end Go.Proofs.YtdjddlebjbngfaaGreatDoor.E4
