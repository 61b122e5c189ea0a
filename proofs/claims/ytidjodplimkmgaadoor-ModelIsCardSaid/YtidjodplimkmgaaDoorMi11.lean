/-
  Answer, Cut AND Page ANSWER WHAT THE DOCUMENT SAYS: the law's walk.
-/
import Derived.Test.YtidjodplimkmgaaDoorAl11
import Derived.Test.YtidjodplimkmgaaDoorAr11
import Derived.Test.YtidjodplimkmgaaDoorRc11
import Derived.Test.YtidjodplimkmgaaDoorMq11
namespace Go.Proofs.YtidjodplimkmgaaDoor.E4
open Go.RowKit Go
open Go.Sort (grow)

set_option maxHeartbeats 16000000 in
set_option maxRecDepth 100000 in
theorem modelIs_walk (l : List Int) (u : Value) (rows : List (List Ent)) (rv : Value) (has : Bool) (m : Ent) (ml : Value) (n : Int) (w : World) (hu : IntsAt w u l) (hr : RowsAt w rv rows) (hm : LabsAt (fun _ => True) w ml m.labs) (hT : Lib.Utf8Tabs 1 2 w) (hSh : w.ShapedOpen Tryd.prog) :
    Calls Tryd.prog 3 #[u, rv, mkV has m ml, .int .i64 n] w fun e w' => e = .returned (.bool true) ∧ Below w.heap.size w w' := by
  have hmx : Tryd.prog.follows .mixedOrders = true := by kernel_rfl
  obtain ⟨a, cap, rfl, hl63, _⟩ := id hu
  obtain ⟨ar, cr, rfl, hr63, _⟩ := id hr
  obtain ⟨al, cl, rfl, hm63, _⟩ := id hm
  obtain ⟨w0, hw0⟩ : ∃ w0, w0 = w.alloc (.cells #[.bool has, .int .i64 m.tm, .slice al m.labs.length cl, .string m.line] 28) := ⟨_, rfl⟩
  have hb0 : Below w.heap.size w w0 := by rw [hw0]; exact (Below.refl _ w).alloc (Nat.le_refl _) _
  have hk0 : CB w0 w.heap.size 28 #[.bool has, .int .i64 m.tm, .slice al m.labs.length cl, .string m.line] := by rw [hw0]; exact CB.new w 28 _
  have HW0 := Lib.hid hw0.symm
  have HAL := Lib.hid (alive_any w0 (shaped_below hSh hb0))
  have HB0 := Lib.hid hb0
  have HK0 := Lib.hid hk0
  have HU0 := Lib.hid (hu.below9 hb0)
  have HR0 := Lib.hid (hr.below1 hb0)
  have HM0 := Lib.hid (hm.below1 hb0)
  have HT0 := Lib.hid (tabs_below hT hb0)
  have HS0 := Lib.hid (shaped_below hSh hb0)
  clear hu hr hm hT hSh hw0 hb0 hk0
  unfold mkV
  go_enter Tryd.func3, Tryd.ntmps3
  go_wp2_with fail
  rw [HW0.out]
  refine HAL.out.mono ?_
  rintro e w1 ⟨rfl, hb1⟩
  have HB1 := Lib.hid (below_mid HB0.out hb1)
  have HK1 := Lib.hid (cb_below HK0.out hb1)
  have HU1 := Lib.hid (HU0.out.below9 hb1)
  have HR1 := Lib.hid (HR0.out.below1 hb1)
  have HM1 := Lib.hid (HM0.out.below1 hb1)
  have HT1 := Lib.hid (tabs_below HT0.out hb1)
  have HS1 := Lib.hid (shaped_below HS0.out hb1)
  have HG := Lib.hid (greatIn_any l _ rows _ w1 HU1.out HR1.out)
  clear hb1 HAL HB0 HK0 HU0 HR0 HM0 HT0 HS0
  cases hbig : bigIn l rows with
  | true =>
    rw [hbig] at HG
    clear hbig
    go_wp2_with (go_at_call 6; refine HG.out.mono ?_; rintro e w2 ⟨rfl, hb2⟩)
    go_ret
    exact ⟨rfl, below_mid HB1.out hb2⟩
  | false =>
  rw [hbig] at HG
  have HN := Lib.hid (bigIn_no hbig)
  have HFL := Lib.hid (bigIn_flat hbig)
  clear hbig
  go_wp2_with fail
  refine HG.out.mono ?_
  rintro e w2 ⟨rfl, hb2⟩
  have HB2 := Lib.hid (below_mid HB1.out hb2)
  have HK2 := Lib.hid (cb_below HK1.out hb2)
  have HU2 := Lib.hid (HU1.out.below9 hb2)
  have HR2 := Lib.hid (HR1.out.below1 hb2)
  have HM2 := Lib.hid (HM1.out.below1 hb2)
  have HT2 := Lib.hid (tabs_below HT1.out hb2)
  have HS2 := Lib.hid (shaped_below HS1.out hb2)
  have HGE := Lib.hid (great_any (e := m) HM2.out)
  have m0 := HK2.out.cell 0
  have m1 := HK2.out.cell 1
  have m2 := HK2.out.cell 2
  have m3 := HK2.out.cell 3
  simp only [List.getElem?_toArray, List.getElem?_cons_succ, List.getElem?_cons_zero] at m0 m1 m2 m3
  clear hb2 HG HB1 HK1 HU1 HR1 HM1 HT1 HS1
  simp only [Ent.val] at HGE
  cases hmb : m.big with
  | true =>
    rw [hmb] at HGE
    go_wp2_with (go_at_call 7; refine HGE.out.mono ?_; rintro e w3 ⟨rfl, hl3⟩)
    go_ret
    exact ⟨rfl, below_mid HB2.out (lay_below hl3)⟩
  | false =>
  rw [hmb] at HGE
  clear hmb
  go_wp2_with fail
  refine HGE.out.mono ?_
  rintro e w3 ⟨rfl, hl3⟩
  have hb3 := lay_below hl3
  have HB3 := Lib.hid (below_mid HB2.out hb3)
  have HK3 := Lib.hid (cb_below HK2.out hb3)
  have HU3 := Lib.hid (HU2.out.below9 hb3)
  have HR3 := Lib.hid (HR2.out.below1 hb3)
  have HM3 := Lib.hid (HM2.out.below1 hb3)
  have HT3 := Lib.hid (tabs_below HT2.out hb3)
  have HS3 := Lib.hid (shaped_below HS2.out hb3)
  have HQ := Lib.hid (query_any l w3 _ HU3.out)
  clear hl3 hb3 HGE HB2 HK2 HU2 HR2 HM2 HT2 HS2 m0 m1 m2 m3
  go_wp2_with fail
  refine HQ.out.mono ?_
  rintro e w4 ⟨vq, rfl, ⟨mv, kv, rfl, hmq, hkq⟩, hl4⟩
  have HQF := Lib.hid (query_fit l)
  have HQW := Lib.hid (query_whole l)
  have HLIM := Lib.hid (query_lim l)
  generalize Qy.query l = q at hmq hkq HQF HQW HLIM ⊢
  obtain ⟨am, cm, rfl, hq63, _⟩ := id hmq
  obtain ⟨ak, ck, rfl⟩ := hkq.shape
  have hb4 := hl4.below
  obtain ⟨w5, hw5⟩ : ∃ w5, w5 = w4.alloc (.cells #[.int .i64 q.src, .int .i64 q.til, .slice am q.mat.length cm, .int .i64 q.fil.op, .string q.fil.name, .string q.fil.text, .slice ak q.fil.kids.length ck, .bool q.desc, .int .i64 q.lim, .string q.page] 37) := ⟨_, rfl⟩
  have hb45 : Below w4.heap.size w4 w5 := by rw [hw5]; exact (Below.refl _ w4).alloc (Nat.le_refl _) _
  have hq5 : CB w5 w4.heap.size 37 #[.int .i64 q.src, .int .i64 q.til, .slice am q.mat.length cm, .int .i64 q.fil.op, .string q.fil.name, .string q.fil.text, .slice ak q.fil.kids.length ck, .bool q.desc, .int .i64 q.lim, .string q.page] := by rw [hw5]; exact CB.new w4 37 _
  have hb35 := below_mid hb4 hb45
  have HP5 : Hid (MQ w5 w4.heap.size q am cm ak ck rows (.slice ar rows.length cr)) := Lib.hid ⟨hq5, hmq.below9 hb45, KsAt.below hb45 _ _ hkq, HR3.out.below1 hb35, shaped_below HS3.out hb35⟩
  have HB5 := Lib.hid (below_mid HB3.out hb35)
  have HK5 := Lib.hid (cb_below HK3.out hb35)
  have HM5 := Lib.hid (HM3.out.below1 hb35)
  have HT5 := Lib.hid (tabs_below HT3.out hb35)
  have HW5 := Lib.hid hw5.symm
  clear hmq hkq hl4 hb4 hw5 hb45 hq5 hb35 HB3 HK3 HU3 HR3 HM3 HT3 HS3 HQ
  simp only [Qy.val]
  go_upto_region 6 with fail
  rw [HW5.out]
  generalize w4.heap.size = B at HP5 ⊢
  have HF := Lib.hid HN.out.2.2.1
  -- the document's answer
  have c0 := HP5.out.c.cell 0
  have c1 := HP5.out.c.cell 1
  have c2 := HP5.out.c.cell 2
  have c3 := HP5.out.c.cell 3
  have c4 := HP5.out.c.cell 4
  have c5 := HP5.out.c.cell 5
  have c6 := HP5.out.c.cell 6
  have c7 := HP5.out.c.cell 7
  have c8 := HP5.out.c.cell 8
  have c9 := HP5.out.c.cell 9
  simp only [List.getElem?_toArray, List.getElem?_cons_succ, List.getElem?_cons_zero] at c0 c1 c2 c3 c4 c5 c6 c7 c8 c9
  have HRA := Lib.hid (refAnswer_any q _ rows _ w5 HP5.out.qat HQF.out HP5.out.r HF.out (Nat.le_trans HFL.out (by decide)) HQW.out HT5.out)
  simp only [Qy.val] at HRA
  go_wp2_with fail
  refine HRA.out.mono ?_
  rintro e w6 ⟨v6, out, rfl, hent6, hsq6, hso6, hb6⟩
  have HP6 := Lib.hid (HP5.out.below hb6)
  have HB6 := Lib.hid (below_mid HB5.out hb6)
  have HK6 := Lib.hid (cb_below HK5.out hb6)
  have HM6 := Lib.hid (HM5.out.below1 hb6)
  have HE6 := Lib.hid hent6.any
  have HSQ := Lib.hid hsq6
  have HSO := Lib.hid hso6
  have HOL : Hid (out.length ≤ 1000000) := Lib.hid (Nat.le_trans (Sorts.short (ordC_lc q.desc) hso6) (Nat.le_trans (kept_len q rows) (Nat.le_trans HFL.out (by decide))))
  obtain ⟨a6, c6', rfl⟩ : ∃ a c, v6 = .slice a out.length c := by
    rcases hsq6 with ⟨h1, h2⟩ | ⟨g, c, h1, _⟩
    · exact ⟨none, 0, by rw [h1, h2]⟩
    · exact ⟨_, c, h1⟩
  clear hent6 hsq6 hso6 hb6 HRA HP5 HB5 HK5 HM5 HT5 c0 c1 c2 c3 c4 c5 c6 c7 c8 c9
  -- the program's
  have c0 := HP6.out.c.cell 0
  have c1 := HP6.out.c.cell 1
  have c2 := HP6.out.c.cell 2
  have c3 := HP6.out.c.cell 3
  have c4 := HP6.out.c.cell 4
  have c5 := HP6.out.c.cell 5
  have c6 := HP6.out.c.cell 6
  have c7 := HP6.out.c.cell 7
  have c8 := HP6.out.c.cell 8
  have c9 := HP6.out.c.cell 9
  simp only [List.getElem?_toArray, List.getElem?_cons_succ, List.getElem?_cons_zero] at c0 c1 c2 c3 c4 c5 c6 c7 c8 c9
  have HOA := Lib.hid (answer_any q _ rows _ w6 HP6.out.qat HQF.out HP6.out.r HF.out (Nat.le_trans HFL.out (by decide)) HP6.out.s)
  simp only [Qy.val] at HOA
  go_wp2_with fail
  refine HOA.out.mono ?_
  rintro e w7 ⟨v7, out7, rfl, hent7, hsq7, hso7, hb7⟩
  obtain rfl := Sorts.unique (ordC_lc q.desc) hso7 HSO.out (fun _ => Iff.rfl)
  have HAA := Lib.hid (all_any hent7 (HE6.out.below1 hb7))
  have HP7 := Lib.hid (HP6.out.below hb7)
  have HB7 := Lib.hid (below_mid HB6.out hb7)
  have HK7 := Lib.hid (cb_below HK6.out hb7)
  have HM7 := Lib.hid (HM6.out.below1 hb7)
  have HE7 := Lib.hid (HE6.out.below1 hb7)
  clear hent7 hsq7 hso7 hb7 HOA HP6 HB6 HK6 HM6 HE6 c0 c1 c2 c3 c4 c5 c6 c7 c8 c9
  go_wp2_with fail
  refine HAA.out.mono ?_
  rintro e w8 ⟨rfl, hl8⟩
  have hb8 := lay_below hl8
  have HP8 := Lib.hid (HP7.out.below hb8)
  have HB8 := Lib.hid (below_mid HB7.out hb8)
  have HK8 := Lib.hid (cb_below HK7.out hb8)
  have HM8 := Lib.hid (HM7.out.below1 hb8)
  have HE8 := Lib.hid (HE7.out.below1 hb8)
  clear hl8 hb8 HAA HP7 HB7 HK7 HM7 HE7
  -- Cut
  have c0 := HP8.out.c.cell 0
  have c1 := HP8.out.c.cell 1
  have c2 := HP8.out.c.cell 2
  have c3 := HP8.out.c.cell 3
  have c4 := HP8.out.c.cell 4
  have c5 := HP8.out.c.cell 5
  have c6 := HP8.out.c.cell 6
  have c7 := HP8.out.c.cell 7
  have c8 := HP8.out.c.cell 8
  have c9 := HP8.out.c.cell 9
  simp only [List.getElem?_toArray, List.getElem?_cons_succ, List.getElem?_cons_zero] at c0 c1 c2 c3 c4 c5 c6 c7 c8 c9
  have m0 := HK8.out.cell 0
  have m1 := HK8.out.cell 1
  have m2 := HK8.out.cell 2
  have m3 := HK8.out.cell 3
  simp only [List.getElem?_toArray, List.getElem?_cons_succ, List.getElem?_cons_zero] at m0 m1 m2 m3
  have HCT := Lib.hid (cut_any q.desc has m _ _ _ n w8 HE8.out HSQ.out HM8.out HSO.out.1 HOL.out)
  simp only [mkV] at HCT
  go_wp2_with fail
  refine HCT.out.mono ?_
  rintro e w9 ⟨v9, rfl, hent9, hl9⟩
  have hb9 := lay_below hl9
  have HP9 := Lib.hid (HP8.out.below hb9)
  have HB9 := Lib.hid (below_mid HB8.out hb9)
  have HK9 := Lib.hid (cb_below HK8.out hb9)
  have HM9 := Lib.hid (HM8.out.below1 hb9)
  have HE9 := Lib.hid (HE8.out.below1 hb9)
  have HC9 := Lib.hid hent9.any
  clear hl9 hb9 hent9 HCT HP8 HB8 HK8 HM8 HE8 c0 c1 c2 c3 c4 c5 c6 c7 c8 c9 m0 m1 m2 m3
  have c0 := HP9.out.c.cell 0
  have c1 := HP9.out.c.cell 1
  have c2 := HP9.out.c.cell 2
  have c3 := HP9.out.c.cell 3
  have c4 := HP9.out.c.cell 4
  have c5 := HP9.out.c.cell 5
  have c6 := HP9.out.c.cell 6
  have c7 := HP9.out.c.cell 7
  have c8 := HP9.out.c.cell 8
  have c9 := HP9.out.c.cell 9
  simp only [List.getElem?_toArray, List.getElem?_cons_succ, List.getElem?_cons_zero] at c0 c1 c2 c3 c4 c5 c6 c7 c8 c9
  have m0 := HK9.out.cell 0
  have m1 := HK9.out.cell 1
  have m2 := HK9.out.cell 2
  have m3 := HK9.out.cell 3
  simp only [List.getElem?_toArray, List.getElem?_cons_succ, List.getElem?_cons_zero] at m0 m1 m2 m3
  have HEN : Hid (max n 0 = ((n.toNat : Nat) : Int)) := Lib.hid (by omega)
  have HRC := Lib.hid (refCut_any q.desc has m _ _ _ n.toNat w9 HE9.out HM9.out HOL.out)
  simp only [mkV] at HRC
  go_wp2_with fail
  rw [HEN.out]
  refine HRC.out.mono ?_
  rintro e w10 ⟨v10, rfl, hent10, hl10⟩
  have hb10 := lay_below hl10
  have HP10 := Lib.hid (HP9.out.below hb10)
  have HB10 := Lib.hid (below_mid HB9.out hb10)
  have HK10 := Lib.hid (cb_below HK9.out hb10)
  have HM10 := Lib.hid (HM9.out.below1 hb10)
  have HE10 := Lib.hid (HE9.out.below1 hb10)
  have HC10 := Lib.hid (HC9.out.below1 hb10)
  have HD10 := Lib.hid hent10.any
  clear hl10 hb10 hent10 HRC HP9 HB9 HK9 HM9 HE9 HC9 c0 c1 c2 c3 c4 c5 c6 c7 c8 c9 m0 m1 m2 m3
  generalize Md.cut (ordC q.desc) (mkO has m) n.toNat _ = r1 at HC10 HD10 ⊢
  -- Page
  have c0 := HP10.out.c.cell 0
  have c1 := HP10.out.c.cell 1
  have c2 := HP10.out.c.cell 2
  have c3 := HP10.out.c.cell 3
  have c4 := HP10.out.c.cell 4
  have c5 := HP10.out.c.cell 5
  have c6 := HP10.out.c.cell 6
  have c7 := HP10.out.c.cell 7
  have c8 := HP10.out.c.cell 8
  have c9 := HP10.out.c.cell 9
  simp only [List.getElem?_toArray, List.getElem?_cons_succ, List.getElem?_cons_zero] at c0 c1 c2 c3 c4 c5 c6 c7 c8 c9
  have m0 := HK10.out.cell 0
  have m1 := HK10.out.cell 1
  have m2 := HK10.out.cell 2
  have m3 := HK10.out.cell 3
  simp only [List.getElem?_toArray, List.getElem?_cons_succ, List.getElem?_cons_zero] at m0 m1 m2 m3
  have HPG := Lib.hid (page_any q _ rows _ has m _ w10 HP10.out.qat HQF.out HP10.out.r HF.out (Nat.le_trans HFL.out (by decide)) HM10.out HP10.out.s)
  simp only [mkV, Qy.val] at HPG
  go_wp2_with fail
  refine HPG.out.mono ?_
  rintro e w11 ⟨out11, v11, hso11, he11, hent11, hb11⟩
  obtain rfl := Sorts.unique (ordC_lc q.desc) hso11 HSO.out (fun _ => Iff.rfl)
  subst he11
  have HP11 := Lib.hid (HP10.out.below hb11)
  have HB11 := Lib.hid (below_mid HB10.out hb11)
  have HK11 := Lib.hid (cb_below HK10.out hb11)
  have HM11 := Lib.hid (HM10.out.below1 hb11)
  have HE11 := Lib.hid (HE10.out.below1 hb11)
  have HC11 := Lib.hid (HC10.out.below1 hb11)
  have HD11 := Lib.hid (HD10.out.below1 hb11)
  have HG11 := Lib.hid hent11.any
  clear hso11 hent11 hb11 HPG HP10 HB10 HK10 HM10 HE10 HC10 HD10 c0 c1 c2 c3 c4 c5 c6 c7 c8 c9 m0 m1 m2 m3
  have c0 := HP11.out.c.cell 0
  have c1 := HP11.out.c.cell 1
  have c2 := HP11.out.c.cell 2
  have c3 := HP11.out.c.cell 3
  have c4 := HP11.out.c.cell 4
  have c5 := HP11.out.c.cell 5
  have c6 := HP11.out.c.cell 6
  have c7 := HP11.out.c.cell 7
  have c8 := HP11.out.c.cell 8
  have c9 := HP11.out.c.cell 9
  simp only [List.getElem?_toArray, List.getElem?_cons_succ, List.getElem?_cons_zero] at c0 c1 c2 c3 c4 c5 c6 c7 c8 c9
  have m0 := HK11.out.cell 0
  have m1 := HK11.out.cell 1
  have m2 := HK11.out.cell 2
  have m3 := HK11.out.cell 3
  simp only [List.getElem?_toArray, List.getElem?_cons_succ, List.getElem?_cons_zero] at m0 m1 m2 m3
  have el : q.lim = ((q.lim.toNat : Nat) : Int) := by have := HLIM.out.1; omega
  have HRC := Lib.hid (refCut_any q.desc has m _ _ _ q.lim.toNat w11 HE11.out HM11.out HOL.out)
  rw [← el] at HRC
  simp only [mkV] at HRC
  clear el
  go_wp2_with fail
  refine HRC.out.mono ?_
  rintro e w12 ⟨v12, rfl, hent12, hl12⟩
  have hb12 := lay_below hl12
  have HB12 := Lib.hid (below_mid HB11.out hb12)
  have HC12 := Lib.hid (HC11.out.below1 hb12)
  have HD12 := Lib.hid (HD11.out.below1 hb12)
  have HG12 := Lib.hid (HG11.out.below1 hb12)
  have HH12 := Lib.hid hent12.any
  clear hl12 hb12 hent12 HRC HP11 HB11 HK11 HM11 HE11 HC11 HD11 HG11 c0 c1 c2 c3 c4 c5 c6 c7 c8 c9 m0 m1 m2 m3
  generalize Md.cut (ordC q.desc) (mkO has m) q.lim.toNat _ = r2 at HG12 HH12 ⊢
  obtain ⟨l1, b1⟩ := r1
  obtain ⟨l2, b2⟩ := r2
  have e1 : (b1 == b1) = true := by cases b1 <;> rfl
  have e2 : (b2 == b2) = true := by cases b2 <;> rfl
  have HA1 := Lib.hid (all_any HC12.out HD12.out)
  go_wp2_with fail
  refine HA1.out.mono ?_
  rintro e w13 ⟨rfl, hl13⟩
  have hb13 := lay_below hl13
  have HB13 := Lib.hid (below_mid HB12.out hb13)
  have HA2 := Lib.hid (all_any (HG12.out.below1 hb13) (HH12.out.below1 hb13))
  clear hl13 hb13 HA1 HB12 HC12 HD12 HG12 HH12
  go_wp2_with fail
  refine HA2.out.mono ?_
  rintro e w14 ⟨rfl, hl14⟩
  have HB14 := Lib.hid (below_mid HB13.out (lay_below hl14))
  clear hl14 HA2
  go_wp2_with fail
  go_ret
  exact ⟨rfl, HB14.out⟩

end Go.Proofs.YtidjodplimkmgaaDoor.E4
