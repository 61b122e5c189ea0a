/-
  ENTRIES THAT A QUERY DOESN'T KEEP CHANGE NOTHING; one that it keeps is among its answer then: the law's walk.
-/
import Derived.Test.YtidjodplimkmgaaDoorAl11
import Derived.Test.YtidjodplimkmgaaDoorMv11
namespace Go.Proofs.YtidjodplimkmgaaDoor.E4
open Go.RowKit Go
open Go.Sort (grow)

set_option maxHeartbeats 16000000 in
set_option maxRecDepth 100000 in
theorem modelMore_walk (l : List Int) (u : Value) (rows : List (List Ent)) (rv : Value) (e : Ent) (lv : Value) (w : World) (hu : IntsAt w u l) (hr : RowsAt w rv rows) (hl : LabsAt (fun _ => True) w lv e.labs) (hT : Lib.Utf8Tabs 1 2 w) (hSh : w.ShapedOpen Tryd.prog) :
    Calls Tryd.prog 4 #[u, rv, e.val lv] w fun x w' => x = .returned (.bool true) ∧ Below w.heap.size w w' := by
  have hmx : Tryd.prog.follows .mixedOrders = true := by kernel_rfl
  obtain ⟨a, cap, rfl, hl63, _⟩ := id hu
  obtain ⟨ar, cr, rfl, hr63, _⟩ := id hr
  obtain ⟨al, cl, rfl, he63, _⟩ := id hl
  obtain ⟨w0, hw0⟩ : ∃ w0, w0 = w.alloc (.cells #[.int .i64 e.tm, .slice al e.labs.length cl, .string e.line] 26) := ⟨_, rfl⟩
  have hb0 : Below w.heap.size w w0 := by rw [hw0]; exact (Below.refl _ w).alloc (Nat.le_refl _) _
  have he0 : CB w0 w.heap.size 26 #[.int .i64 e.tm, .slice al e.labs.length cl, .string e.line] := by rw [hw0]; exact CB.new w 26 _
  have HW0 := Lib.hid hw0.symm
  have HAL := Lib.hid (alive_any w0 (shaped_below hSh hb0))
  have HB0 := Lib.hid hb0
  have HE0 := Lib.hid he0
  have HU0 := Lib.hid (hu.below9 hb0)
  have HR0 := Lib.hid (hr.below1 hb0)
  have HL0 := Lib.hid (hl.below1 hb0)
  have HT0 := Lib.hid (tabs_below hT hb0)
  have HS0 := Lib.hid (shaped_below hSh hb0)
  clear hu hr hl hT hSh hw0 hb0 he0
  unfold Ent.val
  go_enter Tryd.func4, Tryd.ntmps4
  go_wp2_with fail
  rw [HW0.out]
  refine HAL.out.mono ?_
  rintro x w1 ⟨rfl, hb1⟩
  have HB1 := Lib.hid (below_mid HB0.out hb1)
  have HE1 := Lib.hid (cb_below HE0.out hb1)
  have HU1 := Lib.hid (HU0.out.below9 hb1)
  have HR1 := Lib.hid (HR0.out.below1 hb1)
  have HL1 := Lib.hid (HL0.out.below1 hb1)
  have HT1 := Lib.hid (tabs_below HT0.out hb1)
  have HS1 := Lib.hid (shaped_below HS0.out hb1)
  have HG := Lib.hid (greatIn_any l _ rows _ w1 HU1.out HR1.out)
  clear hb1 HAL HB0 HE0 HU0 HR0 HL0 HT0 HS0
  cases hbig : bigIn l rows with
  | true =>
    rw [hbig] at HG
    clear hbig
    go_wp2_with (go_at_call 6; refine HG.out.mono ?_; rintro e w2 ⟨rfl, hb2⟩)
    go_ret
    exact ⟨rfl, below_mid HB1.out hb2⟩
  | false =>
  rw [hbig] at HG
  have HN := Lib.hid (bigIn_no hbig)
  have HFL := Lib.hid (bigIn_flat hbig)
  clear hbig
  go_wp2_with fail
  refine HG.out.mono ?_
  rintro x w2 ⟨rfl, hb2⟩
  have HB2 := Lib.hid (below_mid HB1.out hb2)
  have HE2 := Lib.hid (cb_below HE1.out hb2)
  have HU2 := Lib.hid (HU1.out.below9 hb2)
  have HR2 := Lib.hid (HR1.out.below1 hb2)
  have HL2 := Lib.hid (HL1.out.below1 hb2)
  have HT2 := Lib.hid (tabs_below HT1.out hb2)
  have HS2 := Lib.hid (shaped_below HS1.out hb2)
  have HGE := Lib.hid (great_any (e := e) HL2.out)
  have d0 := HE2.out.cell 0
  have d1 := HE2.out.cell 1
  have d2 := HE2.out.cell 2
  simp only [List.getElem?_toArray, List.getElem?_cons_succ, List.getElem?_cons_zero] at d0 d1 d2
  clear hb2 HG HB1 HE1 HU1 HR1 HL1 HT1 HS1
  simp only [Ent.val] at HGE
  cases hmb : e.big with
  | true =>
    rw [hmb] at HGE
    go_wp2_with (go_at_call 7; refine HGE.out.mono ?_; rintro x w3 ⟨rfl, hl3⟩)
    go_ret
    exact ⟨rfl, below_mid HB2.out (lay_below hl3)⟩
  | false =>
  rw [hmb] at HGE
  have HLN := Lib.hid (E4.big_line hmb)
  clear hmb
  go_wp2_with fail
  refine HGE.out.mono ?_
  rintro x w3 ⟨rfl, hl3⟩
  have hb3 := lay_below hl3
  have HB3 := Lib.hid (below_mid HB2.out hb3)
  have HE3 := Lib.hid (cb_below HE2.out hb3)
  have HU3 := Lib.hid (HU2.out.below9 hb3)
  have HR3 := Lib.hid (HR2.out.below1 hb3)
  have HL3 := Lib.hid (HL2.out.below1 hb3)
  have HT3 := Lib.hid (tabs_below HT2.out hb3)
  have HS3 := Lib.hid (shaped_below HS2.out hb3)
  have HQ := Lib.hid (query_any l w3 _ HU3.out)
  clear hl3 hb3 HGE HB2 HE2 HU2 HR2 HL2 HT2 HS2 d0 d1 d2
  go_wp2_with fail
  refine HQ.out.mono ?_
  rintro x w4 ⟨vq, rfl, ⟨mv, kv, rfl, hmq, hkq⟩, hl4⟩
  have HQF := Lib.hid (query_fit l)
  have HQW := Lib.hid (query_whole l)
  generalize Qy.query l = q at hmq hkq HQF HQW ⊢
  obtain ⟨am, cm, rfl, hq63, _⟩ := id hmq
  obtain ⟨ak, ck, rfl⟩ := hkq.shape
  have hb4 := hl4.below
  obtain ⟨w5, hw5⟩ : ∃ w5, w5 = w4.alloc (.cells #[.int .i64 q.src, .int .i64 q.til, .slice am q.mat.length cm, .int .i64 q.fil.op, .string q.fil.name, .string q.fil.text, .slice ak q.fil.kids.length ck, .bool q.desc, .int .i64 q.lim, .string q.page] 37) := ⟨_, rfl⟩
  have hb45 : Below w4.heap.size w4 w5 := by rw [hw5]; exact (Below.refl _ w4).alloc (Nat.le_refl _) _
  have hq5 : CB w5 w4.heap.size 37 #[.int .i64 q.src, .int .i64 q.til, .slice am q.mat.length cm, .int .i64 q.fil.op, .string q.fil.name, .string q.fil.text, .slice ak q.fil.kids.length ck, .bool q.desc, .int .i64 q.lim, .string q.page] := by rw [hw5]; exact CB.new w4 37 _
  have hb35 := below_mid hb4 hb45
  have HP5 : Hid (MQ w5 w4.heap.size q am cm ak ck rows (.slice ar rows.length cr)) := Lib.hid ⟨hq5, hmq.below9 hb45, KsAt.below hb45 _ _ hkq, HR3.out.below1 hb35, shaped_below HS3.out hb35⟩
  have HB5 := Lib.hid (below_mid HB3.out hb35)
  have HE5 := Lib.hid (cb_below HE3.out hb35)
  have HL5 := Lib.hid (HL3.out.below1 hb35)
  have HT5 := Lib.hid (tabs_below HT3.out hb35)
  have HW5 := Lib.hid hw5.symm
  clear hmq hkq hl4 hb4 hw5 hb45 hq5 hb35 HB3 HE3 HU3 HR3 HL3 HT3 HS3 HQ
  simp only [Qy.val]
  go_upto_region 6 with fail
  rw [HW5.out]
  generalize w4.heap.size = B at HP5 ⊢
  have HF := Lib.hid HN.out.2.2.1
  have c0 := HP5.out.c.cell 0
  have c1 := HP5.out.c.cell 1
  have c2 := HP5.out.c.cell 2
  have c3 := HP5.out.c.cell 3
  have c4 := HP5.out.c.cell 4
  have c5 := HP5.out.c.cell 5
  have c6 := HP5.out.c.cell 6
  have c7 := HP5.out.c.cell 7
  have c8 := HP5.out.c.cell 8
  have c9 := HP5.out.c.cell 9
  simp only [List.getElem?_toArray, List.getElem?_cons_succ, List.getElem?_cons_zero] at c0 c1 c2 c3 c4 c5 c6 c7 c8 c9
  have HOA := Lib.hid (answer_any q _ rows _ w5 HP5.out.qat HQF.out HP5.out.r HF.out (Nat.le_trans HFL.out (by decide)) HP5.out.s)
  simp only [Qy.val] at HOA
  go_wp2_with fail
  refine HOA.out.mono ?_
  rintro x w6 ⟨va, outA, rfl, hentA, _, hsoA, hb6⟩
  obtain ⟨aa, ca, rfl⟩ := hentA.slice
  have HP6 := Lib.hid (HP5.out.below hb6)
  have HB6 := Lib.hid (below_mid HB5.out hb6)
  have HE6 := Lib.hid (cb_below HE5.out hb6)
  have HL6 := Lib.hid (HL5.out.below1 hb6)
  have HT6 := Lib.hid (tabs_below HT5.out hb6)
  have HA6 := Lib.hid hentA.any
  have HSOA := Lib.hid hsoA
  have HLA : Hid (outA.length ≤ 1000) := Lib.hid (Nat.le_trans (Sorts.short (ordC_lc q.desc) hsoA) (Nat.le_trans (kept_len q rows) (Nat.le_trans HFL.out (by decide))))
  have HLA1 : Hid ((outA ++ [e]).length ≤ 1000) := Lib.hid (by
    have := Nat.le_trans (Sorts.short (ordC_lc q.desc) hsoA) (Nat.le_trans (kept_len q rows) HFL.out)
    simp
    omega)
  clear hentA hsoA hb6 HOA HP5 HB5 HE5 HL5 HT5 c0 c1 c2 c3 c4 c5 c6 c7 c8 c9
  obtain ⟨xs, hxs⟩ : ∃ xs, RowsB w6.heap.size w6 xs rows ∧ ∀ W, Below w6.heap.size w6 W → Src Tryd.prog 1 23 (.slice ar rows.length cr) rows.length xs W := HP6.out.r.rowsB
  have HX := Lib.hid hxs
  have hrl : rows.length ≤ 6 := HN.out.2.1
  have hfine1 : Fine (rows ++ [[e]]) := fun r hr x hx => by
    rcases List.mem_append.1 hr with hr | hr
    · exact HF.out r hr x hx
    · obtain rfl := List.mem_singleton.1 hr
      obtain rfl := List.mem_singleton.1 hx
      exact Nat.le_trans HLN.out (by decide)
  have HAN : Hid (∀ W v, Below w6.heap.size w6 W → RowsAt W v (rows ++ [[e]]) → Calls Tryd.prog 11 #[.agg #[.int .i64 q.src, .int .i64 q.til, .slice am q.mat.length cm, .int .i64 q.fil.op, .string q.fil.name, .string q.fil.text, .slice ak q.fil.kids.length ck, .bool q.desc, .int .i64 q.lim, .string q.page], v] W (AnsPost q (rows ++ [[e]]) W)) := Lib.hid fun W v hW hv => by
    have h := answer_any q _ (rows ++ [[e]]) v W (HP6.out.below hW).qat HQF.out hv hfine1 (by rw [List.flatten_append, List.length_append]; have h1 := HFL.out; simp only [List.flatten_cons, List.flatten_nil, List.append_nil, List.length_cons, List.length_nil]; omega) (HP6.out.below hW).s
    exact h
  clear hxs hfine1
  go_wp2_with fail
  refine wp_region_flow (by kernel_rfl) (fun W => Below w6.heap.size w6 W) (MR w6.heap.size) (MV q (q.val (.slice am q.mat.length cm) (.slice ak q.fil.kids.length ck)) (.slice ar rows.length cr) (e.val (.slice al e.labs.length cl)) (.slice al e.labs.length cl) e rows w6.heap.size) (fun j => j == 9) (by kernel_rfl) (by kernel_rfl) ?hst (lay_below ((Keep.refl (fun _ => False) w6).drew)) ?step ?fin
  case hst =>
      intro i j v W W' hij hanc hneed hV hI hR
      by_cases hi : i = 7
      · subst hi
        match j, hV with
        | 0, hV => exact hV
        | 1, hV => cases (Eq.symm hneed).trans (by kernel_rfl : _ = false)
        | 2, hV => exact hV
        | 3, hV => cases (Eq.symm hneed).trans (by kernel_rfl : _ = false)
        | 4, hV => exact hV
        | 5, hV => cases (Eq.symm hneed).trans (by kernel_rfl : _ = false)
        | 6, hV => cases (Eq.symm hneed).trans (by kernel_rfl : _ = false)
        | 7, hV => exact absurd rfl hij
        | 8, hV => cases hanc.symm.trans (by kernel_rfl : _ = true)
        | 9, hV => cases hanc.symm.trans (by kernel_rfl : _ = true)
        | _ + 10, _ => trivial
      · have hb : Below W.heap.size W W' := by
          unfold MR at hR
          split at hR
          · exact absurd rfl hi
          · exact hR
        exact MV.below hV hb
  case step =>
    refine ⟨?_, ?_, ?_, ?_, ?_, ?_, ?_, ?_, ?_, ?_, trivial⟩
    · intro ys A W hA hI hd K hK
      have e7 : A.tmps.getD 7 undef = .pointer (some ⟨B, 0, none⟩) := hA 7 (Nat.le_of_ble_eq_true rfl)
      have hq := cb_below HP6.out.c hI
      have c0 := hq.cell 0
      have c1 := hq.cell 1
      have c2 := hq.cell 2
      have c3 := hq.cell 3
      have c4 := hq.cell 4
      have c5 := hq.cell 5
      have c6 := hq.cell 6
      have c7 := hq.cell 7
      have c8 := hq.cell 8
      have c9 := hq.cell 9
      simp only [List.getElem?_toArray, List.getElem?_cons_succ, List.getElem?_cons_zero] at c0 c1 c2 c3 c4 c5 c6 c7 c8 c9
      refine step_run (.inl rfl) ?_
      clear hA hd hq
      go_simp
      exact hK _ _ hI (Below.refl _ _) rfl
    · intro ys A W hA hI hd K hK
      refine step_run (.inl rfl) ?_
      clear hA hd
      go_simp
      have hb : Below W.heap.size W (W.alloc (.cells #[] 39)) := (Below.refl _ W).alloc (Nat.le_refl _) _
      exact hK _ _ (hI.trans (hb.mono hI.size)) hb ⟨W.heap.size, rfl, (rk_new 1 W 0 [] 39 rfl (by omega)).mono fun b h _ => by rw [h]; exact hI.size⟩
    · intro ys A W hA hI hd K hK
      have e1 : A.tmps.getD 1 undef = .slice ar rows.length cr := hA 1 (Nat.le_of_ble_eq_true rfl)
      refine step_run (.inl rfl) ?_
      clear hA hd
      go_simp
      exact hK _ _ hI (Below.refl _ _) rfl
    · intro ys A W hA hI hd K hK
      have e28 : A.tmps.getD 28 undef = ys 1 := hA 28 (Nat.le_of_ble_eq_true rfl)
      have e29 : A.tmps.getD 29 undef = .slice ar rows.length cr := (hA 29 (Nat.le_of_ble_eq_true rfl)).trans (hd ⟨2, .data⟩ (by simp) rfl)
      obtain ⟨g, hg, hrk⟩ : MV q (q.val (.slice am q.mat.length cm) (.slice ak q.fil.kids.length ck)) (.slice ar rows.length cr) (e.val (.slice al e.labs.length cl)) (.slice al e.labs.length cl) e rows w6.heap.size 1 (ys 1) W := hd ⟨1, .data⟩ (by simp) rfl
      rw [hg] at e28
      obtain ⟨v', w', hrun, h1, h2, h3, h4⟩ := append_rows hrk (HX.out.1.below hI.size fun b hb _ => hI.block b hb) (HX.out.2 W hI) hI.size (by omega) 23
      have hb := lay_below h4
      exact step_run (.inl rfl) (oper_append (.tmp 28) (.tmp 29) 23 rfl (show A.tmps.getD 28 undef = _ from e28) (show A.tmps.getD 29 undef = _ from e29) hrun (hK _ _ (hI.trans (hb.mono hI.size)) hb ⟨_, h1, h2, fun h => ⟨g, h3 h⟩⟩))
    · intro ys A W hA hI hd K hK
      have e5 : A.tmps.getD 5 undef = .pointer (some ⟨w.heap.size, 0, none⟩) := hA 5 (Nat.le_of_ble_eq_true rfl)
      have he := cb_below HE6.out hI
      have d0 := he.cell 0
      have d1 := he.cell 1
      have d2 := he.cell 2
      simp only [List.getElem?_toArray, List.getElem?_cons_succ, List.getElem?_cons_zero] at d0 d1 d2
      refine step_run (.inl rfl) ?_
      clear hA hd he
      go_simp
      exact hK _ _ hI (Below.refl _ _) rfl
    · intro ys A W hA hI hd K hK
      have e31 : A.tmps.getD 31 undef = .agg #[.int .i64 e.tm, .slice al e.labs.length cl, .string e.line] := (hA 31 (Nat.le_of_ble_eq_true rfl)).trans (hd ⟨4, .data⟩ (by simp) rfl)
      refine step_run (.inl rfl) ?_
      clear hA hd
      have f31 : A.tmps[31]?.getD undef = _ := Array.getD_eq_getD_getElem?.symm.trans e31
      go_simp
      have hb : Below W.heap.size W (W.alloc (.cells #[.int .i64 e.tm, .slice al e.labs.length cl, .string e.line] 26)) := (Below.refl _ W).alloc (Nat.le_refl _) _
      have hcb := CB.new W 26 #[.int .i64 e.tm, .slice al e.labs.length cl, .string e.line]
      exact hK _ _ (hI.trans (hb.mono hI.size)) hb ⟨W.heap.size, rfl, hI.size, hcb.lt, hcb.cell 0, hcb.cell 1, hcb.cell 2, (LabsAt.upto HL6.out).carry (Nat.le_trans hI.size hb.size) fun b hbl _ => (hb.block b (Nat.lt_of_lt_of_le hbl hI.size)).trans (hI.block b hbl)⟩
    · intro ys A W hA hI hd K hK
      have e32 : A.tmps.getD 32 undef = ys 5 := hA 32 (Nat.le_of_ble_eq_true rfl)
      obtain ⟨g, hg, h1⟩ : MV q (q.val (.slice am q.mat.length cm) (.slice ak q.fil.kids.length ck)) (.slice ar rows.length cr) (e.val (.slice al e.labs.length cl)) (.slice al e.labs.length cl) e rows w6.heap.size 5 (ys 5) W := hd ⟨5, .data⟩ (by simp) rfl
      rw [hg] at e32
      refine step_run (.inl rfl) ?_
      clear hA hd
      have f32 : A.tmps[32]?.getD undef = _ := Array.getD_eq_getD_getElem?.symm.trans e32
      go_simp
      have hb : Below W.heap.size W (W.alloc (.cells #[.slice (some ⟨g, 0, none⟩) 1 1] 39)) := (Below.refl _ W).alloc (Nat.le_refl _) _
      have hcb := CB.new W 39 #[.slice (some ⟨g, 0, none⟩) 1 1]
      exact hK _ _ (hI.trans (hb.mono hI.size)) hb ⟨W.heap.size, g, rfl, hcb.lt, hcb.cell 0, h1.carry hb.size fun b _ hlt => hb.block b hlt⟩
    · intro ys A W hA hI hd K hK
      have e30 : A.tmps.getD 30 undef = ys 3 := hA 30 (Nat.le_of_ble_eq_true rfl)
      have e33 : A.tmps.getD 33 undef = ys 6 := hA 33 (Nat.le_of_ble_eq_true rfl)
      obtain ⟨xs, h1, h2, h3⟩ : MV q (q.val (.slice am q.mat.length cm) (.slice ak q.fil.kids.length ck)) (.slice ar rows.length cr) (e.val (.slice al e.labs.length cl)) (.slice al e.labs.length cl) e rows w6.heap.size 3 (ys 3) W := hd ⟨3, .data⟩ (by simp) rfl
      obtain ⟨g, g5, hg, h4, h5, h6⟩ : MV q (q.val (.slice am q.mat.length cm) (.slice ak q.fil.kids.length ck)) (.slice ar rows.length cr) (e.val (.slice al e.labs.length cl)) (.slice al e.labs.length cl) e rows w6.heap.size 6 (ys 6) W := hd ⟨6, .data⟩ (by simp) rfl
      have hsrc : Src Tryd.prog 1 23 (ys 6) 1 [.slice (some ⟨g5, 0, none⟩) 1 1] W := by
        rw [hg]
        refine Src.ofSlice _ Tryd.underlying23 ⟨g, 0, none⟩ 1 1 _ rfl (fun j u hu => ?_) (fun u hu => ?_)
        · have hj : j < 1 := by simpa using (List.getElem?_eq_some_iff.1 hu).1
          obtain rfl : j = 0 := by omega
          rw [YtidjodplimkmgaaDoor.add_lit, h5]
          simpa using hu
        · obtain rfl := List.mem_singleton.1 hu
          rfl
      obtain ⟨v', w', hrun, h7, h8⟩ := append_row h1 h2 h3 rfl h6 (ys 6) hsrc hI.size (by omega) 23
      exact step_run (.inl rfl) (oper_append (.tmp 30) (.tmp 33) 23 rfl (show A.tmps.getD 30 undef = _ from e30) (show A.tmps.getD 33 undef = _ from e33) hrun (hK _ _ (hI.trans ⟨h8.os, h8.tape, h8.output, h8.size, fun b hb => h8.block b (Nat.lt_of_lt_of_le hb hI.size) (by omega)⟩) h8 h7))
    · intro ys A W hA hI hd K hK
      have e27 : A.tmps.getD 27 undef = .agg #[.int .i64 q.src, .int .i64 q.til, .slice am q.mat.length cm, .int .i64 q.fil.op, .string q.fil.name, .string q.fil.text, .slice ak q.fil.kids.length ck, .bool q.desc, .int .i64 q.lim, .string q.page] := (hA 27 (Nat.le_of_ble_eq_true rfl)).trans (hd ⟨0, .data⟩ (by simp) rfl)
      have e34 : A.tmps.getD 34 undef = ys 7 := hA 34 (Nat.le_of_ble_eq_true rfl)
      have hr7 : RowsAt W (ys 7) (rows ++ [[e]]) := hd ⟨7, .data⟩ (by simp) rfl
      have HOB := Lib.hid (HAN.out W (ys 7) hI hr7)
      refine step_run (.inl rfl) ?_
      clear hA hd
      have f27 : A.tmps[27]?.getD undef = _ := Array.getD_eq_getD_getElem?.symm.trans e27
      have f34 : A.tmps[34]?.getD undef = _ := Array.getD_eq_getD_getElem?.symm.trans e34
      go_simp
      refine HOB.out.mono ?_
      rintro r w' ⟨v, out, rfl, h1, _, h3, hb⟩
      exact hK _ _ (hI.trans (hb.mono hI.size)) hb ⟨out, h1.any, h3⟩
    · intro ys A W hA hI hd K hK
      have e35 : A.tmps.getD 35 undef = ys 8 := hA 35 (Nat.le_of_ble_eq_true rfl)
      have h8 : ∃ out, EntsAt (fun _ => True) (fun _ => True) W (ys 8) out ∧ Sorts (ordC q.desc) (kept q (rows ++ [[e]])) out := hd ⟨8, .data⟩ (by simp) rfl
      refine step_run (.inl rfl) ?_
      clear hA hd
      have f35 : A.tmps[35]?.getD undef = _ := Array.getD_eq_getD_getElem?.symm.trans e35
      go_simp
      exact hK _ _ hI (Below.refl _ _) h8
  case fin =>
    intro ys w7 hI hF
    obtain ⟨outB, hentB, hsoB⟩ : ∃ out, EntsAt (fun _ => True) (fun _ => True) w7 (ys 9) out ∧ Sorts (ordC q.desc) (kept q (rows ++ [[e]])) out := hF 9 (Nat.le_of_ble_eq_true rfl) rfl
    obtain ⟨ab, cb, hvb⟩ := hentB.slice
    rw [hvb] at hentB
    have HP7 := Lib.hid (HP6.out.below hI)
    have HB7 := Lib.hid (below_mid HB6.out hI)
    have HE7 := Lib.hid (cb_below HE6.out hI)
    have HL7 := Lib.hid (HL6.out.below1 hI)
    have HT7 := Lib.hid (tabs_below HT6.out hI)
    have HA7 := Lib.hid (HA6.out.below1 hI)
    have HBB7 := Lib.hid hentB
    have HSOB := Lib.hid hsoB
    clear hI hF hentB hsoB HP6 HB6 HE6 HL6 HT6 HA6 HX HAN
    simp only [putsFrom]
    simp only [hvb, Act.put, List.setIfInBounds_toArray, List.set_cons_succ, List.set_cons_zero]
    clear hvb
    -- does the query keep it?
    have c0 := HP7.out.c.cell 0
    have c1 := HP7.out.c.cell 1
    have c2 := HP7.out.c.cell 2
    have c3 := HP7.out.c.cell 3
    have c4 := HP7.out.c.cell 4
    have c5 := HP7.out.c.cell 5
    have c6 := HP7.out.c.cell 6
    have c7 := HP7.out.c.cell 7
    have c8 := HP7.out.c.cell 8
    have c9 := HP7.out.c.cell 9
    simp only [List.getElem?_toArray, List.getElem?_cons_succ, List.getElem?_cons_zero] at c0 c1 c2 c3 c4 c5 c6 c7 c8 c9
    have d0 := HE7.out.cell 0
    have d1 := HE7.out.cell 1
    have d2 := HE7.out.cell 2
    simp only [List.getElem?_toArray, List.getElem?_cons_succ, List.getElem?_cons_zero] at d0 d1 d2
    have HKQ := Lib.hid (refQuery_keeps q _ e _ w7 HP7.out.qat HQF.out HQW.out (Nat.le_trans HLN.out (by decide)) HL7.out HT7.out)
    simp only [Qy.val, Ent.val] at HKQ
    have HKM := Lib.hid (kept_more q rows e)
    cases hkq : keepsQ q e with
    | false =>
      rw [hkq] at HKQ HKM
      have hab : outB = outA := Sorts.unique (ordC_lc q.desc) HSOB.out HSOA.out fun x => by rw [HKM.out]; simp
      subst hab
      clear hkq
      go_wp2_with fail
      refine HKQ.out.mono ?_
      rintro x w8 ⟨rfl, hb8⟩
      have HAL := Lib.hid (all_any (HA7.out.below1 hb8) (HBB7.out.below1 hb8))
      have HB8 := Lib.hid (below_mid HB7.out hb8)
      clear hb8 HKQ c0 c1 c2 c3 c4 c5 c6 c7 c8 c9 d0 d1 d2
      go_wp2_with fail
      refine HAL.out.mono ?_
      rintro x w9 ⟨rfl, hl9⟩
      have HB9 := Lib.hid (below_mid HB8.out (lay_below hl9))
      clear hl9 HAL
      go_wp2_with fail
      go_ret
      exact ⟨rfl, HB9.out⟩
    | true =>
      rw [hkq] at HKQ HKM
      clear hkq
      go_wp2_with fail
      refine HKQ.out.mono ?_
      rintro x w8 ⟨rfl, hb8⟩
      have HP8 := Lib.hid (HP7.out.below hb8)
      have HB8 := Lib.hid (below_mid HB7.out hb8)
      have HE8 := Lib.hid (cb_below HE7.out hb8)
      have HL8 := Lib.hid (HL7.out.below1 hb8)
      have HA8 := Lib.hid (HA7.out.below1 hb8)
      have HBB8 := Lib.hid (HBB7.out.below1 hb8)
      clear hb8 HKQ c0 c1 c2 c3 c4 c5 c6 c7 c8 c9 d0 d1 d2 HP7 HB7 HE7 HL7 HT7 HA7 HBB7
      have honce : (outB.filter fun x => decide (entC x e = 0)).length = 1 := by
        have hmem : e ∈ outB := (HSOB.out.2 e).2 (by rw [HKM.out]; simp)
        have h := Md.inRow_once (ordC_lc q.desc) e HSOB.out.1 hmem
        rw [← h]
        congr 1
        apply List.filter_congr
        intro x _
        rw [decide_eq_decide]
        unfold ordC
        have h1 := entC_lc.neg x e
        cases q.desc <;> simp <;> omega
      have HON := Lib.hid honce
      have HUN : Hid (∀ out, Sorts (ordC q.desc) (outA ++ [e]) out → out = outB) := Lib.hid fun out h => Sorts.unique (ordC_lc q.desc) h HSOB.out fun x => by
        rw [HKM.out, List.mem_append, List.mem_append, HSOA.out.2 x]
        rfl
      have hbl : outB.length ≤ 1000 := by
        have h1 := Sorts.short (ordC_lc q.desc) HSOB.out
        have h2 := kept_len q rows
        have h3 := HFL.out
        rw [HKM.out, List.length_append] at h1
        simp only [if_true, List.length_cons, List.length_nil] at h1
        omega
      have HBC := Lib.hid HBB8.out
      obtain ⟨_, _, hv8, _, hbc⟩ := id HBB8.out
      simp only [Value.slice.injEq] at hv8
      obtain ⟨rfl, _, rfl⟩ := hv8
      have HCS := Lib.hid hbc
      clear honce hbc
      go_wp2_with fail
      go_loopw [45, 10] (fun vi vn wr => ∃ k : Nat, vi = .int .i64 k ∧ k ≤ outB.length ∧ vn = .int .i64 (((outB.take k).filter fun x => decide (entC x e = 0)).length : Nat) ∧ Below w8.heap.size w8 wr) (fun vi _ _ => outB.length - (intOf vi).toNat)
      case atStart => exact ⟨0, rfl, Nat.zero_le _, rfl, Below.refl _ _⟩
      case round =>
        obtain ⟨k, rfl, hk, rfl, hb⟩ := hrel
        have HBR := Lib.hid hb
        by_cases hlt : k < outB.length
        · rcases HCS.out with h0 | ⟨bb, ob, rfl, _, hbb, hcs⟩
          · exact absurd hlt (by rw [h0]; simp)
          obtain ⟨xl, x0, x1, x2, x3⟩ := hcs k hlt
          have htk : ((outB.take (k + 1)).filter fun x => decide (entC x e = 0)).length = ((outB.take k).filter fun x => decide (entC x e = 0)).length + if entC outB[k] e = 0 then 1 else 0 := by
            rw [← List.take_append_getElem hlt, List.filter_append, List.length_append, List.filter_cons]
            by_cases h : entC outB[k] e = 0 <;> simp [h]
          generalize outB[k] = x at x0 x1 x2 x3 htk
          obtain ⟨ax, cx, rfl, hx63, _⟩ := id x3
          have y0 : wr.cell? ⟨bb, ob + k * 3, none⟩ = _ := (hb.cell hbb).trans x0
          have y1 : wr.cell? ⟨bb, ob + k * 3 + 1, none⟩ = _ := (hb.cell hbb).trans x1
          have y2 : wr.cell? ⟨bb, ob + k * 3 + 2, none⟩ = _ := (hb.cell hbb).trans x2
          have her := cb_below HE8.out hb
          have d0 := her.cell 0
          have d1 := her.cell 1
          have d2 := her.cell 2
          simp only [List.getElem?_toArray, List.getElem?_cons_succ, List.getElem?_cons_zero] at d0 d1 d2
          have helt := her.lt
          have hb6 : Below wr.heap.size wr (wr.alloc (.cells #[.int .i64 x.tm, .slice ax x.labs.length cx, .string x.line] 26)) := (Below.refl _ wr).alloc (Nat.le_refl _) _
          have HSM := Lib.hid (same_any (x := x) (y := e) ((x3.below1 hb).below1 hb6) ((HL8.out.below1 hb).below1 hb6))
          have HB6 := Lib.hid hb6
          have HTK := Lib.hid htk
          simp only [Ent.val] at HSM
          clear x0 x1 x2 x3 hb her hb6 htk hcs
          have hcl : ((outB.take k).filter fun x => decide (entC x e = 0)).length ≤ 1000 := Nat.le_trans (List.length_filter_le _ _) (by rw [List.length_take]; omega)
          generalize ((outB.take k).filter fun x => decide (entC x e = 0)).length = cnt at HTK hcl ⊢
          by_cases hs : entC x e = 0
          · rw [decide_eq_true hs] at HSM
            have HT1 : Hid (((outB.take (k + 1)).filter fun x => decide (entC x e = 0)).length = cnt + 1) := Lib.hid (by rw [HTK.out, if_pos hs])
            clear hs HTK
            go_wp2_with (go_at_call 16; refine HSM.out.mono ?_; rintro r w9 ⟨rfl, hl9⟩)
            go_roundw
            case rel => exact ⟨k + 1, by go_num, by omega, by rw [HT1.out]; go_num, below_mid HBR.out (below_mid HB6.out (lay_below hl9))⟩
            case measure => simp [intOf]; omega
          · rw [decide_eq_false hs] at HSM
            have HT1 : Hid (((outB.take (k + 1)).filter fun x => decide (entC x e = 0)).length = cnt) := Lib.hid (by rw [HTK.out, if_neg hs]; rfl)
            clear hs HTK
            go_wp2_with (go_at_call 16; refine HSM.out.mono ?_; rintro r w9 ⟨rfl, hl9⟩)
            go_roundw
            case rel => exact ⟨k + 1, by go_num, by omega, by rw [HT1.out], below_mid HBR.out (below_mid HB6.out (lay_below hl9))⟩
            case measure => simp [intOf]; omega
        · obtain rfl : k = outB.length := by omega
          have hcnt : ((outB.take outB.length).filter fun x => decide (entC x e = 0)).length = 1 := by rw [List.take_of_length_le (Nat.le_refl _)]; exact HON.out
          rw [hcnt]
          have HP9 := Lib.hid (HP8.out.below hb)
          have HE9 := Lib.hid (cb_below HE8.out hb)
          have HL9 := Lib.hid (HL8.out.below1 hb)
          have HA9 := Lib.hid (EntsAt.upto (HA8.out.below1 hb))
          have HB9 := Lib.hid (EntsAt.upto (HBC.out.below1 hb))
          have HBB9 := Lib.hid (below_mid HB8.out hb)
          clear hb hcnt HBR HP8 HE8 HL8 HA8 HBB8 HBC HCS HB8
          generalize hw9 : wr = w9 at HP9 HE9 HL9 HA9 HB9 HBB9 ⊢
          clear hw9
          go_wp2_with fail
          refine wp_region_flow (by kernel_rfl) (fun W => Below w9.heap.size w9 W) (NR w9.heap.size) (NV q (e.val (.slice al e.labs.length cl)) (.slice al e.labs.length cl) (.slice aa outA.length ca) (.slice ab outB.length cb) B e outA outB w9.heap.size) (fun j => j == 15) (by kernel_rfl) (by kernel_rfl) ?hst (lay_below ((Keep.refl (fun _ => False) w9).drew)) ?step ?fin
          case hst =>
            intro i j v W W' hij hanc hneed hV hI hR
            by_cases hi : i = 10
            · subst hi
              match j, hV with
              | 0, hV => exact hV
              | 1, hV => exact hV
              | 2, hV => exact hV
              | 3, hV => exact hV
              | 4, hV => exact hV
              | 5, hV => cases (Eq.symm hneed).trans (by kernel_rfl : _ = false)
              | 6, hV => exact hV
              | 7, hV => cases (Eq.symm hneed).trans (by kernel_rfl : _ = false)
              | 8, hV => exact hV
              | 9, hV => cases (Eq.symm hneed).trans (by kernel_rfl : _ = false)
              | 10, hV => exact absurd rfl hij
              | 11, hV => cases hanc.symm.trans (by kernel_rfl : _ = true)
              | 12, hV => exact hV
              | 13, hV => exact hV
              | 14, hV => exact hV
              | 15, hV => exact hV
              | _ + 16, _ => trivial
            · have hb : Below W.heap.size W W' := by
                unfold NR at hR
                split at hR
                · exact absurd rfl hi
                · exact hR
              exact NV.below hV hb
          case step =>
            refine ⟨?_, ?_, ?_, ?_, ?_, ?_, ?_, ?_, ?_, ?_, ?_, ?_, ?_, ?_, ?_, ?_, trivial⟩
            · intro ys A W hA hI hd K hK
              have e10 : A.tmps.getD 10 undef = .int .i64 1 := hA 10 (Nat.le_of_ble_eq_true rfl)
              refine step_run (.inl rfl) ?_
              clear hA hd
              go_simp
              exact hK _ _ hI (Below.refl _ _) rfl
            · intro ys A W hA hI hd K hK
              have e55 : A.tmps.getD 55 undef = .int .i64 1 := (hA 55 (Nat.le_of_ble_eq_true rfl)).trans (hd ⟨0, .data⟩ (by simp) rfl)
              refine step_run (.inl rfl) ?_
              clear hA hd
              go_simp
              exact hK _ _ hI (Below.refl _ _) rfl
            · intro ys A W hA hI hd K hK
              have e56 : A.tmps.getD 56 undef = .bool true := (hA 56 (Nat.le_of_ble_eq_true rfl)).trans (hd ⟨1, .data⟩ (by simp) rfl)
              refine step_run (.inl rfl) ?_
              clear hA hd
              go_simp
              exact hK _ _ hI (Below.refl _ _) rfl
            · intro ys A W hA hI hd K hK
              have eg : A.tmps.getD 57 undef = .bool true := (hA 57 (Nat.le_of_ble_eq_true rfl)).trans (hd ⟨2, .guard⟩ (by simp) rfl)
              have e7 : A.tmps.getD 7 undef = .pointer (some ⟨B, 0, none⟩) := hA 7 (Nat.le_of_ble_eq_true rfl)
              refine step_run (.inr ⟨2, 57, true, rfl, rfl, eg⟩) ?_
              clear hA hd
              go_simp
              exact hK _ _ hI (Below.refl _ _) rfl
            · intro ys A W hA hI hd K hK
              have eg : A.tmps.getD 57 undef = .bool true := (hA 57 (Nat.le_of_ble_eq_true rfl)).trans (hd ⟨2, .guard⟩ (by simp) rfl)
              have e58 : A.tmps.getD 58 undef = .pointer (some ⟨B, 7, none⟩) := (hA 58 (Nat.le_of_ble_eq_true rfl)).trans (hd ⟨3, .data⟩ (by simp) rfl)
              have hq := cb_below HP9.out.c hI
              have c0 := hq.cell 0
              have c1 := hq.cell 1
              have c2 := hq.cell 2
              have c3 := hq.cell 3
              have c4 := hq.cell 4
              have c5 := hq.cell 5
              have c6 := hq.cell 6
              have c7 := hq.cell 7
              have c8 := hq.cell 8
              have c9 := hq.cell 9
              simp only [List.getElem?_toArray, List.getElem?_cons_succ, List.getElem?_cons_zero] at c0 c1 c2 c3 c4 c5 c6 c7 c8 c9
              refine step_run (.inr ⟨2, 57, true, rfl, rfl, eg⟩) ?_
              clear hA hd hq
              go_simp
              exact hK _ _ hI (Below.refl _ _) rfl
            · intro ys A W hA hI hd K hK
              have eg : A.tmps.getD 57 undef = .bool true := (hA 57 (Nat.le_of_ble_eq_true rfl)).trans (hd ⟨2, .guard⟩ (by simp) rfl)
              refine step_run (.inr ⟨2, 57, true, rfl, rfl, eg⟩) ?_
              clear hA hd
              go_simp
              have hb : Below W.heap.size W (W.alloc (.cells #[] 26)) := (Below.refl _ W).alloc (Nat.le_refl _) _
              exact hK _ _ (hI.trans (hb.mono hI.size)) hb ⟨W.heap.size, rfl, (rk_new 3 W 0 [] 26 rfl (by omega)).mono fun b h _ => by rw [h]; exact hI.size⟩
            · intro ys A W hA hI hd K hK
              have eg : A.tmps.getD 57 undef = .bool true := (hA 57 (Nat.le_of_ble_eq_true rfl)).trans (hd ⟨2, .guard⟩ (by simp) rfl)
              have e8 : A.tmps.getD 8 undef = .slice aa outA.length ca := hA 8 (Nat.le_of_ble_eq_true rfl)
              refine step_run (.inr ⟨2, 57, true, rfl, rfl, eg⟩) ?_
              clear hA hd
              go_simp
              exact hK _ _ hI (Below.refl _ _) rfl
            · intro ys A W hA hI hd K hK
              have eg : A.tmps.getD 57 undef = .bool true := (hA 57 (Nat.le_of_ble_eq_true rfl)).trans (hd ⟨2, .guard⟩ (by simp) rfl)
              have e60 : A.tmps.getD 60 undef = ys 5 := hA 60 (Nat.le_of_ble_eq_true rfl)
              have e61 : A.tmps.getD 61 undef = .slice aa outA.length ca := (hA 61 (Nat.le_of_ble_eq_true rfl)).trans (hd ⟨6, .data⟩ (by simp) rfl)
              obtain ⟨g, hg, hrk⟩ : NV q (e.val (.slice al e.labs.length cl)) (.slice al e.labs.length cl) (.slice aa outA.length ca) (.slice ab outB.length cb) B e outA outB w9.heap.size 5 (ys 5) W := hd ⟨5, .data⟩ (by simp) rfl
              rw [hg] at e60
              obtain ⟨v', w', R, hrun, h1, h2, h3, h4⟩ := append_ents hrk (HA9.out.carry hI.size fun b hb _ => hI.block b (hb.elim id id)) hI.size HLA.out 39
              have hb := lay_below h4
              exact step_run (.inr ⟨2, 57, true, rfl, rfl, eg⟩) (oper_append (.tmp 60) (.tmp 61) 39 rfl (show A.tmps.getD 60 undef = _ from e60) (show A.tmps.getD 61 undef = _ from e61) hrun (hK _ _ (hI.trans (hb.mono hI.size)) hb ⟨R, h1, h2, h3⟩))
            · intro ys A W hA hI hd K hK
              have eg : A.tmps.getD 57 undef = .bool true := (hA 57 (Nat.le_of_ble_eq_true rfl)).trans (hd ⟨2, .guard⟩ (by simp) rfl)
              have e5 : A.tmps.getD 5 undef = .pointer (some ⟨w.heap.size, 0, none⟩) := hA 5 (Nat.le_of_ble_eq_true rfl)
              have he := cb_below HE9.out hI
              have d0 := he.cell 0
              have d1 := he.cell 1
              have d2 := he.cell 2
              simp only [List.getElem?_toArray, List.getElem?_cons_succ, List.getElem?_cons_zero] at d0 d1 d2
              refine step_run (.inr ⟨2, 57, true, rfl, rfl, eg⟩) ?_
              clear hA hd he
              go_simp
              exact hK _ _ hI (Below.refl _ _) rfl
            · intro ys A W hA hI hd K hK
              have eg : A.tmps.getD 57 undef = .bool true := (hA 57 (Nat.le_of_ble_eq_true rfl)).trans (hd ⟨2, .guard⟩ (by simp) rfl)
              have e63 : A.tmps.getD 63 undef = .agg #[.int .i64 e.tm, .slice al e.labs.length cl, .string e.line] := (hA 63 (Nat.le_of_ble_eq_true rfl)).trans (hd ⟨8, .data⟩ (by simp) rfl)
              refine step_run (.inr ⟨2, 57, true, rfl, rfl, eg⟩) ?_
              clear hA hd
              have f63 : A.tmps[63]?.getD undef = _ := Array.getD_eq_getD_getElem?.symm.trans e63
              go_simp
              have hb : Below W.heap.size W (W.alloc (.cells #[.int .i64 e.tm, .slice al e.labs.length cl, .string e.line] 26)) := (Below.refl _ W).alloc (Nat.le_refl _) _
              have hcb := CB.new W 26 #[.int .i64 e.tm, .slice al e.labs.length cl, .string e.line]
              exact hK _ _ (hI.trans (hb.mono hI.size)) hb ⟨W.heap.size, rfl, hI.size, hcb.lt, hcb.cell 0, hcb.cell 1, hcb.cell 2, (LabsAt.upto HL9.out).carry (Nat.le_trans hI.size hb.size) fun b hbl _ => (hb.block b (Nat.lt_of_lt_of_le hbl hI.size)).trans (hI.block b hbl)⟩
            · intro ys A W hA hI hd K hK
              have eg : A.tmps.getD 57 undef = .bool true := (hA 57 (Nat.le_of_ble_eq_true rfl)).trans (hd ⟨2, .guard⟩ (by simp) rfl)
              have e62 : A.tmps.getD 62 undef = ys 7 := hA 62 (Nat.le_of_ble_eq_true rfl)
              have e64 : A.tmps.getD 64 undef = ys 9 := hA 64 (Nat.le_of_ble_eq_true rfl)
              obtain ⟨R, h1, h2, h3⟩ : NV q (e.val (.slice al e.labs.length cl)) (.slice al e.labs.length cl) (.slice aa outA.length ca) (.slice ab outB.length cb) B e outA outB w9.heap.size 7 (ys 7) W := hd ⟨7, .data⟩ (by simp) rfl
              obtain ⟨g, hg, h4⟩ : NV q (e.val (.slice al e.labs.length cl)) (.slice al e.labs.length cl) (.slice aa outA.length ca) (.slice ab outB.length cb) B e outA outB w9.heap.size 9 (ys 9) W := hd ⟨9, .data⟩ (by simp) rfl
              rw [hg] at e64
              have hRl : R.length = outA.length := by rw [← h1, List.length_map]
              rw [← hRl] at h2
              obtain ⟨v', w', hrun, h5, h8⟩ := append_one h2 h3 h4 hI.size (by rw [hRl]; exact HLA.out) 39
              rw [h1] at h5
              exact step_run (.inr ⟨2, 57, true, rfl, rfl, eg⟩) (oper_append (.tmp 62) (.tmp 64) 39 rfl (show A.tmps.getD 62 undef = _ from e62) (show A.tmps.getD 64 undef = _ from e64) hrun (hK _ _ (hI.trans ⟨h8.os, h8.tape, h8.output, h8.size, fun b hb => h8.block b (Nat.lt_of_lt_of_le hb hI.size) (by omega)⟩) h8 h5))
            · intro ys A W hA hI hd K hK
              have eg : A.tmps.getD 57 undef = .bool true := (hA 57 (Nat.le_of_ble_eq_true rfl)).trans (hd ⟨2, .guard⟩ (by simp) rfl)
              have e59 : A.tmps.getD 59 undef = .bool q.desc := (hA 59 (Nat.le_of_ble_eq_true rfl)).trans (hd ⟨4, .data⟩ (by simp) rfl)
              have e65 : A.tmps.getD 65 undef = ys 10 := hA 65 (Nat.le_of_ble_eq_true rfl)
              have h10 : EntsAt (fun _ => True) (fun _ => True) W (ys 10) (outA ++ [e]) := hd ⟨10, .data⟩ (by simp) rfl
              have HRS := Lib.hid (refSort_any q.desc h10 HLA1.out)
              refine step_run (.inr ⟨2, 57, true, rfl, rfl, eg⟩) ?_
              clear hA hd
              have f59 : A.tmps[59]?.getD undef = _ := Array.getD_eq_getD_getElem?.symm.trans e59
              have f65 : A.tmps[65]?.getD undef = _ := Array.getD_eq_getD_getElem?.symm.trans e65
              go_simp
              refine HRS.out.mono ?_
              rintro r w' hp
              obtain ⟨v, R, rfl, h1, h2, h3, h4⟩ := hp
              have hR := HUN.out _ h3
              have h5 := (h1.ents h2).any
              rw [hR] at h5
              have hb := lay_below h4
              exact hK _ _ (hI.trans (hb.mono hI.size)) hb h5
            · intro ys A W hA hI hd K hK
              have eg : A.tmps.getD 57 undef = .bool true := (hA 57 (Nat.le_of_ble_eq_true rfl)).trans (hd ⟨2, .guard⟩ (by simp) rfl)
              have e9 : A.tmps.getD 9 undef = .slice ab outB.length cb := hA 9 (Nat.le_of_ble_eq_true rfl)
              refine step_run (.inr ⟨2, 57, true, rfl, rfl, eg⟩) ?_
              clear hA hd
              go_simp
              exact hK _ _ hI (Below.refl _ _) rfl
            · intro ys A W hA hI hd K hK
              have eg : A.tmps.getD 57 undef = .bool true := (hA 57 (Nat.le_of_ble_eq_true rfl)).trans (hd ⟨2, .guard⟩ (by simp) rfl)
              have e66 : A.tmps.getD 66 undef = ys 11 := hA 66 (Nat.le_of_ble_eq_true rfl)
              have e67 : A.tmps.getD 67 undef = .slice ab outB.length cb := (hA 67 (Nat.le_of_ble_eq_true rfl)).trans (hd ⟨12, .data⟩ (by simp) rfl)
              have h11 : EntsAt (fun _ => True) (fun _ => True) W (ys 11) outB := hd ⟨11, .data⟩ (by simp) rfl
              have HAL := Lib.hid (all_any h11 (HB9.out.carry hI.size fun b hb _ => hI.block b (hb.elim id id)))
              refine step_run (.inr ⟨2, 57, true, rfl, rfl, eg⟩) ?_
              clear hA hd
              have f66 : A.tmps[66]?.getD undef = _ := Array.getD_eq_getD_getElem?.symm.trans e66
              have f67 : A.tmps[67]?.getD undef = _ := Array.getD_eq_getD_getElem?.symm.trans e67
              go_simp
              refine HAL.out.mono ?_
              rintro r w' ⟨rfl, h3⟩
              have hb := lay_below h3
              exact hK _ _ (hI.trans (hb.mono hI.size)) hb rfl
            · intro ys A W hA hI hd K hK
              have e57 : A.tmps.getD 57 undef = .bool true := (hA 57 (Nat.le_of_ble_eq_true rfl)).trans (hd ⟨2, .data⟩ (by simp) rfl)
              have e68 : A.tmps.getD 68 undef = .bool true := (hA 68 (Nat.le_of_ble_eq_true rfl)).trans (hd ⟨13, .data⟩ (by simp) rfl)
              refine step_run (.inl rfl) ?_
              clear hA hd
              go_simp
              exact hK _ _ hI (Below.refl _ _) rfl
            · intro ys A W hA hI hd K hK
              have e69 : A.tmps.getD 69 undef = .bool true := (hA 69 (Nat.le_of_ble_eq_true rfl)).trans (hd ⟨14, .data⟩ (by simp) rfl)
              refine step_run (.inl rfl) ?_
              clear hA hd
              go_simp
              exact hK _ _ hI (Below.refl _ _) rfl
          case fin =>
            intro ys w10 hI hF
            have hv : ys 15 = .bool true := hF 15 (Nat.le_of_ble_eq_true rfl) rfl
            have HBF := Lib.hid (below_mid HBB9.out hI)
            clear hI hF
            simp only [putsFrom]
            simp only [hv, Act.put, List.setIfInBounds_toArray, List.set_cons_succ, List.set_cons_zero]
            clear hv
            go_wp2_with fail
            go_ret
            exact ⟨rfl, HBF.out⟩

end Go.Proofs.YtidjodplimkmgaaDoor.E4
