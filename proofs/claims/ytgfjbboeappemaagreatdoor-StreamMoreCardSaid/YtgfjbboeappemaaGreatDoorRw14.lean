/-
  StreamMore: OF MORE ROWS THERE COMES NO MORE.
-/
import Derived.Test.YtgfjbboeappemaaGreatDoorFk14
import Derived.Test.YtgfjbboeappemaaGreatDoorEr
import Derived.Test.YtgfjbboeappemaaGreatDoorOp13
import Derived.Test.YtgfjbboeappemaaGreatDoorOq8
namespace Go.Proofs.YtgfjbboeappemaaGreatDoor.E4
open Go.RowKit Go
open Go.Sort (grow)

/-- The question, by the first matchers. -/
def Ask.upTo (a : Ask) (q : Nat) : Ask := { a with mat := a.mat.take q }
theorem upTo_great {a : Ask} (h : a.great = false) (q : Nat) : (a.upTo q).great = false := by
  unfold Ask.great Ask.upTo at *
  simp only [Bool.or_eq_false_iff, decide_eq_false_iff_not] at h ⊢
  obtain ⟨⟨⟨h1, h2⟩, h3⟩, h4⟩ := h
  refine ⟨⟨⟨h1, by rw [List.length_take]; omega⟩, h3⟩, ?_⟩
  rw [List.any_eq_false] at h4 ⊢
  exact fun x hx => h4 x (List.mem_of_mem_take hx)
theorem upTo_good {a : Ask} (k : a.kd = 2) (h : a.good isTx = true) (q : Nat) : (a.upTo q).good isTx = true := by
  have hi : a.inn := by
    by_cases hi : a.inn
    · exact hi
    · unfold Ask.good at h
      rw [decide_eq_false hi] at h
      cases h
  rw [good_2 hi k] at h
  rw [good_2 (a := a.upTo q) hi k]
  simp only [Bool.and_eq_true, decide_eq_true_eq, List.all_eq_true] at h ⊢
  refine ⟨fun x hx => h.1 x (List.mem_of_mem_take hx), ?_⟩
  show (a.mat.take q).length ≤ 4
  rw [List.length_take]
  omega
theorem upTo_asks {a : Ask} {q : Nat} {e : Ent} (h : asksM a.src a.til a.mat e = true) : asksM (a.upTo q).src (a.upTo q).til (a.upTo q).mat e = true := by
  unfold asksM at h ⊢
  simp only [Bool.and_eq_true, List.all_eq_true] at h ⊢
  exact ⟨h.1, fun x hx => h.2 x (List.mem_of_mem_take hx)⟩
theorem mats_upTo {w : World} {am : Option Addr} {n cm : Nat} {ls : List Mt} (h : MsAt w (.slice am n cm) ls) (q : Nat) (hq : q ≤ n) (c' : Nat) : MsAt w (.slice am q c') (ls.take q) := by
  obtain ⟨a', c, hv, h63, hc⟩ := h
  simp only [Value.slice.injEq] at hv
  obtain ⟨rfl, rfl, rfl⟩ := hv
  refine ⟨am, c', by rw [List.length_take, Nat.min_eq_left hq], by rw [List.length_take]; omega, ?_⟩
  rcases hc with h0 | ⟨b, off, rfl, hb, hc⟩
  · exact .inl (by rw [h0]; simp)
  · refine .inr ⟨b, off, rfl, hb, fun i hi => ?_⟩
    have := hc i (by rw [List.length_take] at hi; omega)
    rw [List.getElem_take]
    exact this

set_option maxRecDepth 100000 in
theorem ask_open14 {H : Type} {enc : TypeId × Value → H} {w : World} {spare : Nat → Bool} {held : Bool} {fuel : Nat} {v : Value} (hv : ∃ cs : Array Value, v = .agg cs ∧ cs.size = Tryz.prog.cellsOf 26) {x : DataW H × List MemPlace}
    (ht : DataW.trod enc Tryz.prog w 0 spare held fuel 26 v.cells.toList = some x) : ∃ (a : Ask) (av mv : Value), v = .agg (a.cells av mv) ∧ TextsAt w av a.all ∧ MsAt w mv a.mat ∧ SlOK av ∧ SlOK mv := by
  obtain ⟨cs, rfl, hs⟩ := hv
  rw [cellsK12] at hs
  obtain ⟨y0, y1, y2, y3, y4, n, h0, h1, h2, h3, h4⟩ := trod_struct5 Tryz.underlying26 ht
  obtain ⟨l, hl, rfl⟩ : ∃ l : List Value, l.length = 5 ∧ cs = l.toArray := ⟨cs.toList, by simpa using hs, by simp⟩
  match l, hl with
  | [c0, c1, c2, c3, c4], _ =>
    have ei : Tryz.prog.cellsOf 3 = 1 := by kernel_rfl
    have ea : Tryz.prog.cellsOf 23 = 1 := by kernel_rfl
    have em : Tryz.prog.cellsOf 24 = 1 := by kernel_rfl
    simp only [Value.cells, ei, ea, em, List.drop_zero, List.drop_succ_cons, List.take_succ_cons, List.take_zero] at h0 h1 h2 h3 h4
    obtain ⟨kd, e0, _, _⟩ := DataW.trod_int Tryz.underlying3 h0
    obtain ⟨src, e1, _, _⟩ := DataW.trod_int Tryz.underlying3 h1
    obtain ⟨til, e2, _, _⟩ := DataW.trod_int Tryz.underlying3 h2
    obtain ⟨all, ha⟩ := texts_open h3
    obtain ⟨mat, hm⟩ := mts_open h4
    simp only [List.cons.injEq, and_true] at e0 e1 e2
    subst e0 e1 e2
    exact ⟨⟨kd, src, til, all, mat⟩, c3, c4, rfl, ha, hm, slice_ok Tryz.underlying23 h3, slice_ok Tryz.underlying24 h4⟩


theorem any_take13 (p : Ent → Bool) (l : List Ent) (j : Nat) (h : j < l.length) : (l.take (j + 1)).any p = ((l.take j).any p || p l[j]) := by
  rw [← List.take_append_getElem h, List.any_append]
  simp
theorem ents_at13 {G L : Nat → Prop} {w : World} {a : Option Addr} {n c : Nat} {es : List Ent} (h : EntsAt G L w (.slice a n c) es) (i : Nat) (hi : i < es.length) :
    ∃ b off lv, a = some ⟨b, off, none⟩ ∧ b < w.heap.size ∧ w.cell? ⟨b, off + i * 3, none⟩ = some (.int .i64 es[i].tm) ∧ w.cell? ⟨b, off + i * 3 + 1, none⟩ = some lv ∧ w.cell? ⟨b, off + i * 3 + 2, none⟩ = some (.string es[i].line) ∧ LabsAt L w lv es[i].labs := by
  obtain ⟨a', c', hv, _, hx⟩ := h
  simp only [Value.slice.injEq] at hv
  obtain ⟨rfl, rfl, rfl⟩ := hv
  rcases hx with h0 | ⟨b, off, rfl, _, hb, hc⟩
  · exact absurd hi (by rw [h0]; simp)
  · obtain ⟨lv, h1, h2, h3, h4⟩ := hc i hi
    exact ⟨b, off, lv, rfl, hb, h1, h2, h3, h4⟩

set_option maxHeartbeats 8000000 in
set_option maxRecDepth 100000 in
theorem rows_walk14 {G L : Nat → Prop} {w : World} {v av mv : Value} {es : List Ent} {a : Ask} {n : Int} (h : EntsAt G L w v es) (h1 : TextsAt w av a.all) (h2 : MsAt w mv a.mat) (hwf : ∀ e ∈ es, e.Wf) (hT : Lib.Utf8Tabs 1 2 w) (hsl : SlOK mv) :
    Calls Tryz.prog 7 #[v, .agg (a.cells av mv), .int .i64 n] w fun x w' => x = .returned (.bool true) ∧ Below w.heap.size w w' := by
  have hmx : Tryz.prog.follows .mixedOrders = true := by kernel_rfl
  obtain ⟨ae, ce, rfl, he63, _⟩ := id h
  obtain ⟨aa, ca, rfl, ha63, _⟩ := id h1
  obtain ⟨am, cm, rfl, hm6, _⟩ := id h2
  have hq : AskAt w (.agg (a.cells (.slice aa a.all.length ca) (.slice am a.mat.length cm))) a := ⟨_, _, rfl, h1, h2⟩
  obtain ⟨w2, hw2⟩ : ∃ w2, w2 = w.alloc (.cells #[.int .i64 a.kd, .int .i64 a.src, .int .i64 a.til, .slice aa a.all.length ca, .slice am a.mat.length cm] 26) := ⟨_, rfl⟩
  have hb2 : Below w.heap.size w w2 := by rw [hw2]; exact (Below.refl _ w).alloc (Nat.le_refl _) _
  have hka : Bl w2 w.heap.size 26 #[.int .i64 a.kd, .int .i64 a.src, .int .i64 a.til, .slice aa a.all.length ca, .slice am a.mat.length cm] := by rw [hw2]; exact Bl.new w 26 _
  have HW2 := Lib.hid hw2.symm
  have HAL := Lib.hid (alive_any w2 (Utf8Tabs_below hT hb2))
  have HANY := Lib.hid (fun W => anyOf_any a (.slice aa a.all.length ca) (.slice am a.mat.length cm) W ⟨_, _, _, rfl⟩ ⟨_, _, _, rfl⟩)
  have HH := Lib.hid h
  have HH1 := Lib.hid h1
  have HH2 := Lib.hid h2
  have HQ := Lib.hid hq
  have HWF := Lib.hid hwf
  have HT := Lib.hid hT
  have HB2 := Lib.hid hb2
  have HKA := Lib.hid hka
  obtain ⟨dv, hdv⟩ : ∃ dv, dv = a.dyn (.slice aa a.all.length ca) (.slice am a.mat.length cm) := ⟨_, rfl⟩
  rw [← hdv] at HANY
  have HDV := Lib.hid hdv
  simp only [Ask.cells] at HANY HQ ⊢
  have hca : a.mat.length ≤ cm := by
    rcases hsl with hv | ⟨p, n', c', hv, hle⟩
    · simp only [Value.slice.injEq] at hv
      omega
    · simp only [Value.slice.injEq] at hv
      omega
  have HGR := Lib.hid fun (W : World) (hW : Below w2.heap.size w2 W) => lawGreat_any (has := false) (m := ⟨0, [], ⟨#[]⟩⟩) (ml := .slice none 0 0) (HH.out.below1 (below_mid HB2.out hW)) (HQ.out.below (below_mid HB2.out hW)) (LabsAt.nil _ _)
  simp only [mkV] at HGR
  clear h h1 h2 hq hwf hT hw2 hb2 hka hdv hsl
  go_enter Tryz.func7, Tryz.ntmps7
  go_upto_region 1 with fail
  rw [HW2.out]
  go_upto_region 3 with (go_at_call 8; refine HAL.out.mono ?_; rintro x w3 ⟨rfl, hb3⟩)
  have HB23 := Lib.hid hb3
  have HB3 := Lib.hid (below_mid HB2.out hb3)
  have HGR3 := Lib.hid (HGR.out w3 hb3)
  have hka := HKA.out.below hb3
  have c0 := hka.cell 0
  have c1 := hka.cell 1
  have c2 := hka.cell 2
  have c3 := hka.cell 3
  have c4 := hka.cell 4
  simp only [List.getElem?_toArray, List.getElem?_cons_succ, List.getElem?_cons_zero] at c0 c1 c2 c3 c4
  clear hka hb3 HAL HGR
  cases hbig : bigF es a ⟨0, [], ⟨#[]⟩⟩ with
  | true =>
    rw [hbig] at HGR3
    go_wp2_with (go_at_call 9; refine HGR3.out.mono ?_; rintro x w4 ⟨rfl, hb4⟩)
    go_ret
    exact ⟨rfl, below_mid HB3.out hb4⟩
  | false =>
    rw [hbig] at HGR3
    have HBG := Lib.hid (bigF_no hbig)
    clear hbig
    go_wp2_with fail
    refine HGR3.out.mono ?_
    rintro x w4 ⟨rfl, hb4⟩
    have HB24 := Lib.hid (below_mid HB23.out hb4)
    have HB4 := Lib.hid (below_mid HB3.out hb4)
    have hka := HKA.out.below HB24.out
    have c0 := hka.cell 0
    have c1 := hka.cell 1
    have c2 := hka.cell 2
    have c3 := hka.cell 3
    have c4 := hka.cell 4
    simp only [List.getElem?_toArray, List.getElem?_cons_succ, List.getElem?_cons_zero] at c0 c1 c2 c3 c4
    clear hka hb4 HGR3
    by_cases hk : a.kd = 2
    · have HG := Lib.hid (askGood_any (isT := isTx) (Tb := fun W => Lib.Utf8Tabs 1 2 W) (fun W W' hb hT => Utf8Tabs_below hT hb) (fun s W hs hT => by unfold isTx; exact isText_any s (by omega) W hT) a _ w4 (HQ.out.below HB4.out) (Utf8Tabs_below HT.out HB4.out))
      have HKD := Lib.hid hk
      rw [hk] at HG HANY c0
      clear hk
      cases hgd : a.good isTx with
      | false =>
        rw [hgd] at HG
        go_wp2_with (go_at_call 18; refine HG.out.mono ?_; rintro x w5 ⟨rfl, hb5⟩)
        go_ret
        exact ⟨rfl, below_mid HB4.out hb5⟩
      | true =>
        rw [hgd] at HG
        have HGD := Lib.hid hgd
        clear hgd
        go_wp2_with fail
        refine HG.out.mono ?_
        rintro x w5 ⟨rfl, hb5⟩
        have HB25 := Lib.hid (below_mid HB24.out hb5)
        have HB5 := Lib.hid (below_mid HB4.out hb5)
        have hka := HKA.out.below HB25.out
        have c0 := hka.cell 0
        have c1 := hka.cell 1
        have c2 := hka.cell 2
        have c3 := hka.cell 3
        have c4 := hka.cell 4
        simp only [List.getElem?_toArray, List.getElem?_cons_succ, List.getElem?_cons_zero] at c0 c1 c2 c3 c4
        clear hb5 HG
        have HKA5 := Lib.hid hka
        rw [HKD.out] at c0
        clear hka
        by_cases hlo : n < 0
        · go_wp2_with fail
          go_ret
          exact ⟨rfl, HB5.out⟩
        by_cases hhi : (a.mat.length : Int) < n
        · go_wp2_with fail
          go_ret
          exact ⟨rfl, HB5.out⟩
        obtain ⟨q, rfl⟩ : ∃ q : Nat, n = q := ⟨n.toNat, by omega⟩
        have HQL : Hid (q ≤ a.mat.length) := Lib.hid (by omega)
        have HFI := Lib.hid (filled_any (HH.out.below1 HB5.out) (fine_of HWF.out (by have := HBG.out.1; omega) HBG.out.2.1))
        go_upto_region 6 with (go_at_call 10; refine HFI.out.mono ?_; rintro x w6 ⟨gb, rfl, heng, hb6⟩)
        have HB6 := Lib.hid (below_mid HB5.out hb6)
        have HE6 := Lib.hid heng
        have hka := HKA5.out.below hb6
        rw [HKD.out] at hka
        have c0 := hka.cell 0
        have c1 := hka.cell 1
        have c2 := hka.cell 2
        have c3 := hka.cell 3
        have c4 := hka.cell 4
        simp only [List.getElem?_toArray, List.getElem?_cons_succ, List.getElem?_cons_zero] at c0 c1 c2 c3 c4
        obtain ⟨w7, hw7⟩ : ∃ w7, w7 = w6.alloc (.cells #[.int .i64 2, .int .i64 a.src, .int .i64 a.til, .slice aa a.all.length ca, .slice am a.mat.length cm] 26) := ⟨_, rfl⟩
        have HW7 := Lib.hid hw7.symm
        have HK6 := Lib.hid hka
        clear hka heng hb6 HFI HKA5 hw7
        go_upto_region 7 with fail
        rw [HW7.out]
        have hb67 : Below w6.heap.size w6 w7 := by rw [← HW7.out]; exact (Below.refl _ w6).alloc (Nat.le_refl _) _
        have hk7 : Bl w7 w6.heap.size 26 #[.int .i64 2, .int .i64 a.src, .int .i64 a.til, .slice aa a.all.length ca, .slice am a.mat.length cm] := by rw [← HW7.out]; exact Bl.new w6 26 _
        have hka := HK6.out.below hb67
        have y3 := hka.cell 4
        have d3 := hk7.cell 4
        have f3 := hk7.frozen 4
        simp only [List.getElem?_toArray, List.getElem?_cons_succ, List.getElem?_cons_zero] at y3 d3
        have HB67 := Lib.hid hb67
        have HK7 := Lib.hid hk7
        have HKA7 := Lib.hid hka
        have hql := HQL.out
        clear hka hk7 hb67 c0 c1 c2 c3 c4
        go_upto_region 8 with fail
        obtain ⟨w8, hw8⟩ : ∃ w8, w8 = w7.setCell ⟨w6.heap.size, 4, none⟩ (.slice am q cm) := ⟨_, rfl⟩
        have hk8 : Bl w8 w6.heap.size 26 #[.int .i64 2, .int .i64 a.src, .int .i64 a.til, .slice aa a.all.length ca, .slice am q cm] := by
          rw [hw8]
          have := HK7.out.set12 4 (.slice am q cm)
          simpa only [List.setIfInBounds_toArray, List.set_cons_succ, List.set_cons_zero] using this
        have hks : Keep (fun b => b = w6.heap.size) w7 w8 := by rw [hw8]; exact keep_set12 (Keep.refl _ _) _ _
        have hb68 : Below w6.heap.size w6 w8 := HB67.out.trans (hks.below13 (fun b hb => by omega) HB67.out.size)
        have HW8 := Lib.hid hw8.symm
        have HK8 := Lib.hid hk8
        have HKA8 := Lib.hid (HK6.out.below hb68)
        have HB8 := Lib.hid (below_mid HB6.out hb68)
        have HE8 := Lib.hid (HE6.out.below hb68)
        have ht2 : MsAt w (.slice am q cm) (a.upTo q).mat := mats_upTo HH2.out q HQL.out cm
        have HH3 := Lib.hid ht2
        have HAN2 := Lib.hid (fun W => anyOf_any (a.upTo q) (.slice aa a.all.length ca) (.slice am q cm) W ⟨_, _, _, rfl⟩ ⟨_, _, _, rfl⟩)
        obtain ⟨dv2, hdv2⟩ : ∃ dv, dv = (a.upTo q).dyn (.slice aa a.all.length ca) (.slice am q cm) := ⟨_, rfl⟩
        have hcl : (.agg ((a.upTo q).cells (.slice aa a.all.length ca) (.slice am q cm)) : Value) = .agg #[.int .i64 2, .int .i64 a.src, .int .i64 a.til, .slice aa a.all.length ca, .slice am q cm] := by
          show Value.agg #[.int .i64 a.kd, _, _, _, _] = _
          rw [HKD.out]
          rfl
        rw [← hdv2, hcl] at HAN2
        have hA1 : a.kd = 2 ∧ a.good isTx = true := ⟨HKD.out, HGD.out⟩
        have hA2 : (a.upTo q).kd = 2 ∧ (a.upTo q).good isTx = true := ⟨HKD.out, upTo_good HKD.out HGD.out q⟩
        have HA1 := Lib.hid hA1
        have HA2 := Lib.hid hA2
        have hasks : ∀ e, asksM a.src a.til a.mat e = true → asksM (a.upTo q).src (a.upTo q).til (a.upTo q).mat e = true := fun e he => upTo_asks he
        have HASKS := Lib.hid hasks
        have HQ1 : Hid (∀ W, Below w8.heap.size w8 W → Calls Tryz.prog 11 #[.pointer (some ⟨gb, 0, none⟩), dv, .agg #[.bool false, .int .i64 0, .slice none 0 0, .string ⟨#[]⟩], .bool false, .int .i64 1000] W fun x w' => ∃ u b, x = .returned (.tuple #[u, .bool b, .int .i64 0]) ∧ EntsAt (fun b => W.heap.size ≤ b) (fun _ => True) w' u (askS (addAll [] es) a false) ∧ Below W.heap.size W w' ∧ Sorts (ordC false) ((addAll [] es).filter (asksM a.src a.til a.mat)) (askS (addAll [] es) a false)) := Lib.hid fun W hW => by
          have hb := below_mid HB8.out hW
          have hc := askR_any (es := es) (a := a) (has := false) (desc := false) (m := ⟨0, [], ⟨#[]⟩⟩) (ml := .slice none 0 0) (n := 1000) (HE8.out.below hW) (HH1.out.below hb) (MsAt.below12 HH2.out hb) (LabsAt.nil _ _) (by have := HBG.out.1; omega) HBG.out.2.2.1 HWF.out HBG.out.2.1 (Utf8Tabs_below HT.out hb)
          rw [← HDV.out] at hc
          refine hc.mono fun x w' h => ?_
          obtain ⟨⟨u, rfl, hu, hb'⟩, hs⟩ := h
          have hs := hs HA1.out
          have hl : askL (addAll [] es) a none false 1000 = _ := askL_all HA1.out hs 1000 (by have := HBG.out.1; simp; omega)
          exact ⟨u, _, by rw [askK_ok HA1.out], (show EntsAt _ _ w' u (askL (addAll [] es) a none false 1000) from hu) |> fun h => by rw [hl] at h; exact h, hb', hs⟩
        have HQ2 : Hid (∀ W, Below w8.heap.size w8 W → Calls Tryz.prog 11 #[.pointer (some ⟨gb, 0, none⟩), dv2, .agg #[.bool false, .int .i64 0, .slice none 0 0, .string ⟨#[]⟩], .bool false, .int .i64 1000] W fun x w' => ∃ u b, x = .returned (.tuple #[u, .bool b, .int .i64 0]) ∧ EntsAt (fun b => W.heap.size ≤ b) (fun _ => True) w' u (askS (addAll [] es) (a.upTo q) false) ∧ Below W.heap.size W w' ∧ Sorts (ordC false) ((addAll [] es).filter (asksM (a.upTo q).src (a.upTo q).til (a.upTo q).mat)) (askS (addAll [] es) (a.upTo q) false)) := Lib.hid fun W hW => by
          have hb := below_mid HB8.out hW
          have hc := askR_any (es := es) (a := a.upTo q) (has := false) (desc := false) (m := ⟨0, [], ⟨#[]⟩⟩) (ml := .slice none 0 0) (n := 1000) (HE8.out.below hW) (HH1.out.below hb : TextsAt W _ (a.upTo q).all) (MsAt.below12 HH3.out hb) (LabsAt.nil _ _) (by have := HBG.out.1; omega) (upTo_great HBG.out.2.2.1 q) HWF.out HBG.out.2.1 (Utf8Tabs_below HT.out hb)
          rw [← hdv2] at hc
          refine hc.mono fun x w' h => ?_
          obtain ⟨⟨u, rfl, hu, hb'⟩, hs⟩ := h
          have hs := hs HA2.out
          have hl : askL (addAll [] es) (a.upTo q) none false 1000 = _ := askL_all HA2.out hs 1000 (by have := HBG.out.1; simp; omega)
          exact ⟨u, _, by rw [askK_ok HA2.out], (show EntsAt _ _ w' u (askL (addAll [] es) (a.upTo q) none false 1000) from hu) |> fun h => by rw [hl] at h; exact h, hb', hs⟩
        generalize askS (addAll [] es) a false = A1 at HQ1
        generalize askS (addAll [] es) (a.upTo q) false = A2 at HQ2
        have x0 := HKA8.out.cell 0
        have x1 := HKA8.out.cell 1
        have x2 := HKA8.out.cell 2
        have x3 := HKA8.out.cell 3
        have x4 := HKA8.out.cell 4
        simp only [List.getElem?_toArray, List.getElem?_cons_succ, List.getElem?_cons_zero] at x0 x1 x2 x3 x4
        rw [HW8.out]
        clear hk8 hks hb68 ht2 hcl hA1 hA2 hasks hdv2 hw8 y3 d3 f3 HB67 HK7 HKA7
        go_wp2_with (go_at_call 12; refine (HANY.out _).mono ?_; rintro x w9 ⟨rfl, hb9⟩)
        refine (HQ1.out _ hb9).mono ?_
        rintro x w10 ⟨u1, b1, rfl, hent1, hb10, hs1⟩
        have HB10 := Lib.hid (below_mid hb9 hb10)
        have HEN1 := Lib.hid hent1
        have HS1 := Lib.hid hs1
        have hk10 := HK8.out.below HB10.out
        have z0 := hk10.cell 0
        have z1 := hk10.cell 1
        have z2 := hk10.cell 2
        have z3 := hk10.cell 3
        have z4 := hk10.cell 4
        simp only [List.getElem?_toArray, List.getElem?_cons_succ, List.getElem?_cons_zero] at z0 z1 z2 z3 z4
        obtain ⟨l1, lc1, rfl, _⟩ := id HEN1.out
        clear hb9 hb10 hent1 hs1 hk10 x0 x1 x2 x3 x4
        go_wp2_with (go_at_call 12; refine (HAN2.out _).mono ?_; rintro x w11 ⟨rfl, hb11⟩)
        refine (HQ2.out _ (below_mid HB10.out hb11)).mono ?_
        rintro x w12 ⟨u2, b2, rfl, hent2, hb12, hs2⟩
        have HB1012 := Lib.hid (below_mid hb11 hb12)
        have HENA := Lib.hid (HEN1.out.below1 HB1012.out)
        have HENB := Lib.hid hent2
        have HS2 := Lib.hid hs2
        have HB12 := Lib.hid (below_mid HB8.out (below_mid HB10.out HB1012.out))
        obtain ⟨l2, lc2, rfl, _⟩ := id HENB.out
        have HMEM : Hid (∀ x ∈ A1, x ∈ A2) := Lib.hid fun x hx => by
          have h1 := List.mem_filter.1 ((HS1.out.2 x).1 hx)
          exact (HS2.out.2 x).2 (List.mem_filter.2 ⟨h1.1, HASKS.out x h1.2⟩)
        clear hb11 hb12 hent2 hs2 z0 z1 z2 z3 z4 HEN1 HS1 HS2 HQ1 HQ2
        go_wp2_with fail
        go_loopw [81] (fun vi wr => ∃ i : Nat, vi = .int .i64 i ∧ i ≤ A1.length ∧ Below w12.heap.size w12 wr) (fun vi _ => A1.length - (intOf vi).toNat)
        case atStart => exact ⟨0, rfl, Nat.zero_le _, Below.refl _ _⟩
        case round =>
          obtain ⟨i, rfl, hi, hbr⟩ := hrel
          have HBR := Lib.hid hbr
          by_cases hlt : i < A1.length
          · obtain ⟨g, og, lv, rfl, hgl, x0, x1, x2, x3⟩ := ents_at13 HENA.out i hlt
            have hm := HMEM.out A1[i] (List.getElem_mem hlt)
            generalize A1[i] = e at x0 x1 x2 x3 hm
            obtain ⟨al, cl, rfl, _⟩ := id x3
            have y0 : wr.cell? ⟨g, og + i * 3, none⟩ = _ := (hbr.cell hgl).trans x0
            have y1 : wr.cell? ⟨g, og + i * 3 + 1, none⟩ = _ := (hbr.cell hgl).trans x1
            have y2 : wr.cell? ⟨g, og + i * 3 + 2, none⟩ = _ := (hbr.cell hgl).trans x2
            obtain ⟨w13, hw13⟩ : ∃ w13, w13 = wr.alloc (.cells #[.int .i64 e.tm, .slice al e.labs.length cl, .string e.line] 29) := ⟨_, rfl⟩
            have hb13 : Below wr.heap.size wr w13 := by rw [hw13]; exact (Below.refl _ wr).alloc (Nat.le_refl _) _
            have hk13 : Bl w13 wr.heap.size 29 #[.int .i64 e.tm, .slice al e.labs.length cl, .string e.line] := by rw [hw13]; exact Bl.new wr 29 _
            have HW13 := Lib.hid hw13.symm
            have HB13 := Lib.hid (below_mid hbr hb13)
            have HK13 := Lib.hid hk13
            have HLE := Lib.hid ((x3.below1 hbr).below1 hb13)
            have HM := Lib.hid hm
            generalize hE : wr.heap.size = E at HK13
            have HE := Lib.hid hE
            clear x0 x1 x2 x3 hbr hb13 hk13 hw13 hm hE
            go_upto_region 16 with fail
            rw [HW13.out, HE.out]
            clear y0 y1 y2
            go_wp2_with fail
            go_loopw [87, 17] (fun vj vh wr => ∃ j : Nat, vj = .int .i64 j ∧ j ≤ A2.length ∧ vh = .bool ((A2.take j).any fun y => decide (entC e y = 0)) ∧ Below w13.heap.size w13 wr) (fun vj _ _ => A2.length - (intOf vj).toNat)
            case atStart => exact ⟨0, rfl, Nat.zero_le _, by simp, Below.refl _ _⟩
            case round =>
              obtain ⟨j, rfl, hj, rfl, hbx⟩ := hrel
              have HBX := Lib.hid hbx
              by_cases hlj : j < A2.length
              · obtain ⟨g2, og2, lv2, rfl, hgl2, x0, x1, x2, x3⟩ := ents_at13 HENB.out j hlj
                have hat := any_take13 (fun y => decide (entC e y = 0)) A2 j hlj
                generalize A2[j] = e2 at x0 x1 x2 x3 hat
                obtain ⟨al2, cl2, rfl, _⟩ := id x3
                have hbw : Below w12.heap.size w12 wr := below_mid HB13.out hbx
                have y0 : wr.cell? ⟨g2, og2 + j * 3, none⟩ = _ := (hbw.cell hgl2).trans x0
                have y1 : wr.cell? ⟨g2, og2 + j * 3 + 1, none⟩ = _ := (hbw.cell hgl2).trans x1
                have y2 : wr.cell? ⟨g2, og2 + j * 3 + 2, none⟩ = _ := (hbw.cell hgl2).trans x2
                obtain ⟨w14, hw14⟩ : ∃ w14, w14 = wr.alloc (.cells #[.int .i64 e2.tm, .slice al2 e2.labs.length cl2, .string e2.line] 29) := ⟨_, rfl⟩
                have hb14 : Below wr.heap.size wr w14 := by rw [hw14]; exact (Below.refl _ wr).alloc (Nat.le_refl _) _
                have hk14 : Bl w14 wr.heap.size 29 #[.int .i64 e2.tm, .slice al2 e2.labs.length cl2, .string e2.line] := by rw [hw14]; exact Bl.new wr 29 _
                have hke := HK13.out.below (below_mid hbx hb14)
                have z0 := hke.cell 0
                have z1 := hke.cell 1
                have z2 := hke.cell 2
                have q0 := hk14.cell 0
                have q1 := hk14.cell 1
                have q2 := hk14.cell 2
                simp only [List.getElem?_toArray, List.getElem?_cons_succ, List.getElem?_cons_zero] at z0 z1 z2 q0 q1 q2
                have HSM := Lib.hid (same_any (HLE.out.below1 (below_mid hbx hb14)) ((x3.below1 hbw).below1 hb14))
                have HW14 := Lib.hid hw14.symm
                have HB14 := Lib.hid (below_mid hbx hb14)
                have HAT := Lib.hid hat
                simp only [Ent.val] at HSM
                clear x0 x1 x2 x3 hbx hb14 hk14 hw14 hat hbw hke
                go_upto_region 19 with fail
                rw [HW14.out]
                clear y0 y1 y2
                cases hany : (A2.take j).any fun y => decide (entC e y = 0) with
                | true =>
                  have HANYT : Hid ((A2.take (j + 1)).any (fun y => decide (entC e y = 0)) = true) := Lib.hid (by rw [HAT.out, hany]; rfl)
                  go_wp2
                  go_roundw
                  case rel => exact ⟨j + 1, by go_num, by omega, by rw [HANYT.out], HB14.out⟩
                  case measure => simp [intOf]; omega
                | false =>
                  have HANYF : Hid ((A2.take (j + 1)).any (fun y => decide (entC e y = 0)) = decide (entC e e2 = 0)) := Lib.hid (by rw [HAT.out, hany]; rfl)
                  go_wp2_with (go_at_call 19; refine HSM.out.mono ?_; rintro x w15 ⟨rfl, hl15⟩)
                  have HB15 := Lib.hid (below_mid HB14.out (lay_below hl15))
                  clear hl15 HSM
                  go_wp2
                  go_roundw
                  case rel => exact ⟨j + 1, by go_num, by omega, by rw [HANYF.out], HB15.out⟩
                  case measure => simp [intOf]; omega
              · obtain rfl : j = A2.length := by omega
                have hall : ((A2.take A2.length).any fun y => decide (entC e y = 0)) = true := by
                  rw [List.take_of_length_le (Nat.le_refl _)]
                  exact List.any_eq_true.2 ⟨e, HM.out, decide_eq_true (entC_lc.refl e)⟩
                rw [hall]
                have HBE := Lib.hid (below_mid HB13.out hbx)
                clear hbx hall
                go_wp2
                go_roundw
                case rel => exact ⟨i + 1, by go_num, by omega, HBE.out⟩
                case measure => simp [intOf]; omega
          · obtain rfl : i = A1.length := by omega
            clear hbr
            go_wp2
            go_ret
            exact ⟨rfl, below_mid HB12.out HBR.out⟩
    · have k1 : (a.kd != 2) = true := by simp [hk]
      clear hk
      go_wp2_with fail
      refine bodyPost_ret (v := .bool true) (by simp [results, Tryz.results7, go_sem]) rfl ⟨rfl, HB4.out⟩

end Go.Proofs.YtgfjbboeappemaaGreatDoor.E4
