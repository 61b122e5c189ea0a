/-
  PACKAGE show: matcher, Plain, Query.
-/
import Derived.Test.YtkckgjanfiiieaaGreatDoorPu8
import Derived.Test.YtkckgjanfiiieaaGreatDoorTxB
import Derived.Deep.RegionWith
import Derived.Deep.DeepCutAuto
namespace Go.Proofs.YtkckgjanfiiieaaGreatDoor
open Go.RowKit Go

theorem info9 : (Tryz.prog.info? 9).map (fun i => (i.zero, i.size, i.bytes)) = some (some (.string ⟨#[]⟩), 1, 16) := by kernel_rfl
theorem elem9 : ∃ i z, Elem Tryz.prog 43 9 i z 1 16 := by
  obtain ⟨i, hi, hz, hs, hb⟩ := info_parts info9
  exact ⟨i, _, Tryz.underlying43, hi, hz, hs, hb, by kernel_rfl⟩

/-- A row of words that lies behind W0, and W0 is as it was: so many at most; joined by blanks they are X. -/
def Wj (W0 w : World) (v : Value) (n : Nat) (X : List UInt8) : Prop := ∃ L : List ByteArray, L ≠ [] ∧ L.length ≤ n ∧ Rk 1 (fun b => W0.heap.size ≤ b) w v L.length (L.map Value.string) ∧ Below W0.heap.size W0 w ∧ Lib.join (L.map (·.data.toList)) [32] = X

theorem join_more (a b : List (List UInt8)) (h : a ≠ []) (s : List UInt8) : Lib.join (a ++ b) s = Lib.join a s ++ Lib.joinTail s b := by
  cases a with
  | nil => exact absurd rfl h
  | cons x r =>
    rw [List.cons_append, Lib.join_cons, Lib.join_cons]
    unfold Lib.joinTail
    rw [List.map_append, List.flatten_append, List.append_assoc]

theorem Wj.low {W0 w : World} {v : Value} {n : Nat} {X : List UInt8} (h : Wj W0 w v n X) : Below W0.heap.size W0 w := by
  obtain ⟨_, _, _, _, h, _⟩ := h
  exact h
theorem Wj.shape {W0 w : World} {v : Value} {n : Nat} {X : List UInt8} (h : Wj W0 w v n X) : ∃ a m c, v = .slice a m c := by
  obtain ⟨L, _, _, h, _⟩ := h
  obtain ⟨a, c, h⟩ := h.shape
  exact ⟨a, _, c, h⟩
theorem Wj.next {W0 w w' : World} {v : Value} {n : Nat} {X : List UInt8} (h : Wj W0 w v n X) (hb : Below w.heap.size w w') : Wj W0 w' v n X := by
  obtain ⟨L, h1, h2, h3, h4, h5⟩ := h
  exact ⟨L, h1, h2, h3.carry hb.size (fun k _ _ hk => hb.block k hk), h4.trans (hb.mono h4.size), h5⟩
theorem Wj.most {W0 w : World} {v : Value} {n m : Nat} {X : List UInt8} (h : Wj W0 w v n X) (hm : n ≤ m) : Wj W0 w v m X := by
  obtain ⟨L, h1, h2, h3, h4, h5⟩ := h
  exact ⟨L, h1, Nat.le_trans h2 hm, h3, h4, h5⟩

theorem wj_new {W0 w : World} (hb : Below W0.heap.size W0 w) (L : List ByteArray) (hne : L ≠ []) (hl : L.length ≤ 1000) {arr : Array Value} (ha : arr = (L.map Value.string).toArray) {n : Nat} (hn : n = L.length) {X : List UInt8} (hX : Lib.join (L.map (·.data.toList)) [32] = X) : Wj W0 (w.alloc (.cells arr 9)) (.slice (some ⟨w.heap.size, 0, none⟩) n n) n X := by
  subst ha hn hX
  refine ⟨L, hne, Nat.le_refl _, ?_, hb.alloc hb.size _, rfl⟩
  exact (rk_new 1 w L.length (L.map Value.string) 9 (by simp) hl).mono fun k hk _ => by rw [hk]; exact hb.size

/-- append, of words that were written out. -/
theorem Wj.app {W0 w : World} {v : Value} {n : Nat} {X : List UInt8} (h : Wj W0 w v n X) (hn : n ≤ 100000) (M : List ByteArray) (hl : M.length ≤ 1000) {arr : Array Value} (ha : arr = (M.map Value.string).toArray) {m : Nat} (hm : m = M.length) : ∃ v' w',
    (Builtin.append_ #[43, 43] 43 #[v, .slice (some ⟨w.heap.size, 0, none⟩) m m]).run Tryz.prog (w.alloc (.cells arr 9)) = .ok v' w' ∧ Wj W0 w' v' (n + m) (X ++ Lib.joinTail [32] (M.map (·.data.toList))) := by
  subst ha hm
  obtain ⟨i9, z9, E9⟩ := elem9
  obtain ⟨L, h1, h2, h3, h4, h5⟩ := h.next ((Below.refl _ w).alloc (Nat.le_refl _) (.cells (M.map Value.string).toArray 9))
  have hsrc : Src Tryz.prog 1 43 (.slice (some ⟨w.heap.size, 0, none⟩) M.length M.length) M.length (M.map Value.string) (w.alloc (.cells (M.map Value.string).toArray 9)) := by
    refine Src.ofSlice _ Tryz.underlying43 ⟨w.heap.size, 0, none⟩ _ _ _ (by simp) (fun j u hu => ?_) (fun u hu => ?_)
    · rw [add_lit0, World.cell?_alloc_new]
      rw [List.getElem?_toArray]
      exact hu
    · obtain ⟨s, _, rfl⟩ := List.mem_map.1 hu
      rfl
  obtain ⟨v', w', hrun, hr, hk⟩ := run_append_rk E9 h3 (fun k hk => Nat.le_trans h4.size hk) 43 43 _ M.length (M.map Value.string) hsrc (by omega) (by omega)
  refine ⟨v', w', hrun, L ++ M, by simp [h1], by rw [List.length_append]; omega, ?_, h4.trans (Keep.below hk (fun k hk => (h3.at hk).1) h4.size), ?_⟩
  · rw [List.length_append, List.map_append]
    exact hr.mono fun k hk _ => hk.1
  · rw [List.map_append, join_more _ _ (by simp [h1]), h5]

set_option maxHeartbeats 4000000 in
set_option maxRecDepth 100000 in
/-- show.matcher. -/
theorem matcher_any (m : Mt) (hn : m.name.size ≤ 100000) (hv : m.value.size ≤ 100000) (w : World) (hT : Lib.Utf8Tabs 4 5 w) : Calls Tryz.prog 37 #[.agg #[.string m.name, .bool m.not, .string m.value]] w fun e w' => ∃ T : ByteArray, e = .returned (.string T) ∧ T.data.toList = m.name.data.toList ++ (if m.not = true then [33] else []) ++ [61] ++ LX.quote m.value.data.toList ∧ T.size ≤ 3000000 ∧ Below w.heap.size w w' := by
  obtain ⟨nm, b, vl⟩ := m
  dsimp only at hn hv ⊢
  obtain ⟨q, hq⟩ : ∃ q : ByteArray, q = ⟨(LX.quote vl.data.toList).toArray⟩ := ⟨_, rfl⟩
  have hql : q.size ≤ 1000010 := by
    rw [hq, str_len (l := LX.quote vl.data.toList) (by simp)]
    have h1 := quote_len vl.data.toList
    have h2 : vl.data.toList.length = vl.size := (Lib.size_eq vl).symm
    omega
  obtain ⟨W, hW⟩ : ∃ W, W = w.alloc (.cells #[.string nm, .bool b, .string vl] 45) := ⟨_, rfl⟩
  have hbW : Below w.heap.size w W := by rw [hW]; exact (Below.refl _ w).alloc (Nat.le_refl _) _
  have HQ := Lib.hid (own_quote_any vl (by omega) W.drew (Utf8Tabs_below hT hbW.drew))
  rw [← hq] at HQ
  have HQD : Hid (q.data.toList = LX.quote vl.data.toList) := Lib.hid (by rw [hq])
  have HC1 : Hid (CB W w.heap.size 45 #[.string nm, .bool b, .string vl]) := Lib.hid (by rw [hW]; exact CB.new w 45 _)
  have hsW : w.heap.size < W.heap.size := by rw [hW]; simp
  have c0 := HC1.out.cell 0
  have c1 := HC1.out.cell 1
  have c2 := HC1.out.cell 2
  have HW := Lib.hid hW.symm
  have HB := Lib.hid hbW
  have hnl : nm.data.size ≤ 100000 := hn
  have n1 : ¬ (9223372036854775807 < nm.size + 1) := by omega
  have n2 : ¬ (9223372036854775807 < nm.size + 2) := by omega
  have n3 : ¬ (9223372036854775807 < nm.size + 1 + q.size) := by omega
  have n4 : ¬ (9223372036854775807 < nm.size + 2 + q.size) := by omega
  clear hW hbW hT hq
  cases b
  · go_enter Tryz.func37, Tryz.ntmps37
    go_upto_region 4 with fail
    rw [HW.out]
    go_region_with (go_at_call 46; refine HQ.out.mono ?_; rintro e w2 ⟨rfl, hb⟩; have HC2 := CB.below (n := W.heap.size) (W := W.drew) HC1.out hb hsW; have d0 := HC2.cell 0; have d1 := HC2.cell 1; have d2 := HC2.cell 2)
    all_goals
      have hb2 : Below w.heap.size w w2 := HB.out.drew.trans (hb.mono (by show w.heap.size ≤ W.heap.size; omega))
      have HB2 := Lib.hid hb2
      clear hb hb2
      go_wp2_with fail
      go_ret
      refine ⟨_, rfl, ?_, ?_, HB2.out⟩
      · simp [HQD.out]
      · rw [ByteArray.size_append, ByteArray.size_append, show (ByteArray.mk #[61]).size = 1 from rfl]; omega
  · go_enter Tryz.func37, Tryz.ntmps37
    go_upto_region 4 with fail
    rw [HW.out]
    go_region_with (go_at_call 46; refine HQ.out.mono ?_; rintro e w2 ⟨rfl, hb⟩; have HC2 := CB.below (n := W.heap.size) (W := W.drew) HC1.out hb hsW; have d0 := HC2.cell 0; have d1 := HC2.cell 1; have d2 := HC2.cell 2)
    all_goals
      have hb2 : Below w.heap.size w w2 := HB.out.drew.trans (hb.mono (by show w.heap.size ≤ W.heap.size; omega))
      have HB2 := Lib.hid hb2
      clear hb hb2
      go_wp2_with fail
      go_ret
      refine ⟨_, rfl, ?_, ?_, HB2.out⟩
      · simp [HQD.out]
      · rw [ByteArray.size_append, ByteArray.size_append, show (ByteArray.mk #[33, 61]).size = 2 from rfl]; omega

/-- A matcher's text, in a row. -/
theorem mText1_of (m : Mt) {T : ByteArray} (h : T.data.toList = m.name.data.toList ++ (if m.not = true then [33] else []) ++ [61] ++ LX.quote m.value.data.toList) : Lib.joinTail [32] ([(⟨#[119, 104, 101, 114, 101]⟩ : ByteArray), T].map (·.data.toList)) = mText1 m := by
  unfold Lib.joinTail mText1
  simp [h]

set_option maxHeartbeats 8000000 in
set_option maxRecDepth 100000 in
/-- show.Plain. -/
theorem ownPlain_any (q : Qy) (hw : Wr q) (hlen : (fText q.fil).length ≤ 1000000000) (hpl : (plainT q).length ≤ 2000000000000) (w : World) (am : Option Addr) (cm : Nat) (ak : Option Addr) (ck : Nat) (hm : MsAt w (.slice am q.mat.length cm) q.mat) (hk : KsAt w (.slice ak q.fil.kids.length ck) q.fil) (hT : Tabs w) :
    Calls Tryz.prog 23 #[.agg #[.int .i64 q.src, .int .i64 q.til, .slice am q.mat.length cm, .int .i64 q.fil.op, .string q.fil.name, .string q.fil.text, .slice ak q.fil.kids.length ck, .bool q.desc, .int .i64 q.lim, .string q.page]] w fun e w' => ∃ T : ByteArray, e = .returned (.string T) ∧ T.data.toList = plainT q ∧ Below w.heap.size w w' := by
  obtain ⟨w0, hW⟩ : ∃ w0, w0 = w.alloc (.cells #[.int .i64 q.src, .int .i64 q.til, .slice am q.mat.length cm, .int .i64 q.fil.op, .string q.fil.name, .string q.fil.text, .slice ak q.fil.kids.length ck, .bool q.desc, .int .i64 q.lim, .string q.page] 30) := ⟨_, rfl⟩
  obtain ⟨F, hF⟩ : ∃ F, F = w.heap.size := ⟨_, rfl⟩
  have hl0 : Lay w w0 := by rw [hW]; exact (Keep.refl _ w).alloc _
  have HB0 := Lib.hid hl0.below
  have HC0 : Hid (CB w0 F 30 #[.int .i64 q.src, .int .i64 q.til, .slice am q.mat.length cm, .int .i64 q.fil.op, .string q.fil.name, .string q.fil.text, .slice ak q.fil.kids.length ck, .bool q.desc, .int .i64 q.lim, .string q.page]) := Lib.hid (by rw [hW, hF]; exact CB.new w 30 _)
  have HT0 := Lib.hid (hT.next hl0.below)
  have HI1 := Lib.hid (fun W (hW : Below w0.heap.size w0 W) => own_itoa_call HT0.out.pow q.src hw.src0 hw.src1 W hW)
  have HI2 := Lib.hid (fun W (hW : Below w0.heap.size w0 W) => own_itoa_call HT0.out.pow q.til hw.til0 hw.til1 W hW)
  have HI3 := Lib.hid (fun W (hW : Below w0.heap.size w0 W) => own_itoa_call HT0.out.pow q.lim hw.lim0 hw.lim1 W hW)
  have hF0 : F < w0.heap.size := HC0.out.lt
  have HW := Lib.hid hW.symm
  have HFE := Lib.hid hF.symm
  have HWR := Lib.hid hw
  have HPL := Lib.hid hpl
  have HMS := Lib.hid (hm.lay hl0)
  have HFL := Lib.hid (fun W (hW : Below w0.heap.size w0 W) => ownFilter_any q.fil hw.can hw.sm hlen W _ (KsAt.below hW _ _ (KsAt.below hl0.below _ _ hk)) (HT0.out.next hW).utf)
  obtain ⟨A, hA⟩ : ∃ A : ByteArray, A = ⟨(Lib.itoa q.src).toArray⟩ := ⟨_, rfl⟩
  obtain ⟨B, hB⟩ : ∃ B : ByteArray, B = ⟨(Lib.itoa q.til).toArray⟩ := ⟨_, rfl⟩
  obtain ⟨C, hC⟩ : ∃ C : ByteArray, C = ⟨(Lib.itoa q.lim).toArray⟩ := ⟨_, rfl⟩
  rw [← hA] at HI1
  rw [← hB] at HI2
  rw [← hC] at HI3
  have HA := Lib.hid hA
  have HB := Lib.hid hB
  have HC := Lib.hid hC
  have hms : q.mat.length ≤ 1000 := hw.mats
  clear hl0 hW hF hw hm hk hT hA hB hC hlen hpl
  simp only [Ft.val] at HFL
  go_enter Tryz.func23, Tryz.ntmps23
  go_upto_region 1 with fail
  rw [HW.out, HFE.out]
  clear HW
  go_cut [3] from 2 (fun v3 wx => Hid (Wj w0 wx v3 4 (hText q)))
  case first =>
    have c0 := HC0.out.cell 0
    have c1 := HC0.out.cell 1
    go_region_with (go_at_call 36; first | (refine (HI1.out _ (by first | exact (Lay.below (Keep.drew (Keep.refl _ _))) | exact (Lay.below (Keep.trans (Keep.drew (Keep.refl _ _)) hlb)))).mono ?_; rintro e wa ⟨rfl, hla⟩; try (have a0 := (Lay.cell hla (b := F) (o := 0) hF0).trans c0; have a1 := (Lay.cell hla (b := F) (o := 1) hF0).trans c1)) | (refine (HI2.out _ (by first | exact (Lay.below (Keep.drew (Keep.refl _ _))) | exact (Lay.below (Keep.trans (Keep.drew (Keep.refl _ _)) hla)))).mono ?_; rintro e wb ⟨rfl, hlb⟩; try (have b0 := (Lay.cell hlb (b := F) (o := 0) hF0).trans c0; have b1 := (Lay.cell hlb (b := F) (o := 1) hF0).trans c1)))
    all_goals
      go_wp2_with fail
      go_meet
      refine Lib.hid (wj_new (L := [⟨#[102, 114, 111, 109]⟩, A, ⟨#[116, 111]⟩, B]) (by first | exact Lay.below (Keep.trans (Keep.trans (Keep.drew (Keep.refl _ _)) hla) hlb) | exact Lay.below (Keep.trans (Keep.trans (Keep.drew (Keep.refl _ _)) hlb) hla)) (by simp) (by simp) rfl rfl ?_)
      rw [HA.out, HB.out]
      simp [Lib.join_cons, Lib.joinTail, hText]
  case rest =>
    have HWJ := hcut
    obtain ⟨w1, rfl⟩ : ∃ x : World, x = wc := ⟨_, rfl⟩
    have c2 := (CB.below HC0.out HWJ.out.low hF0).cell 2
    go_wp2_with fail
    clear c2
    go_loopw [3, 16] (fun vs vi wr => ∃ i : Nat, vi = .int .i64 (i : Int) ∧ i ≤ q.mat.length ∧ Hid (Wj w0 wr vs (4 + 2 * i) (hText q ++ mText (q.mat.take i)))) (fun _ vi _ => q.mat.length - (intOf vi).toNat)
    case atStart => exact ⟨0, rfl, Nat.zero_le _, Lib.hid (by simpa [mText] using HWJ.out)⟩
    case round =>
      obtain ⟨i, rfl, hi, HJ⟩ := hrel
      by_cases hlt : i < q.mat.length
      · have hi' : decide ((i : Int) < (q.mat.length : Int)) = true := by simpa using hlt
        obtain ⟨_, _, hv, _, h0 | ⟨b, off, ha, hb, hcs⟩⟩ := HMS.out
        · rw [h0] at hlt
          simp at hlt
        cases hv
        subst ha
        obtain ⟨x0, x1, x2⟩ := hcs i hlt
        have HN : Hid (mText (q.mat.take (i + 1)) = mText (q.mat.take i) ++ mText1 q.mat[i]) := Lib.hid (by rw [List.take_succ_eq_append_getElem hlt, mText_snoc])
        obtain ⟨hn, hvv⟩ := HWR.out.mat q.mat[i] (List.getElem_mem hlt)
        have y0 := (World.cell?_of_block (a := ⟨b, off + i * 3, none⟩) (HJ.out.low.block b hb)).trans x0
        have y1 := (World.cell?_of_block (a := ⟨b, off + i * 3 + 1, none⟩) (HJ.out.low.block b hb)).trans x1
        have y2 := (World.cell?_of_block (a := ⟨b, off + i * 3 + 2, none⟩) (HJ.out.low.block b hb)).trans x2
        clear x0 x1 x2 hcs
        generalize q.mat[i] = m at y0 y1 y2 HN hn hvv
        obtain ⟨W1, hW1⟩ : ∃ W1, W1 = wr.alloc (.cells #[.string m.name, .bool m.not, .string m.value] 45) := ⟨_, rfl⟩
        have HJ1 := Lib.hid (show Wj w0 W1 _ _ _ by rw [hW1]; exact HJ.out.next ((Below.refl _ wr).alloc (Nat.le_refl _) _))
        have HM1 : Hid (CB W1 wr.heap.size 45 #[.string m.name, .bool m.not, .string m.value]) := Lib.hid (by rw [hW1]; exact CB.new wr 45 _)
        have HW1 := Lib.hid hW1.symm
        have HMA := Lib.hid (matcher_any m hn hvv W1 (HT0.out.next HJ1.out.low).utf)
        obtain ⟨av, mv, cv, hvs⟩ := HJ.out.shape
        subst hvs
        clear hW1 hn hvv HJ
        go_upto_region 5 with fail
        rw [HW1.out]
        clear HW1 y0 y1 y2
        generalize wr.heap.size = K at HM1 ⊢
        have m0 := HM1.out.cell 0
        have m1 := HM1.out.cell 1
        have m2 := HM1.out.cell 2
        go_wp2_with fail
        refine HMA.out.mono ?_
        rintro e w5 ⟨T, rfl, hTT, hTs, hb5⟩
        obtain ⟨v6, w6, hrun, hj6⟩ := (HJ1.out.next hb5).app (by omega) [⟨#[119, 104, 101, 114, 101]⟩, T] (by simp) rfl rfl
        have HJ6 := Lib.hid hj6
        have HTT := Lib.hid hTT
        have HRUN := Lib.hid hrun
        clear hb5 hj6 hTT m0 m1 m2 hrun HMA
        go_wp2_with (at_builtin; refine wpList_append_run rfl _ _ 43 rfl rfl rfl HRUN.out ?_)
        go_wp2_with fail
        go_roundw
        case rel =>
          refine ⟨i + 1, by go_num, by omega, Lib.hid ?_⟩
          have := HJ6.out
          rw [mText1_of m HTT.out, List.append_assoc, ← HN.out] at this
          exact this.most (by simp; omega)
        case measure => simp [intOf]; omega
      · obtain rfl : i = q.mat.length := by omega
        have hi' : decide ((q.mat.length : Int) < (q.mat.length : Int)) = false := by simp
        have HJ0 : Hid (Wj w0 wr _ 2004 (hText q ++ mText q.mat)) := Lib.hid (by have := HJ.out; rw [List.take_length] at this; exact this.most (by omega))
        obtain ⟨av, mv, cv, hvs⟩ := HJ.out.shape
        subst hvs
        clear HJ
        by_cases hop : q.fil.op = 1
        · have e1 : (q.fil.op != 1) = false := by simp [hop]
          have HX : Hid (xText q.fil = []) := Lib.hid (by unfold xText; rw [if_pos hop])
          clear hop
          rcases hd : q.desc with _ | _
          · have c3 := (CB.below HC0.out HJ0.out.low hF0).cell 3
            have c7 : wr.cell? ⟨F, 7, none⟩ = some (.bool false) := by rw [← hd]; exact (CB.below HC0.out HJ0.out.low hF0).cell 7
            have c8 := (CB.below HC0.out HJ0.out.low hF0).cell 8
            go_wp2_with fail
            refine (HI3.out _ HJ0.out.low).mono ?_
            rintro e w9 ⟨rfl, hl9⟩
            obtain ⟨v10, w10, hrun10, hj10⟩ := (HJ0.out.next hl9.below).app (by simp) [⟨#[108, 105, 109, 105, 116]⟩, C] (by simp) rfl rfl
            have HRUN10 := Lib.hid hrun10
            obtain ⟨L, hLne, hLn, hLr, hLw, hLj⟩ := hj10
            have hplain : Lib.join (L.map (·.data.toList)) [32] = plainT q := by
              rw [hLj]
              unfold plainT
              rw [HX.out, hd, show dText false = [] from rfl]
              unfold lText
              simp [Lib.joinTail, HC.out]
            obtain ⟨_, ⟨_, h0⟩ | ⟨g, cap, rfl, _, hg, hlc, hm, hcc, _⟩⟩ := hLr
            · exact absurd (List.eq_nil_of_length_eq_zero h0) hLne
            have HJO := Lib.hid (Tryz.strings_Join g 0 cap L ⟨#[32]⟩ w10 (fun j x hx => by
              rw [Nat.zero_add, hcc j (by rw [List.length_map]; exact (List.getElem?_eq_some_iff.1 hx).1), List.getElem?_map, hx]
              rfl) hg (by simp only [List.length_cons, List.length_nil] at hLn; omega) hlc (by
              show (Lib.join (L.map (·.data.toList)) [32]).length ≤ _
              rw [hplain]
              exact Nat.le_trans HPL.out (by decide)))
            have HPT := Lib.hid hplain
            have HLW := Lib.hid (HB0.out.trans (hLw.mono HB0.out.size))
            clear hl9 hrun10 hLne hLn hLw hLj hplain hg hlc hm hcc c8
            go_wp2_with (at_builtin; refine wpList_append_run rfl _ _ 43 rfl rfl rfl HRUN10.out ?_)
            go_wp2_with fail
            refine HJO.out.mono ?_
            rintro e w11 ⟨rfl, hb11⟩
            have HB11 := Lib.hid (HLW.out.trans (hb11.mono HLW.out.size))
            clear hb11 HJO
            go_wp2_with fail
            go_ret
            refine ⟨_, rfl, ?_, HB11.out⟩
            rw [← HPT.out]
          · have c3 := (CB.below HC0.out HJ0.out.low hF0).cell 3
            have c7 : wr.cell? ⟨F, 7, none⟩ = some (.bool true) := by rw [← hd]; exact (CB.below HC0.out HJ0.out.low hF0).cell 7
            obtain ⟨v8, w8, hrun8, hj8⟩ := HJ0.out.app (by simp) [⟨#[100, 101, 115, 99]⟩] (by simp) rfl rfl
            have HJ8 := Lib.hid hj8
            have HRUN8 := Lib.hid hrun8
            obtain ⟨a8, m8, n8, h8⟩ := hj8.shape
            subst h8
            clear hj8 hrun8
            have c8 := (CB.below HC0.out HJ8.out.low hF0).cell 8
            go_wp2_with (at_builtin; refine wpList_append_run rfl _ _ 43 rfl rfl rfl HRUN8.out ?_)
            go_wp2_with fail
            refine (HI3.out _ HJ8.out.low).mono ?_
            rintro e w9 ⟨rfl, hl9⟩
            obtain ⟨v10, w10, hrun10, hj10⟩ := (HJ8.out.next hl9.below).app (by simp) [⟨#[108, 105, 109, 105, 116]⟩, C] (by simp) rfl rfl
            have HRUN10 := Lib.hid hrun10
            obtain ⟨L, hLne, hLn, hLr, hLw, hLj⟩ := hj10
            have hplain : Lib.join (L.map (·.data.toList)) [32] = plainT q := by
              rw [hLj]
              unfold plainT
              rw [HX.out, hd, show dText true = [32, 100, 101, 115, 99] from rfl]
              unfold lText
              simp [Lib.joinTail, HC.out]
            obtain ⟨_, ⟨_, h0⟩ | ⟨g, cap, rfl, _, hg, hlc, hm, hcc, _⟩⟩ := hLr
            · exact absurd (List.eq_nil_of_length_eq_zero h0) hLne
            have HJO := Lib.hid (Tryz.strings_Join g 0 cap L ⟨#[32]⟩ w10 (fun j x hx => by
              rw [Nat.zero_add, hcc j (by rw [List.length_map]; exact (List.getElem?_eq_some_iff.1 hx).1), List.getElem?_map, hx]
              rfl) hg (by simp only [List.length_cons, List.length_nil] at hLn; omega) hlc (by
              show (Lib.join (L.map (·.data.toList)) [32]).length ≤ _
              rw [hplain]
              exact Nat.le_trans HPL.out (by decide)))
            have HPT := Lib.hid hplain
            have HLW := Lib.hid (HB0.out.trans (hLw.mono HB0.out.size))
            clear hl9 hrun10 hLne hLn hLw hLj hplain hg hlc hm hcc c8
            go_wp2_with (at_builtin; refine wpList_append_run rfl _ _ 43 rfl rfl rfl HRUN10.out ?_)
            go_wp2_with fail
            refine HJO.out.mono ?_
            rintro e w11 ⟨rfl, hb11⟩
            have HB11 := Lib.hid (HLW.out.trans (hb11.mono HLW.out.size))
            clear hb11 HJO
            go_wp2_with fail
            go_ret
            refine ⟨_, rfl, ?_, HB11.out⟩
            rw [← HPT.out]
        · have e1 : (q.fil.op != 1) = true := by simpa using hop
          have HX : Hid (xText q.fil = [32, 102, 105, 110, 100, 32] ++ fText q.fil) := Lib.hid (by unfold xText; rw [if_neg hop])
          clear hop
          rcases hd : q.desc with _ | _
          · have c3 := (CB.below HC0.out HJ0.out.low hF0).cell 3
            have c4 := (CB.below HC0.out HJ0.out.low hF0).cell 4
            have c5 := (CB.below HC0.out HJ0.out.low hF0).cell 5
            have c6 := (CB.below HC0.out HJ0.out.low hF0).cell 6
            go_wp2_with fail
            refine (HFL.out _ HJ0.out.low).mono ?_
            rintro e w6 ⟨T, rfl, hTT, hb6⟩
            obtain ⟨v7, w7, hrun, hj7⟩ := (HJ0.out.next hb6).app (by omega) [⟨#[102, 105, 110, 100]⟩, T] (by simp) rfl rfl
            have HJ7 := Lib.hid hj7
            have HTT := Lib.hid hTT
            have HRUN := Lib.hid hrun
            obtain ⟨a7, m7, n7, h7⟩ := hj7.shape
            subst h7
            clear hb6 hj7 hTT c3 c4 c5 c6 hrun
            have c7 : w7.cell? ⟨F, 7, none⟩ = some (.bool false) := by rw [← hd]; exact (CB.below HC0.out HJ7.out.low hF0).cell 7
            have c8 := (CB.below HC0.out HJ7.out.low hF0).cell 8
            go_wp2_with (at_builtin; refine wpList_append_run rfl _ _ 43 rfl rfl rfl HRUN.out ?_)
            go_wp2_with fail
            refine (HI3.out _ HJ7.out.low).mono ?_
            rintro e w9 ⟨rfl, hl9⟩
            obtain ⟨v10, w10, hrun10, hj10⟩ := (HJ7.out.next hl9.below).app (by simp) [⟨#[108, 105, 109, 105, 116]⟩, C] (by simp) rfl rfl
            have HRUN10 := Lib.hid hrun10
            obtain ⟨L, hLne, hLn, hLr, hLw, hLj⟩ := hj10
            have hplain : Lib.join (L.map (·.data.toList)) [32] = plainT q := by
              rw [hLj]
              unfold plainT
              rw [HX.out, hd, show dText false = [] from rfl]
              unfold lText
              simp [Lib.joinTail, HC.out, HTT.out]
            obtain ⟨_, ⟨_, h0⟩ | ⟨g, cap, rfl, _, hg, hlc, hm, hcc, _⟩⟩ := hLr
            · exact absurd (List.eq_nil_of_length_eq_zero h0) hLne
            have HJO := Lib.hid (Tryz.strings_Join g 0 cap L ⟨#[32]⟩ w10 (fun j x hx => by
              rw [Nat.zero_add, hcc j (by rw [List.length_map]; exact (List.getElem?_eq_some_iff.1 hx).1), List.getElem?_map, hx]
              rfl) hg (by simp only [List.length_cons, List.length_nil] at hLn; omega) hlc (by
              show (Lib.join (L.map (·.data.toList)) [32]).length ≤ _
              rw [hplain]
              exact Nat.le_trans HPL.out (by decide)))
            have HPT := Lib.hid hplain
            have HLW := Lib.hid (HB0.out.trans (hLw.mono HB0.out.size))
            clear hl9 hrun10 hLne hLn hLw hLj hplain hg hlc hm hcc c8
            go_wp2_with (at_builtin; refine wpList_append_run rfl _ _ 43 rfl rfl rfl HRUN10.out ?_)
            go_wp2_with fail
            refine HJO.out.mono ?_
            rintro e w11 ⟨rfl, hb11⟩
            have HB11 := Lib.hid (HLW.out.trans (hb11.mono HLW.out.size))
            clear hb11 HJO
            go_wp2_with fail
            go_ret
            refine ⟨_, rfl, ?_, HB11.out⟩
            rw [← HPT.out]
          · have c3 := (CB.below HC0.out HJ0.out.low hF0).cell 3
            have c4 := (CB.below HC0.out HJ0.out.low hF0).cell 4
            have c5 := (CB.below HC0.out HJ0.out.low hF0).cell 5
            have c6 := (CB.below HC0.out HJ0.out.low hF0).cell 6
            go_wp2_with fail
            refine (HFL.out _ HJ0.out.low).mono ?_
            rintro e w6 ⟨T, rfl, hTT, hb6⟩
            obtain ⟨v7, w7, hrun, hj7⟩ := (HJ0.out.next hb6).app (by omega) [⟨#[102, 105, 110, 100]⟩, T] (by simp) rfl rfl
            have HJ7 := Lib.hid hj7
            have HTT := Lib.hid hTT
            have HRUN := Lib.hid hrun
            obtain ⟨a7, m7, n7, h7⟩ := hj7.shape
            subst h7
            clear hb6 hj7 hTT c3 c4 c5 c6 hrun
            have c7 : w7.cell? ⟨F, 7, none⟩ = some (.bool true) := by rw [← hd]; exact (CB.below HC0.out HJ7.out.low hF0).cell 7
            obtain ⟨v8, w8, hrun8, hj8⟩ := HJ7.out.app (by simp) [⟨#[100, 101, 115, 99]⟩] (by simp) rfl rfl
            have HJ8 := Lib.hid hj8
            have HRUN8 := Lib.hid hrun8
            obtain ⟨a8, m8, n8, h8⟩ := hj8.shape
            subst h8
            clear hj8 hrun8
            have c8 := (CB.below HC0.out HJ8.out.low hF0).cell 8
            go_wp2_with (at_builtin; first | refine wpList_append_run rfl _ _ 43 rfl rfl rfl HRUN.out ?_ | refine wpList_append_run rfl _ _ 43 rfl rfl rfl HRUN8.out ?_)
            go_wp2_with fail
            refine (HI3.out _ HJ8.out.low).mono ?_
            rintro e w9 ⟨rfl, hl9⟩
            obtain ⟨v10, w10, hrun10, hj10⟩ := (HJ8.out.next hl9.below).app (by simp) [⟨#[108, 105, 109, 105, 116]⟩, C] (by simp) rfl rfl
            have HRUN10 := Lib.hid hrun10
            obtain ⟨L, hLne, hLn, hLr, hLw, hLj⟩ := hj10
            have hplain : Lib.join (L.map (·.data.toList)) [32] = plainT q := by
              rw [hLj]
              unfold plainT
              rw [HX.out, hd, show dText true = [32, 100, 101, 115, 99] from rfl]
              unfold lText
              simp [Lib.joinTail, HC.out, HTT.out]
            obtain ⟨_, ⟨_, h0⟩ | ⟨g, cap, rfl, _, hg, hlc, hm, hcc, _⟩⟩ := hLr
            · exact absurd (List.eq_nil_of_length_eq_zero h0) hLne
            have HJO := Lib.hid (Tryz.strings_Join g 0 cap L ⟨#[32]⟩ w10 (fun j x hx => by
              rw [Nat.zero_add, hcc j (by rw [List.length_map]; exact (List.getElem?_eq_some_iff.1 hx).1), List.getElem?_map, hx]
              rfl) hg (by simp only [List.length_cons, List.length_nil] at hLn; omega) hlc (by
              show (Lib.join (L.map (·.data.toList)) [32]).length ≤ _
              rw [hplain]
              exact Nat.le_trans HPL.out (by decide)))
            have HPT := Lib.hid hplain
            have HLW := Lib.hid (HB0.out.trans (hLw.mono HB0.out.size))
            clear hl9 hrun10 hLne hLn hLw hLj hplain hg hlc hm hcc c8
            go_wp2_with (at_builtin; refine wpList_append_run rfl _ _ 43 rfl rfl rfl HRUN10.out ?_)
            go_wp2_with fail
            refine HJO.out.mono ?_
            rintro e w11 ⟨rfl, hb11⟩
            have HB11 := Lib.hid (HLW.out.trans (hb11.mono HLW.out.size))
            clear hb11 HJO
            go_wp2_with fail
            go_ret
            refine ⟨_, rfl, ?_, HB11.out⟩
            rw [← HPT.out]
end Go.Proofs.YtkckgjanfiiieaaGreatDoor
