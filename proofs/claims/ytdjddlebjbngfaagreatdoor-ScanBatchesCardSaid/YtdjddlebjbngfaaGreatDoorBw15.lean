/-
  ScanBatches: WHAT IS ASKED FOR BATCH BY BATCH IS WHAT IS ASKED FOR AT ONCE.
-/
import Derived.Test.YtdjddlebjbngfaaGreatDoorFk15
import Derived.Test.YtdjddlebjbngfaaGreatDoorEr
import Derived.Test.YtdjddlebjbngfaaGreatDoorOp13
import Derived.Test.YtdjddlebjbngfaaGreatDoorAy15
namespace Go.Proofs.YtdjddlebjbngfaaGreatDoor.E4
open Go.RowKit Go
open Go.Sort (grow)

theorem Bl.set12 {W : World} {B : Nat} {t : TypeId} {arr : Array Value} (h : Bl W B t arr) (i : Nat) (u : Value) : Bl (W.setCell ⟨B, i, none⟩ u) B t (arr.setIfInBounds i u) := by
  obtain ⟨hlt, hk⟩ := Array.getElem?_eq_some_iff.1 h
  show (W.heap.modify B _)[B]? = _
  rw [Array.getElem?_eq_getElem (by rw [Array.size_modify]; exact hlt), Array.getElem_modify_self, hk]
  rfl

/-- Labels don't lie where a mark lies. -/
theorem labs_mark {G : Nat → Prop} {w w' : World} {v : Value} {ls : List Lab} {M : Nat} {b0 : Bool} {n0 : Int} {_v0 : Value} {s0 : ByteArray} {i0 : Option Addr} {j0 k0 : Nat} (h : LabsAt G w v ls) (hm : Bl w M 31 #[.bool b0, .int .i64 n0, .slice i0 j0 k0, .string s0]) (hk : Keep (fun b => b = M) w w') : LabsAt G w' v ls := by
  obtain ⟨a, c, hv, h63, h0 | ⟨b, off, ha, hG, hb, hc⟩⟩ := h
  · exact ⟨a, c, hv, h63, .inl h0⟩
  · cases hl : ls with
    | nil => exact ⟨a, c, by rw [hv, hl], by simp, .inl rfl⟩
    | cons x r =>
      subst hl
      have hbM : b ≠ M := by
        rintro rfl
        obtain ⟨h1, h2⟩ := hc 0 (by simp)
        rw [hm.cell] at h1 h2
        match off with
        | 0 => simp at h1
        | 1 => simp at h1
        | 2 => simp at h1
        | 3 => simp at h2
        | n + 4 => simp at h1
      refine ⟨a, c, hv, h63, .inr ⟨b, off, ha, hG, Nat.lt_of_lt_of_le hb hk.size, fun i hi => ?_⟩⟩
      obtain ⟨h1, h2⟩ := hc i hi
      exact ⟨(World.cell?_of_block (a := ⟨b, off + i * 2, none⟩) (hk.block b hb hbM)).trans h1, (World.cell?_of_block (a := ⟨b, off + i * 2 + 1, none⟩) (hk.block b hb hbM)).trans h2⟩

theorem ents_at13 {G L : Nat → Prop} {w : World} {a : Option Addr} {n c : Nat} {es : List Ent} (h : EntsAt G L w (.slice a n c) es) (i : Nat) (hi : i < es.length) :
    ∃ b off lv, a = some ⟨b, off, none⟩ ∧ b < w.heap.size ∧ w.cell? ⟨b, off + i * 3, none⟩ = some (.int .i64 es[i].tm) ∧ w.cell? ⟨b, off + i * 3 + 1, none⟩ = some lv ∧ w.cell? ⟨b, off + i * 3 + 2, none⟩ = some (.string es[i].line) ∧ LabsAt L w lv es[i].labs := by
  obtain ⟨a', c', hv, _, hx⟩ := h
  simp only [Value.slice.injEq] at hv
  obtain ⟨rfl, rfl, rfl⟩ := hv
  rcases hx with h0 | ⟨b, off, rfl, _, hb, hc⟩
  · exact absurd hi (by rw [h0]; simp)
  · obtain ⟨lv, h1, h2, h3, h4⟩ := hc i hi
    exact ⟨b, off, lv, rfl, hb, h1, h2, h3, h4⟩

/-- What the operations of a question leave, labels in new memory. -/
def AT2 (B0 : Nat) (L : List Ent) (bb : Bool) (kk : Int) (v : Value) (w : World) : Prop := ∃ u, v = .tuple #[u, .bool bb, .int .i64 kk] ∧ EntsAt (fun b => B0 ≤ b) (fun b => B0 ≤ b) w u L
def AZ2 (B0 : Nat) (L : List Ent) (bb : Bool) (kk : Int) : Nat → Value → World → Prop
  | 6, v, w => AT2 B0 L bb kk v w
  | 7, v, w => AT2 B0 L bb kk v w
  | 8, v, w => EntsAt (fun b => B0 ≤ b) (fun b => B0 ≤ b) w v L
  | 11, v, w => EntsAt (fun b => B0 ≤ b) (fun b => B0 ≤ b) w v L
  | _, _, _ => True
theorem AZ2.below {B0 : Nat} {L : List Ent} {bb : Bool} {kk : Int} {j : Nat} {v : Value} {w w' : World} (h : AZ2 B0 L bb kk j v w) (hb : Below w.heap.size w w') : AZ2 B0 L bb kk j v w' := by
  unfold AZ2 at h ⊢
  split at h
  · obtain ⟨u, h1, h2⟩ := h
    exact ⟨u, h1, h2.below1 hb⟩
  · obtain ⟨u, h1, h2⟩ := h
    exact ⟨u, h1, h2.below1 hb⟩
  · exact EntsAt.below1 h hb
  · exact EntsAt.below1 h hb
  · trivial

theorem src_of_ents {G L : Nat → Prop} {w : World} {v : Value} {es : List Ent} (h : EntsAt G L w v es) : ∃ R, R.map Prod.snd = es ∧ RawL L w R ∧ ∀ w1, Below w.heap.size w w1 → Src Tryz.prog 3 22 v es.length (flatR R) w1 := by
  obtain ⟨a, cap, rfl, hn, hc⟩ := id h
  by_cases h0 : es = []
  · subst h0
    refine ⟨[], rfl, fun x hx => by simp at hx, fun w1 _ => ?_⟩
    cases a with
    | none => exact Src.ofNil _ Tryz.underlying22 cap
    | some p => exact Src.ofSlice _ Tryz.underlying22 p 0 cap [] rfl (fun j u hu => by simp at hu) (fun u hu => by simp at hu)
  · obtain ⟨b, off, R, rfl, hnR, hR, hg, hb, hraw, hL⟩ := h.raw h0
    exact ⟨R, hR, hL, fun w1 hl => by
      rw [hnR]
      exact RawAt.src (fun i hi => by
        obtain ⟨q0, q1, q2⟩ := hraw i hi
        exact ⟨(hl.cell hb).trans q0, (hl.cell hb).trans q1, (hl.cell hb).trans q2⟩) (hL.below1 hl) cap⟩

set_option maxHeartbeats 8000000 in
set_option maxRecDepth 100000 in
theorem batches_walk15 {G L : Nat → Prop} {w : World} {v av mv : Value} {es : List Ent} {a : Ask} {desc : Bool} {n : Int} (h : EntsAt G L w v es) (h1 : TextsAt w av a.all) (h2 : MsAt w mv a.mat) (hwf : ∀ e ∈ es, e.Wf) (hT : MaxI w) :
    Calls Tryz.prog 4 #[v, .agg (a.cells av mv), .bool desc, .int .i64 n] w fun x w' => x = .returned (.bool true) ∧ Below w.heap.size w w' := by
  obtain ⟨i24, z24, E24⟩ := elem24
  have hmx : Tryz.prog.follows .mixedOrders = true := by kernel_rfl
  obtain ⟨ae, ce, rfl, he63, _⟩ := id h
  obtain ⟨aa, ca, rfl, ha63, _⟩ := id h1
  obtain ⟨am, cm, rfl, hm6, _⟩ := id h2
  have hq : AskAt w (.agg (a.cells (.slice aa a.all.length ca) (.slice am a.mat.length cm))) a := ⟨_, _, rfl, h1, h2⟩
  obtain ⟨w2, hw2⟩ : ∃ w2, w2 = w.alloc (.cells #[.int .i64 a.kd, .int .i64 a.src, .int .i64 a.til, .slice aa a.all.length ca, .slice am a.mat.length cm] 26) := ⟨_, rfl⟩
  have hb2 : Below w.heap.size w w2 := by rw [hw2]; exact (Below.refl _ w).alloc (Nat.le_refl _) _
  have hka : Bl w2 w.heap.size 26 #[.int .i64 a.kd, .int .i64 a.src, .int .i64 a.til, .slice aa a.all.length ca, .slice am a.mat.length cm] := by rw [hw2]; exact Bl.new w 26 _
  have HW2 := Lib.hid hw2.symm
  have HAL := Lib.hid (alive_any w2 (MaxI.below1 hT hb2))
  have HANY := Lib.hid (fun W => anyOf_any a (.slice aa a.all.length ca) (.slice am a.mat.length cm) W ⟨_, _, _, rfl⟩ ⟨_, _, _, rfl⟩)
  have HH := Lib.hid h
  have HH1 := Lib.hid h1
  have HH2 := Lib.hid h2
  have HQ := Lib.hid hq
  have HWF := Lib.hid hwf
  have HT := Lib.hid hT
  have HB2 := Lib.hid hb2
  have HKA := Lib.hid hka
  obtain ⟨dv, hdv⟩ : ∃ dv, dv = a.dyn (.slice aa a.all.length ca) (.slice am a.mat.length cm) := ⟨_, rfl⟩
  rw [← hdv] at HANY
  have HDV := Lib.hid hdv
  simp only [Ask.cells] at HANY HQ ⊢
  have HGR := Lib.hid fun (W : World) (hW : Below w2.heap.size w2 W) => lawGreat_any (has := false) (m := ⟨0, [], ⟨#[]⟩⟩) (ml := .slice none 0 0) (HH.out.below1 (below_mid HB2.out hW)) (HQ.out.below (below_mid HB2.out hW)) (LabsAt.nil _ _)
  simp only [mkV] at HGR
  clear h h1 h2 hq hwf hT hw2 hb2 hka hdv
  go_enter Tryz.func4, Tryz.ntmps4
  go_upto_region 1 with fail
  rw [HW2.out]
  go_upto_region 3 with (go_at_call 7; refine HAL.out.mono ?_; rintro x w3 ⟨rfl, hb3⟩)
  have HB23 := Lib.hid hb3
  have HB3 := Lib.hid (below_mid HB2.out hb3)
  have HGR3 := Lib.hid (HGR.out w3 hb3)
  have hka := HKA.out.below hb3
  have c0 := hka.cell 0
  have c1 := hka.cell 1
  have c2 := hka.cell 2
  have c3 := hka.cell 3
  have c4 := hka.cell 4
  simp only [List.getElem?_toArray, List.getElem?_cons_succ, List.getElem?_cons_zero] at c0 c1 c2 c3 c4
  clear hka hb3 HAL HGR
  cases hbig : bigF es a ⟨0, [], ⟨#[]⟩⟩ with
  | true =>
    rw [hbig] at HGR3
    go_wp2_with (go_at_call 8; refine HGR3.out.mono ?_; rintro x w4 ⟨rfl, hb4⟩)
    go_ret
    exact ⟨rfl, below_mid HB3.out hb4⟩
  | false =>
    rw [hbig] at HGR3
    have HBG := Lib.hid (bigF_no hbig)
    clear hbig
    go_wp2_with fail
    refine HGR3.out.mono ?_
    rintro x w4 ⟨rfl, hb4⟩
    have HB24 := Lib.hid (below_mid HB23.out hb4)
    have HB4 := Lib.hid (below_mid HB3.out hb4)
    have hka := HKA.out.below HB24.out
    have c0 := hka.cell 0
    have c1 := hka.cell 1
    have c2 := hka.cell 2
    have c3 := hka.cell 3
    have c4 := hka.cell 4
    simp only [List.getElem?_toArray, List.getElem?_cons_succ, List.getElem?_cons_zero] at c0 c1 c2 c3 c4
    clear hka hb4 HGR3
    by_cases hk : a.kd = 3
    · have HG := Lib.hid (refGood3 a hk _ w4 (HQ.out.below HB4.out))
      have HKD := Lib.hid hk
      rw [hk] at HG HANY c0
      clear hk
      cases hgd : a.gd with
      | false =>
        rw [hgd] at HG
        go_wp2_with (go_at_call 17; refine HG.out.mono ?_; rintro x w5 ⟨rfl, hb5⟩)
        go_ret
        exact ⟨rfl, below_mid HB4.out hb5⟩
      | true =>
        rw [hgd] at HG
        have HGD := Lib.hid hgd
        clear hgd
        go_wp2_with fail
        refine HG.out.mono ?_
        rintro x w5 ⟨rfl, hb5⟩
        have HB25 := Lib.hid (below_mid HB24.out hb5)
        have HB5 := Lib.hid (below_mid HB4.out hb5)
        have hka := HKA.out.below HB25.out
        have c0 := hka.cell 0
        have c1 := hka.cell 1
        have c2 := hka.cell 2
        have c3 := hka.cell 3
        have c4 := hka.cell 4
        simp only [List.getElem?_toArray, List.getElem?_cons_succ, List.getElem?_cons_zero] at c0 c1 c2 c3 c4
        clear hb5 HG
        have HKA5 := Lib.hid hka
        rw [HKD.out] at c0
        clear hka
        by_cases hlo : n < 1
        · go_wp2_with fail
          go_ret
          exact ⟨rfl, HB5.out⟩
        have HN1 : Hid (1 ≤ n.toNat ∧ (n.toNat : Int) = n) := Lib.hid (by omega)
        have HFI := Lib.hid (filled_any (HH.out.below1 HB5.out) (by have := HBG.out.1; omega) (MaxI.below1 HT.out HB5.out))
        go_upto_region 6 with (go_at_call 9; refine HFI.out.mono ?_; rintro x w6 ⟨gb, rfl, heng, hb6⟩)
        have HB6 := Lib.hid (below_mid HB5.out hb6)
        have HE6 := Lib.hid heng
        have hka := HKA5.out.below hb6
        rw [HKD.out] at hka
        have c0 := hka.cell 0
        have c1 := hka.cell 1
        have c2 := hka.cell 2
        have c3 := hka.cell 3
        have c4 := hka.cell 4
        simp only [List.getElem?_toArray, List.getElem?_cons_succ, List.getElem?_cons_zero] at c0 c1 c2 c3 c4
        have HK6 := Lib.hid hka
        have hA : a.kd = 3 ∧ a.gd = true := ⟨HKD.out, HGD.out⟩
        have HA := Lib.hid hA
        have HQ0 : Hid (∀ (hs : Bool) (m : Ent) (ml : Value) (k : Int) W, Below w6.heap.size w6 W → LabsAt (fun _ => True) W ml m.labs → Calls Tryz.prog 10 #[.pointer (some ⟨gb, 0, none⟩), dv, mkV hs m ml, .bool desc, .int .i64 k] W fun x w' => (∃ u, x = .returned (.tuple #[u, .bool (decide ((Md.rest (ordC desc) (mkO hs m) (askS (addAll [] es) a desc)).length ≤ k.toNat)), .int .i64 0]) ∧ EntsAt (fun b => W.heap.size ≤ b) (fun b => W.heap.size ≤ b) w' u ((Md.rest (ordC desc) (mkO hs m) (askS (addAll [] es) a desc)).take k.toNat) ∧ Below W.heap.size W w') ∧ Sorts (ordC desc) ((addAll [] es).filter (inT a.src a.til)) (askS (addAll [] es) a desc)) := Lib.hid fun hs m ml k W hW hml => by
          have hb := below_mid HB6.out hW
          have hc := ask2_any (addAll [] es) a (.slice aa a.all.length ca) (.slice am a.mat.length cm) hs desc m ml k w5.heap.size gb W (HE6.out.below hW) ⟨_, _, _, rfl⟩ ⟨_, _, _, rfl⟩ hml (by have h3 := addAll_len (es := []) (l := es); have := HBG.out.1; simp only [List.length_nil] at h3; omega) HKD.out HGD.out
          rw [← HDV.out] at hc
          refine hc.mono fun x w' h => ?_
          obtain ⟨hb', u, srt, hs', rfl, hu⟩ := h
          have e : askS (addAll [] es) a desc = srt := srtOf_eq hs'
          rw [e]
          exact ⟨⟨u, rfl, hu, hb'⟩, hs'⟩
        have HSL : Hid (Sorts (ordC desc) ((addAll [] es).filter (inT a.src a.til)) (askS (addAll [] es) a desc) → (askS (addAll [] es) a desc).length ≤ 60) := Lib.hid fun hs => Nat.le_trans (askS_len hs) HBG.out.1
        generalize askS (addAll [] es) a desc = S at HQ0 HSL
        have HQM := Lib.hid (HQ0.out false ⟨0, [], ⟨#[]⟩⟩ (.slice none 0 0) 1000)
        simp only [mkV] at HQM
        clear hka heng hb6 HFI HKA5 hA
        go_wp2_with (go_at_call 11; refine (HANY.out _).mono ?_; rintro x w7 ⟨rfl, hb7⟩)
        refine (HQM.out _ hb7 (LabsAt.nil _ _)).mono ?_
        rintro x w8 ⟨⟨u1, rfl, hent1, hb8⟩, hsorts⟩
        have HSO := Lib.hid hsorts
        have HS60 := Lib.hid (HSL.out hsorts)
        have e1 : (Md.rest (ordC desc) (mkO false ⟨0, [], ⟨#[]⟩⟩) S).take (1000 : Int).toNat = S := by
          show (Md.rest (ordC desc) none S).take 1000 = S
          rw [Md.rest_none, List.take_of_length_le (by have := HS60.out; omega)]
        have e2 : decide ((Md.rest (ordC desc) (mkO false ⟨0, [], ⟨#[]⟩⟩) S).length ≤ (1000 : Int).toNat) = true := by
          refine decide_eq_true ?_
          show (Md.rest (ordC desc) none S).length ≤ 1000
          rw [Md.rest_none]
          have := HS60.out
          omega
        rw [e1] at hent1
        rw [e2]
        have HEN1 := Lib.hid hent1
        have HB68 := Lib.hid (below_mid hb7 hb8)
        obtain ⟨l1, lc1, rfl, _⟩ := id HEN1.out
        clear hb7 hb8 hent1 hsorts e1 e2 c0 c1 c2 c3 c4 HQM HSL
        obtain ⟨M, hM⟩ : ∃ M, M = w8.heap.size := ⟨_, rfl⟩
        obtain ⟨w10, hw10⟩ : ∃ w10, w10 = w8.alloc (.cells #[.bool false, .int .i64 0, .slice none 0 0, .string ⟨#[]⟩] 31) := ⟨_, rfl⟩
        have hb10 : Below w8.heap.size w8 w10 := by rw [hw10]; exact (Below.refl _ w8).alloc (Nat.le_refl _) _
        have hk10 : Bl w10 M 31 #[.bool false, .int .i64 0, .slice none 0 0, .string ⟨#[]⟩] := by rw [hw10, hM]; exact Bl.new w8 31 _
        have HW10 := Lib.hid hw10.symm
        have HB810 := Lib.hid hb10
        have HK10 := Lib.hid hk10
        have HM := Lib.hid hM
        have HNL := Lib.hid (LabsAt.nil (fun _ => True) w10)
        clear hw10 hb10 hk10 hM
        go_upto_region 11 with fail
        rw [HW10.out, ← HM.out]
        go_wp2_with fail
        go_loopw [15, 13] (fun vi vb wr => ∃ (k p : Nat) (R : List (Value × Ent)) (hs : Bool) (m : Ent) (ml : Value), vi = .int .i64 k ∧ k ≤ p ∧ p ≤ S.length ∧ Rk 3 (fun b => M < b) wr vb p (flatR R) ∧ RawL (fun b => M < b ∧ ¬ At vb b) wr R ∧ R.map Prod.snd = S.take p ∧ Md.rest (ordC desc) (mkO hs m) S = S.drop p ∧ LabsAt (fun _ => True) wr ml m.labs ∧ Bl wr M 31 #[.bool hs, .int .i64 m.tm, ml, .string m.line] ∧ Below M w8 wr) (fun vi _ _ => S.length + 2 - (intOf vi).toNat)
        case atStart => exact ⟨0, 0, [], false, ⟨0, [], ⟨#[]⟩⟩, .slice none 0 0, rfl, Nat.le_refl _, Nat.zero_le _, Rk.nil 3 _ _, fun x hx => (by simp at hx), (by simp), by
            show Md.rest (ordC desc) none S = S.drop 0
            rw [Md.rest_none, List.drop_zero], HNL.out, HK10.out, by rw [HM.out]; exact HB810.out⟩
        case round =>
          obtain ⟨k, p, R, hs, m, ml, rfl, hkp, hpS, hrk, hrl, hR, hrest, hml, hkm, hbr⟩ := hrel
          obtain ⟨ma, mc, rfl, hm63, _⟩ := id hml
          have hs60 := HS60.out
          have hk1 : (k : Int) ≤ (S.length : Int) + 1 := by omega
          have HRK := Lib.hid hrk
          have HRL := Lib.hid hrl
          have HRR := Lib.hid hR
          have HRE := Lib.hid hrest
          have HML := Lib.hid hml
          have HKM := Lib.hid hkm
          have HBR := Lib.hid hbr
          have hb0 : Below w8.heap.size w8 wr := by rw [← HM.out]; exact hbr
          have hdr : Below wr.heap.size wr wr.drew := lay_below ((Keep.refl (fun _ => False) wr).drew)
          have HKF : Hid (∀ W1, Below wr.drew.heap.size wr.drew W1 → Bl W1 w.heap.size 26 #[.int .i64 3, .int .i64 a.src, .int .i64 a.til, .slice aa a.all.length ca, .slice am a.mat.length cm]) := Lib.hid fun W1 hW => (HK6.out.below (below_mid HB68.out hb0)).below (below_mid hdr hW)
          have HMF : Hid (∀ W1, Below wr.drew.heap.size wr.drew W1 → Bl W1 M 31 #[.bool hs, .int .i64 m.tm, .slice ma m.labs.length mc, .string m.line]) := Lib.hid fun W1 hW => hkm.below (below_mid hdr hW)
          have HB8R := Lib.hid hb0
          obtain ⟨LL, hLL⟩ : ∃ LL, LL = (S.drop p).take n.toNat := ⟨_, rfl⟩
          obtain ⟨bb, hbb⟩ : ∃ bb, bb = decide ((S.drop p).length ≤ n.toNat) := ⟨_, rfl⟩
          have HASK : Hid (∀ W1, Below wr.drew.heap.size wr.drew W1 → Calls Tryz.prog 10 #[.pointer (some ⟨gb, 0, none⟩), dv, .agg #[.bool hs, .int .i64 m.tm, .slice ma m.labs.length mc, .string m.line], .bool desc, .int .i64 n] W1 fun x w' => ∃ u, x = .returned (.tuple #[u, .bool bb, .int .i64 0]) ∧ EntsAt (fun b => W1.heap.size ≤ b) (fun b => W1.heap.size ≤ b) w' u LL ∧ Below W1.heap.size W1 w') := Lib.hid fun W1 hW => by
            have hc := HQ0.out hs m (.slice ma m.labs.length mc) n W1 (below_mid HB68.out (below_mid hb0 (below_mid hdr hW))) (hml.below1 (below_mid hdr hW))
            rw [hrest, ← hLL, ← hbb] at hc
            exact hc.mono fun x w' h => h.1
          have HLL := Lib.hid hLL
          have HBB := Lib.hid hbb
          clear hrk hrl hR hrest hml hkm hbr hb0 hdr hLL hbb
          go_upto_region 14 with fail
          refine (wpIn_wide (n := 9)).1 ?_
          refine H3.wpIn_region_flow (fun _ => trivial) (by kernel_rfl) (fun _ _ W => Below wr.drew.heap.size wr.drew W) (fun _ _ W1 W2 => Below W1.heap.size W1 W2) (GV [some (.pointer (some ⟨gb, 0, none⟩)), some (.agg #[.int .i64 3, .int .i64 a.src, .int .i64 a.til, .slice aa a.all.length ca, .slice am a.mat.length cm]), some (dv), some (.agg #[.bool hs, .int .i64 m.tm, .slice ma m.labs.length mc, .string m.line]), some (.bool desc), some (.int .i64 n), none, none, none, some (.bool bb), some (.int .i64 0), none, some (.bool bb), some (.int .i64 0)] [6, 7, 8, 11] (AZ2 (wr.drew.heap.size) (LL) bb 0)) (fun j => j == 11 || j == 12 || j == 13) (by kernel_rfl) (by kernel_rfl) ?hst (Below.refl _ _) ?step ?fin
          case hst =>
            intro i j ys v w1 w2 hij hanc hned hV hR
            by_cases hj6 : j = 6
            · subst hj6
              exact GV.keep (sp := AZ2 (wr.drew.heap.size) (LL) bb 0) (fun _ _ _ _ h hb => AZ2.below h hb) hij hV hR
            by_cases hj7 : j = 7
            · subst hj7
              exact GV.keep (sp := AZ2 (wr.drew.heap.size) (LL) bb 0) (fun _ _ _ _ h hb => AZ2.below h hb) hij hV hR
            by_cases hj8 : j = 8
            · subst hj8
              exact GV.keep (sp := AZ2 (wr.drew.heap.size) (LL) bb 0) (fun _ _ _ _ h hb => AZ2.below h hb) hij hV hR
            by_cases hj11 : j = 11
            · subst hj11
              exact GV.keep (sp := AZ2 (wr.drew.heap.size) (LL) bb 0) (fun _ _ _ _ h hb => AZ2.below h hb) hij hV hR
            exact gvq_keep (by simp; omega) hij hV
          case step =>
            refine ⟨?_, ?_, ?_, ?_, ?_, ?_, ?_, ?_, ?_, ?_, ?_, ?_, ?_, ?_, trivial⟩
            · intro listed ys X W1 hsz hsd hi2 hall hX hI hd K hK
              have e9 : X.tmps.getD 9 undef = .pointer (some ⟨gb, 0, none⟩) := hX 9 (Nat.le_of_ble_eq_true rfl)
              have HI := Lib.hid hI
              refine H3.step_run (.inl rfl) ?_
              clear hX hd hI
              go_simp
              exact hK _ _ HI.out (Below.refl _ _) (GV.of (by decide) (fun u h => by cases h; rfl))
            · intro listed ys X W1 hsz hsd hi2 hall hX hI hd K hK
              have e5 : X.tmps.getD 5 undef = .pointer (some ⟨w.heap.size, 0, none⟩) := hX 5 (Nat.le_of_ble_eq_true rfl)
              have hx := HKF.out W1 hI
              have x0 := hx.cell 0
              have x1 := hx.cell 1
              have x2 := hx.cell 2
              have x3 := hx.cell 3
              have x4 := hx.cell 4
              simp only [List.getElem?_toArray, List.getElem?_cons_succ, List.getElem?_cons_zero] at x0 x1 x2 x3 x4
              clear hx
              have HI := Lib.hid hI
              refine H3.step_run (.inl rfl) ?_
              clear hX hd hI
              go_simp
              exact hK _ _ HI.out (Below.refl _ _) (GV.of (by decide) (fun u h => by cases h; rfl))
            · intro listed ys X W1 hsz hsd hi2 hall hX hI hd K hK
              have e66 : X.tmps.getD 66 undef = .agg #[.int .i64 3, .int .i64 a.src, .int .i64 a.til, .slice aa a.all.length ca, .slice am a.mat.length cm] := (hX 66 (Nat.le_of_ble_eq_true rfl)).trans (GV.val (hd ⟨1, .data⟩ (by simp) rfl) (by decide) rfl)
              have HI := Lib.hid hI
              refine H3.step_run (.inl rfl) ?_
              clear hX hd hI
              go_simp
              refine ⟨trivial, (callsIn_wide.2 (HANY.out W1)).mono ?_⟩
              rintro x w7 ⟨rfl, hb⟩
              exact hK _ _ (HI.out.trans (hb.mono HI.out.size)) hb (GV.of (by decide) (fun u h => by cases h; rfl))
            · intro listed ys X W1 hsz hsd hi2 hall hX hI hd K hK
              have e14 : X.tmps.getD 14 undef = .pointer (some ⟨M, 0, none⟩) := hX 14 (Nat.le_of_ble_eq_true rfl)
              have hx := HMF.out W1 hI
              have x0 := hx.cell 0
              have x1 := hx.cell 1
              have x2 := hx.cell 2
              have x3 := hx.cell 3
              simp only [List.getElem?_toArray, List.getElem?_cons_succ, List.getElem?_cons_zero] at x0 x1 x2 x3
              clear hx
              have HI := Lib.hid hI
              refine H3.step_run (.inl rfl) ?_
              clear hX hd hI
              go_simp
              exact hK _ _ HI.out (Below.refl _ _) (GV.of (by decide) (fun u h => by cases h; rfl))
            · intro listed ys X W1 hsz hsd hi2 hall hX hI hd K hK
              have e2 : X.tmps.getD 2 undef = .bool desc := hX 2 (Nat.le_of_ble_eq_true rfl)
              have HI := Lib.hid hI
              refine H3.step_run (.inl rfl) ?_
              clear hX hd hI
              go_simp
              exact hK _ _ HI.out (Below.refl _ _) (GV.of (by decide) (fun u h => by cases h; rfl))
            · intro listed ys X W1 hsz hsd hi2 hall hX hI hd K hK
              have e3 : X.tmps.getD 3 undef = .int .i64 n := hX 3 (Nat.le_of_ble_eq_true rfl)
              have HI := Lib.hid hI
              refine H3.step_run (.inl rfl) ?_
              clear hX hd hI
              go_simp
              exact hK _ _ HI.out (Below.refl _ _) (GV.of (by decide) (fun u h => by cases h; rfl))
            · intro listed ys X W1 hsz hsd hi2 hall hX hI hd K hK
              have e65 : X.tmps.getD 65 undef = .pointer (some ⟨gb, 0, none⟩) := (hX 65 (Nat.le_of_ble_eq_true rfl)).trans (GV.val (hd ⟨0, .data⟩ (by simp) rfl) (by decide) rfl)
              have e67 : X.tmps.getD 67 undef = dv := (hX 67 (Nat.le_of_ble_eq_true rfl)).trans (GV.val (hd ⟨2, .data⟩ (by simp) rfl) (by decide) rfl)
              have e68 : X.tmps.getD 68 undef = .agg #[.bool hs, .int .i64 m.tm, .slice ma m.labs.length mc, .string m.line] := (hX 68 (Nat.le_of_ble_eq_true rfl)).trans (GV.val (hd ⟨3, .data⟩ (by simp) rfl) (by decide) rfl)
              have e69 : X.tmps.getD 69 undef = .bool desc := (hX 69 (Nat.le_of_ble_eq_true rfl)).trans (GV.val (hd ⟨4, .data⟩ (by simp) rfl) (by decide) rfl)
              have e70 : X.tmps.getD 70 undef = .int .i64 n := (hX 70 (Nat.le_of_ble_eq_true rfl)).trans (GV.val (hd ⟨5, .data⟩ (by simp) rfl) (by decide) rfl)
              have HI := Lib.hid hI
              have HC := Lib.hid (HASK.out W1 hI)
              have hBW := HI.out.size
              refine H3.step_run (.inl rfl) ?_
              clear hX hd hI
              go_simp
              refine ⟨trivial, (callsIn_wide.2 HC.out).mono ?_⟩
              rintro x w7 ⟨u, rfl, hent, hb⟩
              exact hK _ _ (HI.out.trans (hb.mono HI.out.size)) hb (GV.ofsp (by decide) (show AZ2 _ _ _ _ 6 _ w7 from ⟨u, rfl, hent.mono (fun b hb2 _ => Nat.le_trans hBW hb2) (fun b hb2 _ => Nat.le_trans hBW hb2)⟩))
            · intro listed ys X W1 hsz hsd hi2 hall hX hI hd K hK
              have e71 : X.tmps.getD 71 undef = ys 6 := hX 71 (Nat.le_of_ble_eq_true rfl)
              have hv6 := GV.spv (hd ⟨6, .data⟩ (by simp) rfl) (by decide)
              have HI := Lib.hid hI
              have HV := Lib.hid hv6
              refine H3.step_run (.inl rfl) ?_
              clear hX hd hI hv6
              go_simp
              exact hK _ _ HI.out (Below.refl _ _) (GV.ofsp (by decide) (show AZ2 _ _ _ _ 7 _ W1 from HV.out))
            · intro listed ys X W1 hsz hsd hi2 hall hX hI hd K hK
              have e64 : X.tmps.getD 64 undef = ys 7 := hX 64 (Nat.le_of_ble_eq_true rfl)
              have hv7 := GV.spv (hd ⟨7, .data⟩ (by simp) rfl) (by decide)
              have HI := Lib.hid hI
              obtain ⟨u, hv, hent⟩ : AT2 (wr.drew.heap.size) (LL) bb 0 (ys 7) W1 := hv7
              rw [hv] at e64
              have HV := Lib.hid hent
              refine H3.step_run (.inl rfl) ?_
              clear hX hd hI hent hv
              go_simp
              exact hK _ _ HI.out (Below.refl _ _) (GV.ofsp (by decide) (show AZ2 _ _ _ _ 8 _ W1 from HV.out))
            · intro listed ys X W1 hsz hsd hi2 hall hX hI hd K hK
              have e64 : X.tmps.getD 64 undef = ys 7 := hX 64 (Nat.le_of_ble_eq_true rfl)
              have hv7 := GV.spv (hd ⟨7, .data⟩ (by simp) rfl) (by decide)
              have HI := Lib.hid hI
              obtain ⟨u, hv, hent⟩ : AT2 (wr.drew.heap.size) (LL) bb 0 (ys 7) W1 := hv7
              rw [hv] at e64
              have HV := Lib.hid hent
              refine H3.step_run (.inl rfl) ?_
              clear hX hd hI hent hv
              go_simp
              exact hK _ _ HI.out (Below.refl _ _) (GV.of (by decide) (fun u h => by cases h; rfl))
            · intro listed ys X W1 hsz hsd hi2 hall hX hI hd K hK
              have e64 : X.tmps.getD 64 undef = ys 7 := hX 64 (Nat.le_of_ble_eq_true rfl)
              have hv7 := GV.spv (hd ⟨7, .data⟩ (by simp) rfl) (by decide)
              have HI := Lib.hid hI
              obtain ⟨u, hv, hent⟩ : AT2 (wr.drew.heap.size) (LL) bb 0 (ys 7) W1 := hv7
              rw [hv] at e64
              have HV := Lib.hid hent
              refine H3.step_run (.inl rfl) ?_
              clear hX hd hI hent hv
              go_simp
              exact hK _ _ HI.out (Below.refl _ _) (GV.of (by decide) (fun u h => by cases h; rfl))
            · intro listed ys X W1 hsz hsd hi2 hall hX hI hd K hK
              have e72 : X.tmps.getD 72 undef = ys 8 := hX 72 (Nat.le_of_ble_eq_true rfl)
              have hv8 := GV.spv (hd ⟨8, .data⟩ (by simp) rfl) (by decide)
              have HI := Lib.hid hI
              have HV := Lib.hid hv8
              refine H3.step_run (.inl rfl) ?_
              clear hX hd hI hv8
              go_simp
              exact hK _ _ HI.out (Below.refl _ _) (GV.ofsp (by decide) (show AZ2 _ _ _ _ 11 _ W1 from HV.out))
            · intro listed ys X W1 hsz hsd hi2 hall hX hI hd K hK
              have e73 : X.tmps.getD 73 undef = .bool bb := (hX 73 (Nat.le_of_ble_eq_true rfl)).trans (GV.val (hd ⟨9, .data⟩ (by simp) rfl) (by decide) rfl)
              have HI := Lib.hid hI
              refine H3.step_run (.inl rfl) ?_
              clear hX hd hI
              go_simp
              exact hK _ _ HI.out (Below.refl _ _) (GV.of (by decide) (fun u h => by cases h; rfl))
            · intro listed ys X W1 hsz hsd hi2 hall hX hI hd K hK
              have e74 : X.tmps.getD 74 undef = .int .i64 0 := (hX 74 (Nat.le_of_ble_eq_true rfl)).trans (GV.val (hd ⟨10, .data⟩ (by simp) rfl) (by decide) rfl)
              have HI := Lib.hid hI
              refine H3.step_run (.inl rfl) ?_
              clear hX hd hI
              go_simp
              exact hK _ _ HI.out (Below.refl _ _) (GV.of (by decide) (fun u h => by cases h; rfl))
          case fin =>
            intro listed ys w11 hall hI hV
            have hent : EntsAt (fun b => wr.heap.size ≤ b) (fun b => wr.heap.size ≤ b) w11 (ys 11) LL := GV.spv (hV 11 (by decide) rfl) (by decide)
            have e12 : ys 12 = .bool bb := GV.val (hV 12 (by decide) rfl) (by decide) rfl
            have e13 : ys 13 = .int .i64 0 := GV.val (hV 13 (by decide) rfl) (by decide) rfl
            obtain ⟨lv, hlv⟩ : ∃ v, ys 11 = v := ⟨_, rfl⟩
            rw [hlv] at hent
            have hb11 : Below wr.heap.size wr w11 := below_mid (lay_below ((Keep.refl (fun _ => False) wr).drew)) hI
            obtain ⟨la, lc, rfl, _⟩ := id hent
            obtain ⟨R2, hR2, hrl2, hsrc⟩ := src_of_ents hent
            have hlen : LL.length = min n.toNat (S.length - p) := by rw [HLL.out, List.length_take, List.length_drop]
            have hln : ¬ (n < (LL.length : Int)) := by have := HN1.out; omega
            have HSRC := Lib.hid (hsrc w11 (Below.refl _ _))
            have HB11 := Lib.hid hb11
            have HENT := Lib.hid hent
            have HR2 := Lib.hid hR2
            have HRL2 := Lib.hid hrl2
            have HKM11 := Lib.hid (HKM.out.below hb11)
            have HML11 := Lib.hid (HML.out.below1 hb11)
            have hps : p + LL.length ≤ 60 := by have := HS60.out; omega
            have hwM : M < wr.heap.size := HKM.out.lt
            have HWM := Lib.hid hwM
            have HLEN := Lib.hid hlen
            clear hent hI hV hall hb11 hR2 hrl2 hsrc hlen hwM HKF HMF HASK
            simp only [H3.putsFrom]
            simp only [hlv, e12, e13, Act.put, List.setIfInBounds_toArray, List.set_cons_succ, List.set_cons_zero]
            clear hlv e12 e13
            have HAPP : Hid (R.length = p) := Lib.hid (by
              have h1 := congrArg List.length HRR.out
              rw [List.length_map, List.length_take] at h1
              omega)
            cases hbc : bb with
            | true =>
              go_wp2_with (at_builtin; refine wpList_append_rk E24 _ rfl _ _ 22 rfl (G := fun b => M < b) rfl (HRK.out.below1 HB11.out) ?c1 (.slice la LL.length lc) LL.length (flatR R2) rfl HSRC.out ?c3 ?c4 ?_)
              case c1 =>
                intro k hk
                have h1 := HB11.out.size
                have h2 := HWM.out
                omega
              case c3 => omega
              case c4 => omega
              intro v' w12 hrk12 hk12
              have hs11 := HB11.out.size
              have hat : ∀ b, At u13 b → M < b ∧ b < wr.heap.size := fun b hb => HRK.out.at hb
              have hbe : Below M w11 w12 := hk12.below13 (fun b hb => Nat.le_of_lt (hat b hb).1) (by have := HWM.out; omega)
              have hb812 : Below M w8 w12 := (HBR.out.trans (HB11.out.mono (Nat.le_of_lt HWM.out))).trans hbe
              have hatv : ∀ b, At v' b → At u13 b ∨ w11.heap.size ≤ b := fun b hb => (hrk12.at hb).1.2
              have hraw1 : RawL (fun b => M < b ∧ ¬ At v' b) w12 R := fun x hx =>
                ((((HRL.out x hx).mono (H := fun b => M < b ∧ ¬ At u13 b ∧ b < wr.heap.size) fun b hb hlt => ⟨hb.1, hb.2, hlt⟩).below1 HB11.out).keep hk12 fun b hb _ => hb.2.1).mono fun b hb _ => ⟨hb.1, fun ha => (hatv b ha).elim hb.2.1 fun hge => by have := hb.2.2; omega⟩
              have hraw2 : RawL (fun b => M < b ∧ ¬ At v' b) w12 R2 := fun x hx =>
                (((HRL2.out x hx).mono (H := fun b => wr.heap.size ≤ b ∧ b < w11.heap.size) fun b hb hlt => ⟨hb, hlt⟩).keep hk12 fun b hb _ ha => by have := (hat b ha).2; omega).mono fun b hb _ => ⟨Nat.lt_of_lt_of_le HWM.out hb.1, fun ha => (hatv b ha).elim (fun ha => by have := (hat b ha).2; omega) fun hge => by omega⟩
              have hraw : RawL (fun b => M < b ∧ ¬ At v' b) w12 (R ++ R2) := fun z hz => (List.mem_append.1 hz).elim (hraw1 z) (hraw2 z)
              have hrkE : Rk 3 (fun b => M < b) w12 v' (p + LL.length) (flatR (R ++ R2)) := by
                rw [flatR_append]
                exact hrk12.mono fun k hk _ => hk.1
              have hmapE : (R ++ R2).map Prod.snd = S.take p ++ LL := by rw [List.map_append, HRR.out, HR2.out]
              obtain ⟨va, vc, rfl⟩ := hrk12.shape
              have hbt : (S.drop p).length ≤ n.toNat := of_decide_eq_true (HBB.out.symm.trans hbc)
              have hSS : S.take p ++ LL = S := by rw [HLL.out, List.take_of_length_le hbt, List.take_append_drop]
              have hents := hrkE.ents hraw
              rw [hmapE, hSS] at hents
              have hb88 : Below w8.heap.size w8 w12 := by rw [← HM.out]; exact hb812
              have HALL := Lib.hid (all_any hents (HEN1.out.below1 hb88))
              have HBE := Lib.hid (below_mid HB6.out (below_mid HB68.out hb88))
              clear hrk12 hk12 hbe hb812 hatv hraw1 hraw2 hraw hrkE hmapE hbt hSS hents hb88 hat
              go_wp2_with (go_at_call 13; refine HALL.out.mono ?_; rintro x w13 ⟨rfl, hl13⟩)
              go_ret
              exact ⟨rfl, below_mid HBE.out (lay_below hl13)⟩
            | false =>
              have hbf : ¬ (S.drop p).length ≤ n.toNat := of_decide_eq_false (HBB.out.symm.trans hbc)
              rw [List.length_drop] at hbf
              have hLn : LL.length = n.toNat := by rw [HLEN.out]; omega
              have hne : ((LL.length : Int) != n) = false := by
                have h1 : (LL.length : Int) = n := by have := HN1.out; omega
                simp [h1]
              have HLNN := Lib.hid hLn
              have HBF := Lib.hid hbf
              clear hLn hbf
              go_wp2_with (at_builtin; refine wpList_append_rk E24 _ rfl _ _ 22 rfl (G := fun b => M < b) rfl (HRK.out.below1 HB11.out) ?c1 (.slice la LL.length lc) LL.length (flatR R2) rfl HSRC.out ?c3 ?c4 ?_)
              case c1 =>
                intro k hk
                have h1 := HB11.out.size
                have h2 := HWM.out
                omega
              case c3 => omega
              case c4 => omega
              intro v' w12 hrk12 hk12
              have hs11 := HB11.out.size
              have hat : ∀ b, At u13 b → M < b ∧ b < wr.heap.size := fun b hb => HRK.out.at hb
              have hbe : Below M w11 w12 := hk12.below13 (fun b hb => Nat.le_of_lt (hat b hb).1) (by have := HWM.out; omega)
              have hb812 : Below M w8 w12 := (HBR.out.trans (HB11.out.mono (Nat.le_of_lt HWM.out))).trans hbe
              have hatv : ∀ b, At v' b → At u13 b ∨ w11.heap.size ≤ b := fun b hb => (hrk12.at hb).1.2
              have hraw1 : RawL (fun b => M < b ∧ ¬ At v' b) w12 R := fun x hx =>
                ((((HRL.out x hx).mono (H := fun b => M < b ∧ ¬ At u13 b ∧ b < wr.heap.size) fun b hb hlt => ⟨hb.1, hb.2, hlt⟩).below1 HB11.out).keep hk12 fun b hb _ => hb.2.1).mono fun b hb _ => ⟨hb.1, fun ha => (hatv b ha).elim hb.2.1 fun hge => by have := hb.2.2; omega⟩
              have hraw2 : RawL (fun b => M < b ∧ ¬ At v' b) w12 R2 := fun x hx =>
                (((HRL2.out x hx).mono (H := fun b => wr.heap.size ≤ b ∧ b < w11.heap.size) fun b hb hlt => ⟨hb, hlt⟩).keep hk12 fun b hb _ ha => by have := (hat b ha).2; omega).mono fun b hb _ => ⟨Nat.lt_of_lt_of_le HWM.out hb.1, fun ha => (hatv b ha).elim (fun ha => by have := (hat b ha).2; omega) fun hge => by omega⟩
              have hraw : RawL (fun b => M < b ∧ ¬ At v' b) w12 (R ++ R2) := fun z hz => (List.mem_append.1 hz).elim (hraw1 z) (hraw2 z)
              have hrkE : Rk 3 (fun b => M < b) w12 v' (p + LL.length) (flatR (R ++ R2)) := by
                rw [flatR_append]
                exact hrk12.mono fun k hk _ => hk.1
              have hmapE : (R ++ R2).map Prod.snd = S.take p ++ LL := by rw [List.map_append, HRR.out, HR2.out]
              obtain ⟨va, vc, rfl⟩ := hrk12.shape
              have hLn := HLNN.out
              have hbf := HBF.out
              obtain ⟨q, hq⟩ : ∃ q, LL.length = q + 1 := ⟨LL.length - 1, by have := HN1.out; omega⟩
              have hent12 : EntsAt (fun b => wr.heap.size ≤ b) (fun b => wr.heap.size ≤ b) w12 (.slice la LL.length lc) LL := HENT.out.keep hk12 fun b hb _ ha => by have := (hat b ha).2; rcases hb with hb | hb <;> omega
              obtain ⟨g, og, lv, rfl, hgl, x0, x1, x2, x3⟩ := ents_at13 hent12 q (by omega)
              have hpq : p + q < S.length := by omega
              have hget : LL[q]'(by omega) = S[p + q] := by simp only [HLL.out, List.getElem_take, List.getElem_drop]
              have hrs := Md.rest_at (ordC_lc desc) HSO.out.1 (p + q) hpq
              rw [← hget] at hrs
              generalize LL[q]'(by omega) = e at x0 x1 x2 x3 hrs hget
              obtain ⟨al, cl, rfl, _⟩ := id x3
              have hMu : ¬ At u13 M := fun ha => Nat.lt_irrefl _ (hat M ha).1
              have hkm12 : Bl w12 M 31 #[.bool hs, .int .i64 m.tm, .slice ma m.labs.length mc, .string m.line] := (hk12.block M HKM11.out.lt hMu).trans HKM11.out
              have d0 := hkm12.cell 0
              have d1 := hkm12.cell 1
              have d2 := hkm12.cell 2
              have d3 := hkm12.cell 3
              have f0 := hkm12.frozen 0
              have f1 := hkm12.frozen 1
              have f2 := hkm12.frozen 2
              have f3 := hkm12.frozen 3
              simp only [List.getElem?_toArray, List.getElem?_cons_succ, List.getElem?_cons_zero] at d0 d1 d2 d3
              obtain ⟨w13, hw13⟩ : ∃ w13, w13 = (((w12.setCell ⟨M, 0, none⟩ (.bool true)).setCell ⟨M, 1, none⟩ (.int .i64 e.tm)).setCell ⟨M, 2, none⟩ (.slice al e.labs.length cl)).setCell ⟨M, 3, none⟩ (.string e.line) := ⟨_, rfl⟩
              have hk13 : Keep (fun b => b = M) w12 w13 := by rw [hw13]; exact keep_set15 (keep_set15 (keep_set15 (keep_set15 (Keep.refl _ _) _ _) _ _) _ _) _ _
              have hkm13 : Bl w13 M 31 #[.bool true, .int .i64 e.tm, .slice al e.labs.length cl, .string e.line] := by
                rw [hw13]
                simpa only [List.setIfInBounds_toArray, List.set_cons_succ, List.set_cons_zero] using (((hkm12.set12 0 (.bool true)).set12 1 (.int .i64 e.tm)).set12 2 (.slice al e.labs.length cl)).set12 3 (.string e.line)
              have HKM13 := Lib.hid hkm13
              have HRK13 := Lib.hid (hrkE.keep hk13 fun b hb _ _ h => by omega)
              have HRAW13 : Hid (RawL (fun b => M < b ∧ ¬ At (.slice va (p + LL.length) vc) b) w13 (R ++ R2)) := Lib.hid (hraw.keep hk13 fun b hb _ h => by omega)
              have HLAB13 : Hid (LabsAt (fun _ => True) w13 (.slice al e.labs.length cl) e.labs) := Lib.hid ((x3.keep hk13 fun b hb _ h => by have := HWM.out; omega).mono fun _ _ _ => trivial)
              have HB13 : Hid (Below M w8 w13) := Lib.hid (hb812.trans (hk13.below13 (fun b hb => by omega) (by have := hkm12.lt; omega)))
              have HMAP : Hid ((R ++ R2).map Prod.snd = S.take (p + LL.length)) := Lib.hid (by rw [hmapE, List.take_add, hLn, ← HLL.out])
              have HREST : Hid (Md.rest (ordC desc) (mkO true e) S = S.drop (p + LL.length)) := Lib.hid (by rw [hq]; exact hrs)
              have HW13 := Lib.hid hw13.symm
              have hple : p + LL.length ≤ S.length := by omega
              clear hrk12 hbe hb812 hatv hraw1 hraw2 hraw hrkE hmapE hent12 x3 hget hrs hMu hkm12 hw13 hk13 hkm13 hat hLn hbf
              go_wp2_with fail
              rw [HW13.out]
              go_roundw
              case rel => exact ⟨k + 1, p + LL.length, R ++ R2, true, e, .slice al e.labs.length cl, by go_num, by omega, by omega, HRK13.out, HRAW13.out, HMAP.out, HREST.out, HLAB13.out, HKM13.out, HB13.out⟩
              case measure => simp [intOf]; omega
    · have k1 : (a.kd != 3) = true := by simp [hk]
      clear hk
      go_wp2_with fail
      refine bodyPost_ret (v := .bool true) (by simp [results, Tryz.results4, go_sem]) rfl ⟨rfl, HB4.out⟩

end Go.Proofs.YtdjddlebjbngfaaGreatDoor.E4
