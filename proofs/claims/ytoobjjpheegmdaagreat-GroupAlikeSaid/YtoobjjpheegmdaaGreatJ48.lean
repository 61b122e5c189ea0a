/-
  Ca16.
-/
import Derived.Test.YtoobjjpheegmdaaGreatJ41
import Derived.Test.YtoobjjpheegmdaaGreatJ44
import Derived.Test.YtoobjjpheegmdaaGreatJ10
namespace Go.Proofs.YtoobjjpheegmdaaGreat.E4
open Go.RowKit Go
structure Cl where
  kd : Int
  i : Int
  e : Ent
  a : Ask
  has : Bool
  m : Ent
  n : Int
def Cl.cells (c : Cl) (lv av mv ml : Value) : List Value := [.int .i64 c.kd, .int .i64 c.i, .int .i64 c.e.tm, lv, .string c.e.line, .int .i64 c.a.kd, .int .i64 c.a.src, .int .i64 c.a.til, av, mv, .bool c.has, .int .i64 c.m.tm, ml, .string c.m.line, .int .i64 c.n]
structure ClC (w : World) (b o : Nat) (c : Cl) (lv av mv ml : Value) : Prop where
  x : ∀ j (h : j < (c.cells lv av mv ml).length), w.cell? ⟨b, o + j, none⟩ = some (c.cells lv av mv ml)[j]
  hl : LabsAt (fun _ => True) w lv c.e.labs
  ha : TextsAt w av c.a.all
  hb : MsAt w mv c.a.mat
  hm : LabsAt (fun _ => True) w ml c.m.labs
theorem ClC.below {w w' : World} {b o : Nat} {c : Cl} {lv av mv ml : Value} (h : ClC w b o c lv av mv ml) (hlt : b < w.heap.size) (hb : Below w.heap.size w w') : ClC w' b o c lv av mv ml :=
  ⟨fun j hj => (World.cell?_of_block (a := ⟨b, o + j, none⟩) (hb.block b hlt)).trans (h.x j hj), h.hl.below1 hb, h.ha.below hb, MsAt.below12 h.hb hb, h.hm.below1 hb⟩
def CallsAt (w : World) (v : Value) (S : List Cl) : Prop :=
  ∃ a c, v = .slice a S.length c ∧ S.length ≤ 9223372036854775807 ∧ (S = [] ∨ ∃ b off, a = some ⟨b, off, none⟩ ∧ b < w.heap.size ∧ ∀ i (h : i < S.length), ∃ lv av mv ml, ClC w b (off + i * 15) S[i] lv av mv ml)
theorem CallsAt.below {w w' : World} {v : Value} {S : List Cl} (h : CallsAt w v S) (hb : Below w.heap.size w w') : CallsAt w' v S := by
  obtain ⟨a, c, hv, hl, h | ⟨b, off, ha, hlt, hc⟩⟩ := h
  · exact ⟨a, c, hv, hl, .inl h⟩
  · refine ⟨a, c, hv, hl, .inr ⟨b, off, ha, Nat.lt_of_lt_of_le hlt hb.size, fun i hi => ?_⟩⟩
    obtain ⟨lv, av, mv, ml, h⟩ := hc i hi
    exact ⟨lv, av, mv, ml, h.below hlt hb⟩
section
variable {H : Type} {enc : TypeId × Value → H}
theorem trod_struct6 {P : Program} {w : World} {base : Nat} {spare : Nat → Bool} {held : Bool} {t : TypeId} {f0 f1 f2 f3 f4 f5 : Field} {fuel : Nat} {cs : List Value} {x : DataW H × List MemPlace} (ht : P.underlying t = some (.struct #[f0, f1, f2, f3, f4, f5])) (h : DataW.trod enc P w base spare held fuel t cs = some x) :
    ∃ y0 y1 y2 y3 y4 y5 n, DataW.trod enc P w base spare held n f0.type ((cs.drop f0.offset).take (P.cellsOf f0.type)) = some y0 ∧
      DataW.trod enc P w base spare held n f1.type ((cs.drop f1.offset).take (P.cellsOf f1.type)) = some y1 ∧ DataW.trod enc P w base spare held n f2.type ((cs.drop f2.offset).take (P.cellsOf f2.type)) = some y2 ∧
      DataW.trod enc P w base spare held n f3.type ((cs.drop f3.offset).take (P.cellsOf f3.type)) = some y3 ∧ DataW.trod enc P w base spare held n f4.type ((cs.drop f4.offset).take (P.cellsOf f4.type)) = some y4 ∧ DataW.trod enc P w base spare held n f5.type ((cs.drop f5.offset).take (P.cellsOf f5.type)) = some y5 := by
  obtain ⟨xs, n, _, rfl, hl, hlen, hf⟩ := DataW.trod_struct ht h
  match xs, hlen with
  | [y0, y1, y2, y3, y4, y5], _ => exact ⟨y0, y1, y2, y3, y4, y5, n, by simpa using hf 0 f0 rfl, by simpa using hf 1 f1 rfl, by simpa using hf 2 f2 rfl, by simpa using hf 3 f3 rfl, by simpa using hf 4 f4 rfl, by simpa using hf 5 f5 rfl⟩
theorem cellsCl : Tryz.prog.cellsOf 40 = 15 := by kernel_rfl
set_option maxRecDepth 100000 in
theorem call_open {w : World} {spare : Nat → Bool} {held : Bool} {fuel : Nat} {cs : List Value} (hl : cs.length = 15) {x : DataW H × List MemPlace}
    (ht : DataW.trod enc Tryz.prog w 0 spare held fuel 40 cs = some x) : ∃ (c : Cl) (lv av mv ml : Value), cs = c.cells lv av mv ml ∧ LabsAt (fun _ => True) w lv c.e.labs ∧ TextsAt w av c.a.all ∧ MsAt w mv c.a.mat ∧ LabsAt (fun _ => True) w ml c.m.labs := by
  obtain ⟨y0, y1, y2, y3, y4, y5, n, h0, h1, h2, h3, h4, h5⟩ := trod_struct6 Tryz.underlying40 ht
  match cs, hl with
  | [c0, c1, c2, c3, c4, c5, c6, c7, c8, c9, c10, c11, c12, c13, c14], _ =>
    have ei : Tryz.prog.cellsOf 3 = 1 := by kernel_rfl
    have ee : Tryz.prog.cellsOf 32 = 3 := by kernel_rfl
    have ea : Tryz.prog.cellsOf 36 = 5 := by kernel_rfl
    have em : Tryz.prog.cellsOf 38 = 4 := by kernel_rfl
    simp only [ei, ee, ea, em, List.drop_zero, List.drop_succ_cons, List.take_succ_cons, List.take_zero] at h0 h1 h2 h3 h4 h5
    obtain ⟨kd, e0, _, _⟩ := DataW.trod_int Tryz.underlying3 h0
    obtain ⟨ii, e1, _, _⟩ := DataW.trod_int Tryz.underlying3 h1
    obtain ⟨nn, e5, _, _⟩ := DataW.trod_int Tryz.underlying3 h5
    obtain ⟨e, lv, hcs, hlab, _⟩ := ent_open (cs := [c2, c3, c4]) rfl h2
    obtain ⟨a, av, mv, hav, ht1, hm1, _⟩ := ask_open13 (v := .agg #[c5, c6, c7, c8, c9]) ⟨_, rfl, ea.symm⟩ h3
    obtain ⟨has, m, ml, hmv, hml⟩ := mark_open (v := .agg #[c10, c11, c12, c13]) ⟨_, rfl, em.symm⟩ h4
    simp only [List.cons.injEq, and_true] at e0 e1 e5 hcs
    unfold Ask.cells at hav
    unfold mkV at hmv
    simp only [Value.agg.injEq, Array.mk.injEq, List.cons.injEq, and_true] at hav hmv
    subst e0 e1 e5
    obtain ⟨rfl, rfl, rfl⟩ := hcs
    obtain ⟨rfl, rfl, rfl, rfl, rfl⟩ := hav
    obtain ⟨rfl, rfl, rfl, rfl⟩ := hmv
    exact ⟨⟨kd, ii, e, a, has, m, nn⟩, _, _, _, _, rfl, hlab, ht1, hm1, hml⟩
theorem call_at {w : World} {a : Addr} {k fuel : Nat} {spare : Nat → Bool} {held : Bool} {cs : List Value} {x : DataW H × List MemPlace}
    (h : w.cells? 0 (a.add (k * 15)) 15 = some cs) (ht : DataW.trod enc Tryz.prog w 0 spare held fuel 40 cs = some x) :
    (a.add (k * 15)).spot = none ∧ (a.add (k * 15)).block < w.heap.size ∧ ∃ (c : Cl) (lv av mv ml : Value), (∀ j (hj : j < (c.cells lv av mv ml).length), w.cell? ((a.add (k * 15)).add j) = some (c.cells lv av mv ml)[j]) ∧ LabsAt (fun _ => True) w lv c.e.labs ∧ TextsAt w av c.a.all ∧ MsAt w mv c.a.mat ∧ LabsAt (fun _ => True) w ml c.m.labs := by
  obtain ⟨_, hl, hc⟩ := World.cells?_some h
  obtain ⟨c, lv, av, mv, ml, hcs, h1, h2, h3, h4⟩ := call_open hl ht
  subst hcs
  have hx : ∀ j (hj : j < (c.cells lv av mv ml).length), w.cell? ((a.add (k * 15)).add j) = some (c.cells lv av mv ml)[j] := fun j hj => by
    rw [hc j hj, List.getElem?_eq_getElem hj]
  have g0 := hx 0 (Nat.le_of_ble_eq_true rfl)
  have e : (a.add (k * 15)).add 0 = a.add (k * 15) := by simp [Addr.add]
  rw [e] at g0
  exact ⟨World.cell?_spot g0, World.block_lt_of_cell? w _ g0, c, lv, av, mv, ml, hx, h1, h2, h3, h4⟩
theorem calls_open {w : World} {spare : Nat → Bool} {held : Bool} {fuel : Nat} {v : Value} {x : DataW H × List MemPlace}
    (h : DataW.trod enc Tryz.prog w 0 spare held fuel 23 [v] = some x) : ∃ S, CallsAt w v S := by
  rcases Go.Deep.open_slice Tryz.underlying23 h with ⟨hcs, _⟩ | ⟨a, len, cap, m, n, D, Pl, hcs, _, hl, hcap, hm, _, hel⟩
  · simp only [List.cons.injEq, and_true] at hcs
    exact ⟨[], none, 0, hcs, by simp, .inl rfl⟩
  · simp only [List.cons.injEq, and_true] at hcs
    subst hcs
    have hlm : len ≤ m := by rw [hm]; split <;> omega
    rw [cellsCl] at hel
    have h63 : len ≤ 9223372036854775807 := by unfold maxLen at hcap; omega
    by_cases h0 : len = 0
    · subst h0
      exact ⟨[], some a, cap, rfl, by simp, .inl rfl⟩
    obtain ⟨cs0, hc0, ht0⟩ := hel 0 (by omega)
    obtain ⟨hsp, hblt, _⟩ := call_at hc0 ht0
    have ea : a.add (0 * 15) = a := by simp [Addr.add]
    rw [ea] at hsp hblt
    obtain ⟨b, off, spot⟩ := a
    simp only [] at hsp hblt
    subst hsp
    obtain ⟨ls, hlen, hits⟩ := list_of (⟨0, 0, ⟨0, [], ByteArray.empty⟩, ⟨0, 0, 0, [], []⟩, false, ⟨0, [], ByteArray.empty⟩, 0⟩ : Cl) (fun i y => ∃ lv av mv ml, ClC w b (off + i * 15) y lv av mv ml) len (fun i hi => by
        obtain ⟨cs, hc, ht⟩ := hel i (by omega)
        obtain ⟨_, _, c, lv, av, mv, ml, hx, h1, h2, h3, h4⟩ := call_at hc ht
        refine ⟨c, lv, av, mv, ml, fun j hj => ?_, h1, h2, h3, h4⟩
        have g := hx j hj
        rw [add_lit, add_lit] at g
        exact g)
    refine ⟨ls, _, cap, by rw [hlen], by omega, .inr ⟨b, off, rfl, hblt, fun i hi => ?_⟩⟩
    have := hits i (by omega)
    simp only [List.getD, List.getElem?_eq_getElem hi, Option.getD_some] at this
    exact this
end
def Cl.big (c : Cl) : Bool := c.e.big || c.a.great || c.m.big
def bigS (S : List Cl) (most : Nat) : Bool := decide (most < S.length) || S.any Cl.big
set_option maxHeartbeats 4000000 in
set_option maxRecDepth 100000 in
theorem lawGreat_any {w : World} {v : Value} {S : List Cl} (h : CallsAt w v S) (most : Nat) (hm : most ≤ 1000) :
    Calls Tryz.prog 7 #[v, .int .i64 most] w fun x w' => x = .returned (.bool (bigS S most)) ∧ Below w.heap.size w w' := by
  obtain ⟨a, c, rfl, h63, hce⟩ := h
  unfold bigS
  by_cases hlen : most < S.length
  · have hl : (most : Int) < (S.length : Int) := by omega
    rw [decide_eq_true hlen, Bool.true_or]
    have HB : Hid (Below w.heap.size w w) := Lib.hid (Below.refl _ _)
    clear hce hlen
    go_enter Tryz.func7, Tryz.ntmps7
    go_wp2_with fail
    go_ret
    exact ⟨rfl, HB.out⟩
  have hl : (S.length : Int) ≤ (most : Int) := by omega
  have hl1000 : S.length ≤ 1000 := by omega
  rw [decide_eq_false hlen, Bool.false_or]
  have HCE := Lib.hid hce
  clear hce
  go_enter Tryz.func7, Tryz.ntmps7
  go_wp2_with fail
  go_loopw [13] (fun vi wr => ∃ i : Nat, vi = .int .i64 i ∧ i ≤ S.length ∧ (S.take i).any Cl.big = false ∧ Below w.heap.size w wr) (fun vi _ => S.length - (intOf vi).toNat)
  case atStart => exact ⟨0, rfl, Nat.zero_le _, rfl, Below.refl _ _⟩
  case round =>
    obtain ⟨i, rfl, hi, hany, hb⟩ := hrel
    have HANY := Lib.hid hany
    have HB := Lib.hid hb
    clear hany
    by_cases hlt : i < S.length
    · obtain ⟨b, off, rfl, hblt, hx⟩ := HCE.out.resolve_left fun e => by rw [e] at hlt; exact absurd hlt (Nat.not_lt_zero _)
      obtain ⟨lv, av, mv, ml, hc⟩ := hx i hlt
      have hc2 := hc.below hblt hb
      have HAT := Lib.hid (any_take Cl.big S i hlt HANY.out)
      have HMEM : Hid (S[i] ∈ S) := Lib.hid (List.getElem_mem hlt)
      generalize S[i] = cl at hc hc2 HAT HMEM
      obtain ⟨la, lc, hlv, _⟩ := id hc2.hl
      obtain ⟨aa, ac, hav, _⟩ := id hc2.ha
      obtain ⟨ma, mc, hmv, _⟩ := id hc2.hb
      obtain ⟨ya, yc, hml, _⟩ := id hc2.hm
      subst hlv hav hmv hml
      have x0 := hc2.x 0 (Nat.le_of_ble_eq_true rfl)
      have x1 := hc2.x 1 (Nat.le_of_ble_eq_true rfl)
      have x2 := hc2.x 2 (Nat.le_of_ble_eq_true rfl)
      have x3 := hc2.x 3 (Nat.le_of_ble_eq_true rfl)
      have x4 := hc2.x 4 (Nat.le_of_ble_eq_true rfl)
      have x5 := hc2.x 5 (Nat.le_of_ble_eq_true rfl)
      have x6 := hc2.x 6 (Nat.le_of_ble_eq_true rfl)
      have x7 := hc2.x 7 (Nat.le_of_ble_eq_true rfl)
      have x8 := hc2.x 8 (Nat.le_of_ble_eq_true rfl)
      have x9 := hc2.x 9 (Nat.le_of_ble_eq_true rfl)
      have x10 := hc2.x 10 (Nat.le_of_ble_eq_true rfl)
      have x11 := hc2.x 11 (Nat.le_of_ble_eq_true rfl)
      have x12 := hc2.x 12 (Nat.le_of_ble_eq_true rfl)
      have x13 := hc2.x 13 (Nat.le_of_ble_eq_true rfl)
      have x14 := hc2.x 14 (Nat.le_of_ble_eq_true rfl)
      simp only [Cl.cells, List.getElem_cons_succ, List.getElem_cons_zero, Nat.add_zero] at x0 x1 x2 x3 x4 x5 x6 x7 x8 x9 x10 x11 x12 x13 x14
      obtain ⟨w5, hw5⟩ : ∃ w5, w5 = wr.alloc (.cells #[.int .i64 cl.kd, .int .i64 cl.i, .int .i64 cl.e.tm, .slice la cl.e.labs.length lc, .string cl.e.line, .int .i64 cl.a.kd, .int .i64 cl.a.src, .int .i64 cl.a.til, .slice aa cl.a.all.length ac, .slice ma cl.a.mat.length mc, .bool cl.has, .int .i64 cl.m.tm, .slice ya cl.m.labs.length yc, .string cl.m.line, .int .i64 cl.n] 40) := ⟨_, rfl⟩
      have hb5 : Below wr.heap.size wr w5 := by rw [hw5]; exact (Below.refl _ wr).alloc (Nat.le_refl _) _
      have hk5 : Bl w5 wr.heap.size 40 #[.int .i64 cl.kd, .int .i64 cl.i, .int .i64 cl.e.tm, .slice la cl.e.labs.length lc, .string cl.e.line, .int .i64 cl.a.kd, .int .i64 cl.a.src, .int .i64 cl.a.til, .slice aa cl.a.all.length ac, .slice ma cl.a.mat.length mc, .bool cl.has, .int .i64 cl.m.tm, .slice ya cl.m.labs.length yc, .string cl.m.line, .int .i64 cl.n] := by rw [hw5]; exact Bl.new wr 40 _
      have HW5 := Lib.hid hw5.symm
      have HB5 := Lib.hid hb5
      have HK5 := Lib.hid hk5
      have HC2 := Lib.hid hc2
      have u2 := hk5.cell 2
      have u3 := hk5.cell 3
      have u4 := hk5.cell 4
      simp only [List.getElem?_toArray, List.getElem?_cons_succ, List.getElem?_cons_zero] at u2 u3 u4
      have HG1 := Lib.hid (great_any (hc2.hl.below1 hb5))
      simp only [Ent.val] at HG1
      clear hw5 hb5 hk5 hc hc2 hb hx
      go_upto_region 6 with fail
      rw [HW5.out]
      clear x0 x1 x2 x3 x4 x5 x6 x7 x8 x9 x10 x11 x12 x13 x14
      cases h1 : cl.e.big with
      | true =>
        rw [h1] at HG1
        have HBG : Hid (S.any Cl.big = true) := Lib.hid (List.any_eq_true.2 ⟨cl, HMEM.out, by unfold Cl.big; rw [h1]; rfl⟩)
        clear h1
        go_wp2_with (go_at_call 22; refine HG1.out.mono ?_; rintro x w6 ⟨rfl, hl6⟩)
        go_ret
        exact ⟨by rw [HBG.out]; rfl, HB.out.trans ((below_mid HB5.out (lay_below hl6)).mono HB.out.size)⟩
      | false =>
        rw [h1] at HG1
        go_wp2_with fail
        refine HG1.out.mono ?_
        rintro x w6 ⟨rfl, hl6⟩
        have hb6 := lay_below hl6
        have hk6 := HK5.out.below hb6
        have u5 := hk6.cell 5
        have u6 := hk6.cell 6
        have u7 := hk6.cell 7
        have u8 := hk6.cell 8
        have u9 := hk6.cell 9
        simp only [List.getElem?_toArray, List.getElem?_cons_succ, List.getElem?_cons_zero] at u5 u6 u7 u8 u9
        have HG2 := Lib.hid (askGreat_any cl.a (.agg (cl.a.cells (.slice aa cl.a.all.length ac) (.slice ma cl.a.mat.length mc))) w6 ⟨_, _, rfl, HC2.out.ha.below (below_mid HB5.out hb6), MsAt.below12 HC2.out.hb (below_mid HB5.out hb6)⟩)
        unfold Ask.cells at HG2
        have HB6 := Lib.hid (below_mid HB5.out hb6)
        have HK6 := Lib.hid hk6
        have H1 := Lib.hid h1
        clear hl6 hb6 hk6 HG1 u2 u3 u4 h1
        cases h2 : cl.a.great with
        | true =>
          rw [h2] at HG2
          have HBG : Hid (S.any Cl.big = true) := Lib.hid (List.any_eq_true.2 ⟨cl, HMEM.out, by unfold Cl.big; rw [h2, Bool.or_true, Bool.true_or]⟩)
          clear h2
          go_wp2_with (go_at_call 23; refine HG2.out.mono ?_; rintro x w7 ⟨rfl, hb7⟩)
          go_ret
          exact ⟨by rw [HBG.out]; rfl, HB.out.trans ((below_mid HB6.out hb7).mono HB.out.size)⟩
        | false =>
          rw [h2] at HG2
          go_wp2_with fail
          refine HG2.out.mono ?_
          rintro x w7 ⟨rfl, hb7⟩
          have hk7 := HK6.out.below hb7
          have u11 := hk7.cell 11
          have u12 := hk7.cell 12
          have u13 := hk7.cell 13
          simp only [List.getElem?_toArray, List.getElem?_cons_succ, List.getElem?_cons_zero] at u11 u12 u13
          have HG3 := Lib.hid (great_any (HC2.out.hm.below1 (below_mid HB6.out hb7)))
          simp only [Ent.val] at HG3
          have HB7 := Lib.hid (below_mid HB6.out hb7)
          have H2 := Lib.hid h2
          clear hb7 hk7 HG2 u5 u6 u7 u8 u9 h2
          cases h3 : cl.m.big with
          | true =>
            rw [h3] at HG3
            have HBG : Hid (S.any Cl.big = true) := Lib.hid (List.any_eq_true.2 ⟨cl, HMEM.out, by unfold Cl.big; rw [h3, Bool.or_true]⟩)
            clear h3
            go_wp2_with (go_at_call 22; refine HG3.out.mono ?_; rintro x w8 ⟨rfl, hl8⟩)
            go_ret
            exact ⟨by rw [HBG.out]; rfl, HB.out.trans ((below_mid HB7.out (lay_below hl8)).mono HB.out.size)⟩
          | false =>
            rw [h3] at HG3
            have HNB : Hid (cl.big = false) := Lib.hid (by unfold Cl.big; rw [H1.out, H2.out, h3]; rfl)
            clear h3
            go_wp2_with (go_at_call 22; refine HG3.out.mono ?_; rintro x w8 ⟨rfl, hl8⟩)
            have HB8 := Lib.hid (below_mid HB7.out (lay_below hl8))
            clear hl8 u11 u12 u13
            go_wp2
            go_roundw
            case rel => exact ⟨i + 1, by go_num, by omega, HAT.out.trans HNB.out, HB.out.trans (HB8.out.mono HB.out.size)⟩
            case measure => simp [intOf]; omega
    · obtain rfl : i = S.length := by omega
      have HBG : Hid (S.any Cl.big = false) := Lib.hid (by rw [← HANY.out, List.take_length])
      clear hb
      go_wp2_with fail
      go_ret
      exact ⟨by rw [HBG.out]; rfl, HB.out⟩
end Go.Proofs.YtoobjjpheegmdaaGreat.E4
