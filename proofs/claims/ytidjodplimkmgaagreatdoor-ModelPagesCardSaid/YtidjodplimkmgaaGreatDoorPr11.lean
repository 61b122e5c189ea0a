/-
  model.Pages: THE ITERATOR OVER THE PAGES OF AN ANSWER, also of an empty one; what Pages makes.
-/
import Derived.Test.YtidjodplimkmgaaGreatDoorPq11
import Derived.Test.YtidjodplimkmgaaGreatDoorAw11
import Derived.Deep.RegionLaw
namespace Go.Proofs.YtidjodplimkmgaaGreatDoor.E4
open Go.RowKit Go Go.Shelf

attribute [local go_sem] Oper.semAt_some wide_fn wide_depth

theorem chunks_nil {α : Type} (n : Nat) : chunks n ([] : List α) = [[]] := by simp [chunks, Md.pages]

set_option maxHeartbeats 4000000 in
set_option maxRecDepth 100000 in
theorem pages_gives0 (C : Nat → Prop) (a : Option Addr) (c lim BL BR : Nat) (w : World) (hBL : Box w BL 3 (.int .i64 (lim : Nat))) (hBR : Box w BR 33 (.slice a 0 c)) (hCL : C BL) (hCR : C BR) (hlim : 1 ≤ lim) :
    Gives Tryz.prog 18 #[.pointer (some ⟨BL, 0, none⟩), .pointer (some ⟨BR, 0, none⟩)] C encP (chunks lim []) w := by
  intro l J Jx G W hW hCG hJ hJx hY h0J hlive
  have hmx : Tryz.prog.follows .mixedOrders = true := by kernel_rfl
  rw [chunks_nil] at hY ⊢
  have hBLW := hBL.keep hW (fun h => h hCL)
  have hBRW := hBR.keep hW (fun h => h hCR)
  obtain ⟨Wa, hWa⟩ : ∃ Wa, Wa = W.alloc (.cells #[.func (.yield l) #[] #[]] 60) := ⟨_, rfl⟩
  have hla : Lay W Wa := by rw [hWa]; exact (Keep.refl _ _).alloc _
  have hya : Box Wa W.heap.size 60 (.func (.yield l) #[] #[]) := by rw [hWa]; exact Box.new W 60 _
  obtain ⟨fn, tmps, assign, body, hyy, hR⟩ := hY [] [] G (fun _ => False) Wa #[.slice none 0 0] ⟨_, rfl, none, 0, rfl, .inl rfl⟩ (fun _ h => h.elim) (fun _ h => h.elim) (by simp) (hJ _ _ _ _ h0J hlive hla.keep) (fun k hk => Nat.lt_of_lt_of_le (hlive k hk) hla.size) 9
  have HR := Lib.hid hR
  have HLA := Lib.hid hla
  have x0 := hBLW.cell
  have x1 := hBRW.cell
  have hBLl := hBLW.lt
  have hBRl := hBRW.lt
  have l1 : ¬ (lim : Int) < 1 := by omega
  clear hBL hBR hBLW hBRW hla hya hR hY hJ hJx h0J
  subst hWa
  refine (callsIn_wide (n := 10)).1 ?_
  refine callsIn_of_wp Tryz.func18 rfl trivial ?_
  simp only [Tryz.ntmps18, List.size_toArray, List.length_cons, List.length_nil, Nat.reduceAdd, Nat.reduceSub, Array.replicate_succ, Array.replicate_zero, List.push_toArray, List.append_toArray, List.nil_append, List.cons_append]
  gi_wp2_with fail
  refine (round_any HR.out).mono ?_
  rintro e W2 (⟨rfl, hn⟩ | ⟨rfl, hn⟩)
  · have HN := Lib.hid (Next.from (H := G) (fun k hk => .inl (hk.elim id False.elim)) HLA.out.keep hn)
    clear hn hyy
    gi_wp2_with fail
    refine bodyPost_ret (results_none rfl _ _ _) rfl ?_
    exact ⟨⟨_, rfl⟩, .inl HN.out⟩
  · have HN := Lib.hid (Next.from (H := G) (fun k hk => .inl (hk.elim id False.elim)) HLA.out.keep hn)
    clear hn hyy
    gi_wp2_with fail
    refine bodyPost_ret (results_none rfl _ _ _) rfl ?_
    exact ⟨⟨_, rfl⟩, .inr ⟨[[]], List.prefix_rfl, HN.out⟩⟩

/-- What Pages hands back. -/
def PagesP (q : Qy) (rows : List (List Ent)) (w : World) (e : Ending) (w' : World) : Prop :=
  ∃ BL BR v out, e = .returned (.func (.func 18) #[] #[.pointer (some ⟨BL, 0, none⟩), .pointer (some ⟨BR, 0, none⟩)]) ∧ w.heap.size ≤ BL ∧ w.heap.size ≤ BR ∧ Box w' BL 3 (.int .i64 q.lim) ∧ Box w' BR 33 v ∧
    EntsAt (fun b => w.heap.size ≤ b) (fun _ => True) w' v out ∧ Sq v out.length ∧ Sorts (ordC q.desc) (kept q rows) out ∧ Below w.heap.size w w'

/-- A box's block is no block of entries, nor of labels: it has one cell. -/
theorem Box.next {W : World} {B : Nat} {t : TypeId} {x : Value} (h : Box W B t x) (j : Nat) : W.cell? ⟨B, j + 1, none⟩ = none := by
  simp [World.cell?, show W.heap[B]? = _ from h]
theorem LabsAt.box {G : Nat → Prop} {W : World} {v : Value} {ls : List Lab} (h : LabsAt G W v ls) {B : Nat} {t : TypeId} {x : Value} (hb : Box W B t x) : LabsAt (fun b => G b ∧ b ≠ B) W v ls := by
  obtain ⟨a, c, hv, hn, h | ⟨b, off, ha, hg, hlt, hc⟩⟩ := h
  · exact ⟨a, c, hv, hn, .inl h⟩
  · by_cases h0 : ls = []
    · exact ⟨a, c, hv, hn, .inl h0⟩
    · refine ⟨a, c, hv, hn, .inr ⟨b, off, ha, ⟨hg, fun e => ?_⟩, hlt, hc⟩⟩
      subst e
      have h1 := (hc 0 (List.length_pos_iff.2 h0)).2
      rw [hb.next (off + 0 * 2)] at h1
      cases h1
theorem EntsAt.box {G L : Nat → Prop} {W : World} {v : Value} {es : List Ent} (h : EntsAt G L W v es) {B : Nat} {t : TypeId} {x : Value} (hb : Box W B t x) : EntsAt (fun b => G b ∧ b ≠ B) (fun b => L b ∧ b ≠ B) W v es := by
  obtain ⟨a, c, hv, hn, h | ⟨b, off, ha, hg, hlt, hc⟩⟩ := h
  · exact ⟨a, c, hv, hn, .inl h⟩
  · by_cases h0 : es = []
    · exact ⟨a, c, hv, hn, .inl h0⟩
    · refine ⟨a, c, hv, hn, .inr ⟨b, off, ha, ⟨hg, fun e => ?_⟩, hlt, fun i hi => ?_⟩⟩
      · subst e
        obtain ⟨lv, _, h1, _⟩ := hc 0 (List.length_pos_iff.2 h0)
        rw [hb.next (off + 0 * 3)] at h1
        cases h1
      · obtain ⟨lv, h1, h2, h3, h4⟩ := hc i hi
        exact ⟨lv, h1, h2, h3, h4.box hb⟩
theorem EntsAt.put {G L : Nat → Prop} {W W' : World} {v : Value} {es : List Ent} (h : EntsAt G L W v es) {B : Nat} {t : TypeId} {x : Value} (hb : Box W B t x) (hk : Keep (fun k => k = B) W W') : EntsAt G L W' v es :=
  ((h.box hb).carry hk.size fun b hg hlt => hk.block b hlt (hg.elim (fun h => h.2) (fun h => h.2))).mono (fun _ h _ => h.1) (fun _ h _ => h.1)
theorem Box.same {W : World} {B : Nat} {t u : TypeId} {x y : Value} (h : Box W B t x) (k : Box W B u y) : t = u := by
  unfold Box at h k
  rw [h] at k
  simp only [Option.some.injEq, Obj.cells.injEq] at k
  exact k.2.1
theorem Box.below {W W' : World} {B : Nat} {t : TypeId} {x : Value} (h : Box W B t x) (hb : Below W.heap.size W W') : Box W' B t x := (hb.block B h.lt).trans h

/-- What the operations leave that make Pages' two boxes. -/
def GV1 (q : Qy) (qv rv : Value) (rows : List (List Ent)) (B s0 : Nat) : Nat → (Nat → Value) → World → Prop
  | 0, ys, _ => ys 0 = qv
  | 1, ys, _ => ys 1 = rv
  | 2, ys, W => ∃ out, EntsAt (fun b => s0 ≤ b) (fun _ => True) W (ys 2) out ∧ Sq (ys 2) out.length ∧ Sorts (ordC q.desc) (kept q rows) out
  | 3, ys, _ => ys 3 = .pointer (some ⟨B, 8, none⟩)
  | 4, ys, _ => ys 4 = .int .i64 q.lim
  | 5, ys, W => ∃ b, ys 5 = .pointer (some ⟨b, 0, none⟩) ∧ s0 ≤ b ∧ ∃ x, Box W b 33 x
  | 6, ys, W => ∃ b, ys 6 = .pointer (some ⟨b, 0, none⟩) ∧ s0 ≤ b ∧ ∃ x, Box W b 3 x
  | 7, ys, W => ∃ b, ys 5 = .pointer (some ⟨b, 0, none⟩) ∧ Box W b 33 (ys 2)
  | 8, ys, W => ∃ b, ys 6 = .pointer (some ⟨b, 0, none⟩) ∧ Box W b 3 (.int .i64 q.lim)
  | _, _, _ => True
def GR1 (s0 : Nat) : Nat → (Nat → Value) → World → World → Prop
  | 7, ys, W, W' => ∃ b x x', ys 5 = .pointer (some ⟨b, 0, none⟩) ∧ s0 ≤ b ∧ Box W b 33 x ∧ Box W' b 33 x' ∧ Keep (fun k => k = b) W W'
  | 8, ys, W, W' => ∃ b x x', ys 6 = .pointer (some ⟨b, 0, none⟩) ∧ s0 ≤ b ∧ Box W b 3 x ∧ Box W' b 3 x' ∧ Keep (fun k => k = b) W W'
  | _, _, W, W' => Below W.heap.size W W'

theorem set_box {W : World} {b : Nat} {t : TypeId} {x : Value} (_h : Box W b t x) (y : Value) : Keep (fun k => k = b) W (W.setCell ⟨b, 0, none⟩ y) := keep_setCell W b y rfl

set_option maxHeartbeats 8000000 in
set_option maxRecDepth 100000 in
theorem pages_any (q : Qy) (qv : Value) (rows : List (List Ent)) (rv : Value) (w : World) (hq : QAt w qv q) (hf : Fit q.fil) (hr : RowsAt w rv rows) (hfine : Fine rows) (hn : rows.flatten.length ≤ 1000) (hSh : w.ShapedOpen Tryz.prog) :
    Calls Tryz.prog 9 #[qv, rv] w (PagesP q rows w) := by
  have hmx : Tryz.prog.follows .mixedOrders = true := by kernel_rfl
  obtain ⟨mv, kv, rfl, hmm, hk⟩ := hq
  obtain ⟨am, cm, rfl, hm63, _⟩ := id hmm
  obtain ⟨ak, ck, rfl⟩ := hk.shape
  obtain ⟨ar, cr, rfl, hr63, _⟩ := id hr
  obtain ⟨W1, hW1⟩ : ∃ W1, W1 = w.alloc (.cells #[.int .i64 q.src, .int .i64 q.til, .slice am q.mat.length cm, .int .i64 q.fil.op, .string q.fil.name, .string q.fil.text, .slice ak q.fil.kids.length ck, .bool q.desc, .int .i64 q.lim, .string q.page] 31) := ⟨_, rfl⟩
  have hb1 : Below w.heap.size w W1 := by rw [hW1]; exact (Below.refl _ w).alloc (Nat.le_refl _) _
  have hq1 : CB W1 w.heap.size 31 #[.int .i64 q.src, .int .i64 q.til, .slice am q.mat.length cm, .int .i64 q.fil.op, .string q.fil.name, .string q.fil.text, .slice ak q.fil.kids.length ck, .bool q.desc, .int .i64 q.lim, .string q.page] := by rw [hW1]; exact CB.new w 31 _
  have HA : Hid (∀ W, Below W1.heap.size W1 W → Calls Tryz.prog 12 #[q.val (.slice am q.mat.length cm) (.slice ak q.fil.kids.length ck), .slice ar rows.length cr] W (AnsPost q rows W)) := Lib.hid fun W hW => by
    have hb := below_mid hb1 hW
    exact answer_any q _ rows _ W ⟨_, _, rfl, hmm.below9 hb, KsAt.below hb _ _ hk⟩ hf (hr.below1 hb) hfine hn (shaped_below hSh hb)
  have HB1 := Lib.hid hb1
  have HQ1 := Lib.hid hq1
  have HW1 := Lib.hid hW1.symm
  have HDR : Hid (Below W1.heap.size W1 W1.drew) := Lib.hid (lay_below ((Keep.refl (fun _ => False) W1).drew))
  have hqlt := hq1.lt
  clear hmm hk hr hf hfine hn hSh hq1 hb1 hW1
  simp only [Qy.val] at HA ⊢
  obtain ⟨qa, hqa⟩ : ∃ qa, qa = Value.agg #[.int .i64 q.src, .int .i64 q.til, .slice am q.mat.length cm, .int .i64 q.fil.op, .string q.fil.name, .string q.fil.text, .slice ak q.fil.kids.length ck, .bool q.desc, .int .i64 q.lim, .string q.page] := ⟨_, rfl⟩
  go_enter Tryz.func9, Tryz.ntmps9
  go_upto_region 1 with fail
  rw [HW1.out]
  refine (wpIn_wide (n := 9)).1 ?_
  refine YtidjodplimkmgaaGreatDoor.wpIn_region_flow (fun _ => trivial) (by kernel_rfl) (fun _ _ W => Below W1.heap.size W1 W) (GR1 W1.heap.size) (GV1 q (.agg #[.int .i64 q.src, .int .i64 q.til, .slice am q.mat.length cm, .int .i64 q.fil.op, .string q.fil.name, .string q.fil.text, .slice ak q.fil.kids.length ck, .bool q.desc, .int .i64 q.lim, .string q.page]) (.slice ar rows.length cr) rows w.heap.size W1.heap.size) (fun j => j == 5 || j == 6 || j == 2 || j == 7 || j == 8) (by kernel_rfl) (by kernel_rfl) ?hst HDR.out ?step ?fin
  case hst =>
    intro i j ys v W W' hij hanc hned hV hR
    have hcase : (∃ b x x', i = 7 ∧ ys 5 = .pointer (some ⟨b, 0, none⟩) ∧ W1.heap.size ≤ b ∧ Box W b 33 x ∧ Box W' b 33 x' ∧ Keep (fun k => k = b) W W') ∨ (∃ b x x', i = 8 ∧ ys 6 = .pointer (some ⟨b, 0, none⟩) ∧ W1.heap.size ≤ b ∧ Box W b 3 x ∧ Box W' b 3 x' ∧ Keep (fun k => k = b) W W') ∨ Below W.heap.size W W' := by
      unfold GR1 at hR
      split at hR
      · obtain ⟨b, x, x', h⟩ := hR; exact .inl ⟨b, x, x', rfl, h⟩
      · obtain ⟨b, x, x', h⟩ := hR; exact .inr (.inl ⟨b, x, x', rfl, h⟩)
      · exact .inr (.inr hR)
    match j, hV with
    | 0, hV => exact (YtidjodplimkmgaaGreatDoor.upd_other ys v (Ne.symm hij)).trans hV
    | 1, hV => exact (YtidjodplimkmgaaGreatDoor.upd_other ys v (Ne.symm hij)).trans hV
    | 2, hV =>
      obtain ⟨out, h1, h2, h3⟩ := hV
      have e : YtidjodplimkmgaaGreatDoor.upd ys i v 2 = ys 2 := YtidjodplimkmgaaGreatDoor.upd_other ys v (Ne.symm hij)
      refine ⟨out, ?_, by rw [e]; exact h2, h3⟩
      rw [e]
      rcases hcase with ⟨b, x, x', _, _, _, h4, _, h5⟩ | ⟨b, x, x', _, _, _, h4, _, h5⟩ | h
      · exact h1.put h4 h5
      · exact h1.put h4 h5
      · exact h1.below1 h
    | 3, hV => exact (YtidjodplimkmgaaGreatDoor.upd_other ys v (Ne.symm hij)).trans hV
    | 4, hV => exact (YtidjodplimkmgaaGreatDoor.upd_other ys v (Ne.symm hij)).trans hV
    | 5, hV =>
      obtain ⟨b, h1, h2, x, h3⟩ := hV
      refine ⟨b, (YtidjodplimkmgaaGreatDoor.upd_other ys v (Ne.symm hij)).trans h1, h2, ?_⟩
      rcases hcase with ⟨b', y, y', _, h6, _, h4, h7, h5⟩ | ⟨b', y, y', _, _, _, h4, _, h5⟩ | h
      · rw [h1] at h6
        simp only [Value.pointer.injEq, Option.some.injEq, Addr.mk.injEq, and_true] at h6
        subst h6
        exact ⟨y', h7⟩
      · exact ⟨x, h3.keep h5 fun e => by subst e; exact absurd (h3.same h4) (by decide)⟩
      · exact ⟨x, h3.below h⟩
    | 6, hV =>
      obtain ⟨b, h1, h2, x, h3⟩ := hV
      refine ⟨b, (YtidjodplimkmgaaGreatDoor.upd_other ys v (Ne.symm hij)).trans h1, h2, ?_⟩
      rcases hcase with ⟨b', y, y', _, _, _, h4, _, h5⟩ | ⟨b', y, y', _, h6, _, h4, h7, h5⟩ | h
      · exact ⟨x, h3.keep h5 fun e => by subst e; exact absurd (h3.same h4) (by decide)⟩
      · rw [h1] at h6
        simp only [Value.pointer.injEq, Option.some.injEq, Addr.mk.injEq, and_true] at h6
        subst h6
        exact ⟨y', h7⟩
      · exact ⟨x, h3.below h⟩
    | 7, hV =>
      obtain ⟨b, h1, h2⟩ := hV
      have i5 : i ≠ 5 := fun e => by subst e; cases hanc.symm.trans (by kernel_rfl : _ = true)
      have i2 : i ≠ 2 := fun e => by subst e; cases hanc.symm.trans (by kernel_rfl : _ = true)
      have e5 : YtidjodplimkmgaaGreatDoor.upd ys i v 5 = ys 5 := YtidjodplimkmgaaGreatDoor.upd_other ys v (Ne.symm i5)
      have e2 : YtidjodplimkmgaaGreatDoor.upd ys i v 2 = ys 2 := YtidjodplimkmgaaGreatDoor.upd_other ys v (Ne.symm i2)
      refine ⟨b, by rw [e5]; exact h1, ?_⟩
      rw [e2]
      rcases hcase with ⟨b', y, y', e, _⟩ | ⟨b', y, y', _, _, _, h4, _, h5⟩ | h
      · exact absurd e hij
      · exact h2.keep h5 fun e => by subst e; exact absurd (h2.same h4) (by decide)
      · exact h2.below h
    | 8, hV =>
      obtain ⟨b, h1, h2⟩ := hV
      have i6 : i ≠ 6 := fun e => by subst e; cases hanc.symm.trans (by kernel_rfl : _ = true)
      have e6 : YtidjodplimkmgaaGreatDoor.upd ys i v 6 = ys 6 := YtidjodplimkmgaaGreatDoor.upd_other ys v (Ne.symm i6)
      refine ⟨b, by rw [e6]; exact h1, ?_⟩
      rcases hcase with ⟨b', y, y', _, _, _, h4, _, h5⟩ | ⟨b', y, y', e, _⟩ | h
      · exact h2.keep h5 fun e => by subst e; exact absurd (h2.same h4) (by decide)
      · exact absurd e hij
      · exact h2.below h
    | _ + 9, hV => trivial
  case step =>
    refine ⟨?_, ?_, ?_, ?_, ?_, ?_, ?_, ?_, ?_, trivial⟩
    · intro listed ys X W hsz hsd hi2 hall hX hI hd K hK
      have e2 : X.tmps.getD 2 undef = .pointer (some ⟨w.heap.size, 0, none⟩) := hX 2 (Nat.le_of_ble_eq_true rfl)
      have hq := cb_below HQ1.out hI
      have c0 := hq.cell 0
      have c1 := hq.cell 1
      have c2 := hq.cell 2
      have c3 := hq.cell 3
      have c4 := hq.cell 4
      have c5 := hq.cell 5
      have c6 := hq.cell 6
      have c7 := hq.cell 7
      have c8 := hq.cell 8
      have c9 := hq.cell 9
      simp only [List.getElem?_toArray, List.getElem?_cons_succ, List.getElem?_cons_zero] at c0 c1 c2 c3 c4 c5 c6 c7 c8 c9
      refine YtidjodplimkmgaaGreatDoor.step_run (.inl rfl) ?_
      clear hX hd hq
      go_simp
      exact hK _ _ hI (Below.refl _ _) (YtidjodplimkmgaaGreatDoor.upd_same _ _ _)
    · intro listed ys X W hsz hsd hi2 hall hX hI hd K hK
      have e1 : X.tmps.getD 1 undef = .slice ar rows.length cr := hX 1 (Nat.le_of_ble_eq_true rfl)
      refine YtidjodplimkmgaaGreatDoor.step_run (.inl rfl) ?_
      clear hX hd
      go_simp
      exact hK _ _ hI (Below.refl _ _) (YtidjodplimkmgaaGreatDoor.upd_same _ _ _)
    · intro listed ys X W hsz hsd hi2 hall hX hI hd K hK
      have e7 : X.tmps.getD 7 undef = .agg #[.int .i64 q.src, .int .i64 q.til, .slice am q.mat.length cm, .int .i64 q.fil.op, .string q.fil.name, .string q.fil.text, .slice ak q.fil.kids.length ck, .bool q.desc, .int .i64 q.lim, .string q.page] := (hX 7 (Nat.le_of_ble_eq_true rfl)).trans (hd ⟨0, .data⟩ (by simp) rfl)
      have e8 : X.tmps.getD 8 undef = .slice ar rows.length cr := (hX 8 (Nat.le_of_ble_eq_true rfl)).trans (hd ⟨1, .data⟩ (by simp) rfl)
      refine YtidjodplimkmgaaGreatDoor.step_run (.inl rfl) ?_
      clear hX hd
      go_simp
      refine (callsIn_wide.2 (HA.out W hI)).mono ?_
      rintro e W4 ⟨v, out, rfl, h1, h2, h3, hb⟩
      exact hK _ _ (hI.trans (hb.mono hI.size)) hb ⟨out, by rw [YtidjodplimkmgaaGreatDoor.upd_same]; exact h1.mono (fun b hb' _ => Nat.le_trans hI.size hb') (fun _ _ _ => trivial), by rw [YtidjodplimkmgaaGreatDoor.upd_same]; exact h2, h3⟩
    · intro listed ys X W hsz hsd hi2 hall hX hI hd K hK
      have e2 : X.tmps.getD 2 undef = .pointer (some ⟨w.heap.size, 0, none⟩) := hX 2 (Nat.le_of_ble_eq_true rfl)
      refine YtidjodplimkmgaaGreatDoor.step_run (.inl rfl) ?_
      clear hX hd
      go_simp
      exact hK _ _ hI (Below.refl _ _) (YtidjodplimkmgaaGreatDoor.upd_same _ _ _)
    · intro listed ys X W hsz hsd hi2 hall hX hI hd K hK
      have e10 : X.tmps.getD 10 undef = .pointer (some ⟨w.heap.size, 8, none⟩) := (hX 10 (Nat.le_of_ble_eq_true rfl)).trans (hd ⟨3, .data⟩ (by simp) rfl)
      have hq := cb_below HQ1.out hI
      have c8 := hq.cell 8
      simp only [List.getElem?_toArray, List.getElem?_cons_succ, List.getElem?_cons_zero] at c8
      refine YtidjodplimkmgaaGreatDoor.step_run (.inl rfl) ?_
      clear hX hd hq
      go_simp
      exact hK _ _ hI (Below.refl _ _) (YtidjodplimkmgaaGreatDoor.upd_same _ _ _)
    · intro listed ys X W hsz hsd hi2 hall hX hI hd K hK
      refine YtidjodplimkmgaaGreatDoor.step_run (.inl rfl) ?_
      clear hX hd
      go_simp
      have hb : Below W.heap.size W (W.alloc (.cells #[.slice none 0 0] 33)) := (Below.refl _ W).alloc (Nat.le_refl _) _
      exact hK _ _ (hI.trans (hb.mono hI.size)) hb ⟨W.heap.size, YtidjodplimkmgaaGreatDoor.upd_same _ _ _, hI.size, _, Box.new W 33 (.slice none 0 0)⟩
    · intro listed ys X W hsz hsd hi2 hall hX hI hd K hK
      refine YtidjodplimkmgaaGreatDoor.step_run (.inl rfl) ?_
      clear hX hd
      go_simp
      have hb : Below W.heap.size W (W.alloc (.cells #[.int .i64 0] 3)) := (Below.refl _ W).alloc (Nat.le_refl _) _
      exact hK _ _ (hI.trans (hb.mono hI.size)) hb ⟨W.heap.size, YtidjodplimkmgaaGreatDoor.upd_same _ _ _, hI.size, _, Box.new W 3 (.int .i64 0)⟩
    · intro listed ys X W hsz hsd hi2 hall hX hI hd K hK
      obtain ⟨b, h1, h2, x, h3⟩ : GV1 q (.agg #[.int .i64 q.src, .int .i64 q.til, .slice am q.mat.length cm, .int .i64 q.fil.op, .string q.fil.name, .string q.fil.text, .slice ak q.fil.kids.length ck, .bool q.desc, .int .i64 q.lim, .string q.page]) (.slice ar rows.length cr) rows w.heap.size W1.heap.size 5 ys W := hd ⟨5, .data⟩ (by simp) rfl
      have e5 : X.tmps.getD 5 undef = .pointer (some ⟨b, 0, none⟩) := (hX 5 (Nat.le_of_ble_eq_true rfl)).trans h1
      have e9 : X.tmps.getD 9 undef = ys 2 := hX 9 (Nat.le_of_ble_eq_true rfl)
      obtain ⟨out, hen, hsq, _⟩ : GV1 q (.agg #[.int .i64 q.src, .int .i64 q.til, .slice am q.mat.length cm, .int .i64 q.fil.op, .string q.fil.name, .string q.fil.text, .slice ak q.fil.kids.length ck, .bool q.desc, .int .i64 q.lim, .string q.page]) (.slice ar rows.length cr) rows w.heap.size W1.heap.size 2 ys W := hd ⟨2, .data⟩ (by simp) rfl
      have hx := h3.cell
      have hf := h3.frozen
      obtain ⟨a9, k9, hv9⟩ : ∃ a k, ys 2 = .slice a out.length k := by
        rcases hsq with ⟨h4, h5⟩ | ⟨g, k, h4, _⟩
        · exact ⟨none, 0, by rw [h4, h5]⟩
        · exact ⟨_, k, h4⟩
      have HV9 := Lib.hid hv9
      rw [hv9] at e9
      refine YtidjodplimkmgaaGreatDoor.step_run (.inl rfl) ?_
      clear hX hd hv9 hen hsq
      go_simp
      have hks := set_box h3 (.slice a9 out.length k9)
      refine hK undef _ ?_ ⟨b, x, _, h1, h2, h3, h3.set _, hks⟩ ⟨b, (YtidjodplimkmgaaGreatDoor.upd_other ys _ (by decide)).trans h1, ?_⟩
      · exact ⟨hI.os, hI.tape, hI.output, Nat.le_trans hI.size hks.size, fun k hk => (hks.block k (Nat.lt_of_lt_of_le hk hI.size) (by omega)).trans (hI.block k hk)⟩
      · rw [YtidjodplimkmgaaGreatDoor.upd_other ys _ (by decide), HV9.out]
        exact h3.set _
    · intro listed ys X W hsz hsd hi2 hall hX hI hd K hK
      obtain ⟨b, h1, h2, x, h3⟩ : GV1 q (.agg #[.int .i64 q.src, .int .i64 q.til, .slice am q.mat.length cm, .int .i64 q.fil.op, .string q.fil.name, .string q.fil.text, .slice ak q.fil.kids.length ck, .bool q.desc, .int .i64 q.lim, .string q.page]) (.slice ar rows.length cr) rows w.heap.size W1.heap.size 6 ys W := hd ⟨6, .data⟩ (by simp) rfl
      have e6 : X.tmps.getD 6 undef = .pointer (some ⟨b, 0, none⟩) := (hX 6 (Nat.le_of_ble_eq_true rfl)).trans h1
      have e11 : X.tmps.getD 11 undef = .int .i64 q.lim := (hX 11 (Nat.le_of_ble_eq_true rfl)).trans (hd ⟨4, .data⟩ (by simp) rfl)
      have hx := h3.cell
      have hf := h3.frozen
      refine YtidjodplimkmgaaGreatDoor.step_run (.inl rfl) ?_
      clear hX hd
      go_simp
      have hks := set_box h3 (.int .i64 q.lim)
      refine hK undef _ ?_ ⟨b, x, _, h1, h2, h3, h3.set _, hks⟩ ⟨b, (YtidjodplimkmgaaGreatDoor.upd_other ys _ (by decide)).trans h1, h3.set _⟩
      exact ⟨hI.os, hI.tape, hI.output, Nat.le_trans hI.size hks.size, fun k hk => (hks.block k (Nat.lt_of_lt_of_le hk hI.size) (by omega)).trans (hI.block k hk)⟩
  case fin =>
    intro listed ys W hall hI hV
    obtain ⟨BR, h1, h2, x5, h3⟩ : GV1 q (.agg #[.int .i64 q.src, .int .i64 q.til, .slice am q.mat.length cm, .int .i64 q.fil.op, .string q.fil.name, .string q.fil.text, .slice ak q.fil.kids.length ck, .bool q.desc, .int .i64 q.lim, .string q.page]) (.slice ar rows.length cr) rows w.heap.size W1.heap.size 5 ys W := hV 5 (by decide) rfl
    obtain ⟨BL, h4, h5, x6, h6⟩ : GV1 q (.agg #[.int .i64 q.src, .int .i64 q.til, .slice am q.mat.length cm, .int .i64 q.fil.op, .string q.fil.name, .string q.fil.text, .slice ak q.fil.kids.length ck, .bool q.desc, .int .i64 q.lim, .string q.page]) (.slice ar rows.length cr) rows w.heap.size W1.heap.size 6 ys W := hV 6 (by decide) rfl
    obtain ⟨out, h7, h8, h9⟩ : GV1 q (.agg #[.int .i64 q.src, .int .i64 q.til, .slice am q.mat.length cm, .int .i64 q.fil.op, .string q.fil.name, .string q.fil.text, .slice ak q.fil.kids.length ck, .bool q.desc, .int .i64 q.lim, .string q.page]) (.slice ar rows.length cr) rows w.heap.size W1.heap.size 2 ys W := hV 2 (by decide) rfl
    obtain ⟨b7, h10, h11⟩ : GV1 q (.agg #[.int .i64 q.src, .int .i64 q.til, .slice am q.mat.length cm, .int .i64 q.fil.op, .string q.fil.name, .string q.fil.text, .slice ak q.fil.kids.length ck, .bool q.desc, .int .i64 q.lim, .string q.page]) (.slice ar rows.length cr) rows w.heap.size W1.heap.size 7 ys W := hV 7 (by decide) rfl
    obtain ⟨b8, h12, h13⟩ : GV1 q (.agg #[.int .i64 q.src, .int .i64 q.til, .slice am q.mat.length cm, .int .i64 q.fil.op, .string q.fil.name, .string q.fil.text, .slice ak q.fil.kids.length ck, .bool q.desc, .int .i64 q.lim, .string q.page]) (.slice ar rows.length cr) rows w.heap.size W1.heap.size 8 ys W := hV 8 (by decide) rfl
    have e7 : b7 = BR := by rw [h1] at h10; simpa using h10.symm
    have e8 : b8 = BL := by rw [h4] at h12; simpa using h12.symm
    subst e7 e8
    have HBW := Lib.hid (below_mid HB1.out hI)
    have HR := Lib.hid h11
    have HL := Lib.hid h13
    have HE := Lib.hid h7
    have HSQ := Lib.hid h8
    have HSO := Lib.hid h9
    have HS := Lib.hid HB1.out.size
    clear hI hV hall h3 h6 h7 h8 h9 h10 h11 h12 h13
    simp only [YtidjodplimkmgaaGreatDoor.putsFrom]
    simp only [h1, h4, Act.put, List.setIfInBounds_toArray, List.set_cons_succ, List.set_cons_zero]
    clear h1 h4
    go_wp2_with fail
    go_ret
    exact ⟨b8, b7, ys 2, out, rfl, Nat.le_trans HS.out h5, Nat.le_trans HS.out h2, HL.out, HR.out, HE.out.mono (fun b hb _ => Nat.le_trans HS.out hb) (fun _ _ _ => trivial), HSQ.out, HSO.out, HBW.out⟩

end Go.Proofs.YtidjodplimkmgaaGreatDoor.E4
