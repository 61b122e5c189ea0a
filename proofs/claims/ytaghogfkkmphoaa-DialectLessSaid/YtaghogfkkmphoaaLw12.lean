/-
  DialectLess.
-/
import Derived.Test.YtaghogfkkmphoaaMn12
import Derived.Test.YtaghogfkkmphoaaKw12
import Derived.Test.YtaghogfkkmphoaaBd12
import Derived.Test.YtaghogfkkmphoaaGv12
import Derived.Lib.QuietBelow
namespace Go.Proofs.Ytaghogfkkmphoaa.E4
open Go.RowKit Go
open Go.Sort (grow)
attribute [local irreducible] wpQuiet

theorem keep_below12 {G : Nat → Prop} {B : Nat} {w w' : World} (h : Keep G w w') (hG : ∀ k, G k → B ≤ k) (hB : B ≤ w.heap.size) : Below B w w' :=
  ⟨h.os, h.tape, h.output, h.size, fun k hk => h.block k (by omega) (fun hg => by have := hG k hg; omega)⟩
/-- append, as one operation inside a fence, by what it is known to run to. -/
theorem operIn_append12 {F : Fence} {nn : Nat} {P : Program} {o : Oper} {a : Act} {w w' : World} {K : Act → World → Prop} {Q : Exit → Act → World → Prop} {sv xv v' : Value} (s x : Operand) (t : TypeId)
    (ho : o.op = .call { callee := .builtin .append, args := #[s, x], argTypes := #[t, t] }) (hs : a.eval s = sv) (hx : a.eval x = xv) (hrun : (Builtin.append_ #[t, t] o.type #[sv, xv]).run P w = .ok v' w') (hK : K (a.put o.dst v') w') : o.wpIn F nn P a w K Q := by
  unfold Oper.wpIn
  refine ⟨?_, ?_⟩
  · simp [Oper.about, ho, resolve, Target.leads, Sem.run_pure]
  · rw [Oper.semAt_plain F _ _ (by rw [ho]; intro c hc'; cases hc')]
    simp [execOp, ho, resolve, invoke, builtin, hs, hx, hrun, Result.andThen]
    exact hK

/-- But for block C all is as it was. -/
def KC (C : Nat) (w0 W : World) : Prop := W.os = w0.os ∧ W.tape = w0.tape ∧ W.output = w0.output ∧ w0.heap.size ≤ W.heap.size ∧ ∀ k, k < w0.heap.size → k ≠ C → W.heap[k]? = w0.heap[k]?
theorem KC.below {C : Nat} {w0 W W' : World} (h : KC C w0 W) (hb : Below W.heap.size W W') : KC C w0 W' :=
  ⟨hb.os.trans h.1, hb.tape.trans h.2.1, hb.output.trans h.2.2.1, Nat.le_trans h.2.2.2.1 hb.size, fun k hk hne => (hb.block k (Nat.lt_of_lt_of_le hk h.2.2.2.1)).trans (h.2.2.2.2 k hk hne)⟩
theorem KC.keep {C : Nat} {w0 W W' : World} {G : Nat → Prop} (h : KC C w0 W) (hk : Keep G W W') (hG : ∀ k, G k → k = C ∨ w0.heap.size ≤ k) : KC C w0 W' :=
  ⟨hk.os.trans h.1, hk.tape.trans h.2.1, hk.output.trans h.2.2.1, Nat.le_trans h.2.2.2.1 hk.size, fun k hlt hne => (hk.block k (Nat.lt_of_lt_of_le hlt h.2.2.2.1) (fun hg => by rcases hG k hg with h | h; exact hne h; omega)).trans (h.2.2.2.2 k hlt hne)⟩
theorem KC.old {C : Nat} {w0 W : World} (h : KC C w0 W) (hC : C ≤ w0.heap.size) : Below C w0 W :=
  ⟨h.1, h.2.1, h.2.2.1, h.2.2.2.1, fun k hk => h.2.2.2.2 k (by omega) (by omega)⟩
def LI (C : Nat) (k0 k1 k2 k3 : Value) (w0 W : World) : Prop := KC C w0 W ∧ ∃ u, Bl W C 25 #[k0, k1, k2, k3, u]
theorem LI.below {C : Nat} {k0 k1 k2 k3 : Value} {w0 W W' : World} (h : LI C k0 k1 k2 k3 w0 W) (hb : Below W.heap.size W W') : LI C k0 k1 k2 k3 w0 W' := by
  obtain ⟨h1, u, h2⟩ := h
  exact ⟨h1.below hb, u, h2.below hb⟩
theorem LI.keep {C : Nat} {k0 k1 k2 k3 : Value} {w0 W W' : World} {G : Nat → Prop} (h : LI C k0 k1 k2 k3 w0 W) (hk : Keep G W W') (hG : ∀ k, G k → w0.heap.size ≤ k) (hC : C < w0.heap.size) : LI C k0 k1 k2 k3 w0 W' := by
  obtain ⟨h1, u, h2⟩ := h
  exact ⟨h1.keep hk fun k hg => .inr (hG k hg), u, (hk.block C h2.lt (fun hg => by have := hG C hg; omega)).trans h2⟩
def LV (C A : Nat) (k0 k1 k2 k3 mv : Value) (mats : List Mt) (m : Mt) (B0 : Nat) (j : Nat) (ys : Nat → Value) (w : World) : Prop :=
  match j with
  | 0 => Rk 3 (fun q => B0 ≤ q) w (ys 0) 0 [] ∧ ∃ b, ys 0 = .slice (some ⟨b, 0, none⟩) 0 0 ∧ B0 ≤ b ∧ Bl w b 50 #[]
  | 1 => ys 1 = .pointer (some ⟨A, 4, none⟩)
  | 2 => ys 2 = mv
  | 3 => Rk 3 (fun q => B0 ≤ q) w (ys 3) mats.length (flatM mats)
  | 4 => ys 4 = .agg #[.string m.name, .bool m.not, .string m.value]
  | 5 => ∃ b, ys 5 = .slice (some ⟨b, 0, none⟩) 1 1 ∧ B0 ≤ b ∧ Bl w b 50 #[.string m.name, .bool m.not, .string m.value]
  | 6 => Rk 3 (fun q => B0 ≤ q) w (ys 6) (mats.length + 1) (flatM (mats ++ [m]))
  | 7 => ys 7 = .pointer (some ⟨C, 4, none⟩)
  | 8 => Bl w C 25 #[k0, k1, k2, k3, ys 6] ∧ Rk 3 (fun q => B0 ≤ q) w (ys 6) (mats.length + 1) (flatM (mats ++ [m]))
  | _ => True
def LR (C B0 : Nat) (i : Nat) (ys : Nat → Value) (w w' : World) : Prop :=
  match i with
  | 3 => ∃ b, Bl w b 50 #[] ∧ Keep (fun k => k = b) w w'
  | 6 => Keep (At (ys 3)) w w' ∧ ∀ b, At (ys 3) b → B0 ≤ b
  | 8 => Keep (fun k => k = C) w w'
  | _ => Below w.heap.size w w'
theorem lv_keep {C A : Nat} {k0 k1 k2 k3 mv : Value} {mats : List Mt} {m : Mt} {B0 : Nat} {i j : Nat} {ys : Nat → Value} {v : Value} {W W' : World} (hij : i ≠ j)
    (h3 : i = 3 → (j = 0 ∨ j = 6 ∨ j = 8) → False) (h6 : i = 6 → (j = 0 ∨ j = 3 ∨ j = 5 ∨ j = 8) → False) (h8 : i = 8 → (j = 0 ∨ j = 3 ∨ j = 5 ∨ j = 6) → False) (h68 : j = 8 → i ≠ 6) (hj : j < 9) (hV : LV C A k0 k1 k2 k3 mv mats m B0 j ys W) (hR : LR C B0 i ys W W') : LV C A k0 k1 k2 k3 mv mats m B0 j (H3.upd ys i v) W' := by
  have hcase : (i = 3 ∧ ∃ b, Bl W b 50 #[] ∧ Keep (fun k => k = b) W W') ∨ i = 6 ∨ i = 8 ∨ Below W.heap.size W W' := by
    unfold LR at hR
    split at hR
    · exact .inl ⟨rfl, hR⟩
    · exact .inr (.inl rfl)
    · exact .inr (.inr (.inl rfl))
    · exact .inr (.inr (.inr hR))
  match j, hj, hV with
  | 0, _, hV =>
    rcases hcase with ⟨e, _⟩ | e | e | hb
    · exact (h3 e (.inl rfl)).elim
    · exact (h6 e (.inl rfl)).elim
    · exact (h8 e (.inl rfl)).elim
    obtain ⟨g1, b, g2, g3, g4⟩ := hV
    show Rk 3 (fun q => B0 ≤ q) W' (H3.upd ys i v 0) 0 [] ∧ _
    have eo : H3.upd ys i v 0 = ys 0 := H3.upd_other ys v (Ne.symm hij)
    rw [eo]
    exact ⟨g1.carry hb.size fun q _ _ hlt => hb.block q hlt, b, g2, g3, g4.below hb⟩
  | 1, _, hV => exact (H3.upd_other ys v (Ne.symm hij)).trans hV
  | 2, _, hV => exact (H3.upd_other ys v (Ne.symm hij)).trans hV
  | 3, _, hV =>
    rcases hcase with ⟨e, _⟩ | e | e | hb
    · exact absurd e hij
    · exact (h6 e (.inr (.inl rfl))).elim
    · exact (h8 e (.inr (.inl rfl))).elim
    show Rk 3 (fun q => B0 ≤ q) W' (H3.upd ys i v 3) _ _
    rw [H3.upd_other ys v (Ne.symm hij)]
    exact Rk.carry hV hb.size fun q _ _ hlt => hb.block q hlt
  | 4, _, hV => exact (H3.upd_other ys v (Ne.symm hij)).trans hV
  | 5, _, hV =>
    obtain ⟨b, g2, g3, g4⟩ := hV
    have eo : H3.upd ys i v 5 = ys 5 := H3.upd_other ys v (Ne.symm hij)
    refine ⟨b, eo.trans g2, g3, ?_⟩
    rcases hcase with ⟨e, b', q1, q2⟩ | e | e | hb
    · refine (q2.block b g4.lt (fun e => ?_)).trans g4
      subst e
      have := g4.symm.trans q1
      simp at this
    · exact (h6 e (.inr (.inr (.inl rfl)))).elim
    · exact (h8 e (.inr (.inr (.inl rfl)))).elim
    · exact g4.below hb
  | 6, _, hV =>
    rcases hcase with ⟨e, _⟩ | e | e | hb
    · exact (h3 e (.inr (.inl rfl))).elim
    · exact absurd e hij
    · exact (h8 e (.inr (.inr (.inr rfl)))).elim
    show Rk 3 (fun q => B0 ≤ q) W' (H3.upd ys i v 6) _ _
    rw [H3.upd_other ys v (Ne.symm hij)]
    exact Rk.carry hV hb.size fun q _ _ hlt => hb.block q hlt
  | 7, _, hV => exact (H3.upd_other ys v (Ne.symm hij)).trans hV
  | 8, _, hV =>
    rcases hcase with ⟨e, _⟩ | e | e | hb
    · exact (h3 e (.inr (.inr rfl))).elim
    · exact (h6 e (.inr (.inr (.inr rfl)))).elim
    · exact absurd e hij
    obtain ⟨g1, g2⟩ := hV
    have eo : H3.upd ys i v 6 = ys 6 := H3.upd_other ys v (Ne.symm (h68 rfl))
    show Bl W' C 25 #[k0, k1, k2, k3, H3.upd ys i v 6] ∧ Rk 3 (fun q => B0 ≤ q) W' (H3.upd ys i v 6) _ _
    rw [eo]
    exact ⟨g1.below hb, g2.carry hb.size fun q _ _ hlt => hb.block q hlt⟩
theorem src_bl12 {w : World} {b : Nat} {m : Mt} (h : Bl w b 50 #[.string m.name, .bool m.not, .string m.value]) : Src Try.prog 3 23 (.slice (some ⟨b, 0, none⟩) 1 1) 1 [.string m.name, .bool m.not, .string m.value] w := by
  refine Src.ofSlice _ Try.underlying23 ⟨b, 0, none⟩ 1 1 [.string m.name, .bool m.not, .string m.value] (by simp) (fun j u hu => ?_) (fun u hu => ?_)
  · have hc := h.cell j
    rw [List.getElem?_toArray, hu] at hc
    cases j with
    | zero => simpa [Addr.add] using hc
    | succ j => simpa [Addr.add] using hc
  · simp at hu
    rcases hu with h | h | h <;> subst h <;> rfl
theorem RowsV.snoc {w : World} {G : Nat → Prop} {rows : List (List ByteArray)} {xs : List Value} {l : List ByteArray} {v : Value} (h : RowsV w G rows xs) (hv : SG G w v l) : RowsV w G (rows ++ [l]) (xs ++ [v]) := by
  refine ⟨by rw [List.length_append, List.length_append, h.1]; rfl, fun i hi => ?_⟩
  rw [List.length_append, List.length_singleton] at hi
  by_cases hlt : i < rows.length
  · obtain ⟨u, hu, hs⟩ := h.2 i hlt
    refine ⟨u, by rw [List.getElem?_append_left (by rw [h.1]; exact hlt)]; exact hu, ?_⟩
    rw [List.getElem_append_left hlt]
    exact hs
  · obtain rfl : i = rows.length := by omega
    refine ⟨v, by rw [List.getElem?_append_right (by rw [h.1]; exact Nat.le_refl _), h.1]; simp, ?_⟩
    rw [List.getElem_append_right (Nat.le_refl _)]
    simp only [Nat.sub_self, List.getElem_singleton]
    exact hv
/-- With a row, a matcher more, or less time. -/
def Ask.more (a : Ask) (words : List ByteArray) (m : Mt) (less : Int) : Ask := ⟨a.kd, a.src + less, a.til, a.all ++ [words], a.mat ++ [m]⟩
theorem asks_more (a : Ask) (e : Ent) (words : List ByteArray) (m : Mt) (less : Int) (h0 : 0 ≤ less) (h : (a.more words m less).asks e = true) : a.asks e = true := by
  unfold Ask.asks Ask.more at h
  unfold Ask.asks
  simp only [Bool.and_eq_true, decide_eq_true_eq] at h ⊢
  obtain ⟨⟨h1, h2, h3⟩, h4⟩ := h
  refine ⟨⟨h1, by omega, h3⟩, ?_⟩
  by_cases k2 : a.kd = 2
  · rw [if_pos k2] at h4 ⊢
    rw [List.all_append, Bool.and_eq_true] at h4
    exact h4.1
  · rw [if_neg k2] at h4 ⊢
    by_cases k3 : a.kd = 3
    · rw [if_pos k3]
    · rw [if_neg k3] at h4 ⊢
      rw [List.all_append, Bool.and_eq_true] at h4
      exact h4.1

set_option maxHeartbeats 8000000 in
set_option maxRecDepth 100000 in
theorem less_walk (a : Ask) (av mv : Value) (e : Ent) (lv : Value) (ws : List ByteArray) (wv : Value) (m : Mt) (less : Int) (w : World) (h1 : TextsAt w av a.all) (h2 : MsAt w mv a.mat) (h3 : LabsAt (fun _ => True) w lv e.labs) (h4 : StrsAt w wv ws) (hlo : -9223372036854775808 ≤ a.src) (hl1 : -9223372036854775808 ≤ less) (hl2 : less ≤ 9223372036854775807) :
    Calls Try.prog 4 #[.agg (a.cells av mv), e.val lv, wv, m.val, .int .i64 less] w fun x w' => x = .returned (.bool true) ∧ Below w.heap.size w w' := by
  have hmx : Try.prog.follows .mixedOrders = true := by kernel_rfl
  obtain ⟨xa, xc, rfl, hz1, hz2⟩ := id h1
  obtain ⟨ma, mc, rfl, hz3, hz4⟩ := id h2
  obtain ⟨la, lc, rfl, hz5, hz6⟩ := id h3
  obtain ⟨wa, wc, rfl, hz7, hz8⟩ := id h4
  clear hz1 hz2 hz3 hz4 hz5 hz6 hz8
  obtain ⟨w1, hw1⟩ : ∃ w1, w1 = w.alloc (.cells #[.int .i64 a.kd, .int .i64 a.src, .int .i64 a.til, .slice xa a.all.length xc, .slice ma a.mat.length mc] 25) := ⟨_, rfl⟩
  have hs1 : w1.heap.size = w.heap.size + 1 := by rw [hw1]; simp
  have hb1 : Below w.heap.size w w1 := by rw [hw1]; exact (Below.refl _ w).alloc (Nat.le_refl _) _
  have ha1 : Bl w1 w.heap.size 25 #[.int .i64 a.kd, .int .i64 a.src, .int .i64 a.til, .slice xa a.all.length xc, .slice ma a.mat.length mc] := by rw [hw1]; exact Bl.new w 25 _
  obtain ⟨w2, hw2⟩ : ∃ w2, w2 = w1.alloc (.cells #[.int .i64 e.tm, .slice la e.labs.length lc, .string e.line] 47) := ⟨_, rfl⟩
  have hs2 : w2.heap.size = w.heap.size + 2 := by rw [hw2]; simp [hs1]
  have hb2 : Below w1.heap.size w1 w2 := by rw [hw2]; exact (Below.refl _ w1).alloc (Nat.le_refl _) _
  have he2 : Bl w2 (w.heap.size + 1) 47 #[.int .i64 e.tm, .slice la e.labs.length lc, .string e.line] := by rw [hw2, ← hs1]; exact Bl.new w1 47 _
  obtain ⟨w3, hw3⟩ : ∃ w3, w3 = w2.alloc (.cells #[.string m.name, .bool m.not, .string m.value] 50) := ⟨_, rfl⟩
  have hb3 : Below w2.heap.size w2 w3 := by rw [hw3]; exact (Below.refl _ w2).alloc (Nat.le_refl _) _
  have hm3 : Bl w3 (w.heap.size + 2) 50 #[.string m.name, .bool m.not, .string m.value] := by rw [hw3, ← hs2]; exact Bl.new w2 50 _
  have hbb := below_mid12 (below_mid12 hb1 hb2) hb3
  have HA := Lib.hid ((ha1.below hb2).below hb3)
  have HE := Lib.hid (he2.below hb3)
  have HM := Lib.hid hm3
  have H1 := Lib.hid (h1.below hbb)
  have H2 := Lib.hid (MsAt.below12 h2 hbb)
  have H3L := Lib.hid (E4.labs_below h3 hbb)
  have H4 := Lib.hid (h4.below hbb)
  have HBB := Lib.hid hbb
  rw [hw1] at hw2
  rw [hw2] at hw3
  have HW3 := Lib.hid hw3.symm
  have HAL := Lib.hid (alive12 w3)
  clear hw1 hw2 hw3 hs1 hs2 hb1 hb2 hb3 ha1 he2 hm3 hbb h1 h2 h3 h4
  simp only [Ask.cells, Ent.val, Mt.val]
  go_enter Try.func4, Try.ntmps4
  go_upto_region 1 with fail
  rw [HW3.out]
  clear HW3
  go_wp2_with fail
  refine HAL.out.mono ?_
  rintro x w4 ⟨rfl, hb⟩
  have HBB := Lib.hid (below_mid12 HBB.out hb)
  have HA := Lib.hid (HA.out.below hb)
  have HE := Lib.hid (HE.out.below hb)
  have HM := Lib.hid (HM.out.below hb)
  have H1 := Lib.hid (H1.out.below hb)
  have H2 := Lib.hid (MsAt.below12 H2.out hb)
  have H3L := Lib.hid (E4.labs_below H3L.out hb)
  have H4 := Lib.hid (H4.out.below hb)
  clear hb HAL
  have c0 := HA.out.cell 0
  have c1 := HA.out.cell 1
  have c2 := HA.out.cell 2
  have c3 := HA.out.cell 3
  have c4 := HA.out.cell 4
  simp only [List.getElem?_toArray, List.getElem?_cons_succ, List.getElem?_cons_zero] at c0 c1 c2 c3 c4
  have d0 := HE.out.cell 0
  have d1 := HE.out.cell 1
  have d2 := HE.out.cell 2
  simp only [List.getElem?_toArray, List.getElem?_cons_succ, List.getElem?_cons_zero] at d0 d1 d2
  have HGR := Lib.hid (askGreat_any a _ w4 ⟨_, _, rfl, H1.out, H2.out⟩)
  simp only [Ask.cells] at HGR
  cases hg : a.great with
  | true =>
    rw [hg] at HGR
    clear hg
    go_wp2_with (go_at_call 6; refine HGR.out.mono ?_; rintro x w5 ⟨rfl, hb5⟩)
    go_ret
    exact ⟨rfl, below_mid12 HBB.out hb5⟩
  | false =>
  rw [hg] at HGR
  have HN := Lib.hid (Ask.small_of hg)
  clear hg
  go_wp2_with fail
  refine HGR.out.mono ?_
  rintro x w5 ⟨rfl, hb⟩
  have HBB := Lib.hid (below_mid12 HBB.out hb)
  have HA := Lib.hid (HA.out.below hb)
  have HE := Lib.hid (HE.out.below hb)
  have HM := Lib.hid (HM.out.below hb)
  have H1 := Lib.hid (H1.out.below hb)
  have H2 := Lib.hid (MsAt.below12 H2.out hb)
  have H3L := Lib.hid (E4.labs_below H3L.out hb)
  have H4 := Lib.hid (H4.out.below hb)
  clear hb HGR c0 c1 c2 c3 c4 d0 d1 d2
  have c0 := HA.out.cell 0
  have c1 := HA.out.cell 1
  have c2 := HA.out.cell 2
  have c3 := HA.out.cell 3
  have c4 := HA.out.cell 4
  simp only [List.getElem?_toArray, List.getElem?_cons_succ, List.getElem?_cons_zero] at c0 c1 c2 c3 c4
  have d0 := HE.out.cell 0
  have d1 := HE.out.cell 1
  have d2 := HE.out.cell 2
  simp only [List.getElem?_toArray, List.getElem?_cons_succ, List.getElem?_cons_zero] at d0 d1 d2
  have HGE := Lib.hid (great_any (e := e) H3L.out)
  simp only [Ent.val] at HGE
  cases hg : e.big with
  | true =>
    rw [hg] at HGE
    clear hg
    go_wp2_with (go_at_call 15; refine HGE.out.mono ?_; rintro x w6 ⟨rfl, hl6⟩)
    go_ret
    exact ⟨rfl, below_mid12 HBB.out (E4.lay_below hl6)⟩
  | false =>
  rw [hg] at HGE
  have HLN : Hid (e.line.size ≤ 1048576) := Lib.hid (by
    unfold Ent.big at hg
    simp only [Bool.or_eq_false_iff, decide_eq_false_iff_not] at hg
    omega)
  clear hg
  go_wp2_with fail
  refine HGE.out.mono ?_
  rintro x w6 ⟨rfl, hl6⟩
  have hb := E4.lay_below hl6
  have HBB := Lib.hid (below_mid12 HBB.out hb)
  have HA := Lib.hid (HA.out.below hb)
  have HE := Lib.hid (HE.out.below hb)
  have HM := Lib.hid (HM.out.below hb)
  have H1 := Lib.hid (H1.out.below hb)
  have H2 := Lib.hid (MsAt.below12 H2.out hb)
  have H3L := Lib.hid (E4.labs_below H3L.out hb)
  have H4 := Lib.hid (H4.out.below hb)
  clear hb hl6 HGE c0 c1 c2 c3 c4 d0 d1 d2
  by_cases g1 : 50 < ws.length
  · have d1 : (50 : Int) < (ws.length : Int) := by omega
    go_wp2_with fail
    go_ret
    exact ⟨rfl, HBB.out⟩
  have d1 : ¬ (50 : Int) < (ws.length : Int) := by omega
  by_cases g2 : less < 0
  · go_wp2_with fail
    go_ret
    exact ⟨rfl, HBB.out⟩
  by_cases g3 : 1048576 < less
  · go_wp2_with fail
    go_ret
    exact ⟨rfl, HBB.out⟩
  go_wp2_with fail
  clear d1
  go_loopw [37] (fun vi wr => ∃ k : Nat, vi = .int .i64 k ∧ k ≤ ws.length ∧ wr = w6) (fun vi _ => ws.length - (intOf vi).toNat)
  case atStart => exact ⟨0, rfl, Nat.zero_le _, rfl⟩
  case round =>
    obtain ⟨k, rfl, hk, rfl⟩ := hrel
    by_cases hlt : k < ws.length
    · obtain ⟨_, _, he, _, hcx⟩ := H4.out
      obtain ⟨rfl, rfl⟩ := by simpa using he
      clear he
      rcases hcx with h0 | ⟨b, off, rfl, hb, hc⟩
      · exact absurd hlt (by rw [h0]; simp)
      have hx := hc k hlt
      generalize ws[k] = s at hx
      clear hc
      by_cases hs : 200 < s.size
      · have d2 : (200 : Int) < (s.size : Int) := by omega
        go_wp2_with fail
        go_ret
        exact ⟨rfl, HBB.out⟩
      · have d2 : ¬ (200 : Int) < (s.size : Int) := by omega
        go_wp2_with fail
        go_roundw
        case rel => exact ⟨k + 1, by go_num, by omega, by first | rfl | trivial⟩
        case measure => simp [intOf]; omega
    · obtain rfl : k = ws.length := by omega
      have c0 := HA.out.cell 0
      have c1 := HA.out.cell 1
      have c2 := HA.out.cell 2
      have c3 := HA.out.cell 3
      have c4 := HA.out.cell 4
      simp only [List.getElem?_toArray, List.getElem?_cons_succ, List.getElem?_cons_zero] at c0 c1 c2 c3 c4
      have hcw : w.heap.size + 3 ≤ wr.heap.size := HM.out.lt
      have H1r := H1
      have HAr := HA
      have HEr := HE
      have HBBr := HBB
      have H2r := H2
      have H3r := H3L
      have H4r := H4
      obtain ⟨xs, hxs, hsr⟩ := rows_src (TextsG.of H1.out)
      obtain ⟨w7, hw7⟩ : ∃ w7, w7 = wr.alloc (.cells #[.int .i64 a.kd, .int .i64 a.src, .int .i64 a.til, .slice xa a.all.length xc, .slice ma a.mat.length mc] 25) := ⟨_, rfl⟩
      have hl7 : Lay wr w7 := by rw [hw7]; exact (Keep.refl _ wr).alloc _
      have hc7 : Bl w7 wr.heap.size 25 #[.int .i64 a.kd, .int .i64 a.src, .int .i64 a.til, .slice xa a.all.length xc, .slice ma a.mat.length mc] := by rw [hw7]; exact Bl.new wr 25 _
      have hs7 : w7.heap.size = wr.heap.size + 1 := by rw [hw7]; simp
      obtain ⟨C, hC⟩ : ∃ C, C = wr.heap.size := ⟨_, rfl⟩
      rw [← hC] at hc7
      have hb := E4.lay_below hl7
      have HB7 := Lib.hid hb
      have HSR := Lib.hid (hsr (w7.alloc (.cells #[] 48)) (hl7.alloc _))
      have HXS := Lib.hid (RowsV.carry (H := fun q => q < wr.heap.size) hxs hb.size (fun q hq _ => hb.block q hq) fun _ h _ => h)
      have HWV := Lib.hid ((SG.of H4.out).carry (H := fun q => q < wr.heap.size) hb.size (fun q hq _ => hb.block q hq) fun _ h _ => h)
      have HBB := Lib.hid (below_mid12 HBB.out hb)
      have HA := Lib.hid (HA.out.below hb)
      have HE := Lib.hid (HE.out.below hb)
      have HM := Lib.hid (HM.out.below hb)
      have H1 := Lib.hid (H1.out.below hb)
      have H2 := Lib.hid (MsAt.below12 H2.out hb)
      have H3L := Lib.hid (E4.labs_below H3L.out hb)
      have H4 := Lib.hid (H4.out.below hb)
      have HC := Lib.hid hc7
      have HW7 := Lib.hid hw7.symm
      have HCE := Lib.hid hC.symm
      have HSZ : Hid (w7.heap.size = C + 1) := Lib.hid (by rw [hs7, hC])
      have HCW : Hid (w.heap.size + 3 ≤ C) := Lib.hid (by omega)
      clear hxs hsr hw7 hl7 hc7 hs7 hb hC
      obtain ⟨iR, zR, ER⟩ := elemR
      obtain ⟨iM, zM, EM⟩ := elemM
      go_upto_region 12 with fail
      rw [HW7.out, HCE.out]
      clear c0 c1 c2 c3 c4
      have c0 := HA.out.cell 0
      have c1 := HA.out.cell 1
      have c2 := HA.out.cell 2
      have c3 := HA.out.cell 3
      have c4 := HA.out.cell 4
      simp only [List.getElem?_toArray, List.getElem?_cons_succ, List.getElem?_cons_zero] at c0 c1 c2 c3 c4
      have hn1 : a.all.length ≤ 100 := HN.out.1
      have e3 := (HA.out.below ((Below.refl _ w7).alloc (Nat.le_refl _) (.cells #[] 48))).cell 3
      simp only [List.getElem?_toArray, List.getElem?_cons_succ, List.getElem?_cons_zero] at e3
      go_wp2_with (at_builtin; refine wpList_append_rk ER _ rfl _ _ 22 rfl (G := fun k => w7.heap.size ≤ k) rfl ((rk_new 1 w7 0 [] 48 rfl (by omega)).mono (fun k hk _ => Nat.le_of_eq hk.symm)) ?c1 _ a.all.length xs rfl HSR.out ?c2 ?c3 ?_)
      case c1 => intro k hk; simp at hk; omega
      case c2 => omega
      case c3 => omega
      intro v1 w8 hr1 hk1
      obtain ⟨sa, sc, rfl⟩ := hr1.shape
      have hw78 : Below w7.heap.size w7 w8 := by
        have h := keep_below12 (B := w7.heap.size) hk1 (fun b hb => by
          obtain ⟨n, c, e⟩ := hb
          simp only [Value.slice.injEq, Option.some.injEq, Addr.mk.injEq, and_true] at e
          omega) (by simp)
        exact ((Below.refl _ w7).alloc (Nat.le_refl _) _).trans h
      have hr1' : Rk 1 (fun k => w7.heap.size ≤ k) w8 (.slice sa a.all.length sc) a.all.length xs := hr1.mono fun k hk _ => hk.1
      have HR1 := Lib.hid hr1'
      have HB78 := Lib.hid hw78
      have hsz8 : w7.heap.size ≤ w8.heap.size := hw78.size
      clear hr1 hk1 hr1' hw78 e3
      go_wp2_with (at_builtin; refine wpList_append_rk ER _ rfl _ _ 22 rfl (G := fun k => w7.heap.size ≤ k) rfl (HR1.out.alloc _) ?c1 (.slice (some ⟨w8.heap.size, 0, none⟩) 1 1) 1 [.slice wa ws.length wc] rfl (src_row w8 _ rfl) ?c2 ?c3 ?_)
      case c1 => intro k hk; simp at hk; omega
      case c2 => omega
      case c3 => omega
      intro v2 w9 hr2 hk2
      obtain ⟨sd, sf, rfl⟩ := hr2.shape
      have hw89 : Below w7.heap.size w8 w9 := by
        have h := keep_below12 (B := w7.heap.size) hk2 (fun b hb => (HR1.out.at hb).1) (by simp; omega)
        exact ((Below.refl _ w8).alloc hsz8 _).trans h
      have hb9 : Below w7.heap.size w7 w9 := HB78.out.trans hw89
      have hc9 := HC.out.below hb9
      have hs10 := hc9.set12 3 (.slice sd (a.all.length + 1) sf)
      simp only [List.setIfInBounds_toArray, List.set_cons_succ, List.set_cons_zero] at hs10
      have hk10 : Keep (fun k => k = C) w9 (w9.setCell ⟨C, 3, none⟩ (.slice sd (a.all.length + 1) sf)) := keep_set12 (Keep.refl _ _) 3 _
      have hr10 : Rk 1 (fun k => w7.heap.size ≤ k) (w9.setCell ⟨C, 3, none⟩ (.slice sd (a.all.length + 1) sf)) (.slice sd (a.all.length + 1) sf) (a.all.length + 1) (xs ++ [.slice wa ws.length wc]) :=
        (hr2.mono (G' := fun k => w7.heap.size ≤ k) fun k hk _ => hk.1).carry hk10.size fun q hq _ hlt => hk10.block q hlt (by have := HSZ.out; omega)
      have hrv10 : RowsV (w9.setCell ⟨C, 3, none⟩ (.slice sd (a.all.length + 1) sf)) (fun q => q < wr.heap.size) (a.all ++ [ws]) (xs ++ [.slice wa ws.length wc]) :=
        RowsV.snoc (RowsV.carry HXS.out (Nat.le_trans hb9.size hk10.size) (fun q hq hlt => (hk10.block q (Nat.lt_of_lt_of_le hlt hb9.size) (by have := HCE.out; omega)).trans (hb9.block q (by omega))) fun _ h _ => h) (HWV.out.carry (Nat.le_trans hb9.size hk10.size) (fun q hq hlt => (hk10.block q (Nat.lt_of_lt_of_le hlt hb9.size) (by have := HCE.out; omega)).trans (hb9.block q (by omega))) fun _ h _ => h)
      have htx : TextsG (fun q => q ≠ C) (w9.setCell ⟨C, 3, none⟩ (.slice sd (a.all.length + 1) sf)) (.slice sd (a.all.length + 1) sf) (a.all ++ [ws]) := by
        have h := texts_of (rows := a.all ++ [ws]) (I := fun q => q ≠ C) (by rw [List.length_append, List.length_singleton]; exact hr10) hrv10 (by rw [List.length_append, List.length_singleton]; omega) (fun q hq => by have := HSZ.out; omega) (fun q hq => by have := HCE.out; omega)
        exact h
      -- all that was there ahead of box C stands
      have hold : Below C w7 (w9.setCell ⟨C, 3, none⟩ (.slice sd (a.all.length + 1) sf)) :=
        ⟨hk10.os.trans hb9.os, hk10.tape.trans hb9.tape, hk10.output.trans hb9.output, Nat.le_trans hb9.size hk10.size, fun q hq => (hk10.block q (by have := hb9.size; have := HSZ.out; omega) (by omega)).trans (hb9.block q (by have := HSZ.out; omega))⟩
      have z3 := hc9.frozen 3
      have y3 := hc9.cell 3
      simp only [List.getElem?_toArray, List.getElem?_cons_succ, List.getElem?_cons_zero] at y3
      have HC10 := Lib.hid hs10
      have HTX := Lib.hid htx
      have HOLD := Lib.hid hold
      clear hr2 hk2 hw89 hb9 hc9 hs10 hk10 hr10 hrv10 htx hold c0 c1 c2 c3 c4
      go_upto_region 13 with fail
      generalize w9.setCell ⟨C, 3, none⟩ (.slice sd (a.all.length + 1) sf) = wa10 at HC10 HTX HOLD ⊢
      clear y3 z3
      have HSZA := Lib.hid HOLD.out.size
      have HA := Lib.hid (show Bl wa10 w.heap.size 25 #[.int .i64 a.kd, .int .i64 a.src, .int .i64 a.til, .slice xa a.all.length xc, .slice ma a.mat.length mc] from (HOLD.out.block _ (by have := HCW.out; omega)).trans HA.out)
      have HE := Lib.hid (show Bl wa10 (w.heap.size + 1) 47 #[.int .i64 e.tm, .slice la e.labs.length lc, .string e.line] from (HOLD.out.block _ (by have := HCW.out; omega)).trans HE.out)
      have HM := Lib.hid (show Bl wa10 (w.heap.size + 2) 50 #[.string m.name, .bool m.not, .string m.value] from (HOLD.out.block _ (by have := HCW.out; omega)).trans HM.out)
      have HZC : Hid (∃ u, Bl wa10 C 25 #[.int .i64 a.kd, .int .i64 a.src, .int .i64 a.til, .slice sd (a.all.length + 1) sf, u]) := Lib.hid ⟨_, HC10.out⟩
      have HAV := Lib.hid (show w.heap.size ≠ C by have := HCW.out; omega)
      have HMV := Lib.hid (show w.heap.size + 2 ≠ C by have := HCW.out; omega)
      have HCL : Hid (C < wa10.heap.size) := Lib.hid HC10.out.lt
      have hm20 : a.mat.length ≤ 20 := HN.out.2.1
      clear hn1 hsz8
      refine (wpIn_wide (n := 9)).1 ?_
      refine H3.wpIn_region_flow (fun _ => trivial) (by kernel_rfl) (fun _ _ W => LI C (.int .i64 a.kd) (.int .i64 a.src) (.int .i64 a.til) (.slice sd (a.all.length + 1) sf) wa10 W) (LR C wa10.heap.size) (LV C w.heap.size (.int .i64 a.kd) (.int .i64 a.src) (.int .i64 a.til) (.slice sd (a.all.length + 1) sf) (.slice ma a.mat.length mc) a.mat m wa10.heap.size) (fun j => j == 8) (by kernel_rfl) (by kernel_rfl) ?hst ?hI ?step ?fin
      case hst =>
        intro i j ys v W W' hij hanc hned hV hR
        by_cases hj : j < 9
        · refine lv_keep hij (fun q1 q2 => by
            subst q1
            rcases q2 with q2 | q2 | q2
            · subst q2; cases hned.symm.trans (by kernel_rfl : _ = false)
            · subst q2; cases hanc.symm.trans (by kernel_rfl : _ = true)
            · subst q2; cases hanc.symm.trans (by kernel_rfl : _ = true)) (fun q1 q2 => by
            subst q1
            rcases q2 with q2 | q2 | q2 | q2
            · subst q2; cases hned.symm.trans (by kernel_rfl : _ = false)
            · subst q2; cases hned.symm.trans (by kernel_rfl : _ = false)
            · subst q2; cases hned.symm.trans (by kernel_rfl : _ = false)
            · subst q2; cases hanc.symm.trans (by kernel_rfl : _ = true)) (fun q1 q2 => by
            subst q1
            rcases q2 with q2 | q2 | q2 | q2
            · subst q2; cases hned.symm.trans (by kernel_rfl : _ = false)
            · subst q2; cases hned.symm.trans (by kernel_rfl : _ = false)
            · subst q2; cases hned.symm.trans (by kernel_rfl : _ = false)
            · subst q2; cases hned.symm.trans (by kernel_rfl : _ = false)) (fun q1 q2 => by subst q1; subst q2; cases hanc.symm.trans (by kernel_rfl : _ = true)) hj hV hR
        · match j, hj with
          | j + 9, _ => trivial
      case hI => exact ⟨⟨rfl, rfl, rfl, Nat.le_refl _, fun _ _ _ => rfl⟩, by obtain ⟨u, hu⟩ := HZC.out; exact ⟨u, hu⟩⟩
      case step =>
        refine ⟨?_, ?_, ?_, ?_, ?_, ?_, ?_, ?_, ?_, trivial⟩
        · intro listed ys X W hsz hsd hi2 hall hX hI hd K hK
          have HI := Lib.hid hI
          refine H3.step_run (.inl rfl) ?_
          clear hX hd hI
          go_simp
          have hb : Below W.heap.size W (W.alloc (.cells #[] 50)) := (Below.refl _ W).alloc (Nat.le_refl _) _
          refine hK _ _ (HI.out.below hb) hb ?_
          have eo : H3.upd ys 0 (.slice (some ⟨W.heap.size, 0, none⟩) 0 0) 0 = .slice (some ⟨W.heap.size, 0, none⟩) 0 0 := H3.upd_same _ _ _
          show Rk 3 (fun q => wa10.heap.size ≤ q) _ (H3.upd ys 0 _ 0) 0 [] ∧ _
          rw [eo]
          exact ⟨(rk_new 3 W 0 [] 50 rfl (by omega)).mono (fun k hk _ => by rw [hk]; exact HI.out.1.2.2.2.1), W.heap.size, eo, HI.out.1.2.2.2.1, Bl.new W 50 #[]⟩
        · intro listed ys X W hsz hsd hi2 hall hX hI hd K hK
          have HI := Lib.hid hI
          have q1 : X.tmps.getD 5 undef = .pointer (some ⟨w.heap.size, 0, none⟩) := hX 5 (Nat.le_of_ble_eq_true rfl)
          refine H3.step_run (.inl rfl) ?_
          clear hX hd hI
          go_simp
          exact hK _ _ (HI.out.below (Below.refl _ _)) (Below.refl _ _) (H3.upd_same _ _ _)
        · intro listed ys X W hsz hsd hi2 hall hX hI hd K hK
          have HI := Lib.hid hI
          have q1 : X.tmps.getD 55 undef = .pointer (some ⟨w.heap.size, 4, none⟩) := (hX 55 (Nat.le_of_ble_eq_true rfl)).trans (hd ⟨1, .data⟩ (by simp) rfl)
          have hq : Bl W w.heap.size 25 #[.int .i64 a.kd, .int .i64 a.src, .int .i64 a.til, .slice xa a.all.length xc, .slice ma a.mat.length mc] := (hI.1.2.2.2.2 _ HA.out.lt HAV.out).trans HA.out
          have c4 := hq.cell 4
          simp only [List.getElem?_toArray, List.getElem?_cons_succ, List.getElem?_cons_zero] at c4
          refine H3.step_run (.inl rfl) ?_
          clear hX hd hq hI
          go_simp
          exact hK _ _ (HI.out.below (Below.refl _ _)) (Below.refl _ _) (H3.upd_same _ _ _)
        · intro listed ys X W hsz hsd hi2 hall hX hI hd K hK
          have HI := Lib.hid hI
          obtain ⟨g1, b, g2, g3, g4⟩ : LV _ _ _ _ _ _ _ _ _ _ 0 ys W := hd ⟨0, .data⟩ (by simp) rfl
          have q1 : X.tmps.getD 54 undef = ys 0 := hX 54 (Nat.le_of_ble_eq_true rfl)
          have q2 : X.tmps.getD 56 undef = .slice ma a.mat.length mc := (hX 56 (Nat.le_of_ble_eq_true rfl)).trans (hd ⟨2, .data⟩ (by simp) rfl)
          have hold : Below wr.heap.size wr W := by
            have h := HOLD.out.trans (hI.1.old (Nat.le_of_lt HCL.out))
            rw [← HCE.out] at h
            exact HB7.out.trans h
          have hsr := ms_src (MsAt.below12 H2r.out hold)
          obtain ⟨v', w', hrun, hr, hk⟩ := run_append_rk EM g1 (fun k hk => Nat.le_trans hI.1.2.2.2.1 hk) 23 23 _ a.mat.length (flatM a.mat) hsr (by omega) (by omega)
          have hkb : Keep (fun k => k = b) W w' := hk.into fun k _ hk => by
            obtain ⟨n, c, he⟩ := hk
            rw [g2] at he
            simp only [Value.slice.injEq, Option.some.injEq, Addr.mk.injEq, and_true] at he
            exact he.1.symm
          refine H3.step_run (.inl rfl) ?_
          refine operIn_append12 (.tmp 54) (.tmp 56) 23 rfl q1 q2 hrun ?_
          refine hK _ _ (HI.out.keep hkb (fun k hk => by rw [hk]; exact g3) HCL.out) ⟨b, g4, hkb⟩ ?_
          show Rk 3 (fun q => wa10.heap.size ≤ q) w' (H3.upd ys 3 v' 3) _ _
          rw [H3.upd_same]
          rw [Nat.zero_add, List.nil_append] at hr
          exact hr.mono fun k hk _ => hk.1
        · intro listed ys X W hsz hsd hi2 hall hX hI hd K hK
          have HI := Lib.hid hI
          have q1 : X.tmps.getD 8 undef = .pointer (some ⟨w.heap.size + 2, 0, none⟩) := hX 8 (Nat.le_of_ble_eq_true rfl)
          have hq : Bl W (w.heap.size + 2) 50 #[.string m.name, .bool m.not, .string m.value] := (hI.1.2.2.2.2 _ HM.out.lt HMV.out).trans HM.out
          have c0 := hq.cell 0
          have c1 := hq.cell 1
          have c2 := hq.cell 2
          simp only [List.getElem?_toArray, List.getElem?_cons_succ, List.getElem?_cons_zero] at c0 c1 c2
          refine H3.step_run (.inl rfl) ?_
          clear hX hd hq hI
          go_simp
          exact hK _ _ (HI.out.below (Below.refl _ _)) (Below.refl _ _) (H3.upd_same _ _ _)
        · intro listed ys X W hsz hsd hi2 hall hX hI hd K hK
          have HI := Lib.hid hI
          have q1 : X.tmps.getD 58 undef = .agg #[.string m.name, .bool m.not, .string m.value] := (hX 58 (Nat.le_of_ble_eq_true rfl)).trans (hd ⟨4, .data⟩ (by simp) rfl)
          have q1' := q1
          rw [Array.getD_eq_getD_getElem?] at q1'
          refine H3.step_run (.inl rfl) ?_
          clear hX hd hI
          go_simp
          have hb : Below W.heap.size W (W.alloc (.cells #[.string m.name, .bool m.not, .string m.value] 50)) := (Below.refl _ W).alloc (Nat.le_refl _) _
          exact hK _ _ (HI.out.below hb) hb ⟨W.heap.size, H3.upd_same _ _ _, HI.out.1.2.2.2.1, Bl.new W 50 _⟩
        · intro listed ys X W hsz hsd hi2 hall hX hI hd K hK
          have HI := Lib.hid hI
          have g1 : Rk 3 (fun q => wa10.heap.size ≤ q) W (ys 3) a.mat.length (flatM a.mat) := hd ⟨3, .data⟩ (by simp) rfl
          obtain ⟨b, g2, g3, g4⟩ : LV _ _ _ _ _ _ _ _ _ _ 5 ys W := hd ⟨5, .data⟩ (by simp) rfl
          have q1 : X.tmps.getD 57 undef = ys 3 := hX 57 (Nat.le_of_ble_eq_true rfl)
          have q2 : X.tmps.getD 59 undef = .slice (some ⟨b, 0, none⟩) 1 1 := (hX 59 (Nat.le_of_ble_eq_true rfl)).trans g2
          obtain ⟨v', w', hrun, hr, hk⟩ := run_append_rk EM g1 (fun k hk => Nat.le_trans hI.1.2.2.2.1 hk) 23 23 _ 1 [.string m.name, .bool m.not, .string m.value] (src_bl12 g4) (by omega) (by omega)
          refine H3.step_run (.inl rfl) ?_
          refine operIn_append12 (.tmp 57) (.tmp 59) 23 rfl q1 q2 hrun ?_
          have hat : ∀ b, At (ys 3) b → wa10.heap.size ≤ b := fun b hb => (g1.at hb).1
          refine hK _ _ (HI.out.keep hk hat HCL.out) ⟨hk, hat⟩ ?_
          show Rk 3 (fun q => wa10.heap.size ≤ q) w' (H3.upd ys 6 v' 6) _ _
          rw [H3.upd_same]
          have he : flatM (a.mat ++ [m]) = flatM a.mat ++ [.string m.name, .bool m.not, .string m.value] := flatM_snoc _ _
          rw [he]
          exact hr.mono fun k hk _ => hk.1
        · intro listed ys X W hsz hsd hi2 hall hX hI hd K hK
          have HI := Lib.hid hI
          have q1 : X.tmps.getD 13 undef = .pointer (some ⟨C, 0, none⟩) := hX 13 (Nat.le_of_ble_eq_true rfl)
          refine H3.step_run (.inl rfl) ?_
          clear hX hd hI
          go_simp
          exact hK _ _ (HI.out.below (Below.refl _ _)) (Below.refl _ _) (H3.upd_same _ _ _)
        · intro listed ys X W hsz hsd hi2 hall hX hI hd K hK
          have HI := Lib.hid hI
          have g1 : Rk 3 (fun q => wa10.heap.size ≤ q) W (ys 6) (a.mat.length + 1) (flatM (a.mat ++ [m])) := hd ⟨6, .data⟩ (by simp) rfl
          have q1 : X.tmps.getD 60 undef = ys 6 := hX 60 (Nat.le_of_ble_eq_true rfl)
          have q2 : X.tmps.getD 61 undef = .pointer (some ⟨C, 4, none⟩) := (hX 61 (Nat.le_of_ble_eq_true rfl)).trans (hd ⟨7, .data⟩ (by simp) rfl)
          obtain ⟨sg, sh, hs⟩ := g1.shape
          obtain ⟨u, hu⟩ := hI.2
          have c4 := hu.cell 4
          have z4 := hu.frozen 4
          have hset := hu.set12 4 (.slice sg (a.mat.length + 1) sh)
          simp only [List.getElem?_toArray, List.getElem?_cons_succ, List.getElem?_cons_zero] at c4
          simp only [List.setIfInBounds_toArray, List.set_cons_succ, List.set_cons_zero] at hset
          rw [hs] at q1
          have HSET := Lib.hid hset
          have HS := Lib.hid hs
          have HG1 := Lib.hid g1
          refine H3.step_run (.inl rfl) ?_
          clear hX hd hI hu hset hs g1
          go_simp
          have hk : Keep (fun k => k = C) W (W.setCell ⟨C, 4, none⟩ (.slice sg (a.mat.length + 1) sh)) := keep_set12 (Keep.refl _ _) 4 _
          refine hK undef _ ⟨HI.out.1.keep hk fun k hk => .inl hk, _, HSET.out⟩ hk ?_
          have eo : H3.upd ys 8 undef 6 = ys 6 := H3.upd_other _ _ (by decide)
          refine ⟨?_, ?_⟩
          · rw [eo, HS.out]; exact HSET.out
          · rw [eo]
            exact HG1.out.carry hk.size fun q hq _ hlt => hk.block q hlt (by have := HCL.out; omega)
      case fin =>
        intro listed ys W hall hI hV
        obtain ⟨gC, gM⟩ : LV C w.heap.size (.int .i64 a.kd) (.int .i64 a.src) (.int .i64 a.til) (.slice sd (a.all.length + 1) sf) (.slice ma a.mat.length mc) a.mat m wa10.heap.size 8 ys W := hV 8 (by decide) rfl
        obtain ⟨sg, sh, hs⟩ := gM.shape
        rw [hs] at gC gM
        have hold : Below wr.heap.size wr W := by
          have h := HOLD.out.trans (hI.1.old (Nat.le_of_lt HCL.out))
          rw [← HCE.out] at h
          exact HB7.out.trans h
        have hcw2 : w.heap.size ≤ wr.heap.size := by have := HCE.out; have := HCW.out; omega
        have HBW := Lib.hid (below_mid12 HBBr.out hold)
        have HWR := Lib.hid hold
        have HAW : Hid (Bl W w.heap.size 25 #[.int .i64 a.kd, .int .i64 a.src, .int .i64 a.til, .slice xa a.all.length xc, .slice ma a.mat.length mc]) := Lib.hid (HAr.out.below hold)
        have HEW : Hid (Bl W (w.heap.size + 1) 47 #[.int .i64 e.tm, .slice la e.labs.length lc, .string e.line]) := Lib.hid (HEr.out.below hold)
        have HTW := Lib.hid (TextsG.carry HTX.out hI.1.2.2.2.1 (fun q hq hlt => hI.1.2.2.2.2 q hlt hq) (fun _ h _ => h))
        have HMW := Lib.hid (gM.mono (G' := fun q => q ≠ C) fun q hq _ => by have := HCL.out; omega)
        have HGC := Lib.hid gC
        clear hI hV hall gC gM hold HAr HEr HBBr HTX HOLD HB7 HZC HC10 HSZ
        simp only [H3.putsFrom]
        simp only [hs, Act.put, List.setIfInBounds_toArray, List.set_cons_succ, List.set_cons_zero]
        clear hs
        have c0 := HAW.out.cell 0
        have c1 := HAW.out.cell 1
        have c2 := HAW.out.cell 2
        have c3 := HAW.out.cell 3
        have c4 := HAW.out.cell 4
        simp only [List.getElem?_toArray, List.getElem?_cons_succ, List.getElem?_cons_zero] at c0 c1 c2 c3 c4
        have d0 := HGC.out.cell 0
        have d1 := HGC.out.cell 1
        have d2 := HGC.out.cell 2
        have d3 := HGC.out.cell 3
        have d4 := HGC.out.cell 4
        simp only [List.getElem?_toArray, List.getElem?_cons_succ, List.getElem?_cons_zero] at d0 d1 d2 d3 d4
        have z1 := HGC.out.frozen 1
        go_upto_region 15 with fail
        have hk2 : Keep (fun k => k = C) W (W.setCell ⟨C, 1, none⟩ (.int .i64 (wrap64 (a.src + less)))) := keep_set12 (Keep.refl _ _) 1 _
        have hset := HGC.out.set12 1 (.int .i64 (wrap64 (a.src + less)))
        simp only [List.setIfInBounds_toArray, List.set_cons_succ, List.set_cons_zero] at hset
        have hle : w.heap.size ≤ C := by have := HCW.out; omega
        have HBS := Lib.hid (below_set HBW.out hk2 hle)
        have HAS : Hid (Bl (W.setCell ⟨C, 1, none⟩ (.int .i64 (wrap64 (a.src + less)))) w.heap.size 25 #[.int .i64 a.kd, .int .i64 a.src, .int .i64 a.til, .slice xa a.all.length xc, .slice ma a.mat.length mc]) := Lib.hid ((hk2.block _ HAW.out.lt (by have := HCW.out; omega)).trans HAW.out)
        have HES : Hid (Bl (W.setCell ⟨C, 1, none⟩ (.int .i64 (wrap64 (a.src + less)))) (w.heap.size + 1) 47 #[.int .i64 e.tm, .slice la e.labs.length lc, .string e.line]) := Lib.hid ((hk2.block _ HEW.out.lt (by have := HCW.out; omega)).trans HEW.out)
        have HTS := Lib.hid (texts_set HTW.out hk2 fun q hq => hq)
        have HMS : Hid (MsAt (W.setCell ⟨C, 1, none⟩ (.int .i64 (wrap64 (a.src + less)))) (.slice sg (a.mat.length + 1) sh) (a.mat ++ [m])) := Lib.hid (ms_set (l := a.mat ++ [m]) (by rw [List.length_append, List.length_singleton]; exact HMW.out) hk2 (fun q hq => hq) (by rw [List.length_append, List.length_singleton]; omega))
        have HOB : Hid (Below wr.heap.size wr (W.setCell ⟨C, 1, none⟩ (.int .i64 (wrap64 (a.src + less))))) := Lib.hid (below_set HWR.out hk2 (Nat.le_of_eq HCE.out))
        have HCS := Lib.hid hset
        clear c0 c1 c2 c3 c4 d0 d1 d2 d3 d4 z1 hset hk2 hle HAW HEW HTW HMW HGC HBW HWR
        generalize W.setCell ⟨C, 1, none⟩ (.int .i64 (wrap64 (a.src + less))) = W2 at HBS HAS HES HTS HMS HCS HOB ⊢
        have HA1 := Lib.hid (H1r.out.below HOB.out)
        have HA2 := Lib.hid (MsAt.below12 H2r.out HOB.out)
        have HA3 := Lib.hid (E4.labs_below H3r.out HOB.out)
        have c0 := HAS.out.cell 0
        have c1 := HAS.out.cell 1
        have c2 := HAS.out.cell 2
        have c3 := HAS.out.cell 3
        have c4 := HAS.out.cell 4
        simp only [List.getElem?_toArray, List.getElem?_cons_succ, List.getElem?_cons_zero] at c0 c1 c2 c3 c4
        by_cases g4 : 1099511627776 < a.src
        · go_wp2_with fail
          go_ret
          exact ⟨rfl, HBS.out⟩
        have hw64 : wrap64 (a.src + less) = a.src + less := by
          unfold wrap64
          omega
        rw [hw64] at HCS
        clear hw64 c0 c1 c2 c3 c4
        have HW2 : Hid (W2 = W2) := Lib.hid rfl
        have HLN2 := HLN.out
        have KA := fun d os => Calls.regrown_of (anyOf_any (a.more ws m less) (.slice sd (a.all.length + 1) sf) (.slice sg (a.mat.length + 1) sh) (grow (redrawn W2 d) os) ⟨_, _, _, rfl⟩ ⟨_, _, _, rfl⟩)
        have KB := fun d os => Calls.regrown_of (anyOf_any a (.slice xa a.all.length xc) (.slice ma a.mat.length mc) (grow (redrawn W2 d) os) ⟨_, _, _, rfl⟩ ⟨_, _, _, rfl⟩)
        have KC' := fun d os => Calls.regrown_of (ownKeeps_any (a.more ws m less) (.slice sd (a.all.length + 1) sf) (.slice sg (a.mat.length + 1) sh) e (.slice la e.labs.length lc) (grow (redrawn W2 d) os) (HTS.out.below (below_regrown W2 d os)) (MsAt.below12 HMS.out (below_regrown W2 d os)) (E4.labs_below HA3.out (below_regrown W2 d os)) HLN2)
        have KD := fun d os => Calls.regrown_of (ownKeeps_any a (.slice xa a.all.length xc) (.slice ma a.mat.length mc) e (.slice la e.labs.length lc) (grow (redrawn W2 d) os) (HA1.out.below (below_regrown W2 d os)) (MsAt.below12 HA2.out (below_regrown W2 d os)) (E4.labs_below HA3.out (below_regrown W2 d os)) HLN2)
        have hmore : (a.more ws m less).asks e = true → a.asks e = true := asks_more a e ws m less (by omega)
        obtain ⟨dv1, hdv1⟩ : ∃ v, v = (a.more ws m less).dyn (.slice sd (a.all.length + 1) sf) (.slice sg (a.mat.length + 1) sh) := ⟨_, rfl⟩
        obtain ⟨dv2, hdv2⟩ : ∃ v, v = a.dyn (.slice xa a.all.length xc) (.slice ma a.mat.length mc) := ⟨_, rfl⟩
        rw [← hdv1] at KA KC'
        rw [← hdv2] at KB KD
        clear hdv1 hdv2
        have p0' := HAS.out.cell 0
        have p1' := HAS.out.cell 1
        have p2' := HAS.out.cell 2
        have p3' := HAS.out.cell 3
        have p4' := HAS.out.cell 4
        simp only [List.getElem?_toArray, List.getElem?_cons_succ, List.getElem?_cons_zero] at p0' p1' p2' p3' p4'
        have p0 := fun d os => cell_regrown p0' d os
        have p1 := fun d os => cell_regrown p1' d os
        have p2 := fun d os => cell_regrown p2' d os
        have p3 := fun d os => cell_regrown p3' d os
        have p4 := fun d os => cell_regrown p4' d os
        clear p0' p1' p2' p3' p4'
        have q0' := HCS.out.cell 0
        have q1' := HCS.out.cell 1
        have q2' := HCS.out.cell 2
        have q3' := HCS.out.cell 3
        have q4' := HCS.out.cell 4
        simp only [List.getElem?_toArray, List.getElem?_cons_succ, List.getElem?_cons_zero] at q0' q1' q2' q3' q4'
        have q0 := fun d os => cell_regrown q0' d os
        have q1 := fun d os => cell_regrown q1' d os
        have q2 := fun d os => cell_regrown q2' d os
        have q3 := fun d os => cell_regrown q3' d os
        have q4 := fun d os => cell_regrown q4' d os
        clear q0' q1' q2' q3' q4'
        have r0' := HES.out.cell 0
        have r1' := HES.out.cell 1
        have r2' := HES.out.cell 2
        simp only [List.getElem?_toArray, List.getElem?_cons_succ, List.getElem?_cons_zero] at r0' r1' r2'
        have r0 := fun d os => cell_regrown r0' d os
        have r1 := fun d os => cell_regrown r1' d os
        have r2 := fun d os => cell_regrown r2' d os
        clear r0' r1' r2'
        have t15 := HAS.out.cell 1
        simp only [List.getElem?_toArray, List.getElem?_cons_succ, List.getElem?_cons_zero] at t15
        go_upto_region 17 with fail
        clear t15
        cases hbk : (a.more ws m less).asks e with
        | false =>
          rw [hbk] at KC'
          clear KB KD
          clear hbk hmore
          simp only [Ask.cells, Ent.val, Ask.more] at KA KC'
          refine wp_region_quiet_below hmx (by kernel_rfl) ?_
          repeat (quiet_step (with_reducible first | exact KA _ _ | exact KC' _ _))
          refine wpQuiet_nil ?_
          intro _ hw'
          obtain ⟨⟨dq, osq⟩, hw'⟩ := hw'
          subst hw'
          have HBZ := Lib.hid (below_mid12 HBS.out (below_regrown W2 dq osq))
          clear p0 p1 p2 p3 p4 q0 q1 q2 q3 q4 r0 r1 r2 KA KC'
          go_wp2_with fail
          go_ret
          exact ⟨rfl, HBZ.out⟩
        | true =>
          rw [hbk] at KC'
          rw [hmore hbk] at KD
          clear hbk hmore
          simp only [Ask.cells, Ent.val, Ask.more] at KA KB KC' KD
          refine wp_region_quiet_below hmx (by kernel_rfl) ?_
          repeat (quiet_step (with_reducible first | exact KA _ _ | exact KB _ _ | exact KC' _ _ | exact KD _ _))
          refine wpQuiet_nil ?_
          intro _ hw'
          obtain ⟨⟨dq, osq⟩, hw'⟩ := hw'
          subst hw'
          have HBZ := Lib.hid (below_mid12 HBS.out (below_regrown W2 dq osq))
          clear p0 p1 p2 p3 p4 q0 q1 q2 q3 q4 r0 r1 r2 KA KB KC' KD
          go_wp2_with fail
          go_ret
          exact ⟨rfl, HBZ.out⟩

end Go.Proofs.Ytaghogfkkmphoaa.E4
