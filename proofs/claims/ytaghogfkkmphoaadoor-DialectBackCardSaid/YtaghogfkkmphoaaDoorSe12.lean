/-
  ARE TWO ROWS OF WORDS, TWO QUESTIONS THE SAME? (the document's Same)
-/
import Derived.Test.YtaghogfkkmphoaaDoorSm12
import Derived.Test.YtaghogfkkmphoaaDoorHw
namespace Go.Proofs.YtaghogfkkmphoaaDoor.E4
open Go.RowKit Go

set_option maxHeartbeats 2000000 in
set_option maxRecDepth 100000 in
theorem strsSame_any (k l : List ByteArray) (kv lv : Value) (w : World) (hk : StrsAt w kv k) (hl : StrsAt w lv l) :
    Calls Tryd.prog 51 #[kv, lv] w fun e w' => e = .returned (.bool (decide (k = l))) ∧ ∃ n, w' = w.drewN n := by
  obtain ⟨ak, ck, rfl, hk1, hk2⟩ := hk
  obtain ⟨al, cl, rfl, hl1, hl2⟩ := hl
  by_cases hlen : k.length = l.length
  · have HK := Lib.hid hk2
    have HL := Lib.hid hl2
    have d1 : ((k.length : Int) != (l.length : Int)) = false := by simp [hlen]
    have d1' : (k.length != l.length) = false := by simp [hlen]
    have HLEN := Lib.hid hlen
    clear hk2 hl2 hlen
    go_enter Tryd.func51, Tryd.ntmps51
    go_wp2_with fail
    clear d1 d1'
    go_loopw [13] (fun vi wr => ∃ i : Nat, vi = .int .i64 i ∧ i ≤ k.length ∧ k.take i = l.take i ∧ ∃ n, wr = w.drewN n) (fun vi _ => k.length - (intOf vi).toNat)
    case atStart => exact ⟨0, rfl, Nat.zero_le _, by simp, 0, rfl⟩
    case round =>
      obtain ⟨i, rfl, hi, ht, n, rfl⟩ := hrel
      by_cases hlt : i < k.length
      · have hlt2 : i < l.length := by rw [← HLEN.out]; exact hlt
        rcases HK.out with h0 | ⟨b, off, rfl, hb, hc⟩
        · exact absurd hlt (by rw [h0]; simp)
        rcases HL.out with h0 | ⟨b2, off2, rfl, hb2, hc2⟩
        · exact absurd hlt2 (by rw [h0]; simp)
        have hx := fun n => ((below_drewN (Below.refl _ w) n).cell (p := ⟨b, off + i, none⟩) hb).trans (hc i hlt)
        have hy := fun n => ((below_drewN (Below.refl _ w) n).cell (p := ⟨b2, off2 + i, none⟩) hb2).trans (hc2 i hlt2)
        have hs1 : k.take (i + 1) = k.take i ++ [k[i]] := List.take_succ_eq_append_getElem hlt
        have hs2 : l.take (i + 1) = l.take i ++ [l[i]] := List.take_succ_eq_append_getElem hlt2
        have hne : k[i] ≠ l[i] → k ≠ l := fun h e => h (by subst e; rfl)
        generalize k[i] = s at hx hs1 hne
        generalize l[i] = t at hy hs2 hne
        have HT := Lib.hid ht
        have HS1 := Lib.hid hs1
        have HS2 := Lib.hid hs2
        have HNE := Lib.hid hne
        clear ht hs1 hs2 hne hc hc2
        by_cases hst : s = t
        · subst hst
          have HN : Hid (k.take (i + 1) = l.take (i + 1)) := Lib.hid (by rw [HS1.out, HS2.out, HT.out])
          go_wp2_with fail
          go_quiet (fail)
          clear hx hy
          go_wp2_with fail
          go_roundw
          case rel => exact ⟨i + 1, by go_num, by omega, HN.out, _, by first | rfl | exact World.drewN_drewN _ _ _⟩
          case measure => simp [intOf]; omega
        · have e1 : (s.toList == t.toList) = false := by rw [beq_eq_false_iff_ne]; exact fun e => hst (toList_inj _ _ e)
          have e2 : (s.toList != t.toList) = true := by rw [bne, e1]; rfl
          have HANS := Lib.hid (HNE.out hst)
          clear hst
          go_wp2_with fail
          go_quiet (fail)
          clear hx hy
          go_wp2_with fail
          go_ret
          exact ⟨by rw [decide_eq_false HANS.out]; rfl, _, by first | rfl | exact World.drewN_drewN _ _ _⟩
      · obtain rfl : i = k.length := by omega
        rw [List.take_length, HLEN.out, List.take_length] at ht
        have HT := Lib.hid ht
        clear ht
        go_wp2_with fail
        go_ret
        exact ⟨by rw [decide_eq_true HT.out]; rfl, n, rfl⟩
  · have d1 : ((k.length : Int) != (l.length : Int)) = true := by simp; omega
    have d1' : (k.length != l.length) = true := by simp; omega
    have HANS : Hid (k ≠ l) := Lib.hid fun e => hlen (by rw [e])
    clear hlen
    go_enter Tryd.func51, Tryd.ntmps51
    go_wp2_with fail
    go_ret
    exact ⟨by rw [decide_eq_false HANS.out]; rfl, 0, rfl⟩

theorem eql_m12 (x m : Mt) (w : World) : (binOp .eql 62 (.agg #[.string x.name, .bool x.not, .string x.value]) (.agg #[.string m.name, .bool m.not, .string m.value])).run Tryd.prog w = .ok (.bool (decide (x = m))) w := by
  obtain ⟨xn, xb, xv⟩ := x
  obtain ⟨mn, mb, mv⟩ := m
  by_cases hn : xn = mn
  · subst hn
    by_cases hb : xb = mb
    · subst hb
      by_cases hv : xv = mv
      · subst hv
        rw [decide_eq_true rfl]
        go_simp
      · have ht : (xv.toList == mv.toList) = false := by rw [beq_eq_false_iff_ne]; exact fun e => hv (toList_inj _ _ e)
        rw [decide_eq_false (fun e => hv (by injection e))]
        go_simp
    · have ht : (xb == mb) = false := by simp [hb]
      rw [decide_eq_false (fun e => hb (by injection e))]
      go_simp
  · have ht : (xn.toList == mn.toList) = false := by rw [beq_eq_false_iff_ne]; exact fun e => hn (toList_inj _ _ e)
    rw [decide_eq_false (fun e => hn (by injection e))]
    go_simp

theorem neq_m12 (x m : Mt) (w : World) : (binOp .neq 62 (.agg #[.string x.name, .bool x.not, .string x.value]) (.agg #[.string m.name, .bool m.not, .string m.value])).run Tryd.prog w = .ok (.bool (!decide (x = m))) w := by
  obtain ⟨xn, xb, xv⟩ := x
  obtain ⟨mn, mb, mv⟩ := m
  by_cases hn : xn = mn
  · subst hn
    by_cases hb : xb = mb
    · subst hb
      by_cases hv : xv = mv
      · subst hv
        rw [decide_eq_true rfl]
        go_simp
      · have ht : (xv.toList == mv.toList) = false := by rw [beq_eq_false_iff_ne]; exact fun e => hv (toList_inj _ _ e)
        rw [decide_eq_false (fun e => hv (by injection e))]
        go_simp
    · have ht : (xb == mb) = false := by simp [hb]
      rw [decide_eq_false (fun e => hb (by injection e))]
      go_simp
  · have ht : (xn.toList == mn.toList) = false := by rw [beq_eq_false_iff_ne]; exact fun e => hn (toList_inj _ _ e)
    rw [decide_eq_false (fun e => hn (by injection e))]
    go_simp

/-- A box of a question's cells. -/
def KB (PX : Array Value) (w : World) (v : Value) (B0 : Nat) : Prop := ∃ b, v = .pointer (some ⟨b, 0, none⟩) ∧ B0 ≤ b ∧ (Bl w b 25 #[.int .i64 0, .int .i64 0, .int .i64 0, .slice none 0 0, .slice none 0 0] ∨ Bl w b 25 PX)
/-- It is filled. -/
def KF (PX : Array Value) (w : World) (v : Value) (B0 : Nat) : Prop := ∃ b, v = .pointer (some ⟨b, 0, none⟩) ∧ B0 ≤ b ∧ Bl w b 25 PX
def SV (XC YC PX PY : Array Value) (B0 : Nat) (j : Nat) (ys : Nat → Value) (w : World) : Prop :=
  match j with
  | 0 => ys 0 = .agg XC
  | 1 => ys 1 = .agg PX
  | 2 => ys 2 = .agg YC
  | 3 => ys 3 = .agg PY
  | 4 => KB PX w (ys 4) B0
  | 5 => KB PY w (ys 5) B0
  | 6 => KF PX w (ys 4) B0
  | 7 => KF PY w (ys 5) B0
  | _ => True
def SR (PX PY : Array Value) (i : Nat) (ys : Nat → Value) (w w' : World) : Prop :=
  match i with
  | 6 => ∃ b, ys 4 = .pointer (some ⟨b, 0, none⟩) ∧ ys 5 ≠ .pointer (some ⟨b, 0, none⟩) ∧ Bl w' b 25 PX ∧ Keep (fun k => k = b) w w'
  | 7 => ∃ b, ys 5 = .pointer (some ⟨b, 0, none⟩) ∧ ys 4 ≠ .pointer (some ⟨b, 0, none⟩) ∧ Bl w' b 25 PY ∧ Keep (fun k => k = b) w w'
  | _ => Below w.heap.size w w'
/-- What holds whatever is done. -/
def SI (w0 : World) (ys : Nat → Value) (w : World) : Prop :=
  Below w0.heap.size w0 w ∧ (∀ b, ys 4 = .pointer (some ⟨b, 0, none⟩) → w0.heap.size ≤ b ∧ b < w.heap.size) ∧ (∀ b, ys 5 = .pointer (some ⟨b, 0, none⟩) → w0.heap.size ≤ b ∧ b < w.heap.size) ∧ (∀ b, ys 4 = .pointer (some ⟨b, 0, none⟩) → ys 5 ≠ .pointer (some ⟨b, 0, none⟩))

theorem SI.step {w0 W W' : World} {ys : Nat → Value} (h : SI w0 ys W) (hb : Below W.heap.size W W') {i : Nat} (h4 : i ≠ 4) (h5 : i ≠ 5) (v : Value) : SI w0 (H3.upd ys i v) W' := by
  obtain ⟨a1, a2, a3, a4⟩ := h
  have e4 : H3.upd ys i v 4 = ys 4 := H3.upd_other ys v (Ne.symm h4)
  have e5 : H3.upd ys i v 5 = ys 5 := H3.upd_other ys v (Ne.symm h5)
  unfold SI
  rw [e4, e5]
  exact ⟨below_mid12 a1 hb, fun b hb' => ⟨(a2 b hb').1, Nat.lt_of_lt_of_le (a2 b hb').2 hb.size⟩, fun b hb' => ⟨(a3 b hb').1, Nat.lt_of_lt_of_le (a3 b hb').2 hb.size⟩, a4⟩
theorem KB.below {PX : Array Value} {w w' : World} {v : Value} {B0 : Nat} (h : KB PX w v B0) (hb : Below w.heap.size w w') : KB PX w' v B0 := by
  obtain ⟨b, h1, h2, h3 | h3⟩ := h
  · exact ⟨b, h1, h2, .inl (h3.below hb)⟩
  · exact ⟨b, h1, h2, .inr (h3.below hb)⟩
theorem KF.below {PX : Array Value} {w w' : World} {v : Value} {B0 : Nat} (h : KF PX w v B0) (hb : Below w.heap.size w w') : KF PX w' v B0 := by
  obtain ⟨b, h1, h2, h3⟩ := h
  exact ⟨b, h1, h2, h3.below hb⟩
theorem Bl.keepb {W W' : World} {b c : Nat} {t : TypeId} {arr : Array Value} (h : Bl W b t arr) (hk : Keep (fun k => k = c) W W') (hne : b ≠ c) : Bl W' b t arr := (hk.block b h.lt hne).trans h
theorem KB.other {PX : Array Value} {w w' : World} {v : Value} {B0 c : Nat} (h : KB PX w v B0) (hk : Keep (fun k => k = c) w w') (hne : v ≠ .pointer (some ⟨c, 0, none⟩)) : KB PX w' v B0 := by
  obtain ⟨b, h1, h2, h3⟩ := h
  have hbc : b ≠ c := fun e => hne (by rw [h1, e])
  exact ⟨b, h1, h2, h3.imp (fun h => h.keepb hk hbc) fun h => h.keepb hk hbc⟩
theorem KF.other {PX : Array Value} {w w' : World} {v : Value} {B0 c : Nat} (h : KF PX w v B0) (hk : Keep (fun k => k = c) w w') (hne : v ≠ .pointer (some ⟨c, 0, none⟩)) : KF PX w' v B0 := by
  obtain ⟨b, h1, h2, h3⟩ := h
  have hbc : b ≠ c := fun e => hne (by rw [h1, e])
  exact ⟨b, h1, h2, h3.keepb hk hbc⟩
theorem Bl.setS {W : World} {B : Nat} {t : TypeId} {arr : Array Value} (h : Bl W B t arr) (i : Nat) (u : Value) : Bl (W.setCell ⟨B, i, none⟩ u) B t (arr.setIfInBounds i u) := by
  obtain ⟨hlt, hk⟩ := Array.getElem?_eq_some_iff.1 h
  show (W.heap.modify B _)[B]? = _
  rw [Array.getElem?_eq_getElem (by rw [Array.size_modify]; exact hlt), Array.getElem_modify_self, hk]
  rfl
theorem keep_setS {W W' : World} {b : Nat} (h : Keep (fun k => k = b) W W') (i : Nat) (u : Value) : Keep (fun k => k = b) W (W'.setCell ⟨b, i, none⟩ u) :=
  ⟨h.os, h.tape, h.output, by simpa [World.setCell] using h.size, h.drawn, fun k hk hn => (Below.heap_setCell _ ⟨b, i, none⟩ u k (fun e => hn e)).trans (h.block k hk hn)⟩
/-- It is filled with five cells. -/
theorem fill5 {W : World} {b : Nat} {t : TypeId} {u0 u1 u2 u3 u4 : Value} (h : Bl W b t #[u0, u1, u2, u3, u4]) (v0 v1 v2 v3 v4 : Value) :
    Bl (((((W.setCell ⟨b, 0, none⟩ v0).setCell ⟨b, 1, none⟩ v1).setCell ⟨b, 2, none⟩ v2).setCell ⟨b, 3, none⟩ v3).setCell ⟨b, 4, none⟩ v4) b t #[v0, v1, v2, v3, v4] ∧
    Keep (fun k => k = b) W (((((W.setCell ⟨b, 0, none⟩ v0).setCell ⟨b, 1, none⟩ v1).setCell ⟨b, 2, none⟩ v2).setCell ⟨b, 3, none⟩ v3).setCell ⟨b, 4, none⟩ v4) := by
  refine ⟨?_, keep_setS (keep_setS (keep_setS (keep_setS (keep_setS (Keep.refl _ _) _ _) _ _) _ _) _ _) _ _⟩
  have h1 := h.setS 0 v0
  simp only [List.setIfInBounds_toArray, List.set_cons_zero] at h1
  have h2 := h1.setS 1 v1
  simp only [List.setIfInBounds_toArray, List.set_cons_zero, List.set_cons_succ] at h2
  have h3 := h2.setS 2 v2
  simp only [List.setIfInBounds_toArray, List.set_cons_zero, List.set_cons_succ] at h3
  have h4 := h3.setS 3 v3
  simp only [List.setIfInBounds_toArray, List.set_cons_zero, List.set_cons_succ] at h4
  have h5 := h4.setS 4 v4
  simp only [List.setIfInBounds_toArray, List.set_cons_zero, List.set_cons_succ] at h5
  exact h5
theorem SI.fill {w0 W W' : World} {ys : Nat → Value} {b : Nat} (h : SI w0 ys W) (hb : w0.heap.size ≤ b) (hk : Keep (fun k => k = b) W W') {i : Nat} (h4 : i ≠ 4) (h5 : i ≠ 5) (v : Value) : SI w0 (H3.upd ys i v) W' := by
  obtain ⟨a1, a2, a3, a4⟩ := h
  have e4 : H3.upd ys i v 4 = ys 4 := H3.upd_other ys v (Ne.symm h4)
  have e5 : H3.upd ys i v 5 = ys 5 := H3.upd_other ys v (Ne.symm h5)
  unfold SI
  rw [e4, e5]
  exact ⟨⟨hk.os.trans a1.os, hk.tape.trans a1.tape, hk.output.trans a1.output, Nat.le_trans a1.size hk.size, fun k hlt => (hk.block k (Nat.lt_of_lt_of_le hlt a1.size) (by omega)).trans (a1.block k hlt)⟩,
    fun b hb' => ⟨(a2 b hb').1, Nat.lt_of_lt_of_le (a2 b hb').2 hk.size⟩, fun b hb' => ⟨(a3 b hb').1, Nat.lt_of_lt_of_le (a3 b hb').2 hk.size⟩, a4⟩

theorem no_iff {P : Prop} (h : ¬ P) : (false = true ↔ P) := ⟨fun e => absurd e (by decide), fun e => absurd e h⟩
theorem yes_iff {P : Prop} (h : P) : (true = true ↔ P) := ⟨fun _ => h, fun _ => rfl⟩

theorem sv_keep {XC YC PX PY : Array Value} {B0 : Nat} {i j : Nat} {ys : Nat → Value} {v : Value} {W W' : World} (hij : i ≠ j) (h6 : j = 6 → i ≠ 4) (h7 : j = 7 → i ≠ 5) (hj : j < 8) (hV : SV XC YC PX PY B0 j ys W) (hR : SR PX PY i ys W W') : SV XC YC PX PY B0 j (H3.upd ys i v) W' := by
  have hcase : (∃ b, i = 6 ∧ ys 4 = .pointer (some ⟨b, 0, none⟩) ∧ ys 5 ≠ .pointer (some ⟨b, 0, none⟩) ∧ Bl W' b 25 PX ∧ Keep (fun k => k = b) W W') ∨ (∃ b, i = 7 ∧ ys 5 = .pointer (some ⟨b, 0, none⟩) ∧ ys 4 ≠ .pointer (some ⟨b, 0, none⟩) ∧ Bl W' b 25 PY ∧ Keep (fun k => k = b) W W') ∨ Below W.heap.size W W' := by
    unfold SR at hR
    split at hR
    · obtain ⟨b, h⟩ := hR; exact .inl ⟨b, rfl, h⟩
    · obtain ⟨b, h⟩ := hR; exact .inr (.inl ⟨b, rfl, h⟩)
    · exact .inr (.inr hR)
  match j, hj, hV with
  | 0, _, hV => exact (H3.upd_other ys v (Ne.symm hij)).trans hV
  | 1, _, hV => exact (H3.upd_other ys v (Ne.symm hij)).trans hV
  | 2, _, hV => exact (H3.upd_other ys v (Ne.symm hij)).trans hV
  | 3, _, hV => exact (H3.upd_other ys v (Ne.symm hij)).trans hV
  | 4, _, hV =>
    show KB PX W' (H3.upd ys i v 4) B0
    rw [H3.upd_other ys v (Ne.symm hij)]
    have hV : KB PX W (ys 4) B0 := hV
    rcases hcase with ⟨b, _, e1, _, e3, _⟩ | ⟨b, _, _, e2, _, e4⟩ | h
    · obtain ⟨b', g1, g2, _⟩ := hV
      exact ⟨b, e1, by rw [e1] at g1; injection g1 with g1; injection g1 with g1; injection g1 with g1; omega, .inr e3⟩
    · exact hV.other e4 e2
    · exact hV.below h
  | 5, _, hV =>
    show KB PY W' (H3.upd ys i v 5) B0
    rw [H3.upd_other ys v (Ne.symm hij)]
    have hV : KB PY W (ys 5) B0 := hV
    rcases hcase with ⟨b, _, _, e2, _, e4⟩ | ⟨b, _, e1, _, e3, _⟩ | h
    · exact hV.other e4 e2
    · obtain ⟨b', g1, g2, _⟩ := hV
      exact ⟨b, e1, by rw [e1] at g1; injection g1 with g1; injection g1 with g1; injection g1 with g1; omega, .inr e3⟩
    · exact hV.below h
  | 6, _, hV =>
    show KF PX W' (H3.upd ys i v 4) B0
    rw [H3.upd_other ys v (Ne.symm (h6 rfl))]
    have hV : KF PX W (ys 4) B0 := hV
    rcases hcase with ⟨b, e, _⟩ | ⟨b, _, _, e2, _, e4⟩ | h
    · exact absurd e hij
    · exact hV.other e4 e2
    · exact hV.below h
  | 7, _, hV =>
    show KF PY W' (H3.upd ys i v 5) B0
    rw [H3.upd_other ys v (Ne.symm (h7 rfl))]
    have hV : KF PY W (ys 5) B0 := hV
    rcases hcase with ⟨b, _, _, e2, _, e4⟩ | ⟨b, e, _⟩ | h
    · exact hV.other e4 e2
    · exact absurd e hij
    · exact hV.below h

set_option maxHeartbeats 8000000 in
set_option maxRecDepth 100000 in
theorem same_any12 (x y : Ask) (xa xm ya ym : Value) (w : World) (h1 : TextsAt w xa x.all) (h2 : MsAt w xm x.mat) (h3 : TextsAt w ya y.all) (h4 : MsAt w ym y.mat) :
    Calls Tryd.prog 22 #[.agg (x.cells xa xm), .agg (y.cells ya ym)] w fun e w' => ∃ r : Bool, e = .returned (.bool r) ∧ (r = true ↔ x.plain = y.plain) ∧ Below w.heap.size w w' := by
  have hpx := plain_texts h1
  have hmx := plain_mats h2
  have hpy := plain_texts h3
  have hmy := plain_mats h4
  obtain ⟨xa1, xc1, rfl, hz1, hz2⟩ := id h1
  obtain ⟨xa2, xc2, rfl, hz3, hz4⟩ := id h2
  obtain ⟨ya1, yc1, rfl, hz5, hz6⟩ := id h3
  obtain ⟨ya2, yc2, rfl, hz7, hz8⟩ := id h4
  clear hz1 hz2 hz3 hz4 hz5 hz6 hz7 hz8
  have HX := Lib.hid (fun W => askPlain_any x xa1 xa2 x.all.length xc1 x.mat.length xc2 W)
  have HY := Lib.hid (fun W => askPlain_any y ya1 ya2 y.all.length yc1 y.mat.length yc2 W)
  obtain ⟨w1, hw1⟩ : ∃ w1, w1 = w.alloc (.cells (x.cells (.slice xa1 x.all.length xc1) (.slice xa2 x.mat.length xc2)) 25) := ⟨_, rfl⟩
  have hs1 : w1.heap.size = w.heap.size + 1 := by rw [hw1]; simp
  have hb1 : Below w.heap.size w w1 := by rw [hw1]; exact (Below.refl _ w).alloc (Nat.le_refl _) _
  have hk1 : Bl w1 w.heap.size 25 (x.cells (.slice xa1 x.all.length xc1) (.slice xa2 x.mat.length xc2)) := by rw [hw1]; exact Bl.new w 25 _
  obtain ⟨w2, hw2⟩ : ∃ w2, w2 = w1.alloc (.cells (y.cells (.slice ya1 y.all.length yc1) (.slice ya2 y.mat.length yc2)) 25) := ⟨_, rfl⟩
  have hb2 : Below w1.heap.size w1 w2 := by rw [hw2]; exact (Below.refl _ w1).alloc (Nat.le_refl _) _
  have hk2 : Bl w2 (w.heap.size + 1) 25 (y.cells (.slice ya1 y.all.length yc1) (.slice ya2 y.mat.length yc2)) := by rw [hw2, ← hs1]; exact Bl.new w1 25 _
  have hk1' := hk1.below hb2
  have hb2' := below_mid12 hb1 hb2
  rw [hw1] at hw2
  have HW2 := Lib.hid hw2.symm
  have HB2 := Lib.hid hb2'
  have HK1 := Lib.hid hk1'
  have HK2 := Lib.hid hk2
  have HPX := Lib.hid hpx
  have HMX := Lib.hid hmx
  have HPY := Lib.hid hpy
  have HMY := Lib.hid hmy
  obtain ⟨a3, c3, e3, hz1, hz2⟩ := id hpx
  obtain ⟨a4, c4, e4, hz3, hz4⟩ := id hmx
  obtain ⟨b3, d3, f3, hz5, hz6⟩ := id hpy
  obtain ⟨b4, d4, f4, hz7, hz8⟩ := id hmy
  rw [e3, e4] at HX
  rw [f3, f4] at HY
  rw [e3] at HPX
  rw [e4] at HMX
  rw [f3] at HPY
  rw [f4] at HMY
  clear h1 h2 h3 h4 hpx hmx hpy hmy hw1 hw2 hs1 hb1 hb2 hk1 hk2 hk1' hb2' e3 e4 f3 f4 hz1 hz2 hz3 hz4 hz5 hz6 hz7 hz8
  simp only [Ask.cells] at HX HY HW2 HK1 HK2 ⊢
  go_enter Tryd.func22, Tryd.ntmps22
  go_upto_region 1 with fail
  rw [HW2.out]
  have HDR : Hid (Below w2.heap.size w2 w2.drew) := Lib.hid ⟨rfl, rfl, rfl, Nat.le_refl _, fun _ _ => rfl⟩
  refine (wpIn_wide (n := 9)).1 ?_
  refine H3.wpIn_region_flow (fun _ => trivial) (by kernel_rfl) (fun _ ys W => SI w2 ys W) (SR #[.int .i64 x.plain.kd, .int .i64 x.plain.src, .int .i64 x.plain.til, .slice a3 x.plain.all.length c3, .slice a4 x.plain.mat.length c4] #[.int .i64 y.plain.kd, .int .i64 y.plain.src, .int .i64 y.plain.til, .slice b3 y.plain.all.length d3, .slice b4 y.plain.mat.length d4]) (SV #[.int .i64 x.kd, .int .i64 x.src, .int .i64 x.til, .slice xa1 x.all.length xc1, .slice xa2 x.mat.length xc2] #[.int .i64 y.kd, .int .i64 y.src, .int .i64 y.til, .slice ya1 y.all.length yc1, .slice ya2 y.mat.length yc2] #[.int .i64 x.plain.kd, .int .i64 x.plain.src, .int .i64 x.plain.til, .slice a3 x.plain.all.length c3, .slice a4 x.plain.mat.length c4] #[.int .i64 y.plain.kd, .int .i64 y.plain.src, .int .i64 y.plain.til, .slice b3 y.plain.all.length d3, .slice b4 y.plain.mat.length d4] w2.heap.size) (fun j => j == 6 || j == 7) (by kernel_rfl) (by kernel_rfl) ?hst ?hI ?step ?fin
  case hst =>
    intro i j ys v W W' hij hanc hned hV hR
    by_cases hj : j < 8
    · exact sv_keep hij (fun e1 e2 => by subst e1 e2; cases hanc.symm.trans (by kernel_rfl : _ = true)) (fun e1 e2 => by subst e1 e2; cases hanc.symm.trans (by kernel_rfl : _ = true)) hj hV hR
    · match j, hj with
      | j + 8, _ => trivial
  case hI =>
    refine ⟨HDR.out, fun b h => ?_, fun b h => ?_, fun b h => ?_⟩
    · have h' : (undef : Value) = .pointer (some ⟨b, 0, none⟩) := h
      cases h'
    · have h' : (undef : Value) = .pointer (some ⟨b, 0, none⟩) := h
      cases h'
    · have h' : (undef : Value) = .pointer (some ⟨b, 0, none⟩) := h
      cases h'
  case step =>
    refine ⟨?_, ?_, ?_, ?_, ?_, ?_, ?_, ?_, trivial⟩
    · intro listed ys X W hsz hsd hi2 hall hX hI hd K hK
      have e2 : X.tmps.getD 2 undef = .pointer (some ⟨w.heap.size, 0, none⟩) := hX 2 (Nat.le_of_ble_eq_true rfl)
      have hq := Bl.below HK1.out hI.1
      have c0 := hq.cell 0
      have c1 := hq.cell 1
      have c2 := hq.cell 2
      have c3 := hq.cell 3
      have c4 := hq.cell 4
      simp only [List.getElem?_toArray, List.getElem?_cons_succ, List.getElem?_cons_zero] at c0 c1 c2 c3 c4
      have HI := Lib.hid hI
      refine H3.step_run (.inl rfl) ?_
      clear hX hd hq hI
      go_simp
      exact hK _ _ (HI.out.step (Below.refl _ _) (by decide) (by decide) _) (Below.refl _ _) (H3.upd_same _ _ _)
    · intro listed ys X W hsz hsd hi2 hall hX hI hd K hK
      have e9 : X.tmps.getD 9 undef = .agg #[.int .i64 x.kd, .int .i64 x.src, .int .i64 x.til, .slice xa1 x.all.length xc1, .slice xa2 x.mat.length xc2] := (hX 9 (Nat.le_of_ble_eq_true rfl)).trans (hd ⟨0, .data⟩ (by simp) rfl)
      have HI := Lib.hid hI
      refine H3.step_run (.inl rfl) ?_
      clear hX hd hI
      go_simp
      refine ⟨trivial, (callsIn_wide.2 (HX.out W)).mono ?_⟩
      rintro e W4 ⟨rfl, hb⟩
      exact hK _ _ (HI.out.step hb (by decide) (by decide) _) hb (H3.upd_same _ _ _)
    · intro listed ys X W hsz hsd hi2 hall hX hI hd K hK
      have e2 : X.tmps.getD 3 undef = .pointer (some ⟨w.heap.size + 1, 0, none⟩) := hX 3 (Nat.le_of_ble_eq_true rfl)
      have hq := Bl.below HK2.out hI.1
      have c0 := hq.cell 0
      have c1 := hq.cell 1
      have c2 := hq.cell 2
      have c3 := hq.cell 3
      have c4 := hq.cell 4
      simp only [List.getElem?_toArray, List.getElem?_cons_succ, List.getElem?_cons_zero] at c0 c1 c2 c3 c4
      have HI := Lib.hid hI
      refine H3.step_run (.inl rfl) ?_
      clear hX hd hq hI
      go_simp
      exact hK _ _ (HI.out.step (Below.refl _ _) (by decide) (by decide) _) (Below.refl _ _) (H3.upd_same _ _ _)
    · intro listed ys X W hsz hsd hi2 hall hX hI hd K hK
      have e9 : X.tmps.getD 11 undef = .agg #[.int .i64 y.kd, .int .i64 y.src, .int .i64 y.til, .slice ya1 y.all.length yc1, .slice ya2 y.mat.length yc2] := (hX 11 (Nat.le_of_ble_eq_true rfl)).trans (hd ⟨2, .data⟩ (by simp) rfl)
      have HI := Lib.hid hI
      refine H3.step_run (.inl rfl) ?_
      clear hX hd hI
      go_simp
      refine ⟨trivial, (callsIn_wide.2 (HY.out W)).mono ?_⟩
      rintro e W4 ⟨rfl, hb⟩
      exact hK _ _ (HI.out.step hb (by decide) (by decide) _) hb (H3.upd_same _ _ _)
    · intro listed ys X W hsz hsd hi2 hall hX hI hd K hK
      have HI := Lib.hid hI
      refine H3.step_run (.inl rfl) ?_
      clear hX hd hI
      go_simp
      have hb : Below W.heap.size W (W.alloc (.cells #[.int .i64 0, .int .i64 0, .int .i64 0, .slice none 0 0, .slice none 0 0] 25)) := (Below.refl _ W).alloc (Nat.le_refl _) _
      refine hK _ _ ?_ hb ⟨W.heap.size, H3.upd_same _ _ _, HI.out.1.size, .inl (Bl.new W 25 #[.int .i64 0, .int .i64 0, .int .i64 0, .slice none 0 0, .slice none 0 0])⟩
      obtain ⟨a1, a2, a3, a4⟩ := HI.out
      have eo : H3.upd ys 4 (.pointer (some ⟨W.heap.size, 0, none⟩)) 5 = ys 5 := H3.upd_other ys _ (by decide)
      have ej : H3.upd ys 4 (.pointer (some ⟨W.heap.size, 0, none⟩)) 4 = .pointer (some ⟨W.heap.size, 0, none⟩) := H3.upd_same _ _ _
      unfold SI
      rw [eo, ej]
      refine ⟨below_mid12 a1 hb, ?_, ?_, ?_⟩
      · intro b h; injection h with h; injection h with h; injection h with h; exact ⟨by have := a1.size; omega, by simp; omega⟩
      · intro b h; exact ⟨(a3 b h).1, by simp; have := (a3 b h).2; omega⟩
      · intro b h e; injection h with h; injection h with h; injection h with h; have := (a3 b e).2; omega
    · intro listed ys X W hsz hsd hi2 hall hX hI hd K hK
      have HI := Lib.hid hI
      refine H3.step_run (.inl rfl) ?_
      clear hX hd hI
      go_simp
      have hb : Below W.heap.size W (W.alloc (.cells #[.int .i64 0, .int .i64 0, .int .i64 0, .slice none 0 0, .slice none 0 0] 25)) := (Below.refl _ W).alloc (Nat.le_refl _) _
      refine hK _ _ ?_ hb ⟨W.heap.size, H3.upd_same _ _ _, HI.out.1.size, .inl (Bl.new W 25 #[.int .i64 0, .int .i64 0, .int .i64 0, .slice none 0 0, .slice none 0 0])⟩
      obtain ⟨a1, a2, a3, a4⟩ := HI.out
      have eo : H3.upd ys 5 (.pointer (some ⟨W.heap.size, 0, none⟩)) 4 = ys 4 := H3.upd_other ys _ (by decide)
      have ej : H3.upd ys 5 (.pointer (some ⟨W.heap.size, 0, none⟩)) 5 = .pointer (some ⟨W.heap.size, 0, none⟩) := H3.upd_same _ _ _
      unfold SI
      rw [eo, ej]
      refine ⟨below_mid12 a1 hb, ?_, ?_, ?_⟩
      · intro b h; exact ⟨(a2 b h).1, by simp; have := (a2 b h).2; omega⟩
      · intro b h; injection h with h; injection h with h; injection h with h; exact ⟨by have := a1.size; omega, by simp; omega⟩
      · intro b h e; injection e with e; injection e with e; injection e with e; have := (a2 b h).2; omega
    · intro listed ys X W hsz hsd hi2 hall hX hI hd K hK
      obtain ⟨b, g1, g2, g3⟩ : KB #[.int .i64 x.plain.kd, .int .i64 x.plain.src, .int .i64 x.plain.til, .slice a3 x.plain.all.length c3, .slice a4 x.plain.mat.length c4] W (ys 4) w2.heap.size := hd ⟨4, .data⟩ (by simp) rfl
      have e5 : X.tmps.getD 5 undef = .pointer (some ⟨b, 0, none⟩) := (hX 5 (Nat.le_of_ble_eq_true rfl)).trans g1
      have e10 : X.tmps.getD 10 undef = .agg #[.int .i64 x.plain.kd, .int .i64 x.plain.src, .int .i64 x.plain.til, .slice a3 x.plain.all.length c3, .slice a4 x.plain.mat.length c4] := (hX 10 (Nat.le_of_ble_eq_true rfl)).trans (hd ⟨1, .data⟩ (by simp) rfl)
      have hno : ys 5 ≠ .pointer (some ⟨b, 0, none⟩) := hI.2.2.2 b g1
      have HI := Lib.hid hI
      have HG1 := Lib.hid g1
      refine H3.step_run (.inl rfl) ?_
      clear hX hd hI g1
      rcases g3 with g3 | g3
      all_goals
        have hf := fill5 g3 (.int .i64 x.plain.kd) (.int .i64 x.plain.src) (.int .i64 x.plain.til) (.slice a3 x.plain.all.length c3) (.slice a4 x.plain.mat.length c4)
        have HF := Lib.hid hf
        have c0 := g3.cell 0
        have c1 := g3.cell 1
        have c2 := g3.cell 2
        have c3 := g3.cell 3
        have c4 := g3.cell 4
        have z0 := g3.frozen 0
        have z1 := g3.frozen 1
        have z2 := g3.frozen 2
        have z3 := g3.frozen 3
        have z4 := g3.frozen 4
        simp only [List.getElem?_toArray, List.getElem?_cons_succ, List.getElem?_cons_zero] at c0 c1 c2 c3 c4
        clear g3 hf
        go_simp
        exact hK undef _ (HI.out.fill g2 HF.out.2 (by decide) (by decide) _) ⟨b, HG1.out, hno, HF.out.1, HF.out.2⟩ ⟨b, (H3.upd_other ys _ (by decide)).trans HG1.out, g2, HF.out.1⟩
    · intro listed ys X W hsz hsd hi2 hall hX hI hd K hK
      obtain ⟨b, g1, g2, g3⟩ : KB #[.int .i64 y.plain.kd, .int .i64 y.plain.src, .int .i64 y.plain.til, .slice b3 y.plain.all.length d3, .slice b4 y.plain.mat.length d4] W (ys 5) w2.heap.size := hd ⟨5, .data⟩ (by simp) rfl
      have e5 : X.tmps.getD 6 undef = .pointer (some ⟨b, 0, none⟩) := (hX 6 (Nat.le_of_ble_eq_true rfl)).trans g1
      have e10 : X.tmps.getD 12 undef = .agg #[.int .i64 y.plain.kd, .int .i64 y.plain.src, .int .i64 y.plain.til, .slice b3 y.plain.all.length d3, .slice b4 y.plain.mat.length d4] := (hX 12 (Nat.le_of_ble_eq_true rfl)).trans (hd ⟨3, .data⟩ (by simp) rfl)
      have hno : ys 4 ≠ .pointer (some ⟨b, 0, none⟩) := fun e => hI.2.2.2 b e g1
      have HI := Lib.hid hI
      have HG1 := Lib.hid g1
      refine H3.step_run (.inl rfl) ?_
      clear hX hd hI g1
      rcases g3 with g3 | g3
      all_goals
        have hf := fill5 g3 (.int .i64 y.plain.kd) (.int .i64 y.plain.src) (.int .i64 y.plain.til) (.slice b3 y.plain.all.length d3) (.slice b4 y.plain.mat.length d4)
        have HF := Lib.hid hf
        have c0 := g3.cell 0
        have c1 := g3.cell 1
        have c2 := g3.cell 2
        have c3 := g3.cell 3
        have c4 := g3.cell 4
        have z0 := g3.frozen 0
        have z1 := g3.frozen 1
        have z2 := g3.frozen 2
        have z3 := g3.frozen 3
        have z4 := g3.frozen 4
        simp only [List.getElem?_toArray, List.getElem?_cons_succ, List.getElem?_cons_zero] at c0 c1 c2 c3 c4
        clear g3 hf
        go_simp
        exact hK undef _ (HI.out.fill g2 HF.out.2 (by decide) (by decide) _) ⟨b, HG1.out, hno, HF.out.1, HF.out.2⟩ ⟨b, (H3.upd_other ys _ (by decide)).trans HG1.out, g2, HF.out.1⟩
  case fin =>
    intro listed ys W hall hI hV
    obtain ⟨b5, g1, _, g3⟩ : KF #[.int .i64 x.plain.kd, .int .i64 x.plain.src, .int .i64 x.plain.til, .slice a3 x.plain.all.length c3, .slice a4 x.plain.mat.length c4] W (ys 4) w2.heap.size := hV 6 (by decide) rfl
    obtain ⟨b6, g4, _, g6⟩ : KF #[.int .i64 y.plain.kd, .int .i64 y.plain.src, .int .i64 y.plain.til, .slice b3 y.plain.all.length d3, .slice b4 y.plain.mat.length d4] W (ys 5) w2.heap.size := hV 7 (by decide) rfl
    have HBW := Lib.hid (below_mid12 HB2.out hI.1)
    have HB2W := Lib.hid hI.1
    have HG3 := Lib.hid g3
    have HG6 := Lib.hid g6
    clear hI hV hall g3 g6
    simp only [H3.putsFrom]
    simp only [g1, g4, Act.put, List.setIfInBounds_toArray, List.set_cons_succ, List.set_cons_zero]
    clear g1 g4 HK1 HK2 HW2 HX HY HDR
    have HPX := Lib.hid (HPX.out.below HBW.out)
    have HMX := Lib.hid (MsAt.below12 HMX.out HBW.out)
    have HPY := Lib.hid (HPY.out.below HBW.out)
    have HMY := Lib.hid (MsAt.below12 HMY.out HBW.out)
    obtain ⟨X, hX⟩ : ∃ X, X = x.plain := ⟨_, rfl⟩
    obtain ⟨Y, hY⟩ : ∃ Y, Y = y.plain := ⟨_, rfl⟩
    rw [← hX] at HG3 HPX HMX
    rw [← hY] at HG6 HPY HMY
    have HXY : Hid ((X = Y) = (x.plain = y.plain)) := Lib.hid (by rw [hX, hY])
    clear hX hY
    have c0 := fun n => (HG3.out.below (below_drewN (Below.refl _ W) n)).cell 0
    have c1 := fun n => (HG3.out.below (below_drewN (Below.refl _ W) n)).cell 1
    have c2 := fun n => (HG3.out.below (below_drewN (Below.refl _ W) n)).cell 2
    have c3 := fun n => (HG3.out.below (below_drewN (Below.refl _ W) n)).cell 3
    have c4 := fun n => (HG3.out.below (below_drewN (Below.refl _ W) n)).cell 4
    have p0 := HG3.out.cell 0
    have p1 := HG3.out.cell 1
    have p2 := HG3.out.cell 2
    have p3 := HG3.out.cell 3
    have p4 := HG3.out.cell 4
    have d0 := fun n => (HG6.out.below (below_drewN (Below.refl _ W) n)).cell 0
    have d1 := fun n => (HG6.out.below (below_drewN (Below.refl _ W) n)).cell 1
    have d2 := fun n => (HG6.out.below (below_drewN (Below.refl _ W) n)).cell 2
    have d3 := fun n => (HG6.out.below (below_drewN (Below.refl _ W) n)).cell 3
    have d4 := fun n => (HG6.out.below (below_drewN (Below.refl _ W) n)).cell 4
    have q0 := HG6.out.cell 0
    have q1 := HG6.out.cell 1
    have q2 := HG6.out.cell 2
    have q3 := HG6.out.cell 3
    have q4 := HG6.out.cell 4
    simp only [List.getElem?_toArray, List.getElem?_cons_succ, List.getElem?_cons_zero] at c0 c1 c2 c3 c4 d0 d1 d2 d3 d4 p0 p1 p2 p3 p4 q0 q1 q2 q3 q4
    have HC3 := Lib.hid c3
    have HC4 := Lib.hid c4
    have HD3 := Lib.hid d3
    have HD4 := Lib.hid d4
    clear c0 c1 c2 c3 c4 d0 d1 d2 d3 d4
    by_cases e : ¬ X.kd = Y.kd
    · have d1 : (X.kd != Y.kd) = true := by simp [e]
      have HN : Hid (X ≠ Y) := Lib.hid fun h => e (by rw [h])
      clear e
      go_wp2_with fail
      go_ret
      exact ⟨false, rfl, by rw [← HXY.out]; exact no_iff HN.out, HBW.out⟩
    have e := Classical.not_not.1 e
    have t_kd : (X.kd != Y.kd) = false := by simp [e]
    have E_kd := Lib.hid e
    clear e
    by_cases e : ¬ X.src = Y.src
    · have d1 : (X.src != Y.src) = true := by simp [e]
      have HN : Hid (X ≠ Y) := Lib.hid fun h => e (by rw [h])
      clear e
      go_wp2_with fail
      go_ret
      exact ⟨false, rfl, by rw [← HXY.out]; exact no_iff HN.out, HBW.out⟩
    have e := Classical.not_not.1 e
    have t_src : (X.src != Y.src) = false := by simp [e]
    have E_src := Lib.hid e
    clear e
    by_cases e : ¬ X.til = Y.til
    · have d1 : (X.til != Y.til) = true := by simp [e]
      have HN : Hid (X ≠ Y) := Lib.hid fun h => e (by rw [h])
      clear e
      go_wp2_with fail
      go_ret
      exact ⟨false, rfl, by rw [← HXY.out]; exact no_iff HN.out, HBW.out⟩
    have e := Classical.not_not.1 e
    have t_til : (X.til != Y.til) = false := by simp [e]
    have E_til := Lib.hid e
    clear e
    by_cases e : ¬ X.all.length = Y.all.length
    · have d1 : (X.all.length != Y.all.length) = true := by simp [e]
      have d2 : ((X.all.length : Int) != (Y.all.length : Int)) = true := by simp; omega
      have HN : Hid (X ≠ Y) := Lib.hid fun h => e (by rw [h])
      clear e
      go_wp2_with fail
      go_ret
      exact ⟨false, rfl, by rw [← HXY.out]; exact no_iff HN.out, HBW.out⟩
    have e := Classical.not_not.1 e
    have t_all : (X.all.length != Y.all.length) = false := by simp [e]
    have u_all : ((X.all.length : Int) != (Y.all.length : Int)) = false := by simp [e]
    have E_all := Lib.hid e
    clear e
    by_cases e : ¬ X.mat.length = Y.mat.length
    · have d1 : (X.mat.length != Y.mat.length) = true := by simp [e]
      have d2 : ((X.mat.length : Int) != (Y.mat.length : Int)) = true := by simp; omega
      have HN : Hid (X ≠ Y) := Lib.hid fun h => e (by rw [h])
      clear e
      go_wp2_with fail
      go_ret
      exact ⟨false, rfl, by rw [← HXY.out]; exact no_iff HN.out, HBW.out⟩
    have e := Classical.not_not.1 e
    have t_mat : (X.mat.length != Y.mat.length) = false := by simp [e]
    have u_mat : ((X.mat.length : Int) != (Y.mat.length : Int)) = false := by simp [e]
    have E_mat := Lib.hid e
    clear e
    go_upto_region 4 with fail
    clear t_kd t_src t_til t_all u_all t_mat u_mat p0 p1 p2 q0 q1 q2
    go_wp2_with fail
    clear p3 q3
    go_loopw [53] (fun vi wr => ∃ i : Nat, vi = .int .i64 i ∧ i ≤ X.all.length ∧ X.all.take i = Y.all.take i ∧ Below W.heap.size W wr) (fun vi _ => X.all.length - (intOf vi).toNat)
    case atStart => exact ⟨0, rfl, Nat.zero_le _, by simp, Below.refl _ _⟩
    case round =>
      obtain ⟨i, rfl, hi, ht, hbw⟩ := hrel
      have HBR := Lib.hid hbw
      by_cases hlt : i < X.all.length
      · have hlt2 : i < Y.all.length := by rw [← E_all.out]; exact hlt
        obtain ⟨_, _, he, _, hcx⟩ := HPX.out
        obtain ⟨rfl, _, rfl⟩ := by simpa using he
        obtain ⟨_, _, he, _, hcy⟩ := HPY.out
        obtain ⟨rfl, _, rfl⟩ := by simpa using he
        clear he
        rcases hcx with h0 | ⟨b, off, rfl, hb, hc⟩
        · exact absurd hlt (by rw [h0]; simp)
        rcases hcy with h0 | ⟨b2, off2, rfl, hb2, hc2⟩
        · exact absurd hlt2 (by rw [h0]; simp)
        obtain ⟨u, hu, hsu⟩ := hc i hlt
        obtain ⟨v, hv, hsv⟩ := hc2 i hlt2
        have hx := fun n => ((below_drewN hbw n).cell (p := ⟨b, off + i, none⟩) hb).trans hu
        have hy := fun n => ((below_drewN hbw n).cell (p := ⟨b2, off2 + i, none⟩) hb2).trans hv
        have r3 := fun n => (HG3.out.below (below_drewN hbw n)).cell 3
        have s3 := fun n => (HG6.out.below (below_drewN hbw n)).cell 3
        simp only [List.getElem?_toArray, List.getElem?_cons_succ, List.getElem?_cons_zero] at r3 s3
        have hs1 : X.all.take (i + 1) = X.all.take i ++ [X.all[i]] := List.take_succ_eq_append_getElem hlt
        have hs2 : Y.all.take (i + 1) = Y.all.take i ++ [Y.all[i]] := List.take_succ_eq_append_getElem hlt2
        have hne : X.all[i] ≠ Y.all[i] → X ≠ Y := fun h e => h (by subst e; rfl)
        generalize X.all[i] = s at hsu hs1 hne
        generalize Y.all[i] = t at hsv hs2 hne
        have HCL := Lib.hid (fun m => strsSame_any s t u v (wr.drewN m) (hsu.below (below_drewN hbw m)) (hsv.below (below_drewN hbw m)))
        have HT := Lib.hid ht
        have HS1 := Lib.hid hs1
        have HS2 := Lib.hid hs2
        have HNE := Lib.hid hne
        clear ht hs1 hs2 hne hc hc2 hu hv hsu hsv hbw
        by_cases hst : s = t
        · rw [show decide (s = t) = true from decide_eq_true hst] at HCL
          have HN : Hid (X.all.take (i + 1) = Y.all.take (i + 1)) := Lib.hid (by rw [HS1.out, HS2.out, HT.out, hst])
          clear hst
          go_wp2_with fail
          go_quiet ((go_at_call 51; exact Calls.quiet_of (HCL.out _)))
          clear hx hy r3 s3
          go_wp2_with fail
          go_roundw
          case rel => exact ⟨i + 1, by go_num, by omega, HN.out, below_drewN HBR.out _⟩
          case measure => simp [intOf]; omega
        · have HANS := Lib.hid (HNE.out hst)
          rw [show decide (s = t) = false from decide_eq_false hst] at HCL
          clear hst
          go_wp2_with fail
          go_quiet ((go_at_call 51; exact Calls.quiet_of (HCL.out _)))
          clear hx hy r3 s3
          go_wp2_with fail
          go_ret
          exact ⟨false, rfl, by rw [← HXY.out]; exact no_iff HANS.out, below_mid12 HBW.out (below_drewN HBR.out _)⟩
      · obtain rfl : i = X.all.length := by omega
        rw [List.take_length, E_all.out, List.take_length] at ht
        have HALL := Lib.hid ht
        have r4 := (HG3.out.below hbw).cell 4
        have s4 := (HG6.out.below hbw).cell 4
        simp only [List.getElem?_toArray, List.getElem?_cons_succ, List.getElem?_cons_zero] at r4 s4
        clear ht hbw
        go_wp2_with fail
        clear r4 s4
        go_loopw [72] (fun vi wq => ∃ i : Nat, vi = .int .i64 i ∧ i ≤ X.mat.length ∧ X.mat.take i = Y.mat.take i ∧ Below W.heap.size W wq) (fun vi _ => X.mat.length - (intOf vi).toNat)
        case atStart => exact ⟨0, rfl, Nat.zero_le _, by simp, HBR.out⟩
        case round =>
          obtain ⟨i, rfl, hi, ht, hbw⟩ := hrel
          have HBR := Lib.hid hbw
          by_cases hlt : i < X.mat.length
          · have hlt2 : i < Y.mat.length := by rw [← E_mat.out]; exact hlt
            obtain ⟨_, _, he, _, hcx⟩ := HMX.out
            obtain ⟨rfl, _, rfl⟩ := by simpa using he
            obtain ⟨_, _, he, _, hcy⟩ := HMY.out
            obtain ⟨rfl, _, rfl⟩ := by simpa using he
            clear he
            rcases hcx with h0 | ⟨b, off, rfl, hb, hc⟩
            · exact absurd hlt (by rw [h0]; simp)
            rcases hcy with h0 | ⟨b2, off2, rfl, hb2, hc2⟩
            · exact absurd hlt2 (by rw [h0]; simp)
            obtain ⟨u0, u1, u2⟩ := hc i hlt
            obtain ⟨v0, v1, v2⟩ := hc2 i hlt2
            have x0 := fun n => ((below_drewN hbw n).cell (p := ⟨b, off + i * 3, none⟩) hb).trans u0
            have x1 := fun n => ((below_drewN hbw n).cell (p := ⟨b, off + i * 3 + 1, none⟩) hb).trans u1
            have x2 := fun n => ((below_drewN hbw n).cell (p := ⟨b, off + i * 3 + 2, none⟩) hb).trans u2
            have y0 := fun n => ((below_drewN hbw n).cell (p := ⟨b2, off2 + i * 3, none⟩) hb2).trans v0
            have y1 := fun n => ((below_drewN hbw n).cell (p := ⟨b2, off2 + i * 3 + 1, none⟩) hb2).trans v1
            have y2 := fun n => ((below_drewN hbw n).cell (p := ⟨b2, off2 + i * 3 + 2, none⟩) hb2).trans v2
            have r4 := fun n => (HG3.out.below (below_drewN hbw n)).cell 4
            have s4 := fun n => (HG6.out.below (below_drewN hbw n)).cell 4
            simp only [List.getElem?_toArray, List.getElem?_cons_succ, List.getElem?_cons_zero] at r4 s4
            have hs1 : X.mat.take (i + 1) = X.mat.take i ++ [X.mat[i]] := List.take_succ_eq_append_getElem hlt
            have hs2 : Y.mat.take (i + 1) = Y.mat.take i ++ [Y.mat[i]] := List.take_succ_eq_append_getElem hlt2
            have hne : X.mat[i] ≠ Y.mat[i] → X ≠ Y := fun h e => h (by subst e; rfl)
            generalize X.mat[i] = s at x0 x1 x2 u0 u1 u2 hs1 hne
            generalize Y.mat[i] = t at y0 y1 y2 v0 v1 v2 hs2 hne
            have hnq := neq_m12 s t
            have HT := Lib.hid ht
            have HS1 := Lib.hid hs1
            have HS2 := Lib.hid hs2
            have HNE := Lib.hid hne
            clear ht hs1 hs2 hne hc hc2 u0 u1 u2 v0 v1 v2 hbw
            by_cases hst : s = t
            · rw [show decide (s = t) = true from decide_eq_true hst] at hnq
              have HN : Hid (X.mat.take (i + 1) = Y.mat.take (i + 1)) := Lib.hid (by rw [HS1.out, HS2.out, HT.out, hst])
              clear hst
              go_wp2_with fail
              go_quiet (fail)
              clear x0 x1 x2 y0 y1 y2 r4 s4 hnq
              go_wp2_with fail
              go_roundw
              case rel => exact ⟨i + 1, by go_num, by omega, HN.out, below_drewN HBR.out _⟩
              case measure => simp [intOf]; omega
            · have HANS := Lib.hid (HNE.out hst)
              rw [show decide (s = t) = false from decide_eq_false hst] at hnq
              clear hst
              go_wp2_with fail
              go_quiet (fail)
              clear x0 x1 x2 y0 y1 y2 r4 s4 hnq
              go_wp2_with fail
              go_ret
              exact ⟨false, rfl, by rw [← HXY.out]; exact no_iff HANS.out, below_mid12 HBW.out (below_drewN HBR.out _)⟩
          · obtain rfl : i = X.mat.length := by omega
            rw [List.take_length, E_mat.out, List.take_length] at ht
            have HANS : Hid (X = Y) := Lib.hid (Ask.ext' E_kd.out E_src.out E_til.out HALL.out ht)
            clear ht hbw
            go_wp2_with fail
            go_ret
            exact ⟨true, rfl, by rw [← HXY.out]; exact yes_iff HANS.out, below_mid12 HBW.out HBR.out⟩

end Go.Proofs.YtaghogfkkmphoaaDoor.E4
