/-
  tree.Same, slices.Equal: ARE TWO QUERIES THE SAME?
-/
import Derived.Test.YtgmahdeaggjjgaaOwnFilter6
import Derived.Test.YtgmahdeaggjjgaaQuery0
namespace Go.Proofs.Ytgmahdeaggjjgaa
open Go.RowKit Go

/-- Matchers that lie so. -/
def MatsAt (w : World) (a : Option Addr) (l : List Mt) : Prop := l = [] ∨ ∃ b off, a = some ⟨b, off, none⟩ ∧ b < w.heap.size ∧
    ∀ i (h : i < l.length), w.cell? ⟨b, off + i * 3, none⟩ = some (.string l[i].name) ∧ w.cell? ⟨b, off + i * 3 + 1, none⟩ = some (.bool l[i].not) ∧ w.cell? ⟨b, off + i * 3 + 2, none⟩ = some (.string l[i].value)
theorem MatsAt.lay {w w' : World} {a : Option Addr} {l : List Mt} (h : MatsAt w a l) (hl : Lay w w') : MatsAt w' a l :=
  h.imp id fun ⟨b, off, ha, hlt, hc⟩ => ⟨b, off, ha, Nat.lt_of_lt_of_le hlt hl.size, fun i hi => ⟨(hl.cell hlt).trans (hc i hi).1, (hl.cell hlt).trans (hc i hi).2.1, (hl.cell hlt).trans (hc i hi).2.2⟩⟩

set_option maxHeartbeats 4000000 in
set_option maxRecDepth 100000 in
theorem equalMats_any (m m' : List Mt) (a1 a2 : Option Addr) (c1 c2 : Nat) (w : World) (hl1 : m.length ≤ 9223372036854775807) (hl2 : m'.length ≤ 9223372036854775807) (hms : MatsAt w a1 m) (hms' : MatsAt w a2 m') :
    Calls Try.prog 27 #[.slice a1 m.length c1, .slice a2 m'.length c2] w fun e w' => ∃ b, e = .returned (.bool b) ∧ (b = true ↔ m = m') ∧ Lay w w' := by
  have hmx : Try.prog.follows .mixedOrders = true := by kernel_rfl
  have HMS := Lib.hid hms
  have HMS' := Lib.hid hms'
  clear hms hms'
  by_cases hm : m.length = m'.length
  rotate_left
  · have hb : ((m.length : Int) != (m'.length : Int)) = true := by simp; omega
    go_enter Try.func27, Try.ntmps27
    go_wp2_with fail
    go_ret
    exact ⟨false, rfl, ⟨fun h => Bool.noConfusion h, fun h => absurd (congrArg List.length h) hm⟩, Keep.refl _ _⟩
  have hb : ((m.length : Int) != (m'.length : Int)) = false := by simp; omega
  have HM := Lib.hid hm
  clear hm
  go_enter Try.func27, Try.ntmps27
  go_wp2_with fail
  clear hb
  go_loopw [13] (fun vi wr => ∃ i : Nat, vi = .int .i64 i ∧ i ≤ m.length ∧ m.take i = m'.take i ∧ Lay w wr) (fun vi _ => m.length - (intOf vi).toNat)
  case atStart => exact ⟨0, rfl, Nat.zero_le _, rfl, Keep.refl _ _⟩
  case round =>
    obtain ⟨i, rfl, hi, heq, hl⟩ := hrel
    have HL := Lib.hid hl
    have HEQ := Lib.hid heq
    clear heq
    by_cases hlt : i < m.length
    · have hi' : i < m'.length := by rw [← HM.out]; exact hlt
      have hi2 : (i : Int) < (m'.length : Int) := by omega
      rcases HMS.out with h0 | ⟨bx, ox, rfl, hbx, hcx⟩
      · exact absurd hlt (by rw [h0]; simp)
      rcases HMS'.out with h0 | ⟨bz, oz, rfl, hbz, hcz⟩
      · exact absurd hi' (by rw [h0]; simp)
      obtain ⟨e0, e1, e2⟩ := hcx i hlt
      obtain ⟨z0, z1, z2⟩ := hcz i hi'
      have hbx' := Nat.lt_of_lt_of_le hbx hl.size
      have hbz' := Nat.lt_of_lt_of_le hbz hl.size
      have u0 := (hl.cell hbx).trans e0
      have u1 := (hl.cell hbx).trans e1
      have u2 := (hl.cell hbx).trans e2
      have v0 := (hl.cell hbz).trans z0
      have v1 := (hl.cell hbz).trans z1
      have v2 := (hl.cell hbz).trans z2
      have HSN : Hid (m[i] = m'[i]'hi' → m.take (i + 1) = m'.take (i + 1)) := Lib.hid fun e => by
        rw [List.take_succ_eq_append_getElem hlt, List.take_succ_eq_append_getElem hi', HEQ.out, e]
      have HNE : Hid (m[i] ≠ m'[i]'hi' → m ≠ m') := Lib.hid fun h e => by subst e; exact h rfl
      generalize m[i] = x at u0 u1 u2 HSN HNE
      generalize m'[i]'hi' = y at v0 v1 v2 HSN HNE
      obtain ⟨xn, xb, xv⟩ := x
      obtain ⟨yn, yb, yv⟩ := y
      simp only at u0 u1 u2 v0 v1 v2
      clear hcx hcz e0 e1 e2 z0 z1 z2 hl
      by_cases ho : xn = yn
      · subst ho
        by_cases ht : xb = yb
        · subst ht
          by_cases hv : xv = yv
          · subst hv
            go_wp2_with fail
            go_quiet (fail)
            go_wp2_with fail
            go_roundw
            case rel => exact ⟨i + 1, by go_num, by omega, HSN.out (by trivial), Keep.trans HL.out ((Keep.refl _ _).drewN _)⟩
            case measure => simp [intOf]; omega
          · have ht' : (xv.toList == yv.toList) = false := by rw [beq_eq_false_iff_ne]; exact fun e => hv (toList_inj _ _ e)
            go_wp2_with fail
            go_quiet (fail)
            go_wp2_with fail
            go_ret
            exact ⟨false, rfl, ⟨fun h => Bool.noConfusion h, fun h => absurd h (HNE.out (fun e => hv (by injection e)))⟩, Keep.trans HL.out ((Keep.refl _ _).drewN _)⟩
        · have ht' : (xb == yb) = false := by simp [ht]
          go_wp2_with fail
          go_quiet (fail)
          go_wp2_with fail
          go_ret
          exact ⟨false, rfl, ⟨fun h => Bool.noConfusion h, fun h => absurd h (HNE.out (fun e => ht (by injection e)))⟩, Keep.trans HL.out ((Keep.refl _ _).drewN _)⟩
      · have ht' : (xn.toList == yn.toList) = false := by rw [beq_eq_false_iff_ne]; exact fun e => ho (toList_inj _ _ e)
        go_wp2_with fail
        go_quiet (fail)
        go_wp2_with fail
        go_ret
        exact ⟨false, rfl, ⟨fun h => Bool.noConfusion h, fun h => absurd h (HNE.out (fun e => ho (by injection e)))⟩, Keep.trans HL.out ((Keep.refl _ _).drewN _)⟩
    · obtain rfl : i = m.length := by omega
      have hmm : m = m' := by
        have := HEQ.out
        rw [List.take_length, HM.out, List.take_length] at this
        exact this
      have HMM := Lib.hid hmm
      clear hmm hl
      go_wp2_with fail
      go_ret
      exact ⟨true, rfl, ⟨fun _ => HMM.out, fun _ => rfl⟩, HL.out⟩

set_option maxHeartbeats 8000000 in
set_option maxRecDepth 100000 in
theorem ownSame_any (p q : Qy) (w : World) (va vb : Value) (hp : QAt w va p) (hq : QAt w vb q)  :
    Calls Try.prog 17 #[va, vb] w fun e w' => ∃ b, e = .returned (.bool b) ∧ (b = true ↔ p = q) ∧ Lay w w' := by
  obtain ⟨mv, kv, rfl, hm, hk⟩ := hp
  obtain ⟨mv', kv', rfl, hm', hk'⟩ := hq
  obtain ⟨s, t, m, f, d, n, g⟩ := p
  obtain ⟨s', t', m', f', d', n', g'⟩ := q
  obtain ⟨a1, c1, rfl, hl1, hms⟩ := hm
  obtain ⟨a2, c2, rfl, hl2, hms'⟩ := hm'
  unfold Qy.val
  simp only at hl1 hl2 hms hms' hk hk' ⊢
  have HE := Lib.hid fun W (h : Lay w W) => equalMats_any m m' a1 a2 c1 c2 W hl1 hl2 (MatsAt.lay hms h) (MatsAt.lay hms' h)
  have HF := Lib.hid fun W (h : Lay w W) => ownFilter_any f.count f f' W (f.val kv) (f'.val kv') (Nat.le_refl _) ⟨_, rfl, KsAt.below h.below _ _ hk⟩ ⟨_, rfl, KsAt.below h.below _ _ hk'⟩
  clear hms hms' hk hk'
  unfold Ft.val at HF
  obtain ⟨W, hW⟩ : ∃ W, W = (w.alloc (.cells #[.int .i64 s, .int .i64 t, .slice a1 m.length c1, .int .i64 f.op, .string f.name, .string f.text, kv, .bool d, .int .i64 n, .string g] 36)).alloc (.cells #[.int .i64 s', .int .i64 t', .slice a2 m'.length c2, .int .i64 f'.op, .string f'.name, .string f'.text, kv', .bool d', .int .i64 n', .string g'] 36) := ⟨_, rfl⟩
  have HLW : Hid (Lay w W) := Lib.hid (by rw [hW]; exact ((Keep.refl _ _).alloc _).alloc _)
  have s0 : w.heap.size < W.heap.size := by rw [hW]; simp; omega
  have s1 : w.heap.size + 1 < W.heap.size := by rw [hW]; simp
  have x0 : W.cell? ⟨w.heap.size, 0, none⟩ = some (.int .i64 s) := by rw [hW]; go_simp
  have x1 : W.cell? ⟨w.heap.size, 1, none⟩ = some (.int .i64 t) := by rw [hW]; go_simp
  have x2 : W.cell? ⟨w.heap.size, 2, none⟩ = some (.slice a1 m.length c1) := by rw [hW]; go_simp
  have x3 : W.cell? ⟨w.heap.size, 3, none⟩ = some (.int .i64 f.op) := by rw [hW]; go_simp
  have x4 : W.cell? ⟨w.heap.size, 4, none⟩ = some (.string f.name) := by rw [hW]; go_simp
  have x5 : W.cell? ⟨w.heap.size, 5, none⟩ = some (.string f.text) := by rw [hW]; go_simp
  have x6 : W.cell? ⟨w.heap.size, 6, none⟩ = some kv := by rw [hW]; go_simp
  have x7 : W.cell? ⟨w.heap.size, 7, none⟩ = some (.bool d) := by rw [hW]; go_simp
  have x8 : W.cell? ⟨w.heap.size, 8, none⟩ = some (.int .i64 n) := by rw [hW]; go_simp
  have x9 : W.cell? ⟨w.heap.size, 9, none⟩ = some (.string g) := by rw [hW]; go_simp
  have y0 : W.cell? ⟨w.heap.size + 1, 0, none⟩ = some (.int .i64 s') := by rw [hW]; go_simp
  have y1 : W.cell? ⟨w.heap.size + 1, 1, none⟩ = some (.int .i64 t') := by rw [hW]; go_simp
  have y2 : W.cell? ⟨w.heap.size + 1, 2, none⟩ = some (.slice a2 m'.length c2) := by rw [hW]; go_simp
  have y3 : W.cell? ⟨w.heap.size + 1, 3, none⟩ = some (.int .i64 f'.op) := by rw [hW]; go_simp
  have y4 : W.cell? ⟨w.heap.size + 1, 4, none⟩ = some (.string f'.name) := by rw [hW]; go_simp
  have y5 : W.cell? ⟨w.heap.size + 1, 5, none⟩ = some (.string f'.text) := by rw [hW]; go_simp
  have y6 : W.cell? ⟨w.heap.size + 1, 6, none⟩ = some kv' := by rw [hW]; go_simp
  have y7 : W.cell? ⟨w.heap.size + 1, 7, none⟩ = some (.bool d') := by rw [hW]; go_simp
  have y8 : W.cell? ⟨w.heap.size + 1, 8, none⟩ = some (.int .i64 n') := by rw [hW]; go_simp
  have y9 : W.cell? ⟨w.heap.size + 1, 9, none⟩ = some (.string g') := by rw [hW]; go_simp
  have HW := Lib.hid hW.symm
  clear hW
  by_cases hs : s = s'
  rotate_left
  · have hb : (s == s') = false := by simp [hs]
    go_enter Try.func17, Try.ntmps17
    go_wp2_with fail
    go_ret
    rw [HW.out]
    exact ⟨false, rfl, ⟨fun h => Bool.noConfusion h, fun h => absurd (congrArg Qy.src h) hs⟩, HLW.out⟩
  subst hs
  by_cases ht : t = t'
  rotate_left
  · have hb : (t == t') = false := by simp [ht]
    go_enter Try.func17, Try.ntmps17
    go_wp2_with fail
    go_ret
    rw [HW.out]
    exact ⟨false, rfl, ⟨fun h => Bool.noConfusion h, fun h => absurd (congrArg Qy.til h) ht⟩, HLW.out⟩
  subst ht
  by_cases hm : m = m'
  rotate_left
  · have HE1 := Lib.hid (calls_no (HE.out _ HLW.out) hm)
    go_enter Try.func17, Try.ntmps17
    go_wp2_with (go_at_call 27; rw [HW.out]; refine HE1.out.mono ?_; rintro e w3 ⟨rfl, hl3⟩; have p3 := (Lay.cell hl3 s0).trans x3; have q3 := (Lay.cell hl3 s1).trans y3; have p4 := (Lay.cell hl3 s0).trans x4; have q4 := (Lay.cell hl3 s1).trans y4; have p5 := (Lay.cell hl3 s0).trans x5; have q5 := (Lay.cell hl3 s1).trans y5; have p6 := (Lay.cell hl3 s0).trans x6; have q6 := (Lay.cell hl3 s1).trans y6; have p7 := (Lay.cell hl3 s0).trans x7; have q7 := (Lay.cell hl3 s1).trans y7; have p8 := (Lay.cell hl3 s0).trans x8; have q8 := (Lay.cell hl3 s1).trans y8; have p9 := (Lay.cell hl3 s0).trans x9; have q9 := (Lay.cell hl3 s1).trans y9; have t0 := Nat.lt_of_lt_of_le s0 hl3.size; have t1 := Nat.lt_of_lt_of_le s1 hl3.size)
    go_ret
    exact ⟨false, rfl, ⟨fun h => Bool.noConfusion h, fun h => absurd (congrArg Qy.mat h) hm⟩, HLW.out.trans hl3⟩
  have HE1 := Lib.hid (calls_yes (HE.out _ HLW.out) hm)
  by_cases hf : f = f'
  rotate_left
  · have HF1 := Lib.hid fun X h => calls_no (HF.out X h) hf
    have HF' := Lib.hid hf
    clear hm hf
    go_enter Try.func17, Try.ntmps17
    go_wp2_with (first | (go_at_call 27; rw [HW.out]; refine HE1.out.mono ?_; rintro e w3 ⟨rfl, hl3⟩; have p3 := (Lay.cell hl3 s0).trans x3; have q3 := (Lay.cell hl3 s1).trans y3; have p4 := (Lay.cell hl3 s0).trans x4; have q4 := (Lay.cell hl3 s1).trans y4; have p5 := (Lay.cell hl3 s0).trans x5; have q5 := (Lay.cell hl3 s1).trans y5; have p6 := (Lay.cell hl3 s0).trans x6; have q6 := (Lay.cell hl3 s1).trans y6; have p7 := (Lay.cell hl3 s0).trans x7; have q7 := (Lay.cell hl3 s1).trans y7; have p8 := (Lay.cell hl3 s0).trans x8; have q8 := (Lay.cell hl3 s1).trans y8; have p9 := (Lay.cell hl3 s0).trans x9; have q9 := (Lay.cell hl3 s1).trans y9; have t0 := Nat.lt_of_lt_of_le s0 hl3.size; have t1 := Nat.lt_of_lt_of_le s1 hl3.size) | (go_at_call 15; refine (HF1.out _ (HLW.out.trans hl3)).mono ?_; rintro e w4 ⟨rfl, hl4⟩; have hl34 := hl3.trans hl4; have p7 := (Lay.cell hl34 s0).trans x7; have q7 := (Lay.cell hl34 s1).trans y7; have p8 := (Lay.cell hl34 s0).trans x8; have q8 := (Lay.cell hl34 s1).trans y8; have p9 := (Lay.cell hl34 s0).trans x9; have q9 := (Lay.cell hl34 s1).trans y9; have t0 := Nat.lt_of_lt_of_le s0 hl34.size; have t1 := Nat.lt_of_lt_of_le s1 hl34.size))
    go_ret
    exact ⟨false, rfl, ⟨fun h => Bool.noConfusion h, fun h => absurd (congrArg Qy.fil h) HF'.out⟩, HLW.out.trans (hl3.trans hl4)⟩
  have HF1 := Lib.hid fun X h => calls_yes (HF.out X h) hf
  have HMM := Lib.hid hm
  have HFF := Lib.hid hf
  clear hm hf HE HF
  by_cases hd : d = d'
  rotate_left
  · have hb : (d == d') = false := by simp [hd]
    have HNO := Lib.hid hd
    clear hd
    go_enter Try.func17, Try.ntmps17
    go_wp2_with (first | (go_at_call 27; rw [HW.out]; refine HE1.out.mono ?_; rintro e w3 ⟨rfl, hl3⟩; have p3 := (Lay.cell hl3 s0).trans x3; have q3 := (Lay.cell hl3 s1).trans y3; have p4 := (Lay.cell hl3 s0).trans x4; have q4 := (Lay.cell hl3 s1).trans y4; have p5 := (Lay.cell hl3 s0).trans x5; have q5 := (Lay.cell hl3 s1).trans y5; have p6 := (Lay.cell hl3 s0).trans x6; have q6 := (Lay.cell hl3 s1).trans y6; have p7 := (Lay.cell hl3 s0).trans x7; have q7 := (Lay.cell hl3 s1).trans y7; have p8 := (Lay.cell hl3 s0).trans x8; have q8 := (Lay.cell hl3 s1).trans y8; have p9 := (Lay.cell hl3 s0).trans x9; have q9 := (Lay.cell hl3 s1).trans y9; have t0 := Nat.lt_of_lt_of_le s0 hl3.size; have t1 := Nat.lt_of_lt_of_le s1 hl3.size) | (go_at_call 15; refine (HF1.out _ (HLW.out.trans hl3)).mono ?_; rintro e w4 ⟨rfl, hl4⟩; have hl34 := hl3.trans hl4; have p7 := (Lay.cell hl34 s0).trans x7; have q7 := (Lay.cell hl34 s1).trans y7; have p8 := (Lay.cell hl34 s0).trans x8; have q8 := (Lay.cell hl34 s1).trans y8; have p9 := (Lay.cell hl34 s0).trans x9; have q9 := (Lay.cell hl34 s1).trans y9; have t0 := Nat.lt_of_lt_of_le s0 hl34.size; have t1 := Nat.lt_of_lt_of_le s1 hl34.size))
    go_ret
    exact ⟨false, rfl, ⟨fun h => Bool.noConfusion h, fun h => absurd (congrArg Qy.desc h) HNO.out⟩, HLW.out.trans (hl3.trans hl4)⟩
  subst hd
  by_cases hn : n = n'
  rotate_left
  · have hb : (n == n') = false := by simp [hn]
    have HNO := Lib.hid hn
    clear hn
    go_enter Try.func17, Try.ntmps17
    go_wp2_with (first | (go_at_call 27; rw [HW.out]; refine HE1.out.mono ?_; rintro e w3 ⟨rfl, hl3⟩; have p3 := (Lay.cell hl3 s0).trans x3; have q3 := (Lay.cell hl3 s1).trans y3; have p4 := (Lay.cell hl3 s0).trans x4; have q4 := (Lay.cell hl3 s1).trans y4; have p5 := (Lay.cell hl3 s0).trans x5; have q5 := (Lay.cell hl3 s1).trans y5; have p6 := (Lay.cell hl3 s0).trans x6; have q6 := (Lay.cell hl3 s1).trans y6; have p7 := (Lay.cell hl3 s0).trans x7; have q7 := (Lay.cell hl3 s1).trans y7; have p8 := (Lay.cell hl3 s0).trans x8; have q8 := (Lay.cell hl3 s1).trans y8; have p9 := (Lay.cell hl3 s0).trans x9; have q9 := (Lay.cell hl3 s1).trans y9; have t0 := Nat.lt_of_lt_of_le s0 hl3.size; have t1 := Nat.lt_of_lt_of_le s1 hl3.size) | (go_at_call 15; refine (HF1.out _ (HLW.out.trans hl3)).mono ?_; rintro e w4 ⟨rfl, hl4⟩; have hl34 := hl3.trans hl4; have p7 := (Lay.cell hl34 s0).trans x7; have q7 := (Lay.cell hl34 s1).trans y7; have p8 := (Lay.cell hl34 s0).trans x8; have q8 := (Lay.cell hl34 s1).trans y8; have p9 := (Lay.cell hl34 s0).trans x9; have q9 := (Lay.cell hl34 s1).trans y9; have t0 := Nat.lt_of_lt_of_le s0 hl34.size; have t1 := Nat.lt_of_lt_of_le s1 hl34.size))
    go_ret
    exact ⟨false, rfl, ⟨fun h => Bool.noConfusion h, fun h => absurd (congrArg Qy.lim h) HNO.out⟩, HLW.out.trans (hl3.trans hl4)⟩
  subst hn
  by_cases hg : g = g'
  rotate_left
  · have hb : (g.toList == g'.toList) = false := by rw [beq_eq_false_iff_ne]; exact fun e => hg (toList_inj _ _ e)
    have HNO := Lib.hid hg
    clear hg
    go_enter Try.func17, Try.ntmps17
    go_wp2_with (first | (go_at_call 27; rw [HW.out]; refine HE1.out.mono ?_; rintro e w3 ⟨rfl, hl3⟩; have p3 := (Lay.cell hl3 s0).trans x3; have q3 := (Lay.cell hl3 s1).trans y3; have p4 := (Lay.cell hl3 s0).trans x4; have q4 := (Lay.cell hl3 s1).trans y4; have p5 := (Lay.cell hl3 s0).trans x5; have q5 := (Lay.cell hl3 s1).trans y5; have p6 := (Lay.cell hl3 s0).trans x6; have q6 := (Lay.cell hl3 s1).trans y6; have p7 := (Lay.cell hl3 s0).trans x7; have q7 := (Lay.cell hl3 s1).trans y7; have p8 := (Lay.cell hl3 s0).trans x8; have q8 := (Lay.cell hl3 s1).trans y8; have p9 := (Lay.cell hl3 s0).trans x9; have q9 := (Lay.cell hl3 s1).trans y9; have t0 := Nat.lt_of_lt_of_le s0 hl3.size; have t1 := Nat.lt_of_lt_of_le s1 hl3.size) | (go_at_call 15; refine (HF1.out _ (HLW.out.trans hl3)).mono ?_; rintro e w4 ⟨rfl, hl4⟩; have hl34 := hl3.trans hl4; have p7 := (Lay.cell hl34 s0).trans x7; have q7 := (Lay.cell hl34 s1).trans y7; have p8 := (Lay.cell hl34 s0).trans x8; have q8 := (Lay.cell hl34 s1).trans y8; have p9 := (Lay.cell hl34 s0).trans x9; have q9 := (Lay.cell hl34 s1).trans y9; have t0 := Nat.lt_of_lt_of_le s0 hl34.size; have t1 := Nat.lt_of_lt_of_le s1 hl34.size))
    go_ret
    exact ⟨false, rfl, ⟨fun h => Bool.noConfusion h, fun h => absurd (congrArg Qy.page h) HNO.out⟩, HLW.out.trans (hl3.trans hl4)⟩
  subst hg
  go_enter Try.func17, Try.ntmps17
  go_wp2_with (first | (go_at_call 27; rw [HW.out]; refine HE1.out.mono ?_; rintro e w3 ⟨rfl, hl3⟩; have p3 := (Lay.cell hl3 s0).trans x3; have q3 := (Lay.cell hl3 s1).trans y3; have p4 := (Lay.cell hl3 s0).trans x4; have q4 := (Lay.cell hl3 s1).trans y4; have p5 := (Lay.cell hl3 s0).trans x5; have q5 := (Lay.cell hl3 s1).trans y5; have p6 := (Lay.cell hl3 s0).trans x6; have q6 := (Lay.cell hl3 s1).trans y6; have p7 := (Lay.cell hl3 s0).trans x7; have q7 := (Lay.cell hl3 s1).trans y7; have p8 := (Lay.cell hl3 s0).trans x8; have q8 := (Lay.cell hl3 s1).trans y8; have p9 := (Lay.cell hl3 s0).trans x9; have q9 := (Lay.cell hl3 s1).trans y9; have t0 := Nat.lt_of_lt_of_le s0 hl3.size; have t1 := Nat.lt_of_lt_of_le s1 hl3.size) | (go_at_call 15; refine (HF1.out _ (HLW.out.trans hl3)).mono ?_; rintro e w4 ⟨rfl, hl4⟩; have hl34 := hl3.trans hl4; have p7 := (Lay.cell hl34 s0).trans x7; have q7 := (Lay.cell hl34 s1).trans y7; have p8 := (Lay.cell hl34 s0).trans x8; have q8 := (Lay.cell hl34 s1).trans y8; have p9 := (Lay.cell hl34 s0).trans x9; have q9 := (Lay.cell hl34 s1).trans y9; have t0 := Nat.lt_of_lt_of_le s0 hl34.size; have t1 := Nat.lt_of_lt_of_le s1 hl34.size))
  go_ret
  exact ⟨true, rfl, ⟨fun _ => by rw [HMM.out, HFF.out], fun _ => rfl⟩, HLW.out.trans (hl3.trans hl4)⟩

theorem sameCall : SameCall := fun p q _ _ w u v hp hq => ownSame_any p q w u v hp hq

end Go.Proofs.Ytgmahdeaggjjgaa
