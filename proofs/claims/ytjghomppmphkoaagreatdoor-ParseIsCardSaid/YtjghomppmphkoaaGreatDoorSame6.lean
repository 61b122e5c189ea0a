/-
  THE DOCUMENT'S OWN Same.
-/
import Derived.Test.YtjghomppmphkoaaGreatDoorFilter6
namespace Go.Proofs.YtjghomppmphkoaaGreatDoor
open Go.RowKit Go

/-- A matcher. -/
structure Mt where
  name : ByteArray
  not : Bool
  value : ByteArray
deriving DecidableEq

/-- A query. -/
structure Qy where
  src : Int
  til : Int
  mat : List Mt
  fil : Ft
  desc : Bool
  lim : Int
  page : ByteArray

def Mt.val (m : Mt) : Value := .agg #[.string m.name, .bool m.not, .string m.value]

/-- v is a slice of matchers. -/
def MsAt (w : World) (v : Value) (l : List Mt) : Prop :=
  ∃ a cap, v = .slice a l.length cap ∧ l.length ≤ 9223372036854775807 ∧ (l = [] ∨ ∃ b off, a = some ⟨b, off, none⟩ ∧ b < w.heap.size ∧
    ∀ i (h : i < l.length), w.cell? ⟨b, off + i * 3, none⟩ = some (.string l[i].name) ∧ w.cell? ⟨b, off + i * 3 + 1, none⟩ = some (.bool l[i].not) ∧ w.cell? ⟨b, off + i * 3 + 2, none⟩ = some (.string l[i].value))

theorem MsAt.lay {w w' : World} {v : Value} {l : List Mt} (h : MsAt w v l) (hl : Lay w w') : MsAt w' v l := by
  obtain ⟨a, cap, hv, h1, h | ⟨b, off, ha, hlt, hc⟩⟩ := h
  · exact ⟨a, cap, hv, h1, .inl h⟩
  · exact ⟨a, cap, hv, h1, .inr ⟨b, off, ha, Nat.lt_of_lt_of_le hlt hl.size, fun i hi => ⟨(hl.cell hlt).trans (hc i hi).1, (hl.cell hlt).trans (hc i hi).2.1, (hl.cell hlt).trans (hc i hi).2.2⟩⟩⟩

/-- A query's value. -/
def Qy.val (q : Qy) (mv kv : Value) : Value := .agg #[.int .i64 q.src, .int .i64 q.til, mv, .int .i64 q.fil.op, .string q.fil.name, .string q.fil.text, kv, .bool q.desc, .int .i64 q.lim, .string q.page]

/-- A value that is a query. -/
def QAt (w : World) (v : Value) (q : Qy) : Prop := ∃ mv kv, v = q.val mv kv ∧ MsAt w mv q.mat ∧ KsAt w kv q.fil

theorem QAt.lay {w w' : World} {v : Value} {q : Qy} (h : QAt w v q) (hl : Lay w w') : QAt w' v q := by
  obtain ⟨mv, fv, hv, hm, hf⟩ := h
  exact ⟨mv, fv, hv, hm.lay hl, KsAt.below hl.below _ _ hf⟩

set_option maxHeartbeats 8000000 in
set_option maxRecDepth 100000 in
theorem same_any (p q : Qy) (w : World) (va vb : Value) (hp : QAt w va p) (hq : QAt w vb q) (hcp : p.fil.count ≤ 100000) (hcq : q.fil.count ≤ 100000) :
    Calls Tryz.prog 12 #[va, vb] w fun e w' => ∃ b, e = .returned (.bool b) ∧ (b = true ↔ p = q) ∧ Lay w w' := by
  have hmx : Tryz.prog.follows .mixedOrders = true := by kernel_rfl
  obtain ⟨mv, kv, rfl, hm, hk⟩ := hp
  obtain ⟨mv', kv', rfl, hm', hk'⟩ := hq
  obtain ⟨s, t, m, f, d, n, g⟩ := p
  obtain ⟨s', t', m', f', d', n', g'⟩ := q
  obtain ⟨a1, c1, rfl, hl1, hms⟩ := hm
  obtain ⟨a2, c2, rfl, hl2, hms'⟩ := hm'
  unfold Qy.val
  simp only at hl1 hl2 hms hms' hk hk' hcp hcq ⊢
  have HMS := Lib.hid hms
  have HMS' := Lib.hid hms'
  have HF := Lib.hid fun W (h : Lay w W) => filter_any f f' W (f.val kv) (f'.val kv') ⟨_, rfl, KsAt.below h.below _ _ hk⟩ ⟨_, rfl, KsAt.below h.below _ _ hk'⟩ hcp hcq
  clear hms hms' hk hk'
  unfold Ft.val at HF
  obtain ⟨W, hW⟩ : ∃ W, W = (w.alloc (.cells #[.int .i64 s, .int .i64 t, .slice a1 m.length c1, .int .i64 f.op, .string f.name, .string f.text, kv, .bool d, .int .i64 n, .string g] 28)).alloc (.cells #[.int .i64 s', .int .i64 t', .slice a2 m'.length c2, .int .i64 f'.op, .string f'.name, .string f'.text, kv', .bool d', .int .i64 n', .string g'] 28) := ⟨_, rfl⟩
  have HLW : Hid (Lay w W) := Lib.hid (by rw [hW]; exact ((Keep.refl _ _).alloc _).alloc _)
  have s0 : w.heap.size < W.heap.size := by rw [hW]; simp; omega
  have s1 : w.heap.size + 1 < W.heap.size := by rw [hW]; simp
  have x0 : W.cell? ⟨w.heap.size, 0, none⟩ = some (.int .i64 s) := by rw [hW]; go_simp
  have x1 : W.cell? ⟨w.heap.size, 1, none⟩ = some (.int .i64 t) := by rw [hW]; go_simp
  have x2 : W.cell? ⟨w.heap.size, 2, none⟩ = some (.slice a1 m.length c1) := by rw [hW]; go_simp
  have x3 : W.cell? ⟨w.heap.size, 3, none⟩ = some (.int .i64 f.op) := by rw [hW]; go_simp
  have x4 : W.cell? ⟨w.heap.size, 4, none⟩ = some (.string f.name) := by rw [hW]; go_simp
  have x5 : W.cell? ⟨w.heap.size, 5, none⟩ = some (.string f.text) := by rw [hW]; go_simp
  have x6 : W.cell? ⟨w.heap.size, 6, none⟩ = some kv := by rw [hW]; go_simp
  have x7 : W.cell? ⟨w.heap.size, 7, none⟩ = some (.bool d) := by rw [hW]; go_simp
  have x8 : W.cell? ⟨w.heap.size, 8, none⟩ = some (.int .i64 n) := by rw [hW]; go_simp
  have x9 : W.cell? ⟨w.heap.size, 9, none⟩ = some (.string g) := by rw [hW]; go_simp
  have y0 : W.cell? ⟨w.heap.size + 1, 0, none⟩ = some (.int .i64 s') := by rw [hW]; go_simp
  have y1 : W.cell? ⟨w.heap.size + 1, 1, none⟩ = some (.int .i64 t') := by rw [hW]; go_simp
  have y2 : W.cell? ⟨w.heap.size + 1, 2, none⟩ = some (.slice a2 m'.length c2) := by rw [hW]; go_simp
  have y3 : W.cell? ⟨w.heap.size + 1, 3, none⟩ = some (.int .i64 f'.op) := by rw [hW]; go_simp
  have y4 : W.cell? ⟨w.heap.size + 1, 4, none⟩ = some (.string f'.name) := by rw [hW]; go_simp
  have y5 : W.cell? ⟨w.heap.size + 1, 5, none⟩ = some (.string f'.text) := by rw [hW]; go_simp
  have y6 : W.cell? ⟨w.heap.size + 1, 6, none⟩ = some kv' := by rw [hW]; go_simp
  have y7 : W.cell? ⟨w.heap.size + 1, 7, none⟩ = some (.bool d') := by rw [hW]; go_simp
  have y8 : W.cell? ⟨w.heap.size + 1, 8, none⟩ = some (.int .i64 n') := by rw [hW]; go_simp
  have y9 : W.cell? ⟨w.heap.size + 1, 9, none⟩ = some (.string g') := by rw [hW]; go_simp
  have HW := Lib.hid hW.symm
  clear hW
  by_cases hs : s = s'
  rotate_left
  · have hb : (s != s') = true := by simp [hs]
    clear x0 x1 x2 x3 x4 x5 x6 x7 x8 x9 y0 y1 y2 y3 y4 y5 y6 y7 y8 y9 s0 s1
    go_enter Tryz.func12, Tryz.ntmps12
    go_wp2_with fail
    go_ret
    rw [HW.out]
    exact ⟨false, rfl, ⟨fun h => Bool.noConfusion h, fun h => absurd (congrArg Qy.src h) hs⟩, HLW.out⟩
  subst hs
  by_cases ht : t = t'
  rotate_left
  · have hb : (t != t') = true := by simp [ht]
    clear x0 x1 x2 x3 x4 x5 x6 x7 x8 x9 y0 y1 y2 y3 y4 y5 y6 y7 y8 y9 s0 s1
    go_enter Tryz.func12, Tryz.ntmps12
    go_wp2_with fail
    go_ret
    rw [HW.out]
    exact ⟨false, rfl, ⟨fun h => Bool.noConfusion h, fun h => absurd (congrArg Qy.til h) ht⟩, HLW.out⟩
  subst ht
  by_cases hd : d = d'
  rotate_left
  · have hb : (d != d') = true := by simp [hd]
    clear x0 x1 x2 x3 x4 x5 x6 x7 x8 x9 y0 y1 y2 y3 y4 y5 y6 y7 y8 y9 s0 s1
    go_enter Tryz.func12, Tryz.ntmps12
    go_wp2_with fail
    go_ret
    rw [HW.out]
    exact ⟨false, rfl, ⟨fun h => Bool.noConfusion h, fun h => absurd (congrArg Qy.desc h) hd⟩, HLW.out⟩
  subst hd
  by_cases hn : n = n'
  rotate_left
  · have hb : (n != n') = true := by simp [hn]
    clear x0 x1 x2 x3 x4 x5 x6 x7 x8 x9 y0 y1 y2 y3 y4 y5 y6 y7 y8 y9 s0 s1
    go_enter Tryz.func12, Tryz.ntmps12
    go_wp2_with fail
    go_ret
    rw [HW.out]
    exact ⟨false, rfl, ⟨fun h => Bool.noConfusion h, fun h => absurd (congrArg Qy.lim h) hn⟩, HLW.out⟩
  subst hn
  by_cases hg : g = g'
  rotate_left
  · have hb : (g.toList == g'.toList) = false := by rw [beq_eq_false_iff_ne]; exact fun e => hg (toList_inj _ _ e)
    clear x0 x1 x2 x3 x4 x5 x6 x7 x8 x9 y0 y1 y2 y3 y4 y5 y6 y7 y8 y9 s0 s1
    go_enter Tryz.func12, Tryz.ntmps12
    go_wp2_with fail
    go_ret
    rw [HW.out]
    exact ⟨false, rfl, ⟨fun h => Bool.noConfusion h, fun h => absurd (congrArg Qy.page h) hg⟩, HLW.out⟩
  subst hg
  by_cases hm : m.length = m'.length
  rotate_left
  · have hb : ((m.length : Int) != (m'.length : Int)) = true := by simp; omega
    clear x0 x1 x2 x3 x4 x5 x6 x7 x8 x9 y0 y1 y2 y3 y4 y5 y6 y7 y8 y9 s0 s1
    go_enter Tryz.func12, Tryz.ntmps12
    go_wp2_with fail
    go_ret
    rw [HW.out]
    exact ⟨false, rfl, ⟨fun h => Bool.noConfusion h, fun h => absurd (congrArg (fun q => q.mat.length) h) hm⟩, HLW.out⟩
  have hb : ((m.length : Int) != (m'.length : Int)) = false := by simp; omega
  have HM := Lib.hid hm
  clear hm
  go_enter Tryz.func12, Tryz.ntmps12
  go_wp2_with fail
  rw [HW.out]
  clear HW
  generalize w.heap.size + 1 = k1 at s1 y0 y1 y2 y3 y4 y5 y6 y7 y8 y9 ⊢
  generalize w.heap.size = k0 at s0 x0 x1 x2 x3 x4 x5 x6 x7 x8 x9 ⊢
  clear hb
  go_loopw [51] (fun vi wr => ∃ i : Nat, vi = .int .i64 i ∧ i ≤ m.length ∧ m.take i = m'.take i ∧ Lay W wr) (fun vi _ => m.length - (intOf vi).toNat)
  case atStart => exact ⟨0, rfl, Nat.zero_le _, rfl, Keep.refl _ _⟩
  case round =>
    obtain ⟨i, rfl, hi, heq, hl⟩ := hrel
    have HL := Lib.hid hl
    have HEQ := Lib.hid heq
    clear heq
    by_cases hlt : i < m.length
    · have hi' : i < m'.length := by rw [← HM.out]; exact hlt
      have hi2 : (i : Int) < (m'.length : Int) := by omega
      rcases HMS.out with h0 | ⟨bx, ox, rfl, hbx, hcx⟩
      · exact absurd hlt (by rw [h0]; simp)
      rcases HMS'.out with h0 | ⟨bz, oz, rfl, hbz, hcz⟩
      · exact absurd hi' (by rw [h0]; simp)
      obtain ⟨e0, e1, e2⟩ := hcx i hlt
      obtain ⟨z0, z1, z2⟩ := hcz i hi'
      have hbx' := Nat.lt_of_lt_of_le hbx (Nat.le_trans HLW.out.size hl.size)
      have hbz' := Nat.lt_of_lt_of_le hbz (Nat.le_trans HLW.out.size hl.size)
      have hww : Lay w wr := HLW.out.trans hl
      have u0 := (hww.cell hbx).trans e0
      have u1 := (hww.cell hbx).trans e1
      have u2 := (hww.cell hbx).trans e2
      have v0 := (hww.cell hbz).trans z0
      have v1 := (hww.cell hbz).trans z1
      have v2 := (hww.cell hbz).trans z2
      have p2 := (hl.cell s0).trans x2
      have q2 := (hl.cell s1).trans y2
      have HSN : Hid (m[i] = m'[i]'hi' → m.take (i + 1) = m'.take (i + 1)) := Lib.hid fun e => by
        rw [List.take_succ_eq_append_getElem hlt, List.take_succ_eq_append_getElem hi', HEQ.out, e]
      have HNE : Hid (m[i] ≠ m'[i]'hi' → m ≠ m') := Lib.hid fun h e => by subst e; exact h rfl
      generalize m[i] = x at u0 u1 u2 HSN HNE
      generalize m'[i]'hi' = y at v0 v1 v2 HSN HNE
      obtain ⟨xn, xb, xv⟩ := x
      obtain ⟨yn, yb, yv⟩ := y
      simp only at u0 u1 u2 v0 v1 v2
      clear hcx hcz e0 e1 e2 z0 z1 z2 hww hl x0 x1 x2 x3 x4 x5 x6 x7 x8 x9 y0 y1 y2 y3 y4 y5 y6 y7 y8 y9
      by_cases ho : xn = yn
      · subst ho
        by_cases ht : xb = yb
        · subst ht
          by_cases hv : xv = yv
          · subst hv
            go_wp2_with fail
            go_quiet (fail)
            go_wp2_with fail
            go_roundw
            case rel => exact ⟨i + 1, by go_num, by omega, HSN.out (by trivial), Keep.trans HL.out ((Keep.refl _ _).drewN _)⟩
            case measure => simp [intOf]; omega
          · have ht' : (xv.toList == yv.toList) = false := by rw [beq_eq_false_iff_ne]; exact fun e => hv (toList_inj _ _ e)
            go_wp2_with fail
            go_quiet (fail)
            go_wp2_with fail
            go_ret
            exact ⟨false, rfl, ⟨fun h => Bool.noConfusion h, fun h => absurd (congrArg Qy.mat h) (HNE.out (fun e => hv (by injection e)))⟩, Keep.trans HLW.out (Keep.trans HL.out ((Keep.refl _ _).drewN _))⟩
        · have ht' : (xb == yb) = false := by simp [ht]
          go_wp2_with fail
          go_quiet (fail)
          go_wp2_with fail
          go_ret
          exact ⟨false, rfl, ⟨fun h => Bool.noConfusion h, fun h => absurd (congrArg Qy.mat h) (HNE.out (fun e => ht (by injection e)))⟩, Keep.trans HLW.out (Keep.trans HL.out ((Keep.refl _ _).drewN _))⟩
      · have ht' : (xn.toList == yn.toList) = false := by rw [beq_eq_false_iff_ne]; exact fun e => ho (toList_inj _ _ e)
        go_wp2_with fail
        go_quiet (fail)
        go_wp2_with fail
        go_ret
        exact ⟨false, rfl, ⟨fun h => Bool.noConfusion h, fun h => absurd (congrArg Qy.mat h) (HNE.out (fun e => ho (by injection e)))⟩, Keep.trans HLW.out (Keep.trans HL.out ((Keep.refl _ _).drewN _))⟩
    · obtain rfl : i = m.length := by omega
      have hmm : m = m' := by
        have := HEQ.out
        rw [List.take_length, HM.out, List.take_length] at this
        exact this
      have p3 := (hl.cell s0).trans x3
      have p4 := (hl.cell s0).trans x4
      have p5 := (hl.cell s0).trans x5
      have p6 := (hl.cell s0).trans x6
      have q3 := (hl.cell s1).trans y3
      have q4 := (hl.cell s1).trans y4
      have q5 := (hl.cell s1).trans y5
      have q6 := (hl.cell s1).trans y6
      have HC := Lib.hid (HF.out wr (HLW.out.trans hl))
      have HMM := Lib.hid hmm
      have t0 := Nat.lt_of_lt_of_le s0 hl.size
      have t1 := Nat.lt_of_lt_of_le s1 hl.size
      clear hmm hl x0 x1 x2 x3 x4 x5 x6 x7 x8 x9 y0 y1 y2 y3 y4 y5 y6 y7 y8 y9
      go_wp2_with fail
      refine HC.out.mono ?_
      rintro e w5 ⟨b, rfl, hb, hl5⟩
      have HB := Lib.hid hb
      have HL5 := Lib.hid hl5
      clear hb hl5
      go_wp2_with fail
      go_ret
      refine ⟨b, rfl, ?_, HLW.out.trans (HL.out.trans HL5.out)⟩
      rw [HB.out, HMM.out]
      exact ⟨fun h => by rw [h], fun h => congrArg Qy.fil h⟩

end Go.Proofs.YtjghomppmphkoaaGreatDoor
