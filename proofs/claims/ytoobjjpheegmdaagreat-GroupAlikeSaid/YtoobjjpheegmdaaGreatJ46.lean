/-
  Er.
-/
import Derived.Test.YtoobjjpheegmdaaGreatJ01
import Derived.Test.YtoobjjpheegmdaaGreatJ03
import Derived.Test.YtoobjjpheegmdaaGreatJ04
import Derived.Outline
import Derived.Lib.Strings
import Derived.Deep.RegionWith
import Derived.Deep.QuietTactic
import Derived.BigQuiet
import Derived.Deep.DeepCutAuto
import Derived.Shelf.SlSortCmp.QuietGrown
import Derived.Deep.RegionLaw
namespace Go.Proofs.YtoobjjpheegmdaaGreat.E4
open Go.RowKit Go
theorem same_self (y : Ent) : decide (entC y y = 0) = true := decide_eq_true (entC_lc.refl y)
end Go.Proofs.YtoobjjpheegmdaaGreat.E4
namespace Go.Proofs.YtoobjjpheegmdaaGreat.E4
open Go.RowKit Go
set_option maxHeartbeats 8000000 in
set_option maxRecDepth 100000 in
theorem all_any {G L G' L' : Nat → Prop} {w : World} {v1 v2 : Value} {es : List Ent} (h1 : EntsAt G L w v1 es) (h2 : EntsAt G' L' w v2 es) :
    Calls Tryz.prog 17 #[v1, v2] w fun e w' => e = .returned (.bool true) ∧ Lay w w' := by
  obtain ⟨a, ca, rfl, hl63, ha⟩ := h1
  obtain ⟨b, cb, rfl, _, hb⟩ := h2
  have HA := Lib.hid ha
  have HB := Lib.hid hb
  have hmx : Tryz.prog.follows .mixedOrders = true := by kernel_rfl
  clear ha hb
  go_enter Tryz.func17, Tryz.ntmps17
  go_wp2_with fail
  go_loopw [13] (fun vi wr => ∃ k : Nat, vi = .int .i64 k ∧ k ≤ es.length ∧ Lay w wr) (fun vi _ => es.length - (intOf vi).toNat)
  case atStart => exact ⟨0, rfl, Nat.zero_le _, Keep.refl _ _⟩
  case round =>
    obtain ⟨k, rfl, hk, hl⟩ := hrel
    have HL := Lib.hid hl
    by_cases hlt : k < es.length
    · rcases HA.out with h0 | ⟨bx, ox, rfl, hgx, hbx, hcx⟩
      · exact absurd hlt (by rw [h0]; simp)
      rcases HB.out with h0 | ⟨by', oy, rfl, hgy, hby, hcy⟩
      · exact absurd hlt (by rw [h0]; simp)
      obtain ⟨lv, x0, x1, x2, x3⟩ := hcx k hlt
      obtain ⟨mv, y0, y1, y2, y3⟩ := hcy k hlt
      have hbxr : bx < wr.heap.size := Nat.lt_of_lt_of_le hbx hl.size
      have hbyr : by' < wr.heap.size := Nat.lt_of_lt_of_le hby hl.size
      generalize es[k] = x at x0 x1 x2 x3 y0 y1 y2 y3
      obtain ⟨ax, cx, rfl, _⟩ := id x3
      obtain ⟨ay, cy, rfl, _⟩ := id y3
      have fx0 := cell_grown (w := wr) (a := ⟨bx, ox + k * 3, none⟩) hbxr ((hl.cell hbx).trans x0)
      have fx1 := cell_grown (w := wr) (a := ⟨bx, ox + k * 3 + 1, none⟩) hbxr ((hl.cell hbx).trans x1)
      have fx2 := cell_grown (w := wr) (a := ⟨bx, ox + k * 3 + 2, none⟩) hbxr ((hl.cell hbx).trans x2)
      have fy0 := cell_grown (w := wr) (a := ⟨by', oy + k * 3, none⟩) hbyr ((hl.cell hby).trans y0)
      have fy1 := cell_grown (w := wr) (a := ⟨by', oy + k * 3 + 1, none⟩) hbyr ((hl.cell hby).trans y1)
      have fy2 := cell_grown (w := wr) (a := ⟨by', oy + k * 3 + 2, none⟩) hbyr ((hl.cell hby).trans y2)
      have hS : ∀ n os, Calls Tryz.prog 29 #[.agg #[.int .i64 x.tm, .slice ax x.labs.length cx, .string x.line], .agg #[.int .i64 x.tm, .slice ay x.labs.length cy, .string x.line]] (Sort.grow (wr.drewN n) os) fun e w'' => e = .returned (.bool true) ∧ ∃ p : GrownBy, w'' = Sort.grow (wr.drewN p.n) p.os := fun n os => by
        have h := same_any (x := x) (y := x) (x3.lay (hl.trans (Lay.of_grown n os))) (y3.lay (hl.trans (Lay.of_grown n os)))
        rw [same_self] at h
        exact grown_of_lay h
      have hi1 : (k : Int) < (es.length : Int) := by omega
      have hi0 : ¬ (k : Int) < 0 := by omega
      clear x0 x1 x2 x3 y0 y1 y2 y3 hcx hcy hl
      go_wp2_with fail
      go_quiet_grown ((go_at_call 29; with_reducible exact hS _ _))
      go_wp2_with fail
      go_roundw
      case rel => exact ⟨k + 1, by go_num, by omega, HL.out.trans (Lay.of_grown nq osq)⟩
      case measure => simp [intOf]; omega
    · obtain rfl : k = es.length := by omega
      clear hl
      go_wp2_with fail
      go_ret
      exact ⟨rfl, HL.out⟩
end Go.Proofs.YtoobjjpheegmdaaGreat.E4
namespace Go.Proofs.YtoobjjpheegmdaaGreat.E4
open Go.RowKit Go
theorem step_append_run {P : Program} {ops : Array Oper} {o : Oper} {a : Act} {w w' : World} {K : Act → World → Prop} {Q : Exit → Act → World → Prop} {E : Prop} {sv xv v' : Value}
    (hg : o.guard = none) (s x : Operand) (t : TypeId) (hop : o.op = Op.call { callee := Callee.builtin Builtin.append, args := #[s, x], argTypes := #[t, t] })
    (hs : a.eval s = sv) (hx : a.eval x = xv) (hrun : (Builtin.append_ #[t, t] o.type #[sv, xv]).run P w = .ok v' w') (hK : K (a.put o.dst v') w') :
    if Region.wanted o (yielded ops a.tmps) = true then Oper.wp P o a w K Q else E := by
  have hw : Region.wanted o (yielded ops a.tmps) = true := by simp [Region.wanted, hg]
  rw [if_pos hw]
  unfold Oper.wp
  simp [execOp, hop, resolve, invoke, builtin, hs, hx, hrun, Result.andThen]
  exact hK
end Go.Proofs.YtoobjjpheegmdaaGreat.E4
namespace Go.Proofs.YtoobjjpheegmdaaGreat.E4
open Go.RowKit Go
theorem run_append_full {P : Program} {t e : TypeId} {i : TypeInfo} {z : Value} {k bytes : Nat} (E : Elem P t e i z k bytes) {G : Nat → Prop} {w : World} {base : Option Addr} {sc n : Nat} {xs : List Value} (h : Rk k G w (.slice base n sc) n xs) (hG : ∀ k, w.heap.size ≤ k → G k) (tx ty : TypeId) (x : Value) (m : Nat) (ys : List Value) (hs : Src P k tx x m ys w)
    (hb : (n + m) * bytes ≤ 140737488355328) (hl : n + m ≤ 140737488355328) (hno : m = 0 ∨ sc < n + m) :
    ∃ v' w', (Builtin.append_ #[t, tx] ty #[.slice base n sc, x]).run P w = .ok v' w' ∧ Rk k G w' v' (n + m) (xs ++ ys) ∧ Lay w w' := by
  have ht := E.under
  have hi := E.info
  have hz := E.zero
  have hsz := E.size
  have hys := hs.newsLen
  have hml : n + m ≤ maxLen := by unfold maxLen; omega
  have hmul : (n + m) * k = n * k + m * k := Nat.add_mul _ _ _
  have h' := h
  obtain ⟨hxs, h⟩ := h
  have hlen : (xs ++ ys).length = (n + m) * k := by rw [List.length_append, hxs, hys, hmul]
  rw [← hsz] at hs
  by_cases hm0 : m = 0
  · subst hm0
    obtain rfl : ys = [] := List.eq_nil_of_length_eq_zero (by simpa using hys)
    have hle : n ≤ sc := by
      rcases h with ⟨h1, h2⟩ | ⟨g, cap, h1, _, _, h2, _⟩
      · omega
      · simp only [Value.slice.injEq] at h1
        omega
    exact ⟨_, _, run_append_nothing (P := P) w t tx ty e i ht hi base n sc hle x (by simpa using hs), by simpa using h', Keep.refl _ _⟩
  · have hfit : sc < n + m := by omega
    have hold : (Builtin.firstCells i.size n (.slice base n sc)).run P w.drew = .ok xs.toArray w.drew := by
      rcases h with ⟨h1, h2⟩ | ⟨g, cap, h1, hBg, hg, hlc, hm, hc, hf⟩
      · simp only [Value.slice.injEq] at h1
        obtain ⟨rfl, rfl, rfl⟩ := h1
        obtain rfl : xs = [] := List.eq_nil_of_length_eq_zero (by simpa using hxs)
        exact run_firstCells_none w.drew i.size 0 0 0
      · simp only [Value.slice.injEq, true_and] at h1
        obtain ⟨rfl, rfl⟩ := h1
        exact run_firstCells_some w.drew i.size n ⟨g, 0, none⟩ n sc xs (by rw [hsz, hxs]) (fun j u hu => by
          have hj : j < xs.length := (List.getElem?_eq_some_iff.1 hu).1
          rw [add_lit0]
          show w.drew.cell? ⟨g, j, none⟩ = some u
          rw [World.cell?_drew, hc j hj, hu])
    have hrun := run_append_grow_src (P := P) w t tx ty e i _ ht hi hz base n sc xs hold x m ys hs hfit (by omega) (growslice_fits hfit (by rw [E.bytes]; omega))
    have hge := grownCap_ge w (n + m) sc e
    have hcl := grownCap_le_maxLen w (n + m) sc e hml
    obtain ⟨q, hq⟩ : ∃ q, grownCap w (n + m) sc e = n + m + q := ⟨_, (Nat.add_sub_cancel' hge).symm⟩
    rw [hq] at hrun hcl
    rw [Nat.add_sub_cancel_left] at hrun
    have hzs : (Builtin.zeroCells z.cells q).size = q * k := by rw [size_zeroCells, E.cells]
    have hcap : (n + m + q) * k = (n + m) * k + q * k := Nat.add_mul _ _ _
    refine ⟨_, _, hrun, ⟨hlen, .inr ⟨w.heap.size, _, rfl, hG _ (Nat.le_refl _), by simp, by omega, hcl, fun j hj => ?_, fun j hj => ⟨?_, ?_⟩⟩⟩,
      ⟨rfl, rfl, rfl, by simp, Nat.le_succ _, fun k hk _ => Below.heap_alloc w.drew _ k (by simpa using hk)⟩⟩
    · have e1 : (w.drew.alloc (.cells ((xs ++ ys).toArray ++ Builtin.zeroCells z.cells q) e)).cell? ⟨w.heap.size, j, none⟩ = _ := World.cell?_alloc_new w.drew _ _ j
      rw [e1, Array.getElem?_append_left (by simp only [List.size_toArray]; exact hj), List.getElem?_toArray]
    · have e1 : (w.drew.alloc (.cells ((xs ++ ys).toArray ++ Builtin.zeroCells z.cells q) e)).cell? ⟨w.heap.size, j, none⟩ = _ := World.cell?_alloc_new w.drew _ _ j
      rw [e1]
      rw [Array.getElem?_eq_getElem (by rw [Array.size_append, hzs]; simp only [List.size_toArray, hlen]; omega)]
      rfl
    · exact World.frozen?_alloc_new w.drew _ _ j
theorem Rk.cut {k : Nat} {G : Nat → Prop} {w : World} {g n cap : Nat} {xs : List Value} (h : Rk k G w (.slice (some ⟨g, 0, none⟩) n cap) n xs) (q : Nat) (hq : q ≤ n) : Rk k G w (.slice (some ⟨g, 0, none⟩) q q) q (xs.take (q * k)) := by
  obtain ⟨hx, ⟨h1, _⟩ | ⟨g', cap', h1, hg, hlt, hl, hm, hc, hf⟩⟩ := h
  · cases h1
  · simp only [Value.slice.injEq, Option.some.injEq, Addr.mk.injEq, true_and, and_true] at h1
    obtain ⟨rfl, rfl⟩ := h1
    have h2 : q * k ≤ n * k := Nat.mul_le_mul_right _ hq
    have h3 : q * k ≤ cap * k := Nat.mul_le_mul_right _ (by omega)
    refine ⟨by rw [List.length_take]; omega, .inr ⟨g, q, rfl, hg, hlt, Nat.le_refl _, by omega, fun j hj => ?_, fun j hj => hf j (by omega)⟩⟩
    rw [List.length_take] at hj
    rw [hc j (by omega), List.getElem?_take_of_lt (by omega)]
theorem flatR_take (R : List (Value × Ent)) : ∀ q, (flatR R).take (q * 3) = flatR (R.take q) := by
  induction R with
  | nil => intro q; simp [flatR]
  | cons x r ih =>
    intro q
    cases q with
    | zero => rfl
    | succ q =>
      obtain ⟨v, e⟩ := x
      rw [show (q + 1) * 3 = q * 3 + 1 + 1 + 1 by omega]
      simp only [flatR, rawC, List.take_succ_cons, List.cons_append, List.nil_append]
      rw [ih q]
theorem RawAt.drop {w : World} {g off : Nat} {R : List (Value × Ent)} (h : RawAt w g off R) (q : Nat) : RawAt w g (off + q * 3) (R.drop q) := fun i hi => by
  rw [List.length_drop] at hi
  have := h (q + i) (by omega)
  rw [List.getElem_drop, show off + q * 3 + i * 3 = off + (q + i) * 3 by omega]
  exact this
end Go.Proofs.YtoobjjpheegmdaaGreat.E4
namespace Go.Proofs.YtoobjjpheegmdaaGreat.E4
open Go.RowKit Go
theorem sorts_put {c : Ent → Ent → Int} (hc : LC c) {es : List Ent} {R : List (Value × Ent)} {q : Nat} {x : Ent} {xl : Value} (hq : q ≤ R.length) (h : Sorts c es (R.map Prod.snd)) (h1 : ∀ i (hi : i < R.length), i < q → c R[i].2 x = -1) (h2 : ∀ (hi : q < R.length), c x R[q].2 = -1) :
    Sorts c (es ++ [x]) ((R.take q ++ (xl, x) :: R.drop q).map Prod.snd) := by
  have e : (R.take q ++ (xl, x) :: R.drop q).map Prod.snd = (R.map Prod.snd).take q ++ x :: (R.map Prod.snd).drop q := by
    rw [List.map_append, List.map_cons, List.map_take, List.map_drop]
  rw [e]
  refine ⟨strict_insert hc (by simpa using hq) h.1 (fun i hi => ?_) (fun i hi hqi => ?_), fun z => ?_⟩
  · rw [List.getElem_map]
    exact h1 i (by omega) hi
  · rw [List.length_map] at hi
    rw [List.getElem_map]
    by_cases e : i = q
    · subst e; exact h2 hi
    · have h3 := List.pairwise_iff_getElem.1 h.1 q i (by simp; omega) (by simp; omega) (by omega)
      rw [List.getElem_map, List.getElem_map] at h3
      exact hc.tr _ _ _ (h2 (by omega)) h3
  · have h4 := h.2 z
    have h5 : z ∈ R.map Prod.snd ↔ z ∈ (R.map Prod.snd).take q ∨ z ∈ (R.map Prod.snd).drop q := by
      conv => lhs; rw [← List.take_append_drop q (R.map Prod.snd)]
      rw [List.mem_append]
    rw [List.mem_append, List.mem_cons, List.mem_append, List.mem_singleton, ← h4, h5]
    constructor
    · rintro (h | h | h)
      · exact .inl (.inl h)
      · exact .inr h
      · exact .inl (.inr h)
    · rintro ((h | h) | h)
      · exact .inl h
      · exact .inr (.inr h)
      · exact .inr (.inl h)
set_option maxHeartbeats 8000000 in
set_option maxRecDepth 100000 in
theorem refSort_any (desc : Bool) {G L : Nat → Prop} {w : World} {v : Value} {es : List Ent} (h : EntsAt G L w v es) (hn : es.length ≤ 1000) :
    Calls Tryz.prog 12 #[.bool desc, v] w (SortPost desc L es w) := by
  obtain ⟨a, ca, rfl, hl63, ha⟩ := h
  have HA := Lib.hid ha
  have hmx : Tryz.prog.follows .mixedOrders = true := by kernel_rfl
  clear ha
  go_enter Tryz.func12, Tryz.ntmps12
  go_wp2_with fail
  go_loopw [11, 5] (fun vi vb wr => ∃ (k : Nat) (R : List (Value × Ent)), vi = .int .i64 k ∧ k ≤ es.length ∧ R.length ≤ k ∧ Rk 3 (fun b => w.heap.size ≤ b) wr vb R.length (flatR R) ∧ RawL (fun b => L b ∧ b < w.heap.size) wr R ∧ Sorts (ordC desc) (es.take k) (R.map Prod.snd) ∧ Lay w wr) (fun vi _ _ => es.length - (intOf vi).toNat)
  case atStart => exact ⟨0, [], rfl, Nat.zero_le _, Nat.le_refl _, Rk.nil 3 _ _, fun x hx => by simp at hx, ⟨Strict.nil _, fun x => by simp⟩, Keep.refl _ _⟩
  case round =>
    obtain ⟨k, R, rfl, hk, hRk, hrk, hrl, hso, hl⟩ := hrel
    have HL := Lib.hid hl
    have HRK := Lib.hid hrk
    have HRL := Lib.hid hrl
    have HSO := Lib.hid hso
    obtain ⟨au, cu, rfl⟩ := hrk.shape
    by_cases hlt : k < es.length
    · rcases HA.out with h0 | ⟨bx, ox, rfl, hgx, hbx, hcx⟩
      · exact absurd hlt (by rw [h0]; simp)
      obtain ⟨lv, x0, x1, x2, x3⟩ := hcx k hlt
      have g0 := (hl.cell hbx).trans x0
      have g1 := (hl.cell hbx).trans x1
      have g2 := (hl.cell hbx).trans x2
      have htk := Lib.hid (List.take_succ_eq_append_getElem hlt)
      generalize es[k] = x at g0 g1 g2 x0 x1 x2 x3 htk
      obtain ⟨ax, cx, rfl, _⟩ := id x3
      have HXL := Lib.hid (x3.mono (H := fun b => L b ∧ b < w.heap.size) fun b h1 h2 => ⟨h1, h2⟩)
      obtain ⟨wb, hwb⟩ : ∃ wb, wb = wr.alloc (.cells #[.int .i64 x.tm, .slice ax x.labs.length cx, .string x.line] 32) := ⟨_, rfl⟩
      have hlb : Lay wr wb := by rw [hwb]; exact (Keep.refl _ _).alloc _
      have k0 : wb.cell? ⟨wr.heap.size, 0, none⟩ = some (.int .i64 x.tm) := by rw [hwb]; go_simp
      have k1 : wb.cell? ⟨wr.heap.size, 1, none⟩ = some (.slice ax x.labs.length cx) := by rw [hwb]; go_simp
      have k2 : wb.cell? ⟨wr.heap.size, 2, none⟩ = some (.string x.line) := by rw [hwb]; go_simp
      have hsb : wr.heap.size < wb.heap.size := by rw [hwb]; simp
      have HLB := Lib.hid hlb
      clear x0 x1 x2 x3 hcx hl hrk hrl hso hlb
      go_wp2_with fail
      rw [← hwb]
      clear hwb
      have HLW := Lib.hid (Keep.trans HL.out HLB.out)
      have HRKb := Lib.hid (HRK.out.lay HLB.out)
      have HRLb := Lib.hid (HRL.out.lay HLB.out)
      have hpos : w.heap.size ≤ wb.heap.size := HLW.out.size
      clear HRK HRL HLB HL g0 g1 g2
      generalize wr.heap.size = gx at k0 k1 k2 hsb ⊢
      go_loopw [8] (fun vi wq => ∃ q : Nat, vi = .int .i64 q ∧ q ≤ R.length ∧ Lay wb wq ∧ (∀ i (hi : i < R.length), i < q → ordC desc R[i].2 x = -1)) (fun vi _ => R.length - (intOf vi).toNat)
      case atStart => exact ⟨0, rfl, Nat.zero_le _, Keep.refl _ _, fun i _ hi => absurd hi (by omega)⟩
      case round =>
        obtain ⟨q, rfl, hq, hlq, hahead⟩ := hrel
        have HLQ := Lib.hid hlq
        have HAH := Lib.hid hahead
        have fk0 := cell_grown (w := wr) (a := ⟨gx, 0, none⟩) (Nat.lt_of_lt_of_le hsb hlq.size) ((hlq.cell hsb).trans k0)
        have fk1 := cell_grown (w := wr) (a := ⟨gx, 1, none⟩) (Nat.lt_of_lt_of_le hsb hlq.size) ((hlq.cell hsb).trans k1)
        have fk2 := cell_grown (w := wr) (a := ⟨gx, 2, none⟩) (Nat.lt_of_lt_of_le hsb hlq.size) ((hlq.cell hsb).trans k2)
        by_cases hql : q < R.length
        · obtain ⟨_, ⟨hv0, h0⟩ | ⟨g, cu', hv0, hGg, hgq, hlc, hmx2, hraw, hspare⟩⟩ := HRKb.out.rawAt
          · exact absurd hql (by rw [h0]; simp)
          simp only [Value.slice.injEq] at hv0
          obtain ⟨rfl, _, rfl⟩ := hv0
          obtain ⟨y0, y1, y2⟩ := hraw q hql
          have hly := HRLb.out R[q] (List.getElem_mem hql)
          have HYQ : Hid (∀ i (hi : i < R.length), i = q → R[i] = R[q]) := Lib.hid fun i hi e => by subst e; rfl
          have HMEM : Hid (R[q].2 ∈ R.map Prod.snd) := Lib.hid (List.mem_map.2 ⟨_, List.getElem_mem hql, rfl⟩)
          have HQY : Hid (∀ (hi : q < R.length), R[q]'hi = R[q]'hql) := Lib.hid fun _ => rfl
          generalize R[q]'hql = yy at y0 y1 y2 hly HYQ HMEM HQY
          obtain ⟨yl, y⟩ := yy
          simp only [Nat.zero_add] at y0 y1 y2 hly HMEM
          obtain ⟨ay, cy, rfl, _⟩ := id hly
          have hgr : g < wr.heap.size := Nat.lt_of_lt_of_le hgq hlq.size
          have fy0 := cell_grown (w := wr) (a := ⟨g, q * 3, none⟩) hgr ((hlq.cell hgq).trans y0)
          have fy1 := cell_grown (w := wr) (a := ⟨g, q * 3 + 1, none⟩) hgr ((hlq.cell hgq).trans y1)
          have fy2 := cell_grown (w := wr) (a := ⟨g, q * 3 + 2, none⟩) hgr ((hlq.cell hgq).trans y2)
          have AH0 : Hid (∀ W, Lay wb W → Calls Tryz.prog 28 #[.bool desc, .agg #[.int .i64 y.tm, .slice ay y.labs.length cy, .string y.line], .agg #[.int .i64 x.tm, .slice ax x.labs.length cx, .string x.line]] W fun e w' => e = .returned (.bool (decide (ordC desc y x = -1))) ∧ Lay W w') := Lib.hid fun W hlW => ahead_any desc (hly.lay hlW) (HXL.out.lay (HLW.out.trans hlW))
          have SM0 : Hid (∀ W, Lay wb W → Calls Tryz.prog 29 #[.agg #[.int .i64 y.tm, .slice ay y.labs.length cy, .string y.line], .agg #[.int .i64 x.tm, .slice ax x.labs.length cx, .string x.line]] W fun e w' => e = .returned (.bool (decide (entC y x = 0))) ∧ Lay W w') := Lib.hid fun W hlW => same_any (hly.lay hlW) (HXL.out.lay (HLW.out.trans hlW))
          have AH : ∀ n os, Calls Tryz.prog 28 #[.bool desc, .agg #[.int .i64 y.tm, .slice ay y.labs.length cy, .string y.line], .agg #[.int .i64 x.tm, .slice ax x.labs.length cx, .string x.line]] (Sort.grow (wr.drewN n) os) fun e w'' => e = .returned (.bool (decide (ordC desc y x = -1))) ∧ ∃ p : GrownBy, w'' = Sort.grow (wr.drewN p.n) p.os := fun n os => grown_of_lay (AH0.out _ (hlq.trans (Lay.of_grown n os)))
          have hi1 : (q : Int) < (R.length : Int) := by omega
          have hi0 : ¬ (q : Int) < 0 := by omega
          have HRAW := Lib.hid hraw
          clear hlq hahead hraw hspare hly
          cases hβ : decide (ordC desc y x = -1) with
          | true =>
            rw [hβ] at AH
            have HO := Lib.hid (of_decide_eq_true hβ)
            clear hβ
            go_wp2_with fail
            go_quiet_grown ((go_at_call 28; with_reducible exact AH _ _))
            go_wp2_with fail
            go_roundw
            case rel =>
              refine ⟨q + 1, by go_num, by omega, HLQ.out.trans (Lay.of_grown nq osq), fun i hi hiq => ?_⟩
              by_cases e : i = q
              · rw [HYQ.out i hi e]
                exact HO.out
              · exact HAH.out i hi (by omega)
            case measure => simp [intOf]; omega
          | false =>
            rw [hβ] at AH
            have HO := Lib.hid (of_decide_eq_false hβ)
            clear hβ
            go_wp2_with fail
            go_quiet_grown ((go_at_call 28; with_reducible exact AH _ _))
            have HL8 := Lib.hid (HLQ.out.trans (Lay.of_grown nq osq))
            clear fk0 fk1 fk2 fy0 fy1 fy2 AH
            generalize Sort.grow (wr.drewN nq) osq = w8 at HL8 ⊢
            have hs8 := HL8.out.size
            have fk0 := cell_grown (w := w8) (a := ⟨gx, 0, none⟩) (by show gx < _; omega) ((Lay.cell HL8.out hsb).trans k0)
            have fk1 := cell_grown (w := w8) (a := ⟨gx, 1, none⟩) (by show gx < _; omega) ((Lay.cell HL8.out hsb).trans k1)
            have fk2 := cell_grown (w := w8) (a := ⟨gx, 2, none⟩) (by show gx < _; omega) ((Lay.cell HL8.out hsb).trans k2)
            have fy0 := cell_grown (w := w8) (a := ⟨g, q * 3, none⟩) (by show g < _; omega) ((Lay.cell HL8.out hgq).trans y0)
            have fy1 := cell_grown (w := w8) (a := ⟨g, q * 3 + 1, none⟩) (by show g < _; omega) ((Lay.cell HL8.out hgq).trans y1)
            have fy2 := cell_grown (w := w8) (a := ⟨g, q * 3 + 2, none⟩) (by show g < _; omega) ((Lay.cell HL8.out hgq).trans y2)
            have SM : ∀ n os, Calls Tryz.prog 29 #[.agg #[.int .i64 y.tm, .slice ay y.labs.length cy, .string y.line], .agg #[.int .i64 x.tm, .slice ax x.labs.length cx, .string x.line]] (Sort.grow (w8.drewN n) os) fun e w'' => e = .returned (.bool (decide (entC y x = 0))) ∧ ∃ p : GrownBy, w'' = Sort.grow (w8.drewN p.n) p.os := fun n os => grown_of_lay (SM0.out _ (HL8.out.trans (Lay.of_grown n os)))
            cases hγ : decide (entC y x = 0) with
            | true =>
              rw [hγ] at SM
              have HO2 := Lib.hid (entC_lc.eq _ _ (of_decide_eq_true hγ))
              clear hγ
              go_wp2_with fail
              go_quiet_grown ((go_at_call 29; with_reducible exact SM _ _))
              have HL9 := Lib.hid (HL8.out.trans (Lay.of_grown nq osq))
              go_wp2_with fail
              go_roundw
              case rel =>
                refine ⟨k + 1, R, by go_num, by omega, by omega, HRKb.out.lay HL9.out, HRLb.out.lay HL9.out, ?_, HLW.out.trans HL9.out⟩
                rw [htk.out]
                refine ⟨HSO.out.1, fun z => ?_⟩
                rw [List.mem_append, List.mem_singleton, ← HSO.out.2 z]
                constructor
                · exact .inl
                · rintro (h | rfl)
                  · exact h
                  · have := HMEM.out
                    rwa [HO2.out] at this
              case measure => simp [intOf]; omega
            | false =>
              rw [hγ] at SM
              have HO2 := Lib.hid (of_decide_eq_false hγ)
              clear hγ
              go_wp2_with fail
              go_quiet_grown ((go_at_call 29; with_reducible exact SM _ _))
              have HL9 := Lib.hid (HL8.out.trans (Lay.of_grown nq osq))
              clear fk0 fk1 fk2 fy0 fy1 fy2 SM
              generalize Sort.grow (w8.drewN nq) osq = w9 at HL9 ⊢
              have hcq : ¬ cu = q := by omega
              have hcq2 : ¬ q = cu := by omega
              have hqc : (q : Int) ≤ (cu : Int) := by omega
              have hqz : ¬ (q : Int) < 0 := by omega
              have H2 : Hid (∀ hi : q < R.length, ordC desc x R[q].2 = -1) := Lib.hid fun hi => by
                rw [HQY.out hi]
                show ordC desc x y = -1
                have t1 := (ordC_lc desc).tri y x
                have t2 := (ordC_lc desc).neg y x
                have t3 : ordC desc y x ≠ 0 := fun e => by
                  have := (ordC_lc desc).eq _ _ e
                  subst this
                  exact HO2.out (entC_lc.refl _)
                have t4 := HO.out
                omega
              have HRKq := Lib.hid (HRKb.out.lay HL9.out)
              have HRLq := Lib.hid (HRLb.out.lay HL9.out)
              have INNER : Hid (∀ (W : World) (g5 : Nat), Lay w9 W → Rk 3 (fun b => w9.heap.size ≤ b) W (.slice (some ⟨g5, 0, none⟩) 1 1) 1 (flatR [(.slice ax x.labs.length cx, x)]) → ∃ v' w', (Builtin.append_ #[43, 43] 43 #[.slice (some ⟨g5, 0, none⟩) 1 1, .slice (some ⟨g, q * 3, none⟩) (R.length - q) (cu - q)]).run Tryz.prog W = .ok v' w' ∧ Rk 3 (fun b => w9.heap.size ≤ b) w' v' (1 + (R.length - q)) (flatR ((.slice ax x.labs.length cx, x) :: R.drop q)) ∧ Lay W w') := Lib.hid fun W g5 hlW h5 => by
                obtain ⟨i24, z24, E24⟩ := elem24
                have hsrc : Src Tryz.prog 3 43 (.slice (some ⟨g, q * 3, none⟩) (R.length - q) (cu - q)) (R.length - q) (flatR (R.drop q)) W := by have h := (((HRAW.out.lay hgq (Keep.trans HL9.out hlW)).drop q).src (fun z hz => (HRLq.out.lay hlW) z (List.mem_of_mem_drop hz)) (cu - q)); rw [List.length_drop, Nat.zero_add] at h; exact h
                have h6 := run_append_full E24 h5 (fun b hb => Nat.le_trans hlW.size hb) 43 43 (.slice (some ⟨g, q * 3, none⟩) (R.length - q) (cu - q)) (R.length - q) (flatR (R.drop q)) hsrc (by omega) (by omega) (by omega)
                exact h6
              have OUTER : Hid (∀ (W : World) (a9 : Option Addr) (c9 : Nat), Lay w9 W → Rk 3 (fun b => w9.heap.size ≤ b) W (.slice a9 (1 + (R.length - q)) c9) (1 + (R.length - q)) (flatR ((.slice ax x.labs.length cx, x) :: R.drop q)) → ∃ v' w', (Builtin.append_ #[43, 43] 43 #[.slice (some ⟨g, 0, none⟩) q q, .slice a9 (1 + (R.length - q)) c9]).run Tryz.prog W = .ok v' w' ∧ Rk 3 (fun b => w.heap.size ≤ b) w' v' (q + (1 + (R.length - q))) (flatR (R.take q ++ (.slice ax x.labs.length cx, x) :: R.drop q)) ∧ Lay W w') := Lib.hid fun W a9 c9 hlW h9 => by
                obtain ⟨i24, z24, E24⟩ := elem24
                have hwW : w.heap.size ≤ W.heap.size := (HLW.out.trans (Keep.trans HL9.out hlW)).size
                have hRL : RawL (fun b => L b ∧ b < w.heap.size) W ((.slice ax x.labs.length cx, x) :: R.drop q) := fun z hz => by
                  rcases List.mem_cons.1 hz with rfl | hz
                  · exact HXL.out.lay (HLW.out.trans (Keep.trans HL9.out hlW))
                  · exact (HRLq.out.lay hlW) z (List.mem_of_mem_drop hz)
                have hcut : Rk 3 (fun b => w.heap.size ≤ b) W (.slice (some ⟨g, 0, none⟩) q q) q (flatR (R.take q)) := by have h := (HRKq.out.lay hlW).cut q hq; rw [flatR_take] at h; exact h
                have h6 := run_append_full E24 hcut (fun b hb => Nat.le_trans hwW hb) 43 43 _ (1 + (R.length - q)) _ (Rk.src Tryz.underlying43 h9 (flatR_one hRL)) (by omega) (by omega) (by omega)
                rw [← flatR_append] at h6
                exact h6
              obtain ⟨v7, w7, hrun1, hb7, hl7⟩ := INNER.out (w9.drew.alloc (.cells #[.int .i64 x.tm, .slice ax x.labs.length cx, .string x.line] 32)) w9.heap.size (((Keep.refl _ _).drew).alloc _) ((rk_new 3 w9.drew 1 (flatR [(.slice ax x.labs.length cx, x)]) 32 rfl (by omega)).mono fun b hb _ => by rw [hb]; exact Nat.le_refl _)
              obtain ⟨a7, c7, rfl⟩ := hb7.shape
              obtain ⟨v8, w8', hrun2, hb8, hl8⟩ := OUTER.out w7 a7 c7 (Keep.trans (((Keep.refl _ _).drew).alloc _) hl7) hb7
              obtain ⟨a8, c8, rfl⟩ := hb8.shape
              have f0 := (Lay.cell HL9.out hsb).trans k0
              have f1 := (Lay.cell HL9.out hsb).trans k1
              have f2 := (Lay.cell HL9.out hsb).trans k2
              have hlw9 : Lay w9 w8' := Keep.trans (Keep.trans (((Keep.refl _ _).drew).alloc _) hl7) hl8
              have hgx9 : gx < w9.heap.size := by have := HL9.out.size; omega
              have hgx9n : ¬ gx = w9.heap.size := by omega
              have HB8 := Lib.hid hb8
              have HLW9 := Lib.hid hlw9
              clear HRKq HRLq INNER OUTER hb7 hl7 hb8 hl8 hlw9
              go_wp2_with fail
              go_region_law (first | (refine step_append_run rfl _ _ _ rfl rfl rfl hrun1 ?_) | (refine step_append_run rfl _ _ _ rfl rfl rfl hrun2 ?_))
              all_goals
                have hlen : (R.take q ++ (.slice ax x.labs.length cx, x) :: R.drop q).length = q + (1 + (R.length - q)) := by
                  rw [List.length_append, List.length_cons, List.length_take, List.length_drop]
                  omega
                have h11 : Rk 3 (fun b => w.heap.size ≤ b) w8' (.slice a8 (q + (1 + (R.length - q))) c8) (R.take q ++ (.slice ax x.labs.length cx, x) :: R.drop q).length (flatR (R.take q ++ (.slice ax x.labs.length cx, x) :: R.drop q)) := by
                  rw [hlen]
                  exact HB8.out
                have hlW := Keep.trans HL9.out HLW9.out
                have HRK11 := Lib.hid h11
                have HRL11 : Hid (RawL (fun b => L b ∧ b < w.heap.size) w8' (R.take q ++ (.slice ax x.labs.length cx, x) :: R.drop q)) := Lib.hid fun z hz => by
                  rcases List.mem_append.1 hz with hz | hz
                  · exact (HRLb.out.lay hlW) z (List.mem_of_mem_take hz)
                  · rcases List.mem_cons.1 hz with rfl | hz
                    · exact HXL.out.lay (HLW.out.trans hlW)
                    · exact (HRLb.out.lay hlW) z (List.mem_of_mem_drop hz)
                have HSO11 : Hid (Sorts (ordC desc) (es.take (k + 1)) ((R.take q ++ (.slice ax x.labs.length cx, x) :: R.drop q).map Prod.snd)) := Lib.hid (by
                  rw [htk.out]
                  exact sorts_put (ordC_lc desc) hq HSO.out HAH.out H2.out)
                have HLW11 : Hid (Lay w w8') := Lib.hid (HLW.out.trans hlW)
                have hlen2 : (R.take q ++ (.slice ax x.labs.length cx, x) :: R.drop q).length ≤ k + 1 := by omega
                clear h11 hlW hrun1 hrun2
                go_wp2_with fail
                go_roundw
                case rel => exact ⟨k + 1, R.take q ++ (.slice ax x.labs.length cx, x) :: R.drop q, by go_num, by omega, hlen2, HRK11.out, HRL11.out, HSO11.out, HLW11.out⟩
                case measure => simp [intOf]; omega
        · have hqe : q = R.length := by omega
          subst hqe
          have hi1 : ¬ (R.length : Int) < (R.length : Int) := by omega
          obtain ⟨_, ⟨hv0, h0⟩ | ⟨g, cu', hv0, hGg, hgq, hlc, hmx2, hraw, hspare⟩⟩ := HRKb.out.rawAt
          · subst h0
            simp only [Value.slice.injEq] at hv0
            obtain ⟨rfl, _, rfl⟩ := hv0
            clear hlq hahead hql
            simp only [List.length_nil] at *
            go_wp2_with fail
            go_quiet_grown (fail)
            have HL8 := Lib.hid (HLQ.out.trans (Lay.of_grown nq osq))
            clear fk0 fk1 fk2
            generalize Sort.grow (wr.drewN nq) osq = w8 at HL8 ⊢
            go_wp2_with fail
            go_quiet_grown (fail)
            have HL9 := Lib.hid (HL8.out.trans (Lay.of_grown nq osq))
            generalize Sort.grow (w8.drewN nq) osq = w9 at HL9 ⊢
            obtain ⟨i24, z24, E24⟩ := elem24
            have hsrc1 : Src Tryz.prog 3 43 (.slice none 0 0) 0 [] (w9.drew.alloc (.cells #[.int .i64 x.tm, .slice ax x.labs.length cx, .string x.line] 32)) := Src.ofNil _ Tryz.underlying43 0
            obtain ⟨v7, w7, hrun1, hb7, hl7⟩ := run_append_full E24 ((rk_new 3 w9.drew 1 (flatR [(.slice ax x.labs.length cx, x)]) 32 rfl (by omega)).mono (G' := fun b => w9.heap.size ≤ b) fun b hb _ => by rw [hb]; exact Nat.le_refl _) (fun b hb => by simp at hb; omega) 43 43 (.slice none 0 0) 0 [] hsrc1 (by omega) (by omega) (.inl rfl)
            obtain ⟨a7, c7, rfl⟩ := hb7.shape
            simp only [Nat.add_zero, List.append_nil] at hrun1 hb7
            have hl97 : Lay w9 w7 := Keep.trans (((Keep.refl _ _).drew).alloc _) hl7
            have hww7 : w.heap.size ≤ w7.heap.size := (HLW.out.trans (Keep.trans HL9.out hl97)).size
            have hRL : RawL (fun b => L b ∧ b < w.heap.size) w7 [(.slice ax x.labs.length cx, x)] := fun z hz => by
              rw [List.mem_singleton.1 hz]
              exact HXL.out.lay (HLW.out.trans (Keep.trans HL9.out hl97))
            have hcut : Rk 3 (fun b => w.heap.size ≤ b) w7 (.slice none 0 0) (0) (flatR ([] : List (Value × Ent))) := Rk.nil 3 _ _
            obtain ⟨v8, w8', hrun2, hb8, hl8⟩ := run_append_full E24 hcut (fun b hb => Nat.le_trans hww7 hb) 43 43 _ 1 _ (Rk.src Tryz.underlying43 hb7 (flatR_one hRL)) (by omega) (by omega) (.inr (by omega))
            obtain ⟨a8, c8, rfl⟩ := hb8.shape
            have f0 := (Lay.cell HL9.out hsb).trans k0
            have f1 := (Lay.cell HL9.out hsb).trans k1
            have f2 := (Lay.cell HL9.out hsb).trans k2
            have hlw9 : Lay w9 w8' := Keep.trans hl97 hl8
            have hgx9 : gx < w9.heap.size := by have := HL9.out.size; omega
            have hgx9n : ¬ gx = w9.heap.size := by omega
            have HB8 := Lib.hid hb8
            have HLW9 := Lib.hid hlw9
            clear hb7 hl7 hb8 hl8 hlw9 hl97 hcut hRL hsrc1 hww7
            go_wp2_with fail
            go_region_law (first | (refine step_append_run rfl _ _ _ rfl rfl rfl hrun1 ?_) | (refine step_append_run rfl _ _ _ rfl rfl rfl hrun2 ?_))
            all_goals
              have hlen : (([] : List (Value × Ent)) ++ [(Value.slice ax x.labs.length cx, x)]).length = 0 + 1 := by simp
              have h11 : Rk 3 (fun b => w.heap.size ≤ b) w8' (.slice a8 (0 + 1) c8) (([] : List (Value × Ent)) ++ [(Value.slice ax x.labs.length cx, x)]).length (flatR (([] : List (Value × Ent)) ++ [(Value.slice ax x.labs.length cx, x)])) := by
                rw [hlen, flatR_append]
                exact HB8.out
              have hlW := Keep.trans HL9.out HLW9.out
              have HRK11 := Lib.hid h11
              have HRL11 : Hid (RawL (fun b => L b ∧ b < w.heap.size) w8' (([] : List (Value × Ent)) ++ [(Value.slice ax x.labs.length cx, x)])) := Lib.hid fun z hz => by
                rcases List.mem_append.1 hz with hz | hz
                · exact (HRLb.out.lay hlW) z hz
                · rw [List.mem_singleton.1 hz]
                  exact HXL.out.lay (HLW.out.trans hlW)
              have HSO11 : Hid (Sorts (ordC desc) (es.take (k + 1)) ((([] : List (Value × Ent)) ++ [(Value.slice ax x.labs.length cx, x)]).map Prod.snd)) := Lib.hid (by
                rw [htk.out]
                have h := sorts_put (q := ([] : List (Value × Ent)).length) (xl := .slice ax x.labs.length cx) (ordC_lc desc) (Nat.le_refl _) HSO.out (fun i hi _ => HAH.out i hi hi) (fun hi => absurd hi (Nat.lt_irrefl _))
                rw [List.take_length, List.drop_length] at h
                exact h)
              have HLW11 : Hid (Lay w w8') := Lib.hid (HLW.out.trans hlW)
              have hlen2 : (([] : List (Value × Ent)) ++ [(Value.slice ax x.labs.length cx, x)]).length ≤ k + 1 := by rw [hlen]; omega
              clear h11 hlW hrun1 hrun2
              go_wp2_with fail
              go_roundw
              case rel => exact ⟨k + 1, ([] : List (Value × Ent)) ++ [(Value.slice ax x.labs.length cx, x)], by go_num, by omega, hlen2, HRK11.out, HRL11.out, HSO11.out, HLW11.out⟩
              case measure => simp [intOf]; omega
          · simp only [Value.slice.injEq] at hv0
            obtain ⟨rfl, _, rfl⟩ := hv0
            clear hlq hahead hql hraw hspare
            by_cases hcq : cu = R.length
            · subst hcq
              go_wp2_with fail
              go_quiet_grown (fail)
              have HL8 := Lib.hid (HLQ.out.trans (Lay.of_grown nq osq))
              clear fk0 fk1 fk2
              generalize Sort.grow (wr.drewN nq) osq = w8 at HL8 ⊢
              go_wp2_with fail
              go_quiet_grown (fail)
              have HL9 := Lib.hid (HL8.out.trans (Lay.of_grown nq osq))
              generalize Sort.grow (w8.drewN nq) osq = w9 at HL9 ⊢
              obtain ⟨i24, z24, E24⟩ := elem24
              have hsrc1 : Src Tryz.prog 3 43 (.slice (some ⟨g, 0, none⟩) 0 0) 0 [] (w9.drew.alloc (.cells #[.int .i64 x.tm, .slice ax x.labs.length cx, .string x.line] 32)) := Src.ofSlice _ Tryz.underlying43 ⟨g, 0, none⟩ 0 0 [] rfl (fun j u hu => by simp at hu) (fun u hu => by simp at hu)
              obtain ⟨v7, w7, hrun1, hb7, hl7⟩ := run_append_full E24 ((rk_new 3 w9.drew 1 (flatR [(.slice ax x.labs.length cx, x)]) 32 rfl (by omega)).mono (G' := fun b => w9.heap.size ≤ b) fun b hb _ => by rw [hb]; exact Nat.le_refl _) (fun b hb => by simp at hb; omega) 43 43 (.slice (some ⟨g, 0, none⟩) 0 0) 0 [] hsrc1 (by omega) (by omega) (.inl rfl)
              obtain ⟨a7, c7, rfl⟩ := hb7.shape
              simp only [Nat.add_zero, List.append_nil] at hrun1 hb7
              have hl97 : Lay w9 w7 := Keep.trans (((Keep.refl _ _).drew).alloc _) hl7
              have hww7 : w.heap.size ≤ w7.heap.size := (HLW.out.trans (Keep.trans HL9.out hl97)).size
              have hRL : RawL (fun b => L b ∧ b < w.heap.size) w7 [(.slice ax x.labs.length cx, x)] := fun z hz => by
                rw [List.mem_singleton.1 hz]
                exact HXL.out.lay (HLW.out.trans (Keep.trans HL9.out hl97))
              have hcut : Rk 3 (fun b => w.heap.size ≤ b) w7 (.slice (some ⟨g, 0, none⟩) R.length R.length) (R.length) (flatR R) := by have h := (HRKb.out.lay (Keep.trans HL9.out hl97)).cut R.length (Nat.le_refl _); rw [flatR_take, List.take_length] at h; exact h
              obtain ⟨v8, w8', hrun2, hb8, hl8⟩ := run_append_full E24 hcut (fun b hb => Nat.le_trans hww7 hb) 43 43 _ 1 _ (Rk.src Tryz.underlying43 hb7 (flatR_one hRL)) (by omega) (by omega) (.inr (by omega))
              obtain ⟨a8, c8, rfl⟩ := hb8.shape
              have f0 := (Lay.cell HL9.out hsb).trans k0
              have f1 := (Lay.cell HL9.out hsb).trans k1
              have f2 := (Lay.cell HL9.out hsb).trans k2
              have hlw9 : Lay w9 w8' := Keep.trans hl97 hl8
              have hgx9 : gx < w9.heap.size := by have := HL9.out.size; omega
              have hgx9n : ¬ gx = w9.heap.size := by omega
              have HB8 := Lib.hid hb8
              have HLW9 := Lib.hid hlw9
              clear hb7 hl7 hb8 hl8 hlw9 hl97 hcut hRL hsrc1 hww7
              go_wp2_with fail
              go_region_law (first | (refine step_append_run rfl _ _ _ rfl rfl rfl hrun1 ?_) | (refine step_append_run rfl _ _ _ rfl rfl rfl hrun2 ?_))
              all_goals
                have hlen : (R ++ [(Value.slice ax x.labs.length cx, x)]).length = R.length + 1 := by simp
                have h11 : Rk 3 (fun b => w.heap.size ≤ b) w8' (.slice a8 (R.length + 1) c8) (R ++ [(Value.slice ax x.labs.length cx, x)]).length (flatR (R ++ [(Value.slice ax x.labs.length cx, x)])) := by
                  rw [hlen, flatR_append]
                  exact HB8.out
                have hlW := Keep.trans HL9.out HLW9.out
                have HRK11 := Lib.hid h11
                have HRL11 : Hid (RawL (fun b => L b ∧ b < w.heap.size) w8' (R ++ [(Value.slice ax x.labs.length cx, x)])) := Lib.hid fun z hz => by
                  rcases List.mem_append.1 hz with hz | hz
                  · exact (HRLb.out.lay hlW) z hz
                  · rw [List.mem_singleton.1 hz]
                    exact HXL.out.lay (HLW.out.trans hlW)
                have HSO11 : Hid (Sorts (ordC desc) (es.take (k + 1)) ((R ++ [(Value.slice ax x.labs.length cx, x)]).map Prod.snd)) := Lib.hid (by
                  rw [htk.out]
                  have h := sorts_put (q := R.length) (xl := .slice ax x.labs.length cx) (ordC_lc desc) (Nat.le_refl _) HSO.out (fun i hi _ => HAH.out i hi hi) (fun hi => absurd hi (Nat.lt_irrefl _))
                  rw [List.take_length, List.drop_length] at h
                  exact h)
                have HLW11 : Hid (Lay w w8') := Lib.hid (HLW.out.trans hlW)
                have hlen2 : (R ++ [(Value.slice ax x.labs.length cx, x)]).length ≤ k + 1 := by rw [hlen]; omega
                clear h11 hlW hrun1 hrun2
                go_wp2_with fail
                go_roundw
                case rel => exact ⟨k + 1, R ++ [(Value.slice ax x.labs.length cx, x)], by go_num, by omega, hlen2, HRK11.out, HRL11.out, HSO11.out, HLW11.out⟩
                case measure => simp [intOf]; omega
            · have hcq2 : ¬ R.length = cu := by omega
              have hqc : (R.length : Int) ≤ (cu : Int) := by omega
              go_wp2_with fail
              go_quiet_grown (fail)
              have HL8 := Lib.hid (HLQ.out.trans (Lay.of_grown nq osq))
              clear fk0 fk1 fk2
              generalize Sort.grow (wr.drewN nq) osq = w8 at HL8 ⊢
              go_wp2_with fail
              go_quiet_grown (fail)
              have HL9 := Lib.hid (HL8.out.trans (Lay.of_grown nq osq))
              generalize Sort.grow (w8.drewN nq) osq = w9 at HL9 ⊢
              obtain ⟨i24, z24, E24⟩ := elem24
              have hsrc1 : Src Tryz.prog 3 43 (.slice (some ⟨g, R.length * 3, none⟩) 0 (cu - R.length)) 0 [] (w9.drew.alloc (.cells #[.int .i64 x.tm, .slice ax x.labs.length cx, .string x.line] 32)) := Src.ofSlice _ Tryz.underlying43 ⟨g, R.length * 3, none⟩ 0 (cu - R.length) [] rfl (fun j u hu => by simp at hu) (fun u hu => by simp at hu)
              obtain ⟨v7, w7, hrun1, hb7, hl7⟩ := run_append_full E24 ((rk_new 3 w9.drew 1 (flatR [(.slice ax x.labs.length cx, x)]) 32 rfl (by omega)).mono (G' := fun b => w9.heap.size ≤ b) fun b hb _ => by rw [hb]; exact Nat.le_refl _) (fun b hb => by simp at hb; omega) 43 43 (.slice (some ⟨g, R.length * 3, none⟩) 0 (cu - R.length)) 0 [] hsrc1 (by omega) (by omega) (.inl rfl)
              obtain ⟨a7, c7, rfl⟩ := hb7.shape
              simp only [Nat.add_zero, List.append_nil] at hrun1 hb7
              have hl97 : Lay w9 w7 := Keep.trans (((Keep.refl _ _).drew).alloc _) hl7
              have hww7 : w.heap.size ≤ w7.heap.size := (HLW.out.trans (Keep.trans HL9.out hl97)).size
              have hRL : RawL (fun b => L b ∧ b < w.heap.size) w7 [(.slice ax x.labs.length cx, x)] := fun z hz => by
                rw [List.mem_singleton.1 hz]
                exact HXL.out.lay (HLW.out.trans (Keep.trans HL9.out hl97))
              have hcut : Rk 3 (fun b => w.heap.size ≤ b) w7 (.slice (some ⟨g, 0, none⟩) R.length R.length) (R.length) (flatR R) := by have h := (HRKb.out.lay (Keep.trans HL9.out hl97)).cut R.length (Nat.le_refl _); rw [flatR_take, List.take_length] at h; exact h
              obtain ⟨v8, w8', hrun2, hb8, hl8⟩ := run_append_full E24 hcut (fun b hb => Nat.le_trans hww7 hb) 43 43 _ 1 _ (Rk.src Tryz.underlying43 hb7 (flatR_one hRL)) (by omega) (by omega) (.inr (by omega))
              obtain ⟨a8, c8, rfl⟩ := hb8.shape
              have f0 := (Lay.cell HL9.out hsb).trans k0
              have f1 := (Lay.cell HL9.out hsb).trans k1
              have f2 := (Lay.cell HL9.out hsb).trans k2
              have hlw9 : Lay w9 w8' := Keep.trans hl97 hl8
              have hgx9 : gx < w9.heap.size := by have := HL9.out.size; omega
              have hgx9n : ¬ gx = w9.heap.size := by omega
              have HB8 := Lib.hid hb8
              have HLW9 := Lib.hid hlw9
              clear hb7 hl7 hb8 hl8 hlw9 hl97 hcut hRL hsrc1 hww7
              go_wp2_with fail
              go_region_law (first | (refine step_append_run rfl _ _ _ rfl rfl rfl hrun1 ?_) | (refine step_append_run rfl _ _ _ rfl rfl rfl hrun2 ?_))
              all_goals
                have hlen : (R ++ [(Value.slice ax x.labs.length cx, x)]).length = R.length + 1 := by simp
                have h11 : Rk 3 (fun b => w.heap.size ≤ b) w8' (.slice a8 (R.length + 1) c8) (R ++ [(Value.slice ax x.labs.length cx, x)]).length (flatR (R ++ [(Value.slice ax x.labs.length cx, x)])) := by
                  rw [hlen, flatR_append]
                  exact HB8.out
                have hlW := Keep.trans HL9.out HLW9.out
                have HRK11 := Lib.hid h11
                have HRL11 : Hid (RawL (fun b => L b ∧ b < w.heap.size) w8' (R ++ [(Value.slice ax x.labs.length cx, x)])) := Lib.hid fun z hz => by
                  rcases List.mem_append.1 hz with hz | hz
                  · exact (HRLb.out.lay hlW) z hz
                  · rw [List.mem_singleton.1 hz]
                    exact HXL.out.lay (HLW.out.trans hlW)
                have HSO11 : Hid (Sorts (ordC desc) (es.take (k + 1)) ((R ++ [(Value.slice ax x.labs.length cx, x)]).map Prod.snd)) := Lib.hid (by
                  rw [htk.out]
                  have h := sorts_put (q := R.length) (xl := .slice ax x.labs.length cx) (ordC_lc desc) (Nat.le_refl _) HSO.out (fun i hi _ => HAH.out i hi hi) (fun hi => absurd hi (Nat.lt_irrefl _))
                  rw [List.take_length, List.drop_length] at h
                  exact h)
                have HLW11 : Hid (Lay w w8') := Lib.hid (HLW.out.trans hlW)
                have hlen2 : (R ++ [(Value.slice ax x.labs.length cx, x)]).length ≤ k + 1 := by rw [hlen]; omega
                clear h11 hlW hrun1 hrun2
                go_wp2_with fail
                go_roundw
                case rel => exact ⟨k + 1, R ++ [(Value.slice ax x.labs.length cx, x)], by go_num, by omega, hlen2, HRK11.out, HRL11.out, HSO11.out, HLW11.out⟩
                case measure => simp [intOf]; omega
    · obtain rfl : k = es.length := by omega
      have hso2 := HSO.out
      rw [List.take_length] at hso2
      clear hl hrk hrl hso
      go_wp2_with fail
      go_ret
      exact ⟨_, R, rfl, HRK.out, HRL.out, hso2, HL.out⟩
end Go.Proofs.YtoobjjpheegmdaaGreat.E4
namespace Go.Proofs.YtoobjjpheegmdaaGreat.E4
open Go.RowKit Go
end Go.Proofs.YtoobjjpheegmdaaGreat.E4
namespace Go.Proofs.YtoobjjpheegmdaaGreat.E4
open Go.RowKit Go
end Go.Proofs.YtoobjjpheegmdaaGreat.E4
