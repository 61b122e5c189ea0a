/-
  SMALL CALLS OVER ENTRIES: Order and what it hands out; the document's Same, Ahead, Great, Many; both Values.
-/
import Derived.Test.YtgcldnojmdabpaaBefore
import Derived.Test.YtgcldnojmdabpaaNames
namespace Go.Proofs.Ytgcldnojmdabpaa
open Go.RowKit Go

set_option maxHeartbeats 2000000 in
set_option maxRecDepth 100000 in
/-- The document's Same. -/
theorem same_any {G H : Nat → Prop} {w : World} {x y : Ent} {xl yl : Value} (hx : LabsAt G w xl x.labs) (hy : LabsAt H w yl y.labs) :
    Calls Try.prog 33 #[x.val xl, y.val yl] w fun e w' => e = .returned (.bool (decide (entC x y = 0))) ∧ Lay w w' := by
  obtain ⟨a, ca, rfl, _⟩ := id hx
  obtain ⟨b, cb, rfl, _⟩ := id hy
  have HL0 : Hid (Lay w ((w.alloc (.cells #[.int .i64 x.tm, .slice a x.labs.length ca, .string x.line] 24)).alloc (.cells #[.int .i64 y.tm, .slice b y.labs.length cb, .string y.line] 24))) := Lib.hid (((Keep.refl _ _).alloc _).alloc _)
  have HX := Lib.hid (hx.lay HL0.out)
  have HY := Lib.hid (hy.lay HL0.out)
  have H1 := Lib.hid (before_any HX.out HY.out)
  have ht := entC_lc.tri x y
  have hn := entC_lc.neg x y
  unfold Ent.val at H1 ⊢
  clear hx hy
  generalize entC x y = r at H1 ht hn
  by_cases h1 : r = -1
  · subst h1
    go_enter Try.func33, Try.ntmps33
    go_wp2_with fail
    refine H1.out.mono ?_
    rintro e w1 ⟨rfl, hl1⟩
    have HL1 := Lib.hid (Keep.trans HL0.out hl1)
    clear hl1 H1 ht hn
    go_wp2_with fail
    go_ret
    exact ⟨by simp, HL1.out⟩
  · have d1 : decide (r = -1) = false := decide_eq_false h1
    rw [d1] at H1
    go_enter Try.func33, Try.ntmps33
    go_wp2_with fail
    refine H1.out.mono ?_
    rintro e w1 ⟨rfl, hl1⟩
    have HL1 := Lib.hid (Keep.trans HL0.out hl1)
    have k0 : w1.cell? ⟨w.heap.size, 0, none⟩ = some (.int .i64 x.tm) := (Lay.cell hl1 (by simp; try omega)).trans (by go_simp)
    have k1 : w1.cell? ⟨w.heap.size, 1, none⟩ = some (.slice a x.labs.length ca) := (Lay.cell hl1 (by simp; try omega)).trans (by go_simp)
    have k2 : w1.cell? ⟨w.heap.size, 2, none⟩ = some (.string x.line) := (Lay.cell hl1 (by simp; try omega)).trans (by go_simp)
    have q0 : w1.cell? ⟨w.heap.size + 1, 0, none⟩ = some (.int .i64 y.tm) := (Lay.cell hl1 (by simp; try omega)).trans (by go_simp)
    have q1 : w1.cell? ⟨w.heap.size + 1, 1, none⟩ = some (.slice b y.labs.length cb) := (Lay.cell hl1 (by simp; try omega)).trans (by go_simp)
    have q2 : w1.cell? ⟨w.heap.size + 1, 2, none⟩ = some (.string y.line) := (Lay.cell hl1 (by simp; try omega)).trans (by go_simp)
    have H2 := Lib.hid (before_any (HY.out.lay hl1) (HX.out.lay hl1))
    unfold Ent.val at H2
    rw [hn] at H2
    clear hl1 H1 hn
    by_cases h0 : r = 0
    · subst h0
      go_wp2_with fail
      refine H2.out.mono ?_
      rintro e w2 ⟨rfl, hl2⟩
      go_wp2_with fail
      go_ret
      exact ⟨by simp, Keep.trans HL1.out hl2⟩
    · obtain rfl : r = 1 := by omega
      go_wp2_with fail
      refine H2.out.mono ?_
      rintro e w2 ⟨rfl, hl2⟩
      go_wp2_with fail
      go_ret
      exact ⟨by simp, Keep.trans HL1.out hl2⟩

/-- The order of entries, in a way. -/
def ordC (desc : Bool) (x y : Ent) : Int := if desc then entC y x else entC x y
theorem ordC_lc (desc : Bool) : LC (ordC desc) := by
  cases desc
  · exact entC_lc
  · exact ⟨fun a b => entC_lc.tri b a, fun a b => entC_lc.neg b a, fun a b h => (entC_lc.eq _ _ h).symm, fun a => entC_lc.refl a, fun a b d h k => entC_lc.tr _ _ _ k h⟩

set_option maxHeartbeats 2000000 in
set_option maxRecDepth 100000 in
/-- The document's Ahead. -/
theorem ahead_any {G H : Nat → Prop} {w : World} (desc : Bool) {x y : Ent} {xl yl : Value} (hx : LabsAt G w xl x.labs) (hy : LabsAt H w yl y.labs) :
    Calls Try.prog 57 #[.bool desc, x.val xl, y.val yl] w fun e w' => e = .returned (.bool (decide (ordC desc x y = -1))) ∧ Lay w w' := by
  obtain ⟨a, ca, rfl, _⟩ := id hx
  obtain ⟨b, cb, rfl, _⟩ := id hy
  have HL0 : Hid (Lay w ((w.alloc (.cells #[.int .i64 x.tm, .slice a x.labs.length ca, .string x.line] 24)).alloc (.cells #[.int .i64 y.tm, .slice b y.labs.length cb, .string y.line] 24))) := Lib.hid (((Keep.refl _ _).alloc _).alloc _)
  cases desc
  · have H1 := Lib.hid (before_any (hx.lay HL0.out) (hy.lay HL0.out))
    unfold Ent.val at H1 ⊢
    clear hx hy
    go_enter Try.func57, Try.ntmps57
    go_wp2_with fail
    refine H1.out.mono ?_
    rintro e w1 ⟨rfl, hl1⟩
    go_wp2_with fail
    go_ret
    exact ⟨rfl, Keep.trans HL0.out hl1⟩
  · have H1 := Lib.hid (before_any (hy.lay HL0.out) (hx.lay HL0.out))
    unfold Ent.val at H1 ⊢
    clear hx hy
    go_enter Try.func57, Try.ntmps57
    go_wp2_with fail
    refine H1.out.mono ?_
    rintro e w1 ⟨rfl, hl1⟩
    go_wp2_with fail
    go_ret
    exact ⟨rfl, Keep.trans HL0.out hl1⟩

set_option maxHeartbeats 2000000 in
set_option maxRecDepth 100000 in
/-- What Order hands out for the latest first. -/
theorem desc_any {G H : Nat → Prop} {w : World} {x y : Ent} {xl yl : Value} (hx : LabsAt G w xl x.labs) (hy : LabsAt H w yl y.labs) :
    Calls Try.prog 52 #[x.val xl, y.val yl] w fun e w' => e = .returned (.int .i64 (entC y x)) ∧ Lay w w' := by
  obtain ⟨a, ca, rfl, _⟩ := id hx
  obtain ⟨b, cb, rfl, _⟩ := id hy
  have HL0 : Hid (Lay w ((w.alloc (.cells #[.int .i64 x.tm, .slice a x.labs.length ca, .string x.line] 24)).alloc (.cells #[.int .i64 y.tm, .slice b y.labs.length cb, .string y.line] 24))) := Lib.hid (((Keep.refl _ _).alloc _).alloc _)
  have H1 := Lib.hid (compare_any (hy.lay HL0.out) (hx.lay HL0.out))
  unfold Ent.val at H1 ⊢
  clear hx hy
  go_enter Try.func52, Try.ntmps52
  go_wp2_with fail
  refine H1.out.mono ?_
  rintro e w1 ⟨rfl, hl1⟩
  go_wp2_with fail
  go_ret
  exact ⟨rfl, Keep.trans HL0.out hl1⟩

/-- The function that Order hands out. -/
def ordF (desc : Bool) : Nat := if desc then 52 else 24

set_option maxHeartbeats 400000 in
theorem order_any (desc : Bool) (w : World) : Calls Try.prog 25 #[.bool desc] w fun e w' => e = .returned (.func (.func (ordF desc)) #[] #[]) ∧ w' = w := by
  cases desc
  all_goals
    go_enter Try.func25, Try.ntmps25
    go_wp2
    go_ret
    exact ⟨rfl, rfl⟩

theorem ordF_any {G H : Nat → Prop} {w : World} (desc : Bool) {x y : Ent} {xl yl : Value} (hx : LabsAt G w xl x.labs) (hy : LabsAt H w yl y.labs) :
    Calls Try.prog (ordF desc) #[x.val xl, y.val yl] w fun e w' => e = .returned (.int .i64 (ordC desc x y)) ∧ Lay w w' := by
  cases desc
  · exact compare_any hx hy
  · exact desc_any hx hy

/-! ### Great, Many -/

def Lab.big (x : Lab) : Bool := decide (200 < x.n.size) || decide (200 < x.v.size)
def Ent.big (e : Ent) : Bool := decide (20 < e.labs.length) || decide (1000 < e.line.size) || e.labs.any Lab.big

set_option maxHeartbeats 4000000 in
set_option maxRecDepth 100000 in
/-- The document's Great. -/
theorem great_any {G : Nat → Prop} {w : World} {e : Ent} {lv : Value} (h : LabsAt G w lv e.labs) :
    Calls Try.prog 11 #[e.val lv] w fun x w' => x = .returned (.bool e.big) ∧ Lay w w' := by
  obtain ⟨a, ca, rfl, hl63, ha⟩ := h
  obtain ⟨tm, labs, line⟩ := e
  have HA := Lib.hid ha
  have HL0 : Hid (Lay w (w.alloc (.cells #[.int .i64 tm, .slice a labs.length ca, .string line] 24))) := Lib.hid ((Keep.refl _ _).alloc _)
  have HOK : Hid (Ent.big ⟨tm, labs, line⟩ = (decide (20 < labs.length) || decide (1000 < line.size) || labs.any Lab.big)) := Lib.hid rfl
  unfold Ent.val
  clear ha
  simp only [] at hl63 HA ⊢
  by_cases h20 : 20 < labs.length
  · have d20 : decide (20 < (labs.length : Int)) = true := by simp; omega
    have HR : Hid (Ent.big ⟨tm, labs, line⟩ = true) := Lib.hid (by rw [HOK.out, decide_eq_true h20]; rfl)
    clear h20
    go_enter Try.func11, Try.ntmps11
    go_wp2_with fail
    go_ret
    exact ⟨by rw [HR.out]; rfl, HL0.out⟩
  · have d20 : decide (20 < (labs.length : Int)) = false := by simp; omega
    by_cases h1000 : 1000 < line.size
    · have d1 : decide (1000 < (line.size : Int)) = true := by simp; omega
      have HR : Hid (Ent.big ⟨tm, labs, line⟩ = true) := Lib.hid (by rw [HOK.out, decide_eq_true h1000]; simp)
      clear h20 h1000
      go_enter Try.func11, Try.ntmps11
      go_wp2_with fail
      go_ret
      exact ⟨by rw [HR.out]; rfl, HL0.out⟩
    · have d1 : decide (1000 < (line.size : Int)) = false := by simp; omega
      have HO := HOK.out
      rw [decide_eq_false h20, decide_eq_false h1000, Bool.false_or, Bool.false_or] at HO
      have HR := Lib.hid HO
      clear HO HOK h1000
      go_enter Try.func11, Try.ntmps11
      go_wp2_with fail
      clear d20 d1
      go_loopw [18] (fun vi wr => ∃ k : Nat, vi = .int .i64 k ∧ k ≤ labs.length ∧ Lay w wr ∧ labs.any Lab.big = (labs.drop k).any Lab.big) (fun vi _ => labs.length - (intOf vi).toNat)
      case atStart => exact ⟨0, rfl, Nat.zero_le _, HL0.out, by simp⟩
      case round =>
        obtain ⟨k, rfl, hk, hl, hz⟩ := hrel
        have HZ := Lib.hid hz
        have HL := Lib.hid hl
        clear hz
        by_cases hlt : k < labs.length
        · rcases HA.out with h0 | ⟨bx, ox, rfl, hgx, hbx, hcx⟩
          · exact absurd hlt (by rw [h0]; simp)
          obtain ⟨x0, x1⟩ := hcx k hlt
          have g0 := (hl.cell hbx).trans x0
          have g1 := (hl.cell hbx).trans x1
          have hdx := Lib.hid (List.drop_eq_getElem_cons hlt)
          generalize labs[k] = x at g0 g1 hdx x0 x1
          clear x0 x1 hcx hl
          by_cases hn : 200 < x.n.size
          · have dn : decide (200 < (x.n.size : Int)) = true := by simp; omega
            have HB : Hid (Lab.big x = true) := Lib.hid (by unfold Lab.big; rw [decide_eq_true hn]; rfl)
            clear hn
            go_wp2_with fail
            go_ret
            refine ⟨ret_bool ?_, HL.out.alloc _⟩
            rw [HR.out, HZ.out, hdx.out, List.any_cons, HB.out, Bool.true_or]
          · have dn : decide (200 < (x.n.size : Int)) = false := by simp; omega
            by_cases hv : 200 < x.v.size
            · have dv : decide (200 < (x.v.size : Int)) = true := by simp; omega
              have HB : Hid (Lab.big x = true) := Lib.hid (by unfold Lab.big; rw [decide_eq_true hv]; simp)
              clear hn hv
              go_wp2_with fail
              go_ret
              refine ⟨ret_bool ?_, HL.out.alloc _⟩
              rw [HR.out, HZ.out, hdx.out, List.any_cons, HB.out, Bool.true_or]
            · have dv : decide (200 < (x.v.size : Int)) = false := by simp; omega
              have HB : Hid (Lab.big x = false) := Lib.hid (by unfold Lab.big; rw [decide_eq_false hn, decide_eq_false hv]; rfl)
              clear hn hv
              go_wp2_with fail
              go_roundw
              case rel => exact ⟨k + 1, by go_num, by omega, HL.out.alloc _, by rw [HZ.out, hdx.out, List.any_cons, HB.out, Bool.false_or]⟩
              case measure => simp [intOf]; omega
        · obtain rfl : k = labs.length := by omega
          go_wp2_with fail
          go_ret
          refine ⟨ret_bool ?_, HL.out⟩
          rw [HR.out, HZ.out, List.drop_length]
          rfl

set_option maxHeartbeats 4000000 in
set_option maxRecDepth 100000 in
/-- The document's Many. -/
theorem many_any {G L : Nat → Prop} {w : World} {v : Value} {es : List Ent} (h : EntsAt G L w v es) (most : Nat) (hm : most ≤ 1000) :
    Calls Try.prog 26 #[v, .int .i64 most] w fun x w' => x = .returned (.bool (decide (most < es.length) || es.any Ent.big)) ∧ Lay w w' := by
  obtain ⟨a, ca, rfl, hl63, ha⟩ := h
  have HA := Lib.hid ha
  clear ha
  by_cases h60 : most < es.length
  · have HM := Lib.hid (decide_eq_true h60)
    have d1 : decide ((most : Int) < (es.length : Int)) = true := by simp; omega
    have d2 : decide (most < es.length) = true := decide_eq_true h60
    clear h60
    go_enter Try.func26, Try.ntmps26
    go_wp2_with fail
    go_ret
    exact ⟨ret_bool (by rw [HM.out, Bool.true_or]), Keep.refl _ _⟩
  · have HM := Lib.hid (decide_eq_false h60)
    rw [decide_eq_false h60, Bool.false_or]
    have d1 : decide ((most : Int) < (es.length : Int)) = false := by simp; omega
    have d2 : decide (most < es.length) = false := decide_eq_false h60
    go_enter Try.func26, Try.ntmps26
    go_wp2_with fail
    clear d1 d2
    go_loopw [13] (fun vi wr => ∃ k : Nat, vi = .int .i64 k ∧ k ≤ es.length ∧ Lay w wr ∧ es.any Ent.big = (es.drop k).any Ent.big) (fun vi _ => es.length - (intOf vi).toNat)
    case atStart => exact ⟨0, rfl, Nat.zero_le _, Keep.refl _ _, by simp⟩
    case round =>
      obtain ⟨k, rfl, hk, hl, hz⟩ := hrel
      have HZ := Lib.hid hz
      have HL := Lib.hid hl
      clear hz
      by_cases hlt : k < es.length
      · rcases HA.out with h0 | ⟨bx, ox, rfl, hgx, hbx, hcx⟩
        · exact absurd hlt (by rw [h0]; simp)
        obtain ⟨lv, x0, x1, x2, x3⟩ := hcx k hlt
        have g0 := (hl.cell hbx).trans x0
        have g1 := (hl.cell hbx).trans x1
        have g2 := (hl.cell hbx).trans x2
        have hdx := Lib.hid (List.drop_eq_getElem_cons hlt)
        generalize es[k] = x at g0 g1 g2 hdx x0 x1 x2 x3
        have hlab := x3.lay hl
        obtain ⟨al, cl, rfl, _⟩ := id hlab
        have HG := Lib.hid (great_any (hlab.alloc (.cells #[.int .i64 x.tm, .slice al x.labs.length cl, .string x.line] 24)))
        unfold Ent.val at HG
        clear x0 x1 x2 x3 hcx hl hlab
        cases hb : x.big
        all_goals
          rw [hb] at HG
          have HB := Lib.hid hb
          clear hb
          go_wp2_with fail
          refine HG.out.mono ?_
          rintro e w1 ⟨rfl, hl1⟩
          have HL1 := Lib.hid (Keep.trans (HL.out.alloc _) hl1)
          clear hl1
          go_wp2_with fail
        · go_roundw
          case rel => exact ⟨k + 1, by go_num, by omega, HL1.out, by rw [HZ.out, hdx.out, List.any_cons, HB.out, Bool.false_or]⟩
          case measure => simp [intOf]; omega
        · go_ret
          refine ⟨ret_bool ?_, HL1.out⟩
          rw [HZ.out, hdx.out, List.any_cons, HB.out, Bool.true_or]
      · obtain rfl : k = es.length := by omega
        go_wp2_with fail
        go_ret
        refine ⟨ret_bool ?_, HL.out⟩
        rw [HZ.out, List.drop_length]
        rfl

end Go.Proofs.Ytgcldnojmdabpaa
