/-
  ASSERTIONS WITH ok OF A QUESTION.
-/
import Derived.Test.YtgfjbboeappemaaGreatDoorNb
import Derived.Test.YtgfjbboeappemaaGreatDoorQryA6
import Derived.Deep.DeepCutAuto
import Derived.Deep.CutBlock
import Derived.Laws.Pointers
namespace Go.Proofs.YtgfjbboeappemaaGreatDoor.E4
open Go.RowKit Go

/-- A slice of texts. -/
def StrsAt (w : World) (v : Value) (l : List ByteArray) : Prop :=
  ∃ a cap, v = .slice a l.length cap ∧ l.length ≤ 9223372036854775807 ∧ (l = [] ∨ ∃ b off, a = some ⟨b, off, none⟩ ∧ b < w.heap.size ∧
    ∀ i (h : i < l.length), w.cell? ⟨b, off + i, none⟩ = some (.string l[i]))
/-- A slice of rows of texts. -/
def TextsAt (w : World) (v : Value) (ls : List (List ByteArray)) : Prop :=
  ∃ a cap, v = .slice a ls.length cap ∧ ls.length ≤ 9223372036854775807 ∧ (ls = [] ∨ ∃ b off, a = some ⟨b, off, none⟩ ∧ b < w.heap.size ∧
    ∀ i (h : i < ls.length), ∃ rv, w.cell? ⟨b, off + i, none⟩ = some rv ∧ StrsAt w rv ls[i])

theorem StrsAt.below {w w' : World} {v : Value} {l : List ByteArray} (h : StrsAt w v l) (hb : Below w.heap.size w w') : StrsAt w' v l := by
  obtain ⟨a, cap, hv, hn, h | ⟨b, off, ha, hlt, hc⟩⟩ := h
  · exact ⟨a, cap, hv, hn, .inl h⟩
  · exact ⟨a, cap, hv, hn, .inr ⟨b, off, ha, Nat.lt_of_lt_of_le hlt hb.size, fun i hi => (hb.cell hlt).trans (hc i hi)⟩⟩
theorem TextsAt.below {w w' : World} {v : Value} {ls : List (List ByteArray)} (h : TextsAt w v ls) (hb : Below w.heap.size w w') : TextsAt w' v ls := by
  obtain ⟨a, cap, hv, hn, h | ⟨b, off, ha, hlt, hc⟩⟩ := h
  · exact ⟨a, cap, hv, hn, .inl h⟩
  · refine ⟨a, cap, hv, hn, .inr ⟨b, off, ha, Nat.lt_of_lt_of_le hlt hb.size, fun i hi => ?_⟩⟩
    obtain ⟨rv, h0, h1⟩ := hc i hi
    exact ⟨rv, (hb.cell hlt).trans h0, h1.below hb⟩
theorem MsAt.below12 {w w' : World} {v : Value} {l : List Mt} (h : MsAt w v l) (hb : Below w.heap.size w w') : MsAt w' v l := by
  obtain ⟨a, cap, hv, hn, h | ⟨b, off, ha, hlt, hc⟩⟩ := h
  · exact ⟨a, cap, hv, hn, .inl h⟩
  · refine ⟨a, cap, hv, hn, .inr ⟨b, off, ha, Nat.lt_of_lt_of_le hlt hb.size, fun i hi => ?_⟩⟩
    obtain ⟨h0, h1, h2⟩ := hc i hi
    exact ⟨(hb.cell hlt).trans h0, (hb.cell hlt).trans h1, (hb.cell hlt).trans h2⟩

/-- A question. -/
structure Ask where
  kd : Int
  src : Int
  til : Int
  all : List (List ByteArray)
  mat : List Mt

def Ask.cells (a : Ask) (av mv : Value) : Array Value := #[.int .i64 a.kd, .int .i64 a.src, .int .i64 a.til, av, mv]
/-- It, as a value. -/
def AskAt (w : World) (v : Value) (a : Ask) : Prop := ∃ av mv, v = .agg (a.cells av mv) ∧ TextsAt w av a.all ∧ MsAt w mv a.mat
theorem AskAt.below {w w' : World} {v : Value} {a : Ask} (h : AskAt w v a) (hb : Below w.heap.size w w') : AskAt w' v a := by
  obtain ⟨av, mv, h0, h1, h2⟩ := h
  exact ⟨av, mv, h0, h1.below hb, MsAt.below12 h2 hb⟩

def Ask.plain (a : Ask) : Ask := if a.kd = 1 then { a with mat := [] } else if a.kd = 2 then { a with all := [] } else if a.kd = 3 then { a with all := [], mat := [] } else ⟨0, 0, 0, [], []⟩
theorem Ask.ext' {a b : Ask} (h1 : a.kd = b.kd) (h2 : a.src = b.src) (h3 : a.til = b.til) (h4 : a.all = b.all) (h5 : a.mat = b.mat) : a = b := by
  obtain ⟨_, _, _, _, _⟩ := a
  obtain ⟨_, _, _, _, _⟩ := b
  simp only at h1 h2 h3 h4 h5
  subst h1 h2 h3 h4 h5
  rfl

theorem Ask.plain_kd {a : Ask} (h : 1 ≤ a.kd ∧ a.kd ≤ 3) : a.plain.kd = a.kd := by
  unfold Ask.plain
  split
  · rfl
  · split
    · rfl
    · split
      · rfl
      · omega

/-- A block's cells. -/
def Bl (W : World) (B : Nat) (t : TypeId) (arr : Array Value) : Prop := W.heap[B]? = some (.cells arr t (0, 0))
theorem Bl.lt {W : World} {B : Nat} {t : TypeId} {arr : Array Value} (h : Bl W B t arr) : B < W.heap.size := (Array.getElem?_eq_some_iff.1 h).1
theorem Bl.cell {W : World} {B : Nat} {t : TypeId} {arr : Array Value} (h : Bl W B t arr) (i : Nat) : W.cell? ⟨B, i, none⟩ = arr[i]? := by simp [World.cell?, show W.heap[B]? = _ from h]
theorem Bl.new (W : World) (t : TypeId) (arr : Array Value) : Bl (W.alloc (.cells arr t)) W.heap.size t arr := by
  show (W.heap.push _)[W.heap.size]? = _
  simp
theorem Bl.below {W W' : World} {B : Nat} {t : TypeId} {arr : Array Value} (h : Bl W B t arr) (hb : Below W.heap.size W W') : Bl W' B t arr := (hb.block B h.lt).trans h
theorem below_mid12 {a b c : World} (h : Below a.heap.size a b) (k : Below b.heap.size b c) : Below a.heap.size a c := h.trans (k.mono h.size)

end Go.Proofs.YtgfjbboeappemaaGreatDoor.E4

namespace Go.Proofs.YtgfjbboeappemaaGreatDoor.E4
open Go.RowKit Go

def bigW (l : List ByteArray) : Bool := l.any fun w => decide (2000 < w.size)
def bigL (l : List ByteArray) : Bool := decide (100 < l.length) || bigW l
def bigM (m : Mt) : Bool := decide (200 < m.name.size) || decide (2000 < m.value.size)
def Ask.great (a : Ask) : Bool := decide (100 < a.all.length) || decide (20 < a.mat.length) || a.all.any bigL || a.mat.any bigM

theorem Ask.great1 {a : Ask} (h : 100 < a.all.length) : a.great = true := by unfold Ask.great; rw [decide_eq_true h]; rfl
theorem Ask.great2 {a : Ask} (h : 20 < a.mat.length) : a.great = true := by unfold Ask.great; rw [decide_eq_true h, Bool.or_true]; rfl
theorem Ask.great3 {a : Ask} {l : List ByteArray} (h : l ∈ a.all) (hb : bigL l = true) : a.great = true := by
  unfold Ask.great
  rw [show a.all.any bigL = true from List.any_eq_true.2 ⟨l, h, hb⟩, Bool.or_true]
  rfl
theorem Ask.great4 {a : Ask} {m : Mt} (h : m ∈ a.mat) (hb : bigM m = true) : a.great = true := by
  unfold Ask.great
  rw [show a.mat.any bigM = true from List.any_eq_true.2 ⟨m, h, hb⟩, Bool.or_true]
theorem Ask.great0 {a : Ask} (h1 : ¬ 100 < a.all.length) (h2 : ¬ 20 < a.mat.length) (h3 : a.all.any bigL = false) (h4 : a.mat.any bigM = false) : a.great = false := by
  unfold Ask.great
  rw [decide_eq_false h1, decide_eq_false h2, h3, h4]
  rfl

theorem any_take {α : Type} (p : α → Bool) (l : List α) (k : Nat) (h : k < l.length) (h0 : (l.take k).any p = false) : (l.take (k + 1)).any p = p l[k] := by
  rw [← List.take_append_getElem h, List.any_append, h0]
  simp

set_option maxHeartbeats 4000000 in
set_option maxRecDepth 100000 in
theorem askGreat_any (a : Ask) (v : Value) (w : World) (h : AskAt w v a) :
    Calls Tryz.prog 22 #[v] w fun e w' => e = .returned (.bool a.great) ∧ Below w.heap.size w w' := by
  have hmx : Tryz.prog.follows .mixedOrders = true := by kernel_rfl
  obtain ⟨av, mv, rfl, hall, hmat⟩ := h
  obtain ⟨aa, ca, rfl, ha63, hac⟩ := id hall
  obtain ⟨am, cm, rfl, hm63, hmc⟩ := id hmat
  unfold Ask.cells
  obtain ⟨w1, hw1⟩ : ∃ w1, w1 = w.alloc (.cells #[.int .i64 a.kd, .int .i64 a.src, .int .i64 a.til, .slice aa a.all.length ca, .slice am a.mat.length cm] 26) := ⟨_, rfl⟩
  have hb1 : Below w.heap.size w w1 := by rw [hw1]; exact (Below.refl _ w).alloc (Nat.le_refl _) _
  have hk1 : Bl w1 w.heap.size 26 #[.int .i64 a.kd, .int .i64 a.src, .int .i64 a.til, .slice aa a.all.length ca, .slice am a.mat.length cm] := by rw [hw1]; exact Bl.new w 26 _
  have HW1 := Lib.hid hw1.symm
  have HB1 := Lib.hid hb1
  have HK1 := Lib.hid hk1
  have HAC := Lib.hid hac
  have HMC := Lib.hid hmc
  have HS1 : Hid (w.heap.size ≤ w1.heap.size) := Lib.hid hb1.size
  have c0 := hk1.cell 0
  have c1 := hk1.cell 1
  have c2 := hk1.cell 2
  have c3 := hk1.cell 3
  have c4 := hk1.cell 4
  simp only [List.getElem?_toArray, List.getElem?_cons_succ, List.getElem?_cons_zero] at c0 c1 c2 c3 c4
  clear hall hmat hw1 hb1 hk1 hac hmc
  go_enter Tryz.func22, Tryz.ntmps22
  go_upto_region 1 with fail
  rw [HW1.out]
  by_cases h1 : 100 < a.all.length
  · have d1 : (100 : Int) < (a.all.length : Int) := by omega
    have HANS := Lib.hid (Ask.great1 h1)
    clear h1
    go_wp2_with fail
    go_ret
    exact ⟨by rw [HANS.out]; rfl, HB1.out⟩
  have d1 : ¬ (100 : Int) < (a.all.length : Int) := by omega
  by_cases h2 : 20 < a.mat.length
  · have d2 : (20 : Int) < (a.mat.length : Int) := by omega
    have HANS := Lib.hid (Ask.great2 h2)
    clear h1 h2
    go_wp2_with fail
    go_ret
    exact ⟨by rw [HANS.out]; rfl, HB1.out⟩
  have d2 : ¬ (20 : Int) < (a.mat.length : Int) := by omega
  have HN1 := Lib.hid h1
  have HN2 := Lib.hid h2
  clear h1 h2
  go_wp2_with fail
  clear d1 d2
  go_loopw [22] (fun vi wr => ∃ k : Nat, vi = .int .i64 k ∧ k ≤ a.all.length ∧ (a.all.take k).any bigL = false ∧ wr = w1) (fun vi _ => a.all.length - (intOf vi).toNat)
  case atStart => exact ⟨0, rfl, Nat.zero_le _, by simp, rfl⟩
  case round =>
    obtain ⟨k, rfl, hk, hany, rfl⟩ := hrel
    by_cases hlt : k < a.all.length
    · rcases HAC.out with h0 | ⟨br, off, rfl, hbr, hcells⟩
      · exact absurd hlt (by rw [h0]; simp)
      obtain ⟨rv, hc0, hsr⟩ := hcells k hlt
      have hc : wr.cell? ⟨br, off + k, none⟩ = some rv := (HB1.out.cell hbr).trans hc0
      have htk := any_take bigL a.all k hlt hany
      have hmem : a.all[k] ∈ a.all := List.getElem_mem hlt
      generalize a.all[k] = l at hsr htk hmem
      obtain ⟨al, cl, rfl, hl63, hlc⟩ := id hsr
      have HLC := Lib.hid hlc
      have HTK := Lib.hid htk
      have HMEM := Lib.hid hmem
      clear hc0 hsr hlc htk hmem hany hcells
      by_cases h1 : 100 < l.length
      · have d1 : (100 : Int) < (l.length : Int) := by omega
        have hbl : bigL l = true := by unfold bigL; rw [decide_eq_true h1]; rfl
        have HANS := Lib.hid (Ask.great3 HMEM.out hbl)
        clear h1 hbl
        go_wp2_with fail
        go_ret
        exact ⟨by rw [HANS.out]; rfl, HB1.out⟩
      have d1 : ¬ (100 : Int) < (l.length : Int) := by omega
      have hbl : bigL l = bigW l := by unfold bigL; rw [decide_eq_false h1]; rfl
      have HBL := Lib.hid hbl
      clear h1 hbl
      go_wp2_with fail
      clear d1
      go_loopw [31] (fun vj wq => ∃ j : Nat, vj = .int .i64 j ∧ j ≤ l.length ∧ ((l.take j).any fun w => decide (2000 < w.size)) = false ∧ wq = wr) (fun vj _ => l.length - (intOf vj).toNat)
      case atStart => exact ⟨0, rfl, Nat.zero_le _, by simp, rfl⟩
      case round =>
        obtain ⟨j, rfl, hj, hanyj, rfl⟩ := hrel
        by_cases hltj : j < l.length
        · rcases HLC.out with h0 | ⟨bl, offl, rfl, hbl, hcl⟩
          · exact absurd hltj (by rw [h0]; simp)
          have hx := (HB1.out.cell (p := ⟨bl, offl + j, none⟩) hbl).trans (hcl j hltj)
          have htj := any_take (fun w => decide (2000 < w.size)) l j hltj hanyj
          have hmj : l[j] ∈ l := List.getElem_mem hltj
          generalize l[j] = s at hx htj hmj
          have HTJ := Lib.hid htj
          have HMJ := Lib.hid hmj
          clear hcl htj hmj hanyj
          by_cases h2 : 2000 < s.size
          · have d2 : (2000 : Int) < (s.size : Int) := by omega
            have HANS := Lib.hid (Ask.great3 HMEM.out (by rw [HBL.out]; exact List.any_eq_true.2 ⟨s, HMJ.out, decide_eq_true h2⟩))
            clear h2
            go_wp2_with fail
            go_ret
            exact ⟨by rw [HANS.out]; rfl, HB1.out⟩
          · have d2 : ¬ (2000 : Int) < (s.size : Int) := by omega
            rw [decide_eq_false h2] at HTJ
            clear h2
            go_wp2_with fail
            go_roundw
            case rel => exact ⟨j + 1, by go_num, by omega, HTJ.out, by first | rfl | trivial⟩
            case measure => simp [intOf]; omega
        · obtain rfl : j = l.length := by omega
          rw [List.take_of_length_le (Nat.le_refl _)] at hanyj
          have HW : Hid ((a.all.take (k + 1)).any bigL = false) := Lib.hid (by rw [HTK.out, HBL.out]; exact hanyj)
          clear hanyj
          go_wp2_with fail
          go_roundw
          case rel => exact ⟨k + 1, by go_num, by omega, HW.out, by first | rfl | trivial⟩
          case measure => simp [intOf]; omega
    · obtain rfl : k = a.all.length := by omega
      rw [List.take_of_length_le (Nat.le_refl _)] at hany
      have HA0 := Lib.hid hany
      clear hany HAC
      go_wp2_with fail
      go_loopw [43] (fun vj wq => ∃ j : Nat, vj = .int .i64 j ∧ j ≤ a.mat.length ∧ (a.mat.take j).any bigM = false ∧ Below wr.heap.size wr wq) (fun vj _ => a.mat.length - (intOf vj).toNat)
      case atStart => exact ⟨0, rfl, Nat.zero_le _, by simp, Below.refl _ _⟩
      case round =>
        obtain ⟨j, rfl, hj, hanyj, hbw⟩ := hrel
        have HBW := Lib.hid hbw
        by_cases hlt : j < a.mat.length
        · rcases HMC.out with h0 | ⟨br, off, rfl, hbr, hcells⟩
          · exact absurd hlt (by rw [h0]; simp)
          obtain ⟨x0, x1, x2⟩ := hcells j hlt
          have hb2 := below_mid12 HB1.out hbw
          have y0 := (hb2.cell (p := ⟨br, off + j * 3, none⟩) hbr).trans x0
          have y1 := (hb2.cell (p := ⟨br, off + j * 3 + 1, none⟩) hbr).trans x1
          have y2 := (hb2.cell (p := ⟨br, off + j * 3 + 2, none⟩) hbr).trans x2
          have htj := any_take bigM a.mat j hlt hanyj
          have hmj : a.mat[j] ∈ a.mat := List.getElem_mem hlt
          generalize a.mat[j] = m at x0 x1 x2 y0 y1 y2 htj hmj
          have HTJ := Lib.hid htj
          have HMJ := Lib.hid hmj
          clear x0 x1 x2 hb2 htj hmj hanyj hcells hbw
          by_cases h1 : 200 < m.name.size
          · have e1 : (200 : Int) < (m.name.size : Int) := by omega
            have HANS := Lib.hid (Ask.great4 HMJ.out (by unfold bigM; rw [decide_eq_true h1]; rfl))
            clear h1
            go_wp2_with fail
            go_ret
            exact ⟨by rw [HANS.out]; rfl, below_mid12 HB1.out (HBW.out.alloc HBW.out.size _)⟩
          have e1 : ¬ (200 : Int) < (m.name.size : Int) := by omega
          by_cases h2 : 2000 < m.value.size
          · have e2 : (2000 : Int) < (m.value.size : Int) := by omega
            have HANS := Lib.hid (Ask.great4 HMJ.out (by unfold bigM; rw [decide_eq_true h2, Bool.or_true]))
            clear h1 h2
            go_wp2_with fail
            go_ret
            exact ⟨by rw [HANS.out]; rfl, below_mid12 HB1.out (HBW.out.alloc HBW.out.size _)⟩
          have e2 : ¬ (2000 : Int) < (m.value.size : Int) := by omega
          have HNB : Hid ((a.mat.take (j + 1)).any bigM = false) := Lib.hid (by rw [HTJ.out]; unfold bigM; rw [decide_eq_false h1, decide_eq_false h2]; rfl)
          clear h1 h2
          go_wp2_with fail
          go_roundw
          case rel => exact ⟨j + 1, by go_num, by omega, HNB.out, HBW.out.alloc HBW.out.size _⟩
          case measure => simp [intOf]; omega
        · obtain rfl : j = a.mat.length := by omega
          rw [List.take_of_length_le (Nat.le_refl _)] at hanyj
          have HANS := Lib.hid (Ask.great0 HN1.out HN2.out HA0.out hanyj)
          clear hanyj hbw
          go_wp2_with fail
          go_ret
          exact ⟨by rw [HANS.out]; rfl, below_mid12 HB1.out HBW.out⟩

end Go.Proofs.YtgfjbboeappemaaGreatDoor.E4

namespace Go.Proofs.YtgfjbboeappemaaGreatDoor.E4
open Go.RowKit Go

/-- A question, as the program has it. -/
def Ask.dyn (a : Ask) (av mv : Value) : Value :=
  if a.kd = 1 then .iface 71 (.agg #[.int .i64 a.src, .int .i64 a.til, av]) else if a.kd = 2 then .iface 51 (.agg #[.int .i64 a.src, .int .i64 a.til, mv]) else if a.kd = 3 then .iface 73 (.agg #[.int .i64 a.src, .int .i64 a.til]) else .nilIface

set_option maxRecDepth 100000 in
theorem anyOf_any (a : Ask) (av mv : Value) (w : World) (h1 : ∃ x n c, av = .slice x n c) (h2 : ∃ x n c, mv = .slice x n c) :
    Calls Tryz.prog 12 #[.agg (a.cells av mv)] w fun e w' => e = .returned (a.dyn av mv) ∧ Below w.heap.size w w' := by
  obtain ⟨x1, n1, r1, rfl⟩ := h1
  obtain ⟨x2, n2, r2, rfl⟩ := h2
  unfold Ask.cells
  obtain ⟨w1, hw1⟩ : ∃ w1, w1 = w.alloc (.cells #[.int .i64 a.kd, .int .i64 a.src, .int .i64 a.til, .slice x1 n1 r1, .slice x2 n2 r2] 26) := ⟨_, rfl⟩
  have hb1 : Below w.heap.size w w1 := by rw [hw1]; exact (Below.refl _ w).alloc (Nat.le_refl _) _
  have hk1 : Bl w1 w.heap.size 26 #[.int .i64 a.kd, .int .i64 a.src, .int .i64 a.til, .slice x1 n1 r1, .slice x2 n2 r2] := by rw [hw1]; exact Bl.new w 26 _
  have HW1 := Lib.hid hw1.symm
  have HB1 := Lib.hid hb1
  have c0 := hk1.cell 0
  have c1 := hk1.cell 1
  have c2 := hk1.cell 2
  have c3 := hk1.cell 3
  have c4 := hk1.cell 4
  simp only [List.getElem?_toArray, List.getElem?_cons_succ, List.getElem?_cons_zero] at c0 c1 c2 c3 c4
  clear hw1 hb1 hk1
  go_enter Tryz.func12, Tryz.ntmps12
  go_upto_region 1 with fail
  rw [HW1.out]
  by_cases k1 : a.kd = 1
  · have HD : Hid (a.dyn (.slice x1 n1 r1) (.slice x2 n2 r2) = .iface 71 (.agg #[.int .i64 a.src, .int .i64 a.til, .slice x1 n1 r1])) := Lib.hid (by unfold Ask.dyn; rw [if_pos k1])
    have e1 : (a.kd == 1) = true := by simp [k1]
    clear k1
    go_wp2_with fail
    go_ret
    exact ⟨by rw [HD.out]; rfl, HB1.out⟩
  by_cases k2 : a.kd = 2
  · have HD : Hid (a.dyn (.slice x1 n1 r1) (.slice x2 n2 r2) = .iface 51 (.agg #[.int .i64 a.src, .int .i64 a.til, .slice x2 n2 r2])) := Lib.hid (by unfold Ask.dyn; rw [if_neg k1, if_pos k2])
    have e1 : (a.kd == 1) = false := by simp [k1]
    have e2 : (a.kd == 2) = true := by simp [k2]
    clear k1 k2
    go_wp2_with fail
    go_ret
    exact ⟨by rw [HD.out]; rfl, HB1.out⟩
  have e1 : (a.kd == 1) = false := by simp [k1]
  have e2 : (a.kd == 2) = false := by simp [k2]
  by_cases k3 : a.kd = 3
  · have HD : Hid (a.dyn (.slice x1 n1 r1) (.slice x2 n2 r2) = .iface 73 (.agg #[.int .i64 a.src, .int .i64 a.til])) := Lib.hid (by unfold Ask.dyn; rw [if_neg k1, if_neg k2, if_pos k3])
    have e3 : (a.kd == 3) = true := by simp [k3]
    clear k1 k2 k3
    go_wp2_with fail
    go_ret
    exact ⟨by rw [HD.out]; rfl, HB1.out⟩
  · have HD : Hid (a.dyn (.slice x1 n1 r1) (.slice x2 n2 r2) = .nilIface) := Lib.hid (by unfold Ask.dyn; rw [if_neg k1, if_neg k2, if_neg k3])
    have e3 : (a.kd == 3) = false := by simp [k3]
    clear k1 k2 k3
    go_wp2_with fail
    go_ret
    exact ⟨by rw [HD.out]; rfl, HB1.out⟩

theorem Bl.frozen {W : World} {B : Nat} {t : TypeId} {arr : Array Value} (h : Bl W B t arr) (i : Nat) : W.frozen? ⟨B, i, none⟩ = false := by simp [World.frozen?, show W.heap[B]? = _ from h]
theorem below_new {w w2 : World} (h : Below w.heap.size w w2) (v : Value) : Below w.heap.size w (w2.setCell ⟨w.heap.size, 0, none⟩ v) :=
  ⟨h.os, h.tape, h.output, by simpa [World.setCell] using h.size, fun b hb => (Below.heap_setCell _ ⟨w.heap.size, 0, none⟩ v b (Nat.ne_of_lt hb)).trans (h.block b hb)⟩

end Go.Proofs.YtgfjbboeappemaaGreatDoor.E4

namespace Go.Proofs.YtgfjbboeappemaaGreatDoor.E4
open Go.RowKit Go

theorem is71_yes (v : Value) (w : World) : (Instr.typeAssert (.iface 71 v) 20 71 true).run Tryz.prog w = .ok (.tuple #[v, .bool true]) w := by
  simp [Instr.typeAssert, run_underlying Tryz.underlying71]
set_option maxRecDepth 100000 in
theorem is71_nil (w : World) : (Instr.typeAssert .nilIface 20 71 true).run Tryz.prog w = .ok (.tuple #[.agg #[.int .i64 0, .int .i64 0, .slice none 0 0], .bool false]) w := by
  simp [Instr.typeAssert, run_underlying Tryz.underlying71, go_sem]
set_option maxRecDepth 100000 in
theorem is71_no51 (v : Value) (w : World) : (Instr.typeAssert (.iface 51 v) 20 71 true).run Tryz.prog w = .ok (.tuple #[.agg #[.int .i64 0, .int .i64 0, .slice none 0 0], .bool false]) w := by
  simp [Instr.typeAssert, run_underlying Tryz.underlying71, go_sem]
set_option maxRecDepth 100000 in
theorem is71_no73 (v : Value) (w : World) : (Instr.typeAssert (.iface 73 v) 20 71 true).run Tryz.prog w = .ok (.tuple #[.agg #[.int .i64 0, .int .i64 0, .slice none 0 0], .bool false]) w := by
  simp [Instr.typeAssert, run_underlying Tryz.underlying71, go_sem]
theorem is51_yes (v : Value) (w : World) : (Instr.typeAssert (.iface 51 v) 20 51 true).run Tryz.prog w = .ok (.tuple #[v, .bool true]) w := by
  simp [Instr.typeAssert, run_underlying Tryz.underlying51]
set_option maxRecDepth 100000 in
theorem is51_nil (w : World) : (Instr.typeAssert .nilIface 20 51 true).run Tryz.prog w = .ok (.tuple #[.agg #[.int .i64 0, .int .i64 0, .slice none 0 0], .bool false]) w := by
  simp [Instr.typeAssert, run_underlying Tryz.underlying51, go_sem]
set_option maxRecDepth 100000 in
theorem is51_no71 (v : Value) (w : World) : (Instr.typeAssert (.iface 71 v) 20 51 true).run Tryz.prog w = .ok (.tuple #[.agg #[.int .i64 0, .int .i64 0, .slice none 0 0], .bool false]) w := by
  simp [Instr.typeAssert, run_underlying Tryz.underlying51, go_sem]
set_option maxRecDepth 100000 in
theorem is51_no73 (v : Value) (w : World) : (Instr.typeAssert (.iface 73 v) 20 51 true).run Tryz.prog w = .ok (.tuple #[.agg #[.int .i64 0, .int .i64 0, .slice none 0 0], .bool false]) w := by
  simp [Instr.typeAssert, run_underlying Tryz.underlying51, go_sem]
theorem is73_yes (v : Value) (w : World) : (Instr.typeAssert (.iface 73 v) 20 73 true).run Tryz.prog w = .ok (.tuple #[v, .bool true]) w := by
  simp [Instr.typeAssert, run_underlying Tryz.underlying73]
set_option maxRecDepth 100000 in
theorem is73_nil (w : World) : (Instr.typeAssert .nilIface 20 73 true).run Tryz.prog w = .ok (.tuple #[.agg #[.int .i64 0, .int .i64 0], .bool false]) w := by
  simp [Instr.typeAssert, run_underlying Tryz.underlying73, go_sem]
set_option maxRecDepth 100000 in
theorem is73_no71 (v : Value) (w : World) : (Instr.typeAssert (.iface 71 v) 20 73 true).run Tryz.prog w = .ok (.tuple #[.agg #[.int .i64 0, .int .i64 0], .bool false]) w := by
  simp [Instr.typeAssert, run_underlying Tryz.underlying73, go_sem]
set_option maxRecDepth 100000 in
theorem is73_no51 (v : Value) (w : World) : (Instr.typeAssert (.iface 51 v) 20 73 true).run Tryz.prog w = .ok (.tuple #[.agg #[.int .i64 0, .int .i64 0], .bool false]) w := by
  simp [Instr.typeAssert, run_underlying Tryz.underlying73, go_sem]

theorem dyn1 {a : Ask} (h : a.kd = 1) (av mv : Value) : a.dyn av mv = .iface 71 (.agg #[.int .i64 a.src, .int .i64 a.til, av]) := by unfold Ask.dyn; rw [if_pos h]
theorem dyn2 {a : Ask} (h : a.kd = 2) (av mv : Value) : a.dyn av mv = .iface 51 (.agg #[.int .i64 a.src, .int .i64 a.til, mv]) := by unfold Ask.dyn; rw [if_neg (by omega), if_pos h]
theorem dyn3 {a : Ask} (h : a.kd = 3) (av mv : Value) : a.dyn av mv = .iface 73 (.agg #[.int .i64 a.src, .int .i64 a.til]) := by unfold Ask.dyn; rw [if_neg (by omega), if_neg (by omega), if_pos h]
theorem dyn0 {a : Ask} (h : ¬ (1 ≤ a.kd ∧ a.kd ≤ 3)) (av mv : Value) : a.dyn av mv = .nilIface := by unfold Ask.dyn; rw [if_neg (by omega), if_neg (by omega), if_neg (by omega)]

/-- dialect.Kind. -/
def Ask.kind (a : Ask) : Int := if 1 ≤ a.kd ∧ a.kd ≤ 3 then a.kd else 0
def Ask.timed (a : Ask) : Bool := decide (1 ≤ a.kd ∧ a.kd ≤ 3)
def Ask.times (a : Ask) : Value := .tuple (if a.timed then #[.int .i64 a.src, .int .i64 a.til, .bool true] else #[.int .i64 0, .int .i64 0, .bool false])
set_option maxRecDepth 100000 in
theorem times_lay (a : Ask) (x y : Option Addr) (n c m d : Nat) (w : World) : Calls Tryz.prog 41 #[a.dyn (.slice x n c) (.slice y m d)] w fun e w' => e = .returned a.times ∧ Lay w w' := by
  have q1 := is71_yes
  have q2 := is71_nil
  have q3 := is71_no51
  have q4 := is71_no73
  have r1 := is51_yes
  have r2 := is51_nil
  have r3 := is51_no73
  have s1 := is73_yes
  have s2 := is73_nil
  by_cases h1 : a.kd = 1
  · have HK : Hid (a.times = .tuple #[.int .i64 a.src, .int .i64 a.til, .bool true]) := Lib.hid (by unfold Ask.times Ask.timed; rw [decide_eq_true (by omega)]; rfl)
    rw [dyn1 h1]
    clear h1
    have hb : Lay w (w.alloc (.cells #[.int .i64 a.src, .int .i64 a.til, .slice x n c] 71)) := (Keep.refl _ w).alloc _
    have hk := Bl.new w 71 #[.int .i64 a.src, .int .i64 a.til, .slice x n c]
    obtain ⟨w1, hw1⟩ : ∃ w1, w1 = w.alloc (.cells #[.int .i64 a.src, .int .i64 a.til, .slice x n c] 71) := ⟨_, rfl⟩
    rw [← hw1] at hb hk
    have HW := Lib.hid hw1.symm
    have HB := Lib.hid hb
    have c0 := fun n => (Bl.below hk (below_drewN (Below.refl _ w1) n)).cell 0
    have c1 := fun n => (Bl.below hk (below_drewN (Below.refl _ w1) n)).cell 1
    simp only [List.getElem?_toArray, List.getElem?_cons_succ, List.getElem?_cons_zero] at c0 c1
    clear hw1 hb hk
    go_enter Tryz.func41, Tryz.ntmps41
    go_upto_region 4 with fail
    rw [HW.out]
    go_quiet (fail)
    clear c0 c1
    go_wp2_with fail
    refine bodyPost_ret (v := .tuple #[.int .i64 a.src, .int .i64 a.til, .bool true]) (by simp [results, Tryz.results41, go_sem]) rfl ⟨by rw [HK.out], HB.out.drewN _⟩
  by_cases h2 : a.kd = 2
  · have HK : Hid (a.times = .tuple #[.int .i64 a.src, .int .i64 a.til, .bool true]) := Lib.hid (by unfold Ask.times Ask.timed; rw [decide_eq_true (by omega)]; rfl)
    rw [dyn2 h2]
    clear h1 h2
    have hb : Lay w (w.alloc (.cells #[.int .i64 a.src, .int .i64 a.til, .slice y m d] 51)) := (Keep.refl _ w).alloc _
    have hk := Bl.new w 51 #[.int .i64 a.src, .int .i64 a.til, .slice y m d]
    obtain ⟨w1, hw1⟩ : ∃ w1, w1 = w.alloc (.cells #[.int .i64 a.src, .int .i64 a.til, .slice y m d] 51) := ⟨_, rfl⟩
    rw [← hw1] at hb hk
    have HW := Lib.hid hw1.symm
    have HB := Lib.hid hb
    have c0 := fun n => (Bl.below hk (below_drewN (Below.refl _ w1) n)).cell 0
    have c1 := fun n => (Bl.below hk (below_drewN (Below.refl _ w1) n)).cell 1
    simp only [List.getElem?_toArray, List.getElem?_cons_succ, List.getElem?_cons_zero] at c0 c1
    clear hw1 hb hk
    go_enter Tryz.func41, Tryz.ntmps41
    go_upto_region 7 with fail
    rw [HW.out]
    go_quiet (fail)
    clear c0 c1
    go_wp2_with fail
    refine bodyPost_ret (v := .tuple #[.int .i64 a.src, .int .i64 a.til, .bool true]) (by simp [results, Tryz.results41, go_sem]) rfl ⟨by rw [HK.out], HB.out.drewN _⟩
  by_cases h3 : a.kd = 3
  · have HK : Hid (a.times = .tuple #[.int .i64 a.src, .int .i64 a.til, .bool true]) := Lib.hid (by unfold Ask.times Ask.timed; rw [decide_eq_true (by omega)]; rfl)
    rw [dyn3 h3]
    clear h1 h2 h3
    have hb : Lay w (w.alloc (.cells #[.int .i64 a.src, .int .i64 a.til] 73)) := (Keep.refl _ w).alloc _
    have hk := Bl.new w 73 #[.int .i64 a.src, .int .i64 a.til]
    obtain ⟨w1, hw1⟩ : ∃ w1, w1 = w.alloc (.cells #[.int .i64 a.src, .int .i64 a.til] 73) := ⟨_, rfl⟩
    rw [← hw1] at hb hk
    have HW := Lib.hid hw1.symm
    have HB := Lib.hid hb
    have c0 := fun n => (Bl.below hk (below_drewN (Below.refl _ w1) n)).cell 0
    have c1 := fun n => (Bl.below hk (below_drewN (Below.refl _ w1) n)).cell 1
    simp only [List.getElem?_toArray, List.getElem?_cons_succ, List.getElem?_cons_zero] at c0 c1
    clear hw1 hb hk
    go_enter Tryz.func41, Tryz.ntmps41
    go_upto_region 10 with fail
    rw [HW.out]
    go_quiet (fail)
    clear c0 c1
    go_wp2_with fail
    refine bodyPost_ret (v := .tuple #[.int .i64 a.src, .int .i64 a.til, .bool true]) (by simp [results, Tryz.results41, go_sem]) rfl ⟨by rw [HK.out], HB.out.drewN _⟩
  · have HK : Hid (a.times = .tuple #[.int .i64 0, .int .i64 0, .bool false]) := Lib.hid (by unfold Ask.times Ask.timed; rw [decide_eq_false (by omega)]; rfl)
    rw [dyn0 (by omega)]
    clear h1 h2 h3
    go_enter Tryz.func41, Tryz.ntmps41
    go_wp2_with fail
    refine bodyPost_ret (v := .tuple #[.int .i64 0, .int .i64 0, .bool false]) (by simp [results, Tryz.results41, go_sem]) rfl ⟨by rw [HK.out], Keep.refl _ _⟩

theorem times_any (a : Ask) (x y : Option Addr) (n c m d : Nat) (w : World) : Calls Tryz.prog 41 #[a.dyn (.slice x n c) (.slice y m d)] w fun e w' => e = .returned a.times ∧ Below w.heap.size w w' :=
  (times_lay a x y n c m d w).mono fun _ _ h => ⟨h.1, ⟨h.2.os, h.2.tape, h.2.output, h.2.size, fun _ hk => Lay.block h.2 hk⟩⟩

end Go.Proofs.YtgfjbboeappemaaGreatDoor.E4
