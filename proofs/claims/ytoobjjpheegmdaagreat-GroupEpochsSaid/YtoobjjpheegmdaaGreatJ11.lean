/-
  Fa12, Ty12, Cp12.
-/
import Derived.Test.YtoobjjpheegmdaaGreatJ10
import Derived.Laws.Pointers
import Derived.Test.YtoobjjpheegmdaaGreatJ09
import Derived.Test.YtoobjjpheegmdaaGreatJ06
import Derived.Deep.RegionLaw
import Derived.Lib.LazyBuf
namespace Go.Proofs.YtoobjjpheegmdaaGreat.E4
open Go.RowKit Go
def Ask.dyn (a : Ask) (av mv : Value) : Value :=
  if a.kd = 1 then .iface 63 (.agg #[.int .i64 a.src, .int .i64 a.til, av]) else if a.kd = 2 then .iface 76 (.agg #[.int .i64 a.src, .int .i64 a.til, mv]) else if a.kd = 3 then .iface 78 (.agg #[.int .i64 a.src, .int .i64 a.til]) else .nilIface
set_option maxRecDepth 100000 in
theorem anyOf_any (a : Ask) (av mv : Value) (w : World) (h1 : ∃ x n c, av = .slice x n c) (h2 : ∃ x n c, mv = .slice x n c) :
    Calls Tryz.prog 15 #[.agg (a.cells av mv)] w fun e w' => e = .returned (a.dyn av mv) ∧ Below w.heap.size w w' := by
  obtain ⟨x1, n1, r1, rfl⟩ := h1
  obtain ⟨x2, n2, r2, rfl⟩ := h2
  unfold Ask.cells
  obtain ⟨w1, hw1⟩ : ∃ w1, w1 = w.alloc (.cells #[.int .i64 a.kd, .int .i64 a.src, .int .i64 a.til, .slice x1 n1 r1, .slice x2 n2 r2] 36) := ⟨_, rfl⟩
  have hb1 : Below w.heap.size w w1 := by rw [hw1]; exact (Below.refl _ w).alloc (Nat.le_refl _) _
  have hk1 : Bl w1 w.heap.size 36 #[.int .i64 a.kd, .int .i64 a.src, .int .i64 a.til, .slice x1 n1 r1, .slice x2 n2 r2] := by rw [hw1]; exact Bl.new w 36 _
  have HW1 := Lib.hid hw1.symm
  have HB1 := Lib.hid hb1
  have c0 := hk1.cell 0
  have c1 := hk1.cell 1
  have c2 := hk1.cell 2
  have c3 := hk1.cell 3
  have c4 := hk1.cell 4
  simp only [List.getElem?_toArray, List.getElem?_cons_succ, List.getElem?_cons_zero] at c0 c1 c2 c3 c4
  clear hw1 hb1 hk1
  go_enter Tryz.func15, Tryz.ntmps15
  go_upto_region 1 with fail
  rw [HW1.out]
  by_cases k1 : a.kd = 1
  · have HD : Hid (a.dyn (.slice x1 n1 r1) (.slice x2 n2 r2) = .iface 63 (.agg #[.int .i64 a.src, .int .i64 a.til, .slice x1 n1 r1])) := Lib.hid (by unfold Ask.dyn; rw [if_pos k1])
    have e1 : (a.kd == 1) = true := by simp [k1]
    clear k1
    go_wp2_with fail
    go_ret
    exact ⟨by rw [HD.out]; rfl, HB1.out⟩
  by_cases k2 : a.kd = 2
  · have HD : Hid (a.dyn (.slice x1 n1 r1) (.slice x2 n2 r2) = .iface 76 (.agg #[.int .i64 a.src, .int .i64 a.til, .slice x2 n2 r2])) := Lib.hid (by unfold Ask.dyn; rw [if_neg k1, if_pos k2])
    have e1 : (a.kd == 1) = false := by simp [k1]
    have e2 : (a.kd == 2) = true := by simp [k2]
    clear k1 k2
    go_wp2_with fail
    go_ret
    exact ⟨by rw [HD.out]; rfl, HB1.out⟩
  have e1 : (a.kd == 1) = false := by simp [k1]
  have e2 : (a.kd == 2) = false := by simp [k2]
  by_cases k3 : a.kd = 3
  · have HD : Hid (a.dyn (.slice x1 n1 r1) (.slice x2 n2 r2) = .iface 78 (.agg #[.int .i64 a.src, .int .i64 a.til])) := Lib.hid (by unfold Ask.dyn; rw [if_neg k1, if_neg k2, if_pos k3])
    have e3 : (a.kd == 3) = true := by simp [k3]
    clear k1 k2 k3
    go_wp2_with fail
    go_ret
    exact ⟨by rw [HD.out]; rfl, HB1.out⟩
  · have HD : Hid (a.dyn (.slice x1 n1 r1) (.slice x2 n2 r2) = .nilIface) := Lib.hid (by unfold Ask.dyn; rw [if_neg k1, if_neg k2, if_neg k3])
    have e3 : (a.kd == 3) = false := by simp [k3]
    clear k1 k2 k3
    go_wp2_with fail
    go_ret
    exact ⟨by rw [HD.out]; rfl, HB1.out⟩
theorem Bl.frozen {W : World} {B : Nat} {t : TypeId} {arr : Array Value} (h : Bl W B t arr) (i : Nat) : W.frozen? ⟨B, i, none⟩ = false := by simp [World.frozen?, show W.heap[B]? = _ from h]
end Go.Proofs.YtoobjjpheegmdaaGreat.E4
namespace Go.Proofs.YtoobjjpheegmdaaGreat.E4
open Go.RowKit Go
theorem is63_yes (v : Value) (w : World) : (Instr.typeAssert (.iface 63 v) 20 63 true).run Tryz.prog w = .ok (.tuple #[v, .bool true]) w := by
  simp [Instr.typeAssert, run_underlying Tryz.underlying63]
set_option maxRecDepth 100000 in
theorem is63_nil (w : World) : (Instr.typeAssert .nilIface 20 63 true).run Tryz.prog w = .ok (.tuple #[.agg #[.int .i64 0, .int .i64 0, .slice none 0 0], .bool false]) w := by
  simp [Instr.typeAssert, run_underlying Tryz.underlying63, go_sem]
set_option maxRecDepth 100000 in
theorem is63_no76 (v : Value) (w : World) : (Instr.typeAssert (.iface 76 v) 20 63 true).run Tryz.prog w = .ok (.tuple #[.agg #[.int .i64 0, .int .i64 0, .slice none 0 0], .bool false]) w := by
  simp [Instr.typeAssert, run_underlying Tryz.underlying63, go_sem]
set_option maxRecDepth 100000 in
theorem is63_no78 (v : Value) (w : World) : (Instr.typeAssert (.iface 78 v) 20 63 true).run Tryz.prog w = .ok (.tuple #[.agg #[.int .i64 0, .int .i64 0, .slice none 0 0], .bool false]) w := by
  simp [Instr.typeAssert, run_underlying Tryz.underlying63, go_sem]
theorem is76_yes (v : Value) (w : World) : (Instr.typeAssert (.iface 76 v) 20 76 true).run Tryz.prog w = .ok (.tuple #[v, .bool true]) w := by
  simp [Instr.typeAssert, run_underlying Tryz.underlying76]
set_option maxRecDepth 100000 in
theorem is76_nil (w : World) : (Instr.typeAssert .nilIface 20 76 true).run Tryz.prog w = .ok (.tuple #[.agg #[.int .i64 0, .int .i64 0, .slice none 0 0], .bool false]) w := by
  simp [Instr.typeAssert, run_underlying Tryz.underlying76, go_sem]
set_option maxRecDepth 100000 in
theorem is76_no63 (v : Value) (w : World) : (Instr.typeAssert (.iface 63 v) 20 76 true).run Tryz.prog w = .ok (.tuple #[.agg #[.int .i64 0, .int .i64 0, .slice none 0 0], .bool false]) w := by
  simp [Instr.typeAssert, run_underlying Tryz.underlying76, go_sem]
set_option maxRecDepth 100000 in
theorem is76_no78 (v : Value) (w : World) : (Instr.typeAssert (.iface 78 v) 20 76 true).run Tryz.prog w = .ok (.tuple #[.agg #[.int .i64 0, .int .i64 0, .slice none 0 0], .bool false]) w := by
  simp [Instr.typeAssert, run_underlying Tryz.underlying76, go_sem]
theorem is78_yes (v : Value) (w : World) : (Instr.typeAssert (.iface 78 v) 20 78 true).run Tryz.prog w = .ok (.tuple #[v, .bool true]) w := by
  simp [Instr.typeAssert, run_underlying Tryz.underlying78]
set_option maxRecDepth 100000 in
theorem is78_nil (w : World) : (Instr.typeAssert .nilIface 20 78 true).run Tryz.prog w = .ok (.tuple #[.agg #[.int .i64 0, .int .i64 0], .bool false]) w := by
  simp [Instr.typeAssert, run_underlying Tryz.underlying78, go_sem]
theorem dyn1 {a : Ask} (h : a.kd = 1) (av mv : Value) : a.dyn av mv = .iface 63 (.agg #[.int .i64 a.src, .int .i64 a.til, av]) := by unfold Ask.dyn; rw [if_pos h]
theorem dyn2 {a : Ask} (h : a.kd = 2) (av mv : Value) : a.dyn av mv = .iface 76 (.agg #[.int .i64 a.src, .int .i64 a.til, mv]) := by unfold Ask.dyn; rw [if_neg (by omega), if_pos h]
theorem dyn3 {a : Ask} (h : a.kd = 3) (av mv : Value) : a.dyn av mv = .iface 78 (.agg #[.int .i64 a.src, .int .i64 a.til]) := by unfold Ask.dyn; rw [if_neg (by omega), if_neg (by omega), if_pos h]
theorem dyn0 {a : Ask} (h : ¬ (1 ≤ a.kd ∧ a.kd ≤ 3)) (av mv : Value) : a.dyn av mv = .nilIface := by unfold Ask.dyn; rw [if_neg (by omega), if_neg (by omega), if_neg (by omega)]
def Ask.kind (a : Ask) : Int := if 1 ≤ a.kd ∧ a.kd ≤ 3 then a.kd else 0
def Ask.timed (a : Ask) : Bool := decide (1 ≤ a.kd ∧ a.kd ≤ 3)
def Ask.times (a : Ask) : Value := .tuple (if a.timed then #[.int .i64 a.src, .int .i64 a.til, .bool true] else #[.int .i64 0, .int .i64 0, .bool false])
set_option maxRecDepth 100000 in
theorem kind_any (a : Ask) (av mv : Value) (w : World) : Calls Tryz.prog 176 #[a.dyn av mv] w fun e w' => e = .returned (.int .i64 a.kind) ∧ w' = w := by
  have q1 := is63_yes
  have q2 := is63_nil
  have q3 := is63_no76
  have q4 := is63_no78
  have r1 := is76_yes
  have r2 := is76_nil
  have r3 := is76_no78
  have s1 := is78_yes
  have s2 := is78_nil
  by_cases h1 : a.kd = 1
  · have HK : Hid (a.kind = 1) := Lib.hid (by unfold Ask.kind; rw [if_pos (by omega), h1])
    rw [dyn1 h1]
    clear h1
    go_enter Tryz.func176, Tryz.ntmps176
    go_wp2_with fail
    go_ret
    exact ⟨by rw [HK.out]; rfl, rfl⟩
  by_cases h2 : a.kd = 2
  · have HK : Hid (a.kind = 2) := Lib.hid (by unfold Ask.kind; rw [if_pos (by omega), h2])
    rw [dyn2 h2]
    clear h1 h2
    go_enter Tryz.func176, Tryz.ntmps176
    go_wp2_with fail
    go_ret
    exact ⟨by rw [HK.out]; rfl, rfl⟩
  by_cases h3 : a.kd = 3
  · have HK : Hid (a.kind = 3) := Lib.hid (by unfold Ask.kind; rw [if_pos (by omega), h3])
    rw [dyn3 h3]
    clear h1 h2 h3
    go_enter Tryz.func176, Tryz.ntmps176
    go_wp2_with fail
    go_ret
    exact ⟨by rw [HK.out]; rfl, rfl⟩
  · have HK : Hid (a.kind = 0) := Lib.hid (by unfold Ask.kind; rw [if_neg (by omega)])
    rw [dyn0 (by omega)]
    clear h1 h2 h3
    go_enter Tryz.func176, Tryz.ntmps176
    go_wp2_with fail
    go_ret
    exact ⟨by rw [HK.out]; rfl, rfl⟩
set_option maxRecDepth 100000 in
theorem times_lay (a : Ask) (x y : Option Addr) (n c m d : Nat) (w : World) : Calls Tryz.prog 84 #[a.dyn (.slice x n c) (.slice y m d)] w fun e w' => e = .returned a.times ∧ Lay w w' := by
  have q1 := is63_yes
  have q2 := is63_nil
  have q3 := is63_no76
  have q4 := is63_no78
  have r1 := is76_yes
  have r2 := is76_nil
  have r3 := is76_no78
  have s1 := is78_yes
  have s2 := is78_nil
  by_cases h1 : a.kd = 1
  · have HK : Hid (a.times = .tuple #[.int .i64 a.src, .int .i64 a.til, .bool true]) := Lib.hid (by unfold Ask.times Ask.timed; rw [decide_eq_true (by omega)]; rfl)
    rw [dyn1 h1]
    clear h1
    have hb : Lay w (w.alloc (.cells #[.int .i64 a.src, .int .i64 a.til, .slice x n c] 63)) := (Keep.refl _ w).alloc _
    have hk := Bl.new w 63 #[.int .i64 a.src, .int .i64 a.til, .slice x n c]
    obtain ⟨w1, hw1⟩ : ∃ w1, w1 = w.alloc (.cells #[.int .i64 a.src, .int .i64 a.til, .slice x n c] 63) := ⟨_, rfl⟩
    rw [← hw1] at hb hk
    have HW := Lib.hid hw1.symm
    have HB := Lib.hid hb
    have c0 := fun n => (Bl.below hk (below_drewN (Below.refl _ w1) n)).cell 0
    have c1 := fun n => (Bl.below hk (below_drewN (Below.refl _ w1) n)).cell 1
    simp only [List.getElem?_toArray, List.getElem?_cons_succ, List.getElem?_cons_zero] at c0 c1
    clear hw1 hb hk
    go_enter Tryz.func84, Tryz.ntmps84
    go_upto_region 4 with fail
    rw [HW.out]
    go_quiet (fail)
    clear c0 c1
    go_wp2_with fail
    refine bodyPost_ret (v := .tuple #[.int .i64 a.src, .int .i64 a.til, .bool true]) (by simp [results, Tryz.results84, go_sem]) rfl ⟨by rw [HK.out], HB.out.drewN _⟩
  by_cases h2 : a.kd = 2
  · have HK : Hid (a.times = .tuple #[.int .i64 a.src, .int .i64 a.til, .bool true]) := Lib.hid (by unfold Ask.times Ask.timed; rw [decide_eq_true (by omega)]; rfl)
    rw [dyn2 h2]
    clear h1 h2
    have hb : Lay w (w.alloc (.cells #[.int .i64 a.src, .int .i64 a.til, .slice y m d] 76)) := (Keep.refl _ w).alloc _
    have hk := Bl.new w 76 #[.int .i64 a.src, .int .i64 a.til, .slice y m d]
    obtain ⟨w1, hw1⟩ : ∃ w1, w1 = w.alloc (.cells #[.int .i64 a.src, .int .i64 a.til, .slice y m d] 76) := ⟨_, rfl⟩
    rw [← hw1] at hb hk
    have HW := Lib.hid hw1.symm
    have HB := Lib.hid hb
    have c0 := fun n => (Bl.below hk (below_drewN (Below.refl _ w1) n)).cell 0
    have c1 := fun n => (Bl.below hk (below_drewN (Below.refl _ w1) n)).cell 1
    simp only [List.getElem?_toArray, List.getElem?_cons_succ, List.getElem?_cons_zero] at c0 c1
    clear hw1 hb hk
    go_enter Tryz.func84, Tryz.ntmps84
    go_upto_region 7 with fail
    rw [HW.out]
    go_quiet (fail)
    clear c0 c1
    go_wp2_with fail
    refine bodyPost_ret (v := .tuple #[.int .i64 a.src, .int .i64 a.til, .bool true]) (by simp [results, Tryz.results84, go_sem]) rfl ⟨by rw [HK.out], HB.out.drewN _⟩
  by_cases h3 : a.kd = 3
  · have HK : Hid (a.times = .tuple #[.int .i64 a.src, .int .i64 a.til, .bool true]) := Lib.hid (by unfold Ask.times Ask.timed; rw [decide_eq_true (by omega)]; rfl)
    rw [dyn3 h3]
    clear h1 h2 h3
    have hb : Lay w (w.alloc (.cells #[.int .i64 a.src, .int .i64 a.til] 78)) := (Keep.refl _ w).alloc _
    have hk := Bl.new w 78 #[.int .i64 a.src, .int .i64 a.til]
    obtain ⟨w1, hw1⟩ : ∃ w1, w1 = w.alloc (.cells #[.int .i64 a.src, .int .i64 a.til] 78) := ⟨_, rfl⟩
    rw [← hw1] at hb hk
    have HW := Lib.hid hw1.symm
    have HB := Lib.hid hb
    have c0 := fun n => (Bl.below hk (below_drewN (Below.refl _ w1) n)).cell 0
    have c1 := fun n => (Bl.below hk (below_drewN (Below.refl _ w1) n)).cell 1
    simp only [List.getElem?_toArray, List.getElem?_cons_succ, List.getElem?_cons_zero] at c0 c1
    clear hw1 hb hk
    go_enter Tryz.func84, Tryz.ntmps84
    go_upto_region 10 with fail
    rw [HW.out]
    go_quiet (fail)
    clear c0 c1
    go_wp2_with fail
    refine bodyPost_ret (v := .tuple #[.int .i64 a.src, .int .i64 a.til, .bool true]) (by simp [results, Tryz.results84, go_sem]) rfl ⟨by rw [HK.out], HB.out.drewN _⟩
  · have HK : Hid (a.times = .tuple #[.int .i64 0, .int .i64 0, .bool false]) := Lib.hid (by unfold Ask.times Ask.timed; rw [decide_eq_false (by omega)]; rfl)
    rw [dyn0 (by omega)]
    clear h1 h2 h3
    go_enter Tryz.func84, Tryz.ntmps84
    go_wp2_with fail
    refine bodyPost_ret (v := .tuple #[.int .i64 0, .int .i64 0, .bool false]) (by simp [results, Tryz.results84, go_sem]) rfl ⟨by rw [HK.out], Keep.refl _ _⟩
theorem times_any (a : Ask) (x y : Option Addr) (n c m d : Nat) (w : World) : Calls Tryz.prog 84 #[a.dyn (.slice x n c) (.slice y m d)] w fun e w' => e = .returned a.times ∧ Below w.heap.size w w' :=
  (times_lay a x y n c m d w).mono fun _ _ h => ⟨h.1, ⟨h.2.os, h.2.tape, h.2.output, h.2.size, fun _ hk => Lay.block h.2 hk⟩⟩
end Go.Proofs.YtoobjjpheegmdaaGreat.E4
namespace Go.Proofs.YtoobjjpheegmdaaGreat.E4
open Go.RowKit Go
theorem StrsAt.lay {w w' : World} {v : Value} {l : List ByteArray} (h : StrsAt w v l) (hl : Lay w w') : StrsAt w' v l := h.below (E4.lay_below hl)
theorem strs_src {w : World} {v : Value} {l : List ByteArray} (h : StrsAt w v l) : Src Tryz.prog 1 87 v l.length (strs l) w := by
  obtain ⟨a, cap, rfl, -, hc⟩ := h
  have hone : ∀ u ∈ strs l, u.oneCell' = true := fun u hu => by
    unfold strs at hu
    obtain ⟨s, _, rfl⟩ := List.mem_map.1 hu
    rfl
  rcases hc with rfl | ⟨b, off, rfl, hb, hc⟩
  · cases a with
    | none => exact Src.ofNil _ Tryz.underlying87 cap
    | some p => exact Src.ofSlice _ Tryz.underlying87 p 0 cap [] (by simp) (fun j u hu => by simp at hu) (fun u hu => by simp at hu)
  · refine Src.ofSlice _ Tryz.underlying87 ⟨b, off, none⟩ l.length cap (strs l) (by rw [strs_len, Nat.mul_one]) (fun j u hu => ?_) hone
    have hj : j < l.length := by have := (List.getElem?_eq_some_iff.1 hu).1; rwa [strs_len] at this
    rw [add_lit, hc j hj]
    unfold strs at hu
    rw [List.getElem?_map, List.getElem?_eq_getElem hj] at hu
    exact hu
theorem ms_src {w : World} {v : Value} {l : List Mt} (h : MsAt w v l) : Src Tryz.prog 3 34 v l.length (flatM l) w := by
  obtain ⟨a, cap, rfl, -, hc⟩ := h
  have hone : ∀ u ∈ flatM l, u.oneCell' = true := by
    clear hc
    induction l with
    | nil => intro u hu; cases hu
    | cons m l ih =>
      intro u hu
      simp only [flatM, List.mem_cons] at hu
      rcases hu with rfl | rfl | rfl | hu
      · rfl
      · rfl
      · rfl
      · exact ih u hu
  rcases hc with rfl | ⟨b, off, rfl, hb, hc⟩
  · cases a with
    | none => exact Src.ofNil _ Tryz.underlying34 cap
    | some p => exact Src.ofSlice _ Tryz.underlying34 p 0 cap [] (by simp) (fun j u hu => by simp at hu) (fun u hu => by simp at hu)
  · refine Src.ofSlice _ Tryz.underlying34 ⟨b, off, none⟩ l.length cap (flatM l) (flatM_len l) (fun j u hu => ?_) hone
    have hj : j < l.length * 3 := by have := (List.getElem?_eq_some_iff.1 hu).1; rwa [flatM_len] at this
    have hi : j / 3 < l.length := by omega
    obtain ⟨g0, g1, g2⟩ := flatM_get l (j / 3) hi
    obtain ⟨h0, h1, h2⟩ := hc (j / 3) hi
    rw [add_lit]
    have hm : j = j / 3 * 3 ∨ j = j / 3 * 3 + 1 ∨ j = j / 3 * 3 + 2 := by omega
    rcases hm with e | e | e
    · rw [e] at hu ⊢; rw [g0] at hu; rw [← hu]; exact h0
    · rw [e] at hu ⊢; rw [g1] at hu; rw [← hu]; exact h1
    · rw [e] at hu ⊢; rw [g2] at hu; rw [← hu]; exact h2
def RowsV (w : World) (G : Nat → Prop) (rows : List (List ByteArray)) (xs : List Value) : Prop := xs.length = rows.length ∧ ∀ i (h : i < rows.length), ∃ u, xs[i]? = some u ∧ SG G w u rows[i]
theorem SG.one {G : Nat → Prop} {w : World} {v : Value} {l : List ByteArray} (h : SG G w v l) : v.oneCell' = true := by
  obtain ⟨a, c, rfl, _⟩ := h
  rfl
theorem rows_src {G : Nat → Prop} {w : World} {v : Value} {ls : List (List ByteArray)} (h : TextsG G w v ls) : ∃ xs, RowsV w G ls xs ∧ ∀ w1, Lay w w1 → Src Tryz.prog 1 33 v ls.length xs w1 := by
  obtain ⟨a, cap, rfl, -, hc⟩ := h
  rcases hc with rfl | ⟨b, off, rfl, _, hb, hc⟩
  · refine ⟨[], ⟨rfl, fun i hi => by simp at hi⟩, fun w1 _ => ?_⟩
    cases a with
    | none => exact Src.ofNil _ Tryz.underlying33 cap
    | some p => exact Src.ofSlice _ Tryz.underlying33 p 0 cap [] (by simp) (fun j u hu => by simp at hu) (fun u hu => by simp at hu)
  · obtain ⟨xs, hxl, hx⟩ := list_of undef (fun i u => ∀ h : i < ls.length, w.cell? ⟨b, off + i, none⟩ = some u ∧ SG G w u ls[i]) ls.length (fun i hi => by
      obtain ⟨rv, h1, h2⟩ := hc i hi
      exact ⟨rv, fun _ => ⟨h1, h2⟩⟩)
    have hget : ∀ i (h : i < ls.length), xs[i]? = some (xs.getD i undef) := fun i h => by
      rw [List.getElem?_eq_getElem (by omega)]
      simp [List.getD, List.getElem?_eq_getElem (show i < xs.length by omega)]
    refine ⟨xs, ⟨hxl, fun i hi => ⟨_, hget i hi, (hx i hi hi).2⟩⟩, fun w1 hl => ?_⟩
    refine Src.ofSlice _ Tryz.underlying33 ⟨b, off, none⟩ ls.length cap xs (by rw [hxl, Nat.mul_one]) (fun j u hu => ?_) (fun u hu => ?_)
    · have hj : j < ls.length := by have := (List.getElem?_eq_some_iff.1 hu).1; omega
      rw [add_lit, World.cell?_of_block (a := ⟨b, off + j, none⟩) (Lay.block hl hb), (hx j hj hj).1, ← hget j hj, hu]
    · obtain ⟨j, hj, rfl⟩ := List.mem_iff_getElem.1 hu
      have h1 := SG.one ((hx j (by omega) (by omega)).2)
      have h2 := hget j (by omega)
      rw [List.getElem?_eq_getElem hj] at h2
      injection h2 with h2
      rw [h2]
      exact h1
set_option maxHeartbeats 1000000 in
set_option maxRecDepth 100000 in
theorem cloneS_any {w : World} {v : Value} {l : List ByteArray} (h : StrsAt w v l) (hn : l.length ≤ 1000000) :
    Calls Tryz.prog 98 #[v] w fun e w' => ∃ v', e = .returned v' ∧ Rk 1 (fun k => w.heap.size ≤ k) w' v' l.length (strs l) ∧ Lay w w' := by
  obtain ⟨i0, z0, E0⟩ := elemS
  have qs : ∀ (w : World) (a : Option Addr) (n c n' c' : Nat), (binOp .eql 87 (.slice a n c) (.slice none n' c')).run Tryz.prog w = .ok (.bool a.isNone) w := fun w a n c n' c' => Lib.run_eql_slice_nil w _ _ a n c n' c' Tryz.underlying87
  have HSS := Lib.hid (fun w1 (hl : Lay w w1) => strs_src (h.lay hl))
  obtain ⟨a, cap, rfl, hn63, hc⟩ := id h
  clear h
  cases a with
  | none =>
    have h0 : l = [] := by
      rcases hc with h0 | ⟨b, off, h0, _⟩
      · exact h0
      · cases h0
    have HZ := Lib.hid h0
    clear hc h0 HSS
    go_enter Tryz.func98, Tryz.ntmps98
    go_wp2
    go_ret
    refine ⟨.slice none 0 0, rfl, ?_, Keep.refl _ _⟩
    rw [HZ.out]; exact Rk.nil _ _ _
  | some p =>
    clear hc
    have HS2 := Lib.hid (HSS.out (w.alloc (.cells #[] 9)) ((Keep.refl _ _).alloc _))
    clear HSS
    go_enter Tryz.func98, Tryz.ntmps98
    go_wp2_with (at_builtin; refine wpList_append_rk E0 _ rfl _ _ 87 rfl (G := fun k => w.heap.size ≤ k) rfl ((rk_new 1 w 0 [] 9 rfl (by omega)).mono (fun k hk _ => Nat.le_of_eq hk.symm)) ?c1 _ l.length (strs l) rfl HS2.out ?c2 ?c3 ?_)
    case c1 => intro k hk; simp at hk; omega
    case c2 => omega
    case c3 => omega
    intro v' w1 hrk hk
    have HK := Lib.hid hrk
    have hk2 : Keep (fun k => w.heap.size ≤ k) (w.alloc (.cells #[] 9)) w1 := hk.into (fun b _ hb => by
      obtain ⟨n, c, e⟩ := hb
      simp only [Value.slice.injEq, Option.some.injEq, Addr.mk.injEq, and_true] at e
      omega)
    have hlay : Lay w w1 := Keep.into (Keep.trans ((Keep.refl (fun k => w.heap.size ≤ k) w).alloc _) hk2) (fun k hlt hk => by omega)
    have HLY := Lib.hid hlay
    clear hrk hk hk2 hlay
    go_wp2
    go_ret
    refine ⟨v', rfl, ?_, HLY.out⟩
    have := HK.out.mono (G' := fun k => w.heap.size ≤ k) (fun k hk _ => hk.1)
    simpa using this
set_option maxHeartbeats 1000000 in
set_option maxRecDepth 100000 in
theorem cloneM12_any {w : World} {v : Value} {l : List Mt} (h : MsAt w v l) (hn : l.length ≤ 1000000) :
    Calls Tryz.prog 99 #[v] w fun e w' => ∃ v', e = .returned v' ∧ Rk 3 (fun k => w.heap.size ≤ k) w' v' l.length (flatM l) ∧ Lay w w' := by
  obtain ⟨i0, z0, E0⟩ := elemM
  have qs : ∀ (w : World) (a : Option Addr) (n c n' c' : Nat), (binOp .eql 34 (.slice a n c) (.slice none n' c')).run Tryz.prog w = .ok (.bool a.isNone) w := fun w a n c n' c' => Lib.run_eql_slice_nil w _ _ a n c n' c' Tryz.underlying34
  have HSS := Lib.hid (fun w1 (hl : Lay w w1) => ms_src (MsAt.below12 h (E4.lay_below hl)))
  obtain ⟨a, cap, rfl, hn63, hc⟩ := id h
  clear h
  cases a with
  | none =>
    have h0 : l = [] := by
      rcases hc with h0 | ⟨b, off, h0, _⟩
      · exact h0
      · cases h0
    have HZ := Lib.hid h0
    clear hc h0 HSS
    go_enter Tryz.func99, Tryz.ntmps99
    go_wp2
    go_ret
    refine ⟨.slice none 0 0, rfl, ?_, Keep.refl _ _⟩
    rw [HZ.out]; exact Rk.nil _ _ _
  | some p =>
    clear hc
    have HS2 := Lib.hid (HSS.out (w.alloc (.cells #[] 89)) ((Keep.refl _ _).alloc _))
    clear HSS
    go_enter Tryz.func99, Tryz.ntmps99
    go_wp2_with (at_builtin; refine wpList_append_rk E0 _ rfl _ _ 34 rfl (G := fun k => w.heap.size ≤ k) rfl ((rk_new 3 w 0 [] 89 rfl (by omega)).mono (fun k hk _ => Nat.le_of_eq hk.symm)) ?c1 _ l.length (flatM l) rfl HS2.out ?c2 ?c3 ?_)
    case c1 => intro k hk; simp at hk; omega
    case c2 => omega
    case c3 => omega
    intro v' w1 hrk hk
    have HK := Lib.hid hrk
    have hk2 : Keep (fun k => w.heap.size ≤ k) (w.alloc (.cells #[] 89)) w1 := hk.into (fun b _ hb => by
      obtain ⟨n, c, e⟩ := hb
      simp only [Value.slice.injEq, Option.some.injEq, Addr.mk.injEq, and_true] at e
      omega)
    have hlay : Lay w w1 := Keep.into (Keep.trans ((Keep.refl (fun k => w.heap.size ≤ k) w).alloc _) hk2) (fun k hlt hk => by omega)
    have HLY := Lib.hid hlay
    clear hrk hk hk2 hlay
    go_wp2
    go_ret
    refine ⟨v', rfl, ?_, HLY.out⟩
    have := HK.out.mono (G' := fun k => w.heap.size ≤ k) (fun k hk _ => hk.1)
    simpa using this
set_option maxHeartbeats 1000000 in
set_option maxRecDepth 100000 in
theorem cloneR_any {w : World} {v : Value} {ls : List (List ByteArray)} {xs : List Value} (h : TextsAt w v ls) (hxl : xs.length = ls.length) (hsr : ∀ w1, Lay w w1 → Src Tryz.prog 1 33 v ls.length xs w1) (hn : ls.length ≤ 1000000) :
    Calls Tryz.prog 97 #[v] w fun e w' => ∃ v', e = .returned v' ∧ Rk 1 (fun k => w.heap.size ≤ k) w' v' ls.length xs ∧ Lay w w' := by
  obtain ⟨i0, z0, E0⟩ := elemR
  have qs : ∀ (w : World) (a : Option Addr) (n c n' c' : Nat), (binOp .eql 33 (.slice a n c) (.slice none n' c')).run Tryz.prog w = .ok (.bool a.isNone) w := fun w a n c n' c' => Lib.run_eql_slice_nil w _ _ a n c n' c' Tryz.underlying33
  have HSS := Lib.hid (fun w1 (hl : Lay w w1) => hsr w1 hl)
  obtain ⟨a, cap, rfl, hn63, hc⟩ := id h
  clear h
  cases a with
  | none =>
    have h0 : ls = [] := by
      rcases hc with h0 | ⟨b, off, h0, _⟩
      · exact h0
      · cases h0
    have HZ := Lib.hid h0
    clear hc h0 HSS
    go_enter Tryz.func97, Tryz.ntmps97
    go_wp2
    go_ret
    refine ⟨.slice none 0 0, rfl, ?_, Keep.refl _ _⟩
    have hx0 : xs = [] := List.eq_nil_of_length_eq_zero (by rw [hxl, HZ.out]; rfl)
    rw [hx0, HZ.out]; exact Rk.nil _ _ _
  | some p =>
    clear hc
    have HS2 := Lib.hid (HSS.out (w.alloc (.cells #[] 87)) ((Keep.refl _ _).alloc _))
    clear HSS
    go_enter Tryz.func97, Tryz.ntmps97
    go_wp2_with (at_builtin; refine wpList_append_rk E0 _ rfl _ _ 33 rfl (G := fun k => w.heap.size ≤ k) rfl ((rk_new 1 w 0 [] 87 rfl (by omega)).mono (fun k hk _ => Nat.le_of_eq hk.symm)) ?c1 _ ls.length xs rfl HS2.out ?c2 ?c3 ?_)
    case c1 => intro k hk; simp at hk; omega
    case c2 => omega
    case c3 => omega
    intro v' w1 hrk hk
    have HK := Lib.hid hrk
    have hk2 : Keep (fun k => w.heap.size ≤ k) (w.alloc (.cells #[] 87)) w1 := hk.into (fun b _ hb => by
      obtain ⟨n, c, e⟩ := hb
      simp only [Value.slice.injEq, Option.some.injEq, Addr.mk.injEq, and_true] at e
      omega)
    have hlay : Lay w w1 := Keep.into (Keep.trans ((Keep.refl (fun k => w.heap.size ≤ k) w).alloc _) hk2) (fun k hlt hk => by omega)
    have HLY := Lib.hid hlay
    clear hrk hk hk2 hlay
    go_wp2
    go_ret
    refine ⟨v', rfl, ?_, HLY.out⟩
    have := HK.out.mono (G' := fun k => w.heap.size ≤ k) (fun k hk _ => hk.1)
    simpa using this
end Go.Proofs.YtoobjjpheegmdaaGreat.E4
