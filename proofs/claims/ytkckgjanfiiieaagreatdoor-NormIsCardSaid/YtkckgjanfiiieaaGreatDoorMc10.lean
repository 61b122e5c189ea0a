/-
  MATCHERS COMPARED: norm.inOrder's two functions.
-/
import Derived.Test.YtkckgjanfiiieaaGreatDoorOc10
import Derived.Test.YtkckgjanfiiieaaGreatDoorQyA
import Derived.Test.YtkckgjanfiiieaaGreatDoorQryA6
namespace Go.Proofs.YtkckgjanfiiieaaGreatDoor
open Go.RowKit Go

attribute [local go_sem] Oper.semAt_some wide_fn wide_depth

/-- Those that are Not come behind. -/
def nt (b : Bool) : Int := if b then 1 else 0

/-- Two matchers compared: by the name, the Not, the value. -/
def mtC (a b : Mt) : Int := orI (strC a.name b.name) (orI (intC (nt a.not) (nt b.not)) (strC a.value b.value))

theorem nt_inj : ∀ a b : Bool, nt a = nt b → a = b
  | false, false, _ => rfl
  | true, true, _ => rfl
  | false, true, h => by simp [nt] at h
  | true, false, h => by simp [nt] at h

theorem mtC_lc : LC mtC := (strC_lc.or ((intC_lc.on nt nt_inj).or strC_lc)).on (fun a : Mt => (a.name, a.not, a.value)) (fun a b h => by cases a; cases b; simp_all)

set_option maxHeartbeats 1000000 in
theorem notsF_any (m : Mt) (w : World) : Calls Tryz.prog 28 #[m.val] w fun e w' => e = .returned (.int .i64 (nt m.not)) ∧ Lay w w' := by
  obtain ⟨n, b, v⟩ := m
  cases b
  · go_enter Tryz.func28, Tryz.ntmps28
    simp only [Mt.val]
    go_wp2_with fail
    go_ret
    exact ⟨rfl, (Keep.refl _ _).alloc _⟩
  · go_enter Tryz.func28, Tryz.ntmps28
    simp only [Mt.val]
    go_wp2_with fail
    go_ret
    exact ⟨rfl, (Keep.refl _ _).alloc _⟩

/-- What the operations of comparing two matchers leave. -/
def MVc (a b : Mt) (s _g : Nat) : Nat → Value → World → Prop
  | 0, v, _ => v = .pointer (some ⟨s, 0, none⟩)
  | 1, v, _ => v = .string a.name
  | 2, v, _ => v = .pointer (some ⟨s + 1, 0, none⟩)
  | 3, v, _ => v = .string b.name
  | 4, v, _ => v = .int .i64 (strC a.name b.name)
  | 5, v, _ => v = .func (.func 28) #[] #[]
  | 6, v, _ => v = a.val
  | 7, v, _ => v = .int .i64 (nt a.not)
  | 8, v, _ => v = .func (.func 28) #[] #[]
  | 9, v, _ => v = b.val
  | 10, v, _ => v = .int .i64 (nt b.not)
  | 11, v, _ => v = .int .i64 (intC (nt a.not) (nt b.not))
  | 12, v, _ => v = .pointer (some ⟨s, 2, none⟩)
  | 13, v, _ => v = .string a.value
  | 14, v, _ => v = .pointer (some ⟨s + 1, 2, none⟩)
  | 15, v, _ => v = .string b.value
  | 16, v, _ => v = .int .i64 (strC a.value b.value)
  | 17, v, W => ∃ q, v = .slice (some ⟨q, 0, none⟩) 3 3 ∧ q < W.heap.size ∧ W.cell? ⟨q, 0, none⟩ = some (.int .i64 (strC a.name b.name)) ∧ W.cell? ⟨q, 1, none⟩ = some (.int .i64 (intC (nt a.not) (nt b.not))) ∧ W.cell? ⟨q, 2, none⟩ = some (.int .i64 (strC a.value b.value))
  | _, v, _ => v = .int .i64 (mtC a b)

theorem MVc.lay {a b : Mt} {s g j : Nat} {v : Value} {W W' : World} (h : MVc a b s g j v W) (hl : Lay W W') : MVc a b s g j v W' := by
  by_cases j17 : j = 17
  · subst j17
    obtain ⟨q, hq, hlt, k0, k1, k2⟩ := h
    exact ⟨q, hq, Nat.lt_of_lt_of_le hlt hl.size, (hl.cell hlt).trans k0, (hl.cell hlt).trans k1, (hl.cell hlt).trans k2⟩
  · unfold MVc at h ⊢
    split at h <;> first | exact h | exact absurd rfl j17

set_option maxHeartbeats 8000000 in
set_option maxRecDepth 100000 in
theorem cmpM_any (a b : Mt) (g : Nat) (w : World) (hg : w.cell? ⟨g, 0, none⟩ = some (.func (.func 28) #[] #[])) (hgl : g < w.heap.size) : Calls Tryz.prog 31 #[a.val, b.val, .pointer (some ⟨g, 0, none⟩)] w fun e w' => e = .returned (.int .i64 (mtC a b)) ∧ Lay w w' := by
  have hL : Lay w ((w.alloc (.cells #[.string a.name, .bool a.not, .string a.value] 45)).alloc (.cells #[.string b.name, .bool b.not, .string b.value] 45)) := ((Keep.refl _ _).alloc _).alloc _
  have c0 : ((w.alloc (.cells #[.string a.name, .bool a.not, .string a.value] 45)).alloc (.cells #[.string b.name, .bool b.not, .string b.value] 45)).cell? ⟨w.heap.size, 0, none⟩ = some (.string a.name) := by go_simp
  have c1 : ((w.alloc (.cells #[.string a.name, .bool a.not, .string a.value] 45)).alloc (.cells #[.string b.name, .bool b.not, .string b.value] 45)).cell? ⟨w.heap.size, 1, none⟩ = some (.bool a.not) := by go_simp
  have c2 : ((w.alloc (.cells #[.string a.name, .bool a.not, .string a.value] 45)).alloc (.cells #[.string b.name, .bool b.not, .string b.value] 45)).cell? ⟨w.heap.size, 2, none⟩ = some (.string a.value) := by go_simp
  have d0 : ((w.alloc (.cells #[.string a.name, .bool a.not, .string a.value] 45)).alloc (.cells #[.string b.name, .bool b.not, .string b.value] 45)).cell? ⟨w.heap.size + 1, 0, none⟩ = some (.string b.name) := by go_simp
  have d1 : ((w.alloc (.cells #[.string a.name, .bool a.not, .string a.value] 45)).alloc (.cells #[.string b.name, .bool b.not, .string b.value] 45)).cell? ⟨w.heap.size + 1, 1, none⟩ = some (.bool b.not) := by go_simp
  have d2 : ((w.alloc (.cells #[.string a.name, .bool a.not, .string a.value] 45)).alloc (.cells #[.string b.name, .bool b.not, .string b.value] 45)).cell? ⟨w.heap.size + 1, 2, none⟩ = some (.string b.value) := by go_simp
  have hlt1 : w.heap.size + 1 < ((w.alloc (.cells #[.string a.name, .bool a.not, .string a.value] 45)).alloc (.cells #[.string b.name, .bool b.not, .string b.value] 45)).heap.size := by simp
  have hlt0 : w.heap.size < ((w.alloc (.cells #[.string a.name, .bool a.not, .string a.value] 45)).alloc (.cells #[.string b.name, .bool b.not, .string b.value] 45)).heap.size := by omega
  have hltg : g < ((w.alloc (.cells #[.string a.name, .bool a.not, .string a.value] 45)).alloc (.cells #[.string b.name, .bool b.not, .string b.value] 45)).heap.size := by omega
  have hg0 : ((w.alloc (.cells #[.string a.name, .bool a.not, .string a.value] 45)).alloc (.cells #[.string b.name, .bool b.not, .string b.value] 45)).cell? ⟨g, 0, none⟩ = some (.func (.func 28) #[] #[]) := (hL.cell hgl).trans hg
  have HL := Lib.hid hL
  go_enter Tryz.func31, Tryz.ntmps31
  simp only [Mt.val]
  go_wp2_with fail
  clear hL hg hgl
  generalize ((w.alloc (.cells #[.string a.name, .bool a.not, .string a.value] 45)).alloc (.cells #[.string b.name, .bool b.not, .string b.value] 45)) = W0 at *
  refine (wpIn_wide (n := 9)).1 ?_
  refine wpIn_region_flow (fun _ => trivial) (by kernel_rfl) (fun _ _ W => Lay W0 W) (fun _ _ W W' => Lay W W') (fun j ys W => MVc a b w.heap.size g j (ys j) W) (fun j => j == 19) (by kernel_rfl) (by kernel_rfl) (fun i j ys v u1 u2 hij _ _ hV hR => by show MVc a b w.heap.size g j (upd ys i v j) u2; rw [upd_other ys v (Ne.symm hij)]; exact MVc.lay hV hR) (Keep.refl _ _).drew ?step ?fin
  case step =>
    refine ⟨?_, ?_, ?_, ?_, ?_, ?_, ?_, ?_, ?_, ?_, ?_, ?_, ?_, ?_, ?_, ?_, ?_, ?_, ?_, ?_, trivial⟩
    · intro listed ys A W hsz hsd hi2 hall hA hI hd K hK
      have e3 : A.tmps.getD 3 undef = .pointer (some ⟨w.heap.size, 0, none⟩) := hA 3 (Nat.le_of_ble_eq_true rfl)
      refine step_run (.inl rfl) ?_
      clear hA hd
      go_simp
      exact hK _ _ hI (Keep.refl _ _) (upd_same _ _ _)
    · intro listed ys A W hsz hsd hi2 hall hA hI hd K hK
      have e6 : A.tmps.getD 6 undef = .pointer (some ⟨w.heap.size, 0, none⟩) := (hA 6 (Nat.le_of_ble_eq_true rfl)).trans (hd ⟨0, .data⟩ (by simp) rfl)
      refine step_run (.inl rfl) ?_
      clear hA hd
      have k0 := (Lay.cell hI hlt0).trans c0
      go_simp
      exact hK _ _ hI (Keep.refl _ _) (upd_same _ _ _)
    · intro listed ys A W hsz hsd hi2 hall hA hI hd K hK
      have e4 : A.tmps.getD 4 undef = .pointer (some ⟨w.heap.size + 1, 0, none⟩) := hA 4 (Nat.le_of_ble_eq_true rfl)
      refine step_run (.inl rfl) ?_
      clear hA hd
      go_simp
      exact hK _ _ hI (Keep.refl _ _) (upd_same _ _ _)
    · intro listed ys A W hsz hsd hi2 hall hA hI hd K hK
      have e8 : A.tmps.getD 8 undef = .pointer (some ⟨w.heap.size + 1, 0, none⟩) := (hA 8 (Nat.le_of_ble_eq_true rfl)).trans (hd ⟨2, .data⟩ (by simp) rfl)
      refine step_run (.inl rfl) ?_
      clear hA hd
      have k0 := (Lay.cell hI hlt1).trans d0
      go_simp
      exact hK _ _ hI (Keep.refl _ _) (upd_same _ _ _)
    · intro listed ys A W hsz hsd hi2 hall hA hI hd K hK
      have e7 : A.tmps.getD 7 undef = .string a.name := (hA 7 (Nat.le_of_ble_eq_true rfl)).trans (hd ⟨1, .data⟩ (by simp) rfl)
      have e9 : A.tmps.getD 9 undef = .string b.name := (hA 9 (Nat.le_of_ble_eq_true rfl)).trans (hd ⟨3, .data⟩ (by simp) rfl)
      refine step_run (.inl rfl) ?_
      clear hA hd
      go_simp
      refine (callsIn_wide.2 (cmp_str _ _ _)).mono ?_
      rintro e w' ⟨rfl, rfl⟩
      exact hK _ _ hI (Keep.refl _ _) (upd_same _ _ _)
    · intro listed ys A W hsz hsd hi2 hall hA hI hd K hK
      have e2 : A.tmps.getD 2 undef = .pointer (some ⟨g, 0, none⟩) := hA 2 (Nat.le_of_ble_eq_true rfl)
      refine step_run (.inl rfl) ?_
      clear hA hd
      have k0 := (Lay.cell hI hltg).trans hg0
      go_simp
      exact hK _ _ hI (Keep.refl _ _) (upd_same _ _ _)
    · intro listed ys A W hsz hsd hi2 hall hA hI hd K hK
      have e3 : A.tmps.getD 3 undef = .pointer (some ⟨w.heap.size, 0, none⟩) := hA 3 (Nat.le_of_ble_eq_true rfl)
      refine step_run (.inl rfl) ?_
      clear hA hd
      have k0 := (Lay.cell hI hlt0).trans c0
      have k1 := (Lay.cell hI hlt0).trans c1
      have k2 := (Lay.cell hI hlt0).trans c2
      go_simp
      exact hK _ _ hI (Keep.refl _ _) (upd_same _ _ _)
    · intro listed ys A W hsz hsd hi2 hall hA hI hd K hK
      have e11 : A.tmps.getD 11 undef = .func (.func 28) #[] #[] := (hA 11 (Nat.le_of_ble_eq_true rfl)).trans (hd ⟨5, .data⟩ (by simp) rfl)
      have e12 : A.tmps.getD 12 undef = a.val := (hA 12 (Nat.le_of_ble_eq_true rfl)).trans (hd ⟨6, .data⟩ (by simp) rfl)
      refine step_run (.inl rfl) ?_
      clear hA hd
      go_simp
      refine (callsIn_wide.2 (notsF_any a W)).mono ?_
      rintro e w' ⟨rfl, hl⟩
      exact hK _ _ (Keep.trans hI hl) hl (upd_same _ _ _)
    · intro listed ys A W hsz hsd hi2 hall hA hI hd K hK
      have e2 : A.tmps.getD 2 undef = .pointer (some ⟨g, 0, none⟩) := hA 2 (Nat.le_of_ble_eq_true rfl)
      refine step_run (.inl rfl) ?_
      clear hA hd
      have k0 := (Lay.cell hI hltg).trans hg0
      go_simp
      exact hK _ _ hI (Keep.refl _ _) (upd_same _ _ _)
    · intro listed ys A W hsz hsd hi2 hall hA hI hd K hK
      have e4 : A.tmps.getD 4 undef = .pointer (some ⟨w.heap.size + 1, 0, none⟩) := hA 4 (Nat.le_of_ble_eq_true rfl)
      refine step_run (.inl rfl) ?_
      clear hA hd
      have k0 := (Lay.cell hI hlt1).trans d0
      have k1 := (Lay.cell hI hlt1).trans d1
      have k2 := (Lay.cell hI hlt1).trans d2
      go_simp
      exact hK _ _ hI (Keep.refl _ _) (upd_same _ _ _)
    · intro listed ys A W hsz hsd hi2 hall hA hI hd K hK
      have e14 : A.tmps.getD 14 undef = .func (.func 28) #[] #[] := (hA 14 (Nat.le_of_ble_eq_true rfl)).trans (hd ⟨8, .data⟩ (by simp) rfl)
      have e15 : A.tmps.getD 15 undef = b.val := (hA 15 (Nat.le_of_ble_eq_true rfl)).trans (hd ⟨9, .data⟩ (by simp) rfl)
      refine step_run (.inl rfl) ?_
      clear hA hd
      go_simp
      refine (callsIn_wide.2 (notsF_any b W)).mono ?_
      rintro e w' ⟨rfl, hl⟩
      exact hK _ _ (Keep.trans hI hl) hl (upd_same _ _ _)
    · intro listed ys A W hsz hsd hi2 hall hA hI hd K hK
      have e13 : A.tmps.getD 13 undef = .int .i64 (nt a.not) := (hA 13 (Nat.le_of_ble_eq_true rfl)).trans (hd ⟨7, .data⟩ (by simp) rfl)
      have e16 : A.tmps.getD 16 undef = .int .i64 (nt b.not) := (hA 16 (Nat.le_of_ble_eq_true rfl)).trans (hd ⟨10, .data⟩ (by simp) rfl)
      refine step_run (.inl rfl) ?_
      clear hA hd
      go_simp
      refine (callsIn_wide.2 (cmp_int _ _ _)).mono ?_
      rintro e w' ⟨rfl, rfl⟩
      exact hK _ _ hI (Keep.refl _ _) (upd_same _ _ _)
    · intro listed ys A W hsz hsd hi2 hall hA hI hd K hK
      have e3 : A.tmps.getD 3 undef = .pointer (some ⟨w.heap.size, 0, none⟩) := hA 3 (Nat.le_of_ble_eq_true rfl)
      refine step_run (.inl rfl) ?_
      clear hA hd
      go_simp
      exact hK _ _ hI (Keep.refl _ _) (upd_same _ _ _)
    · intro listed ys A W hsz hsd hi2 hall hA hI hd K hK
      have e18 : A.tmps.getD 18 undef = .pointer (some ⟨w.heap.size, 2, none⟩) := (hA 18 (Nat.le_of_ble_eq_true rfl)).trans (hd ⟨12, .data⟩ (by simp) rfl)
      refine step_run (.inl rfl) ?_
      clear hA hd
      have k2 := (Lay.cell hI hlt0).trans c2
      go_simp
      exact hK _ _ hI (Keep.refl _ _) (upd_same _ _ _)
    · intro listed ys A W hsz hsd hi2 hall hA hI hd K hK
      have e4 : A.tmps.getD 4 undef = .pointer (some ⟨w.heap.size + 1, 0, none⟩) := hA 4 (Nat.le_of_ble_eq_true rfl)
      refine step_run (.inl rfl) ?_
      clear hA hd
      go_simp
      exact hK _ _ hI (Keep.refl _ _) (upd_same _ _ _)
    · intro listed ys A W hsz hsd hi2 hall hA hI hd K hK
      have e20 : A.tmps.getD 20 undef = .pointer (some ⟨w.heap.size + 1, 2, none⟩) := (hA 20 (Nat.le_of_ble_eq_true rfl)).trans (hd ⟨14, .data⟩ (by simp) rfl)
      refine step_run (.inl rfl) ?_
      clear hA hd
      have k2 := (Lay.cell hI hlt1).trans d2
      go_simp
      exact hK _ _ hI (Keep.refl _ _) (upd_same _ _ _)
    · intro listed ys A W hsz hsd hi2 hall hA hI hd K hK
      have e19 : A.tmps.getD 19 undef = .string a.value := (hA 19 (Nat.le_of_ble_eq_true rfl)).trans (hd ⟨13, .data⟩ (by simp) rfl)
      have e21 : A.tmps.getD 21 undef = .string b.value := (hA 21 (Nat.le_of_ble_eq_true rfl)).trans (hd ⟨15, .data⟩ (by simp) rfl)
      refine step_run (.inl rfl) ?_
      clear hA hd
      go_simp
      refine (callsIn_wide.2 (cmp_str _ _ _)).mono ?_
      rintro e w' ⟨rfl, rfl⟩
      exact hK _ _ hI (Keep.refl _ _) (upd_same _ _ _)
    · intro listed ys A W hsz hsd hi2 hall hA hI hd K hK
      have e10 : A.tmps.getD 10 undef = .int .i64 (strC a.name b.name) := (hA 10 (Nat.le_of_ble_eq_true rfl)).trans (hd ⟨4, .data⟩ (by simp) rfl)
      have e17 : A.tmps.getD 17 undef = .int .i64 (intC (nt a.not) (nt b.not)) := (hA 17 (Nat.le_of_ble_eq_true rfl)).trans (hd ⟨11, .data⟩ (by simp) rfl)
      have e22 : A.tmps.getD 22 undef = .int .i64 (strC a.value b.value) := (hA 22 (Nat.le_of_ble_eq_true rfl)).trans (hd ⟨16, .data⟩ (by simp) rfl)
      refine step_run (.inl rfl) ?_
      clear hA hd
      have f10 : A.tmps[10]?.getD undef = _ := Array.getD_eq_getD_getElem?.symm.trans e10
      have f17 : A.tmps[17]?.getD undef = _ := Array.getD_eq_getD_getElem?.symm.trans e17
      have f22 : A.tmps[22]?.getD undef = _ := Array.getD_eq_getD_getElem?.symm.trans e22
      go_simp
      exact hK _ _ (Keep.alloc hI (.cells #[.int .i64 (strC a.name b.name), .int .i64 (intC (nt a.not) (nt b.not)), .int .i64 (strC a.value b.value)] 3)) ((Keep.refl _ _).alloc _) ⟨W.heap.size, upd_same _ _ _, by simp, by go_simp, by go_simp, by go_simp⟩
    · intro listed ys A W hsz hsd hi2 hall hA hI hd K hK
      have e23 : A.tmps.getD 23 undef = ys 17 := hA 23 (Nat.le_of_ble_eq_true rfl)
      obtain ⟨q, hq, hlt, k0, k1, k2⟩ : ∃ q, ys 17 = .slice (some ⟨q, 0, none⟩) 3 3 ∧ q < W.heap.size ∧ W.cell? ⟨q, 0, none⟩ = some (.int .i64 (strC a.name b.name)) ∧ W.cell? ⟨q, 1, none⟩ = some (.int .i64 (intC (nt a.not) (nt b.not))) ∧ W.cell? ⟨q, 2, none⟩ = some (.int .i64 (strC a.value b.value)) := hd ⟨17, .data⟩ (by simp) rfl
      rw [hq] at e23
      refine step_run (.inl rfl) ?_
      clear hA hd
      go_simp
      refine (callsIn_wide.2 (or_any q 0 3 [strC a.name b.name, intC (nt a.not) (nt b.not), strC a.value b.value] (by simp) W ?_)).mono ?_
      · intro i hi
        match i, hi with
        | 0, _ => exact k0
        | 1, _ => exact k1
        | 2, _ => exact k2
      rintro e w' ⟨rfl, rfl⟩
      exact hK _ _ hI (Keep.refl _ _) ((upd_same _ _ _).trans (by rw [firstNZ3]; rfl))
    · intro listed ys A W hsz hsd hi2 hall hA hI hd K hK
      have e24 : A.tmps.getD 24 undef = .int .i64 (mtC a b) := (hA 24 (Nat.le_of_ble_eq_true rfl)).trans (hd ⟨18, .data⟩ (by simp) rfl)
      refine step_run (.inl rfl) ?_
      clear hA hd
      go_simp
      exact hK _ _ hI (Keep.refl _ _) (upd_same _ _ _)
  case fin =>
    intro listed ys W hall hI hF
    have hv : ys 19 = .int .i64 (mtC a b) := hF 19 (Nat.le_of_ble_eq_true rfl) rfl
    have HI := Lib.hid hI
    clear hall hI hF
    simp only [putsFrom]
    simp only [hv, Act.put, List.setIfInBounds_toArray, List.set_cons_succ, List.set_cons_zero]
    go_wp2_with fail
    go_ret
    exact ⟨rfl, Keep.trans HL.out HI.out⟩

end Go.Proofs.YtkckgjanfiiieaaGreatDoor
