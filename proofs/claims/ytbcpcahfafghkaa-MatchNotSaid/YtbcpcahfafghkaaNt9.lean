/-
  WHAT A FILTER KEEPS, NOT OF IT LETS GO; not of a row of and is a row of or of nots: the law's walk.
-/
import Derived.Test.YtbcpcahfafghkaaNo9
namespace Go.Proofs.Ytbcpcahfafghkaa
open Go.RowKit Go
open Go.Sort (grow)

attribute [local go_sem] Oper.semAt_some wide_fn wide_depth

/-- And of both; or of both nots. -/
def andF (f g : Ft) : Ft := .mk 7 ⟨#[]⟩ ⟨#[]⟩ [f, g]
def orF (f g : Ft) : Ft := .mk 8 ⟨#[]⟩ ⟨#[]⟩ [notF f, notF g]

theorem cellsF_and (f g : Ft) (kv : Value) : cellsF (andF f g) kv = #[.int .i64 7, .string ⟨#[]⟩, .string ⟨#[]⟩, kv] := rfl
theorem cellsF_or (f g : Ft) (kv : Value) : cellsF (orF f g) kv = #[.int .i64 8, .string ⟨#[]⟩, .string ⟨#[]⟩, kv] := rfl
theorem val_not (f : Ft) (kv : Value) : (notF f).val kv = .agg #[.int .i64 6, .string ⟨#[]⟩, .string ⟨#[]⟩, kv] := rfl
theorem val_and (f g : Ft) (kv : Value) : (andF f g).val kv = .agg #[.int .i64 7, .string ⟨#[]⟩, .string ⟨#[]⟩, kv] := rfl
theorem val_or (f g : Ft) (kv : Value) : (orF f g).val kv = .agg #[.int .i64 8, .string ⟨#[]⟩, .string ⟨#[]⟩, kv] := rfl

theorem notF_fit {f : Ft} (h : Fit f) : Fit (notF f) := .mk _ _ _ _ (by decide) fit_nil fit_nil fun x hx => by rw [List.mem_singleton] at hx; rw [hx]; exact h
theorem andF_fit {f g : Ft} (hf : Fit f) (hg : Fit g) : Fit (andF f g) := .mk _ _ _ _ (by decide) fit_nil fit_nil fun x hx => by
  simp only [List.mem_cons, List.not_mem_nil, or_false] at hx
  rcases hx with rfl | rfl
  · exact hf
  · exact hg
theorem orF_fit {f g : Ft} (hf : Fit f) (hg : Fit g) : Fit (orF f g) := .mk _ _ _ _ (by decide) fit_nil fit_nil fun x hx => by
  simp only [List.mem_cons, List.not_mem_nil, or_false] at hx
  rcases hx with rfl | rfl
  · exact notF_fit hf
  · exact notF_fit hg

/-- Two filters and their and, each in a box of its own. -/
structure MN (W : World) (A B C : Nat) (F G : Ft) (kf kg ka : Value) : Prop where
  fg : FG W A B F G kf kg
  a : CB W C 26 (cellsF (andF F G) ka)
  ka : KsAt W ka (andF F G)

theorem MN.below {W W' : World} {A B C : Nat} {F G : Ft} {kf kg ka : Value} (h : MN W A B C F G kf kg ka) (hb : Below W.heap.size W W') : MN W' A B C F G kf kg ka :=
  ⟨h.fg.below hb, (hb.block _ h.a.lt).trans h.a, KsAt.below hb _ _ h.ka⟩

/-- A box that says nothing, and is new. -/
def ZB (D0 : Nat) (v : Value) (w : World) : Prop := ∃ b, v = .pointer (some ⟨b, 0, none⟩) ∧ D0 ≤ b ∧ CB w b 26 zeroF
theorem ZB.below {D0 : Nat} {v : Value} {w w' : World} (h : ZB D0 v w) (hb : Below w.heap.size w w') : ZB D0 v w' := by
  obtain ⟨b, hv, h1, h2⟩ := h
  exact ⟨b, hv, h1, (hb.block _ h2.lt).trans h2⟩
/-- A box that holds a filter. -/
def FB (D0 : Nat) (f : Ft) (v : Value) (w : World) : Prop := ∃ b kv, v = .pointer (some ⟨b, 0, none⟩) ∧ D0 ≤ b ∧ CB w b 26 (cellsF f kv) ∧ KsAt w kv f
theorem FB.below {D0 : Nat} {f : Ft} {v : Value} {w w' : World} (h : FB D0 f v w) (hb : Below w.heap.size w w') : FB D0 f v w' := by
  obtain ⟨b, kv, hv, h1, h2, h3⟩ := h
  exact ⟨b, kv, hv, h1, (hb.block _ h2.lt).trans h2, KsAt.below hb _ _ h3⟩
/-- A slice of a filter's kids. -/
def KB (f : Ft) (v : Value) (w : World) : Prop := ∃ b, v = .slice (some ⟨b, 0, none⟩) 2 2 ∧ KsAt w v f
theorem KB.below {f : Ft} {v : Value} {w w' : World} (h : KB f v w) (hb : Below w.heap.size w w') : KB f v w' := by
  obtain ⟨b, hv, h3⟩ := h
  exact ⟨b, hv, KsAt.below hb _ _ h3⟩

theorem stored_cb {W : World} {B : Nat} {t : TypeId} {a0 a1 a2 a3 : Value} (h : CB W B t #[a0, a1, a2, a3]) (u0 u1 u2 u3 : Value) : CB (stored W B u0 u1 u2 u3) B t #[u0, u1, u2, u3] :=
  (((h.set 0 u0).set 1 u1).set 2 u2).set 3 u3

/-- What the operations of 'or := ..' leave. -/
def OV (F G : Ft) (vf vg : Value) (D0 : Nat) : Nat → (Nat → Value) → World → Prop
  | 0, ys, _ => ys 0 = .func (.func 8) #[] #[]
  | 1, ys, _ => ys 1 = vf
  | 2, ys, w => FAt w (ys 2) (notF F)
  | 3, ys, _ => ys 3 = .func (.func 8) #[] #[]
  | 4, ys, _ => ys 4 = vg
  | 5, ys, w => FAt w (ys 5) (notF G)
  | 6, ys, w => KB (orF F G) (ys 6) w
  | 7, ys, w => (∃ b, ys 7 = (orF F G).val (.slice (some ⟨b, 0, none⟩) 2 2)) ∧ FAt w (ys 7) (orF F G)
  | 8, ys, w => ZB D0 (ys 8) w
  | 9, ys, w => FB D0 (orF F G) (ys 8) w
  | _, _, _ => True

section
variable {F : Fence} {n : Nat} {P : Program} {ops : Array Oper} {Q : Exit → Act → World → Prop}
/-- An operation that is not wanted. -/
theorem skip_step {o : Oper} {A : Act} {w : World} {K : Act → World → Prop} (h : ∃ j d b, o.guard = some (j, !b) ∧ (ops[j]?).bind (·.dst) = some d ∧ A.tmps.getD d undef = .bool b) (hk : K (A.put o.dst undef) w) :
    if Region.wanted o (yielded ops A.tmps) = true then o.wpIn F n P A w K Q else K (A.put o.dst undef) w := by
  have hwt : ¬ Region.wanted o (yielded ops A.tmps) = true := by
    obtain ⟨j, d, b, h, hd, hv⟩ := h
    unfold Region.wanted
    rw [h]
    unfold yielded
    simp only [hd, Option.bind_some]
    have e : A.tmps[d]? = some (.bool b) := by
      cases hx : A.tmps[d]? with
      | none => rw [Array.getD_eq_getD_getElem?, hx] at hv; cases hv
      | some y => rw [Array.getD_eq_getD_getElem?, hx] at hv; simpa using hv
    rw [e]
    cases b <;> simp
  rw [if_neg hwt]
  exact hk
end

theorem puts_defers {ys : Nat → Value} : ∀ (l : List Oper) (k : Nat) (a : Act), (putsFrom ys l k a).defers = a.defers
  | [], _, _ => rfl
  | o :: r, k, a => by
    rw [putsFrom, puts_defers r (k + 1)]
    cases o.dst <;> rfl

/-- Behind a region of which one slot alone is read. -/
theorem fin_of (d : Nat) {ops : List Oper} {ys : Nat → Value} {a0 : Act} {K : Act → World → Prop} {Q : Exit → Act → World → Prop} {w : World} {v : Value} (h : ∀ P : Act, P.tmps.getD d undef = v → P.defers = a0.defers → K P w) (hs : d < a0.tmps.size) (hv : slotFrom ys d ops 0 (a0.tmps.getD d undef) = v) : Exit.then K Q .normal (putsFrom ys ops 0 a0) w :=
  h _ ((getD_puts ops 0 a0 hs).trans hv) (puts_defers ops 0 a0)

theorem keeps_notF (line : ByteArray) (f : Ft) : keeps line (notF f) = !keeps line f := by unfold notF; rw [keeps_not]
theorem keeps_both (line : ByteArray) (f g : Ft) : keeps line (andF f g) = (keeps line f && keeps line g) := by unfold andF; rw [keeps_and]; simp
theorem keeps_either (line : ByteArray) (f g : Ft) : keeps line (orF f g) = !(keeps line f && keeps line g) := by unfold orF; rw [keeps_or]; simp [keeps_notF, Bool.not_and]

/-- What the operations of the last line leave: values that are known, and two nots. -/
def NV (F N : Ft) (cs : List (Option Value)) (j : Nat) (ys : Nat → Value) (w : World) : Prop :=
  if j = 2 then FAt w (ys 2) F else if j = 13 then FAt w (ys 13) N else ∀ v, cs.getD j none = some v → ys j = v

theorem NV.keep {F N : Ft} {cs : List (Option Value)} {i j : Nat} {ys : Nat → Value} {v : Value} {w w' : World} (hij : i ≠ j) (h : NV F N cs j ys w) (hb : Below w.heap.size w w') : NV F N cs j (upd ys i v) w' := by
  unfold NV at h ⊢
  by_cases h2 : j = 2
  · subst h2
    rw [if_pos rfl] at h ⊢
    rw [upd_other ys v (Ne.symm hij)]
    exact h.below hb
  · rw [if_neg h2] at h ⊢
    by_cases h3 : j = 13
    · subst h3
      rw [if_pos rfl] at h ⊢
      rw [upd_other ys v (Ne.symm hij)]
      exact h.below hb
    · rw [if_neg h3] at h ⊢
      intro u hu
      rw [upd_other ys v (Ne.symm hij)]
      exact h u hu

theorem NV.val {F N : Ft} {cs : List (Option Value)} {j : Nat} {ys : Nat → Value} {w : World} {v : Value} (h : NV F N cs j ys w) (hj : j ≠ 2 ∧ j ≠ 13) (hv : cs.getD j none = some v) : ys j = v := by
  unfold NV at h
  rw [if_neg hj.1, if_neg hj.2] at h
  exact h v hv

theorem NV.of {F N : Ft} {cs : List (Option Value)} {j : Nat} {ys : Nat → Value} {w : World} {v : Value} (hj : j ≠ 2 ∧ j ≠ 13) (hv : ∀ u, cs.getD j none = some u → u = v) : NV F N cs j (upd ys j v) w := by
  unfold NV
  rw [if_neg hj.1, if_neg hj.2]
  intro u hu
  rw [upd_same, hv u hu]

set_option maxHeartbeats 8000000 in
set_option maxRecDepth 100000 in
theorem not_walk (l m : List Int) (u v : Value) (line : ByteArray) (w : World) (hu : IntsAt w u l) (hv : IntsAt w v m) (hSh : w.ShapedOpen Try.prog) :
    Calls Try.prog 3 #[u, v, .string line] w fun e w' => e = .returned (.bool true) ∧ Below w.heap.size w w' := by
  have HA := Lib.hid (alive_any w hSh)
  have HS := Lib.hid hSh
  have HU := Lib.hid hu
  have HV := Lib.hid hv
  obtain ⟨a, cap, rfl, hl63, _⟩ := id hu
  obtain ⟨b, cbp, rfl, hm63, _⟩ := id hv
  clear hSh hu hv
  by_cases hg : 300 < l.length ∨ 300 < m.length ∨ 1000 < line.size
  · have hg' : decide (300 < (l.length : Int)) = true ∨ (decide (300 < (l.length : Int)) = false ∧ decide (300 < (m.length : Int)) = true) ∨ (decide (300 < (l.length : Int)) = false ∧ decide (300 < (m.length : Int)) = false ∧ decide (1000 < (line.size : Int)) = true) := by
      simp
      omega
    rcases hg' with hd | ⟨hd, hd1⟩ | ⟨hd, hd1, hd2⟩
    all_goals
      go_enter Try.func3, Try.ntmps3
      go_wp2_with (go_at_call 6; refine HA.out.mono ?_; rintro e w1 ⟨rfl, hb1⟩)
      go_ret
      exact ⟨rfl, hb1⟩
  have d0 : decide (300 < (l.length : Int)) = false := by simp; omega
  have d1 : decide (300 < (m.length : Int)) = false := by simp; omega
  have d2 : decide (1000 < (line.size : Int)) = false := by simp; omega
  have hline : line.size ≤ 100000 := by omega
  clear hg
  go_enter Try.func3, Try.ntmps3
  go_wp2_with fail
  refine HA.out.mono ?_
  rintro e w1 ⟨rfl, hb1⟩
  have HB1 := Lib.hid hb1
  have HF := Lib.hid (filter_any l w1 _ (HU.out.below9 hb1))
  clear hb1 HA
  go_wp2_with fail
  refine HF.out.mono ?_
  rintro e w2 ⟨kf, rfl, hkf, hb2⟩
  have HB2 := Lib.hid (HB1.out.trans (hb2.mono HB1.out.size))
  have HG := Lib.hid (filter_any m w2 _ (HV.out.below9 HB2.out))
  have HFF := Lib.hid (make_fit l 4 0)
  generalize (Ft.make l 4 0).1 = F at hkf HFF ⊢
  obtain ⟨af, cf, rfl⟩ := id hkf.shape
  have HKF := Lib.hid hkf
  clear hb2 hkf HF
  simp only [Ft.val]
  go_wp2_with fail
  refine HG.out.mono ?_
  rintro e w3 ⟨kg, rfl, hkg, hb3⟩
  have HB3 := Lib.hid (HB2.out.trans (hb3.mono HB2.out.size))
  have HFG := Lib.hid (make_fit m 4 0)
  generalize (Ft.make m 4 0).1 = G at hkg HFG ⊢
  obtain ⟨ag, cg, rfl⟩ := id hkg.shape
  have HKG := Lib.hid hkg
  have HKF3 := Lib.hid (KsAt.below hb3 _ _ HKF.out)
  clear hb3 hkg HG HKF
  simp only [Ft.val]
  go_wp2_with fail
  have hb2 : Below w3.heap.size w3 ((w3.alloc (.cells (cellsF F (.slice af F.kids.length cf)) 26)).alloc (.cells (cellsF G (.slice ag G.kids.length cg)) 26)) := ((Below.refl _ w3).alloc (Nat.le_refl _) _).alloc (by simp) _
  have hs2 : ((w3.alloc (.cells (cellsF F (.slice af F.kids.length cf)) 26)).alloc (.cells (cellsF G (.slice ag G.kids.length cg)) 26)).heap.size = w3.heap.size + 1 + 1 := by simp
  have hka := kids_at ((w3.alloc (.cells (cellsF F (.slice af F.kids.length cf)) 26)).alloc (.cells (cellsF G (.slice ag G.kids.length cg)) 26)) 7 [(F, .slice af F.kids.length cf), (G, .slice ag G.kids.length cg)] (by simp) (fun x hx => by
    simp only [List.mem_cons, List.not_mem_nil, or_false] at hx
    rcases hx with rfl | rfl
    · exact KsAt.below hb2 _ _ HKF3.out
    · exact KsAt.below hb2 _ _ HKG.out) _ rfl
  rw [hs2] at hka
  have hb34 : Below (((w3.alloc (.cells (cellsF F (.slice af F.kids.length cf)) 26)).alloc (.cells (cellsF G (.slice ag G.kids.length cg)) 26)).alloc (.cells #[.int .i64 F.op, .string F.name, .string F.text, .slice af F.kids.length cf, .int .i64 G.op, .string G.name, .string G.text, .slice ag G.kids.length cg] 26)).heap.size (((w3.alloc (.cells (cellsF F (.slice af F.kids.length cf)) 26)).alloc (.cells (cellsF G (.slice ag G.kids.length cg)) 26)).alloc (.cells #[.int .i64 F.op, .string F.name, .string F.text, .slice af F.kids.length cf, .int .i64 G.op, .string G.name, .string G.text, .slice ag G.kids.length cg] 26)) ((((w3.alloc (.cells (cellsF F (.slice af F.kids.length cf)) 26)).alloc (.cells (cellsF G (.slice ag G.kids.length cg)) 26)).alloc (.cells #[.int .i64 F.op, .string F.name, .string F.text, .slice af F.kids.length cf, .int .i64 G.op, .string G.name, .string G.text, .slice ag G.kids.length cg] 26)).alloc (.cells (cellsF (andF F G) (.slice (some ⟨w3.heap.size + 1 + 1, 0, none⟩) 2 2)) 26)) := (Below.refl _ _).alloc (Nat.le_refl _) _
  have hb4 : Below w3.heap.size w3 ((((w3.alloc (.cells (cellsF F (.slice af F.kids.length cf)) 26)).alloc (.cells (cellsF G (.slice ag G.kids.length cg)) 26)).alloc (.cells #[.int .i64 F.op, .string F.name, .string F.text, .slice af F.kids.length cf, .int .i64 G.op, .string G.name, .string G.text, .slice ag G.kids.length cg] 26)).alloc (.cells (cellsF (andF F G) (.slice (some ⟨w3.heap.size + 1 + 1, 0, none⟩) 2 2)) 26)) := (hb2.alloc (by simp <;> omega) _).alloc (by simp <;> omega) _
  have hf4 : CB ((((w3.alloc (.cells (cellsF F (.slice af F.kids.length cf)) 26)).alloc (.cells (cellsF G (.slice ag G.kids.length cg)) 26)).alloc (.cells #[.int .i64 F.op, .string F.name, .string F.text, .slice af F.kids.length cf, .int .i64 G.op, .string G.name, .string G.text, .slice ag G.kids.length cg] 26)).alloc (.cells (cellsF (andF F G) (.slice (some ⟨w3.heap.size + 1 + 1, 0, none⟩) 2 2)) 26)) w3.heap.size 26 (cellsF F (.slice af F.kids.length cf)) := (Below.heap_alloc _ _ _ (by simp <;> omega)).trans ((Below.heap_alloc _ _ _ (by simp <;> omega)).trans ((Below.heap_alloc _ _ _ (by simp)).trans (CB.new w3 26 _)))
  have hg4 : CB ((((w3.alloc (.cells (cellsF F (.slice af F.kids.length cf)) 26)).alloc (.cells (cellsF G (.slice ag G.kids.length cg)) 26)).alloc (.cells #[.int .i64 F.op, .string F.name, .string F.text, .slice af F.kids.length cf, .int .i64 G.op, .string G.name, .string G.text, .slice ag G.kids.length cg] 26)).alloc (.cells (cellsF (andF F G) (.slice (some ⟨w3.heap.size + 1 + 1, 0, none⟩) 2 2)) 26)) (w3.heap.size + 1) 26 (cellsF G (.slice ag G.kids.length cg)) := by
    have := CB.new (w3.alloc (.cells (cellsF F (.slice af F.kids.length cf)) 26)) 26 (cellsF G (.slice ag G.kids.length cg))
    rw [World.size_alloc] at this
    exact (Below.heap_alloc _ _ _ (by simp <;> omega)).trans ((Below.heap_alloc _ _ _ (by simp)).trans this)
  have ha4 : CB ((((w3.alloc (.cells (cellsF F (.slice af F.kids.length cf)) 26)).alloc (.cells (cellsF G (.slice ag G.kids.length cg)) 26)).alloc (.cells #[.int .i64 F.op, .string F.name, .string F.text, .slice af F.kids.length cf, .int .i64 G.op, .string G.name, .string G.text, .slice ag G.kids.length cg] 26)).alloc (.cells (cellsF (andF F G) (.slice (some ⟨w3.heap.size + 1 + 1, 0, none⟩) 2 2)) 26)) (w3.heap.size + 1 + 1 + 1) 26 (cellsF (andF F G) (.slice (some ⟨w3.heap.size + 1 + 1, 0, none⟩) 2 2)) := by
    have := CB.new (((w3.alloc (.cells (cellsF F (.slice af F.kids.length cf)) 26)).alloc (.cells (cellsF G (.slice ag G.kids.length cg)) 26)).alloc (.cells #[.int .i64 F.op, .string F.name, .string F.text, .slice af F.kids.length cf, .int .i64 G.op, .string G.name, .string G.text, .slice ag G.kids.length cg] 26)) 26 (cellsF (andF F G) (.slice (some ⟨w3.heap.size + 1 + 1, 0, none⟩) 2 2))
    rw [World.size_alloc, hs2] at this
    exact this
  have HP : Hid (MN _ w3.heap.size (w3.heap.size + 1) (w3.heap.size + 1 + 1 + 1) F G (.slice af F.kids.length cf) (.slice ag G.kids.length cg) (.slice (some ⟨w3.heap.size + 1 + 1, 0, none⟩) 2 2)) := Lib.hid ⟨⟨hf4, hg4, KsAt.below hb4 _ _ HKF3.out, KsAt.below hb4 _ _ HKG.out, shaped_below HS.out (HB3.out.trans (hb4.mono HB3.out.size))⟩, ha4, KsAt.below hb34 _ _ hka⟩
  have HB4 := Lib.hid (HB3.out.trans (hb4.mono HB3.out.size))
  clear hb2 hs2 hka hb34 hb4 hf4 hg4 ha4 HKF3 HKG HS HB1 HB2 HB3 HU HV
  rw [cellsF_and] at HP HB4
  simp only [cellsF] at HP HB4
  revert HP HB4
  generalize (((w3.alloc (.cells #[.int .i64 F.op, .string F.name, .string F.text, .slice af F.kids.length cf] 26)).alloc (.cells #[.int .i64 G.op, .string G.name, .string G.text, .slice ag G.kids.length cg] 26)).alloc (.cells #[.int .i64 F.op, .string F.name, .string F.text, .slice af F.kids.length cf, .int .i64 G.op, .string G.name, .string G.text, .slice ag G.kids.length cg] 26)).alloc (.cells #[.int .i64 7, .string ⟨#[]⟩, .string ⟨#[]⟩, .slice (some ⟨w3.heap.size + 1 + 1, 0, none⟩) 2 2] 26) = w4
  generalize w3.heap.size + 1 + 1 + 1 = C
  generalize w3.heap.size + 1 + 1 = KA
  generalize w3.heap.size + 1 = B
  generalize w3.heap.size = A
  intro HP HB4
  obtain ⟨vf, hvf⟩ : ∃ vf, vf = F.val (.slice af F.kids.length cf) := ⟨_, rfl⟩
  obtain ⟨vg, hvg⟩ : ∃ vg, vg = G.val (.slice ag G.kids.length cg) := ⟨_, rfl⟩
  have HVF := Lib.hid hvf
  have HVG := Lib.hid hvg
  clear hvf hvg
  refine (wpIn_wide (n := 9)).1 ?_
  refine wpIn_region_flow (fun _ => trivial) (by kernel_rfl) (fun _ _ w' => Below w4.heap.size w4 w') (fun i _ u1 u2 => i = 9 ∨ Below u1.heap.size u1 u2) (OV F G vf vg w4.heap.size) (fun j => j == 9) (by kernel_rfl) (by kernel_rfl) ?hst ((Below.refl _ w4).drew) ?step ?fin
  case hst =>
    intro i j ys v u1 u2 hij hanc hned hV hR
    match j, hV with
    | 0, hV => exact (upd_other ys v (Ne.symm hij)).trans hV
    | 1, hV => exact (upd_other ys v (Ne.symm hij)).trans hV
    | 2, hV =>
      rcases hR with rfl | hR
      · cases (Eq.symm hned).trans (by kernel_rfl : _ = false)
      · show FAt u2 (upd ys i v 2) _; rw [upd_other ys v (Ne.symm hij)]; exact hV.below hR
    | 3, hV => exact (upd_other ys v (Ne.symm hij)).trans hV
    | 4, hV => exact (upd_other ys v (Ne.symm hij)).trans hV
    | 5, hV =>
      rcases hR with rfl | hR
      · cases (Eq.symm hned).trans (by kernel_rfl : _ = false)
      · show FAt u2 (upd ys i v 5) _; rw [upd_other ys v (Ne.symm hij)]; exact hV.below hR
    | 6, hV =>
      rcases hR with rfl | hR
      · cases (Eq.symm hned).trans (by kernel_rfl : _ = false)
      · show KB _ (upd ys i v 6) _; rw [upd_other ys v (Ne.symm hij)]; exact hV.below hR
    | 7, hV =>
      rcases hR with rfl | hR
      · cases (Eq.symm hned).trans (by kernel_rfl : _ = false)
      · show (∃ b, upd ys i v 7 = _) ∧ FAt u2 (upd ys i v 7) _; rw [upd_other ys v (Ne.symm hij)]; exact ⟨hV.1, hV.2.below hR⟩
    | 8, hV =>
      rcases hR with rfl | hR
      · cases (Eq.symm hned).trans (by kernel_rfl : _ = false)
      · show ZB _ (upd ys i v 8) _; rw [upd_other ys v (Ne.symm hij)]; exact hV.below hR
    | 9, hV =>
      rcases hR with rfl | hR
      · exact absurd rfl hij
      · by_cases e : i = 8
        · subst e; cases hanc.symm.trans (by kernel_rfl : _ = true)
        · show FB _ _ (upd ys i v 8) _; rw [upd_other ys v (Ne.symm e)]; exact hV.below hR
    | _ + 10, hV => trivial
  case step =>
    have hcf : ∀ W, Below w4.heap.size w4 W → CB W A 26 (cellsF F (.slice af F.kids.length cf)) := fun W h => (HP.out.below h).fg.f
    have hcg : ∀ W, Below w4.heap.size w4 W → CB W B 26 (cellsF G (.slice ag G.kids.length cg)) := fun W h => (HP.out.below h).fg.g
    have hnf : ∀ W, Below w4.heap.size w4 W → Calls Try.prog 8 #[vf] W fun e w' => ∃ u, e = .returned u ∧ FAt w' u (notF F) ∧ Below W.heap.size W w' := fun W h => not_any F vf W ⟨_, HVF.out, (HP.out.below h).fg.kf⟩ HFF.out
    have hng : ∀ W, Below w4.heap.size w4 W → Calls Try.prog 8 #[vg] W fun e w' => ∃ u, e = .returned u ∧ FAt w' u (notF G) ∧ Below W.heap.size W w' := fun W h => not_any G vg W ⟨_, HVG.out, (HP.out.below h).fg.kg⟩ HFG.out
    have HCF := Lib.hid hcf
    have HCG := Lib.hid hcg
    have HNF := Lib.hid hnf
    have HNG := Lib.hid hng
    clear hcf hcg hnf hng HP
    refine ⟨?_, ?_, ?_, ?_, ?_, ?_, ?_, ?_, ?_, ?_, trivial⟩
    · intro listed ys X W hsz hsd hi2 hall hX hI hd K hK
      have e9 : X.tmps.getD 9 undef = .func (.func 8) #[] #[] := hX 9 (Nat.le_of_ble_eq_true rfl)
      refine step_run (.inl rfl) ?_
      clear hX hd
      go_simp
      exact hK _ _ hI (.inr (Below.refl _ _)) (upd_same _ _ _)
    · intro listed ys X W hsz hsd hi2 hall hX hI hd K hK
      have e7 : X.tmps.getD 7 undef = .pointer (some ⟨A, 0, none⟩) := hX 7 (Nat.le_of_ble_eq_true rfl)
      have c0 := CB.cell (HCF.out W hI) 0
      have c1 := CB.cell (HCF.out W hI) 1
      have c2 := CB.cell (HCF.out W hI) 2
      have c3 := CB.cell (HCF.out W hI) 3
      simp only [cellsF, List.getElem?_toArray, List.getElem?_cons_succ, List.getElem?_cons_zero] at c0 c1 c2 c3
      refine step_run (.inl rfl) ?_
      clear hX hd
      go_simp
      exact hK _ _ hI (.inr (Below.refl _ _)) ((upd_same _ _ _).trans HVF.out.symm)
    · intro listed ys X W hsz hsd hi2 hall hX hI hd K hK
      have e35 : X.tmps.getD 35 undef = .func (.func 8) #[] #[] := (hX 35 (Nat.le_of_ble_eq_true rfl)).trans (hd ⟨0, .data⟩ (by simp) rfl)
      have e36 : X.tmps.getD 36 undef = vf := (hX 36 (Nat.le_of_ble_eq_true rfl)).trans (hd ⟨1, .data⟩ (by simp) rfl)
      have HI := Lib.hid hI
      refine step_run (.inl rfl) ?_
      clear hX hd hI
      go_simp
      refine (callsIn_wide.2 (HNF.out W HI.out)).mono ?_
      rintro e u2 ⟨u, rfl, hu, hb⟩
      exact hK _ _ (HI.out.trans (hb.mono HI.out.size)) (.inr hb) (by show FAt u2 (upd ys 2 u 2) _; rw [upd_same]; exact hu)
    · intro listed ys X W hsz hsd hi2 hall hX hI hd K hK
      have e9 : X.tmps.getD 9 undef = .func (.func 8) #[] #[] := hX 9 (Nat.le_of_ble_eq_true rfl)
      refine step_run (.inl rfl) ?_
      clear hX hd
      go_simp
      exact hK _ _ hI (.inr (Below.refl _ _)) (upd_same _ _ _)
    · intro listed ys X W hsz hsd hi2 hall hX hI hd K hK
      have e8 : X.tmps.getD 8 undef = .pointer (some ⟨B, 0, none⟩) := hX 8 (Nat.le_of_ble_eq_true rfl)
      have c0 := CB.cell (HCG.out W hI) 0
      have c1 := CB.cell (HCG.out W hI) 1
      have c2 := CB.cell (HCG.out W hI) 2
      have c3 := CB.cell (HCG.out W hI) 3
      simp only [cellsF, List.getElem?_toArray, List.getElem?_cons_succ, List.getElem?_cons_zero] at c0 c1 c2 c3
      refine step_run (.inl rfl) ?_
      clear hX hd
      go_simp
      exact hK _ _ hI (.inr (Below.refl _ _)) ((upd_same _ _ _).trans HVG.out.symm)
    · intro listed ys X W hsz hsd hi2 hall hX hI hd K hK
      have e38 : X.tmps.getD 38 undef = .func (.func 8) #[] #[] := (hX 38 (Nat.le_of_ble_eq_true rfl)).trans (hd ⟨3, .data⟩ (by simp) rfl)
      have e39 : X.tmps.getD 39 undef = vg := (hX 39 (Nat.le_of_ble_eq_true rfl)).trans (hd ⟨4, .data⟩ (by simp) rfl)
      have HI := Lib.hid hI
      refine step_run (.inl rfl) ?_
      clear hX hd hI
      go_simp
      refine (callsIn_wide.2 (HNG.out W HI.out)).mono ?_
      rintro e u2 ⟨u, rfl, hu, hb⟩
      exact hK _ _ (HI.out.trans (hb.mono HI.out.size)) (.inr hb) (by show FAt u2 (upd ys 5 u 5) _; rw [upd_same]; exact hu)
    · intro listed ys X W hsz hsd hi2 hall hX hI hd K hK
      obtain ⟨k1, hy1, hk1⟩ : FAt W (ys 2) (notF F) := hd ⟨2, .data⟩ (by simp) rfl
      obtain ⟨k2, hy2, hk2⟩ : FAt W (ys 5) (notF G) := hd ⟨5, .data⟩ (by simp) rfl
      obtain ⟨a1, n1, rfl⟩ := hk1.shape
      obtain ⟨a2, n2, rfl⟩ := hk2.shape
      rw [val_not] at hy1 hy2
      have e37 : X.tmps.getD 37 undef = .agg #[.int .i64 6, .string ⟨#[]⟩, .string ⟨#[]⟩, .slice a1 (notF F).kids.length n1] := (hX 37 (Nat.le_of_ble_eq_true rfl)).trans hy1
      have e40 : X.tmps.getD 40 undef = .agg #[.int .i64 6, .string ⟨#[]⟩, .string ⟨#[]⟩, .slice a2 (notF G).kids.length n2] := (hX 40 (Nat.le_of_ble_eq_true rfl)).trans hy2
      have HI := Lib.hid hI
      have x37 : X.tmps[37]?.getD undef = .agg #[.int .i64 6, .string ⟨#[]⟩, .string ⟨#[]⟩, .slice a1 (notF F).kids.length n1] := by rw [← Array.getD_eq_getD_getElem?]; exact e37
      have x40 : X.tmps[40]?.getD undef = .agg #[.int .i64 6, .string ⟨#[]⟩, .string ⟨#[]⟩, .slice a2 (notF G).kids.length n2] := by rw [← Array.getD_eq_getD_getElem?]; exact e40
      have hK2 := kids_at W 8 [(notF F, _), (notF G, _)] (by simp) (fun x hx => by
        simp only [List.mem_cons, List.not_mem_nil, or_false] at hx
        rcases hx with rfl | rfl
        · exact hk1
        · exact hk2) _ rfl
      have HK2 := Lib.hid hK2
      have hb : Below W.heap.size W (W.alloc (.cells (([(notF F, Value.slice a1 (notF F).kids.length n1), (notF G, Value.slice a2 (notF G).kids.length n2)].flatMap fun x => (cellsF x.1 x.2).toList).toArray) 26)) := (Below.refl _ W).alloc (Nat.le_refl _) _
      have HB := Lib.hid hb
      refine step_run (.inl rfl) ?_
      clear hX hd hI hK2 hb hy1 hy2 hk1 hk2
      go_simp
      exact hK _ _ (HI.out.trans (HB.out.mono HI.out.size)) (.inr HB.out) (by show KB (orF F G) (upd ys 6 _ 6) _; rw [upd_same]; exact ⟨_, rfl, HK2.out⟩)
    · intro listed ys X W hsz hsd hi2 hall hX hI hd K hK
      obtain ⟨b1, hy, hk⟩ : KB (orF F G) (ys 6) W := hd ⟨6, .data⟩ (by simp) rfl
      have e41 : X.tmps.getD 41 undef = .slice (some ⟨b1, 0, none⟩) 2 2 := (hX 41 (Nat.le_of_ble_eq_true rfl)).trans hy
      have x41 : X.tmps[41]?.getD undef = .slice (some ⟨b1, 0, none⟩) 2 2 := by rw [← Array.getD_eq_getD_getElem?]; exact e41
      rw [hy] at hk
      have HK2 := Lib.hid hk
      refine step_run (.inl rfl) ?_
      clear hX hd hk hy
      go_simp
      refine hK (.agg #[.int .i64 8, .string ⟨#[]⟩, .string ⟨#[]⟩, .slice (some ⟨b1, 0, none⟩) 2 2]) _ hI (.inr (Below.refl _ _)) ?_
      show (∃ b, upd ys 7 _ 7 = _) ∧ FAt W (upd ys 7 _ 7) _
      rw [upd_same]
      exact ⟨⟨b1, rfl⟩, ⟨_, rfl, HK2.out⟩⟩
    · intro listed ys X W hsz hsd hi2 hall hX hI hd K hK
      have HI := Lib.hid hI
      have hb : Below W.heap.size W (W.alloc (.cells zeroF 26)) := (Below.refl _ W).alloc (Nat.le_refl _) _
      have HB := Lib.hid hb
      refine step_run (.inl rfl) ?_
      clear hX hd hI hb
      go_simp
      exact hK _ _ (HI.out.trans (HB.out.mono HI.out.size)) (.inr HB.out) (by show ZB _ (upd ys 8 _ 8) _; rw [upd_same]; exact ⟨_, rfl, HI.out.size, CB.new W 26 zeroF⟩)
    · intro listed ys X W hsz hsd hi2 hall hX hI hd K hK
      obtain ⟨⟨b1, hy⟩, hk⟩ : (∃ b, ys 7 = (orF F G).val (.slice (some ⟨b, 0, none⟩) 2 2)) ∧ FAt W (ys 7) (orF F G) := hd ⟨7, .data⟩ (by simp) rfl
      obtain ⟨b2, hz, hd0, hzb⟩ : ZB w4.heap.size (ys 8) W := hd ⟨8, .data⟩ (by simp) rfl
      have e11 : X.tmps.getD 11 undef = .pointer (some ⟨b2, 0, none⟩) := (hX 11 (Nat.le_of_ble_eq_true rfl)).trans hz
      have e42 : X.tmps.getD 42 undef = .agg #[.int .i64 8, .string ⟨#[]⟩, .string ⟨#[]⟩, .slice (some ⟨b1, 0, none⟩) 2 2] := (hX 42 (Nat.le_of_ble_eq_true rfl)).trans hy
      have c0 := CB.cell hzb 0
      have c1 := CB.cell hzb 1
      have c2 := CB.cell hzb 2
      have c3 := CB.cell hzb 3
      have f0 := CB.frozen hzb 0
      have f1 := CB.frozen hzb 1
      have f2 := CB.frozen hzb 2
      have f3 := CB.frozen hzb 3
      simp only [zeroF, List.getElem?_toArray, List.getElem?_cons_succ, List.getElem?_cons_zero] at c0 c1 c2 c3
      obtain ⟨kv, hkv, hk⟩ := hk
      obtain rfl : kv = .slice (some ⟨b1, 0, none⟩) 2 2 := by rw [hy, val_or, val_or] at hkv; simpa using hkv.symm
      have HI := Lib.hid hI
      have hst := stored_cb hzb (.int .i64 8) (.string ⟨#[]⟩) (.string ⟨#[]⟩) (.slice (some ⟨b1, 0, none⟩) 2 2)
      have hks := KsAt.stored hzb (Nat.le_of_eq (stored_size (.int .i64 8) (.string ⟨#[]⟩) (.string ⟨#[]⟩) (.slice (some ⟨b1, 0, none⟩) 2 2)).symm) (fun k _ hk => stored_other hk _ _ _ _) _ _ (orF_fit HFF.out HFG.out) hk
      have hbw : Below w4.heap.size w4 (stored W b2 (.int .i64 8) (.string ⟨#[]⟩) (.string ⟨#[]⟩) (.slice (some ⟨b1, 0, none⟩) 2 2)) := ⟨hI.os, hI.tape, hI.output, by rw [stored_size]; exact hI.size, fun k hk => (stored_other (by omega) _ _ _ _).trans (hI.block k hk)⟩
      have HST := Lib.hid (show FB w4.heap.size (orF F G) (.pointer (some ⟨b2, 0, none⟩)) _ from ⟨b2, _, rfl, hd0, hst, hks⟩)
      have HBW := Lib.hid hbw
      have HZ := Lib.hid hz
      refine step_run (.inl rfl) ?_
      clear hX hd hI hst hks hbw hzb hk hkv hy hz
      go_simp
      exact hK undef _ HBW.out (.inl rfl) (by show FB _ _ (upd ys 9 _ 8) _; rw [upd_other _ _ (by decide), HZ.out]; exact HST.out)
  case fin =>
    intro listed ys w5 hall hI hV
    obtain ⟨D, ko, hy8, hD, hD1, hD2⟩ : FB w4.heap.size (orF F G) (ys 8) w5 := hV 9 (by decide) rfl
    have HQ := Lib.hid (HP.out.below hI)
    have HB5 := Lib.hid (HB4.out.trans (hI.mono HB4.out.size))
    have HD1 := Lib.hid hD1
    have HD2 := Lib.hid hD2
    obtain ⟨ao, no, rfl⟩ := hD2.shape
    clear hall hI hV hD1 hD2 HB4 HP
    simp only [putsFrom]
    rw [hy8]
    clear hy8
    simp only [Act.put, List.setIfInBounds_toArray, List.set_cons_succ, List.set_cons_zero]
    go_wp2_with fail
    obtain ⟨va, hva⟩ : ∃ va, va = (andF F G).val (.slice (some ⟨KA, 0, none⟩) 2 2) := ⟨_, rfl⟩
    obtain ⟨vo, hvo⟩ : ∃ vo, vo = (orF F G).val (.slice ao (orF F G).kids.length no) := ⟨_, rfl⟩
    have HVA := Lib.hid hva
    have HVO := Lib.hid hvo
    clear hva hvo
    have hcf : ∀ W, Below w5.heap.size w5 W → CB W A 26 (cellsF F (.slice af F.kids.length cf)) := fun W h => (HQ.out.below h).fg.f
    have hcg : ∀ W, Below w5.heap.size w5 W → CB W B 26 (cellsF G (.slice ag G.kids.length cg)) := fun W h => (HQ.out.below h).fg.g
    have hca : ∀ W, Below w5.heap.size w5 W → CB W C 26 (cellsF (andF F G) (.slice (some ⟨KA, 0, none⟩) 2 2)) := fun W h => (HQ.out.below h).a
    have hco : ∀ W, Below w5.heap.size w5 W → CB W D 26 (cellsF (orF F G) (.slice ao (orF F G).kids.length no)) := fun W h => (h.block _ HD1.out.lt).trans HD1.out
    have hnf : ∀ W, Below w5.heap.size w5 W → Calls Try.prog 8 #[vf] W fun e w' => ∃ u, e = .returned u ∧ FAt w' u (notF F) ∧ Below W.heap.size W w' := fun W h => not_any F vf W ⟨_, HVF.out, (HQ.out.below h).fg.kf⟩ HFF.out
    have hna : ∀ W, Below w5.heap.size w5 W → Calls Try.prog 8 #[va] W fun e w' => ∃ u, e = .returned u ∧ FAt w' u (notF (andF F G)) ∧ Below W.heap.size W w' := fun W h => not_any (andF F G) va W ⟨_, HVA.out, (HQ.out.below h).ka⟩ (andF_fit HFF.out HFG.out)
    have hsh : ∀ W, Below w5.heap.size w5 W → W.ShapedOpen Try.prog := fun W h => (HQ.out.below h).fg.sh
    have hlf : ∀ W, Below w5.heap.size w5 W → Calls Try.prog 9 #[vf, .string line] W fun e w' => e = .returned (.bool (keeps line F)) ∧ Below W.heap.size W w' := fun W h => line_any line hline F HFF.out W vf ⟨_, HVF.out, (HQ.out.below h).fg.kf⟩ (hsh W h)
    have hlg : ∀ W, Below w5.heap.size w5 W → Calls Try.prog 9 #[vg, .string line] W fun e w' => e = .returned (.bool (keeps line G)) ∧ Below W.heap.size W w' := fun W h => line_any line hline G HFG.out W vg ⟨_, HVG.out, (HQ.out.below h).fg.kg⟩ (hsh W h)
    have hla : ∀ W, Below w5.heap.size w5 W → Calls Try.prog 9 #[va, .string line] W fun e w' => e = .returned (.bool (keeps line F && keeps line G)) ∧ Below W.heap.size W w' := fun W h => by
      rw [← keeps_both]
      exact line_any line hline (andF F G) (andF_fit HFF.out HFG.out) W va ⟨_, HVA.out, (HQ.out.below h).ka⟩ (hsh W h)
    have hlo : ∀ W, Below w5.heap.size w5 W → Calls Try.prog 9 #[vo, .string line] W fun e w' => e = .returned (.bool (!(keeps line F && keeps line G))) ∧ Below W.heap.size W w' := fun W h => by
      rw [← keeps_either]
      exact line_any line hline (orF F G) (orF_fit HFF.out HFG.out) W vo ⟨_, HVO.out, KsAt.below h _ _ HD2.out⟩ (hsh W h)
    have hln : ∀ W u, Below w5.heap.size w5 W → FAt W u (notF F) → Calls Try.prog 9 #[u, .string line] W fun e w' => e = .returned (.bool (!keeps line F)) ∧ Below W.heap.size W w' := fun W u h hu => by
      rw [← keeps_notF]
      exact line_any line hline (notF F) (notF_fit HFF.out) W u hu (hsh W h)
    have hlna : ∀ W u, Below w5.heap.size w5 W → FAt W u (notF (andF F G)) → Calls Try.prog 9 #[u, .string line] W fun e w' => e = .returned (.bool (!(keeps line F && keeps line G))) ∧ Below W.heap.size W w' := fun W u h hu => by
      rw [← keeps_both, ← keeps_notF]
      exact line_any line hline (notF (andF F G)) (notF_fit (andF_fit HFF.out HFG.out)) W u hu (hsh W h)
    have HCF := Lib.hid hcf
    have HCG := Lib.hid hcg
    have HCA := Lib.hid hca
    have HCO := Lib.hid hco
    have HNF := Lib.hid hnf
    have HNA := Lib.hid hna
    generalize keeps line F = r1 at hlf hla hlo hln hlna
    generalize keeps line G = r2 at hlg hla hlo hlna
    clear hcf hcg hca hco hnf hna hsh HQ HD1 HD2 HFF HFG
    refine (wpIn_wide (n := 9)).1 ?_
    cases r1 with
    | true =>
      rw [Bool.true_and] at hla hlo hlna
      rw [Bool.not_true] at hln
      have HLF := Lib.hid hlf
      have HLG := Lib.hid hlg
      have HLA := Lib.hid hla
      have HLO := Lib.hid hlo
      have HLN := Lib.hid hln
      have HLNA := Lib.hid hlna
      clear hlf hlg hla hlo hln hlna
      refine wpIn_region_flow (fun _ => trivial) (by kernel_rfl) (fun _ _ w' => Below w5.heap.size w5 w') (fun _ _ u1 u2 => Below u1.heap.size u1 u2) (NV (notF F) (notF (andF F G)) [some (.func (.func 8) #[] #[]), some (vf), none, some (.string line), some (.bool false), some (vf), some (.string line), some (.bool true), some (.bool false), some (.bool true), some (.bool true), some (.func (.func 8) #[] #[]), some (va), none, some (.string line), some (.bool (!r2)), some (vo), some (.string line), some (.bool (!r2)), some (.bool true), some (.bool true), some (.bool true), some (va), some (.string line), some (.bool r2), some (vf), some (.string line), some (.bool true), some (.bool true), some (vg), some (.string line), some (.bool r2), some (.bool r2), some (.bool true), some (.bool true), some (.bool true)]) (fun j => j == 35) (by kernel_rfl) (by kernel_rfl) (fun i j ys v u1 u2 hij _ _ hV hR => hV.keep hij hR) ((Below.refl _ w5).drew) ?step ?fin
      case step =>
        refine ⟨?_, ?_, ?_, ?_, ?_, ?_, ?_, ?_, ?_, ?_, ?_, ?_, ?_, ?_, ?_, ?_, ?_, ?_, ?_, ?_, ?_, ?_, ?_, ?_, ?_, ?_, ?_, ?_, ?_, ?_, ?_, ?_, ?_, ?_, ?_, ?_, trivial⟩
        · intro listed ys X W hsz hsd hi2 hall hX hI hd K hK
          have e9 : X.tmps.getD 9 undef = .func (.func 8) #[] #[] := hX 9 (Nat.le_of_ble_eq_true rfl)
          have HI := Lib.hid hI
          refine step_run (.inl rfl) ?_
          clear hX hd hI
          go_simp
          exact hK _ _ HI.out (Below.refl _ _) (NV.of (by decide) (fun u h => by cases h; rfl))
        · intro listed ys X W hsz hsd hi2 hall hX hI hd K hK
          have e7 : X.tmps.getD 7 undef = .pointer (some ⟨A, 0, none⟩) := hX 7 (Nat.le_of_ble_eq_true rfl)
          have c0 := CB.cell (HCF.out W hI) 0
          have c1 := CB.cell (HCF.out W hI) 1
          have c2 := CB.cell (HCF.out W hI) 2
          have c3 := CB.cell (HCF.out W hI) 3
          simp only [cellsF, List.getElem?_toArray, List.getElem?_cons_succ, List.getElem?_cons_zero] at c0 c1 c2 c3
          have HI := Lib.hid hI
          refine step_run (.inl rfl) ?_
          clear hX hd hI
          go_simp
          exact hK _ _ HI.out (Below.refl _ _) (NV.of (by decide) (fun u h => by cases h; exact HVF.out))
        · intro listed ys X W hsz hsd hi2 hall hX hI hd K hK
          have e43 : X.tmps.getD 43 undef = .func (.func 8) #[] #[] := (hX 43 (Nat.le_of_ble_eq_true rfl)).trans (NV.val (hd ⟨0, .data⟩ (by simp) rfl) (by decide) rfl)
          have e44 : X.tmps.getD 44 undef = vf := (hX 44 (Nat.le_of_ble_eq_true rfl)).trans (NV.val (hd ⟨1, .data⟩ (by simp) rfl) (by decide) rfl)
          have HI := Lib.hid hI
          refine step_run (.inl rfl) ?_
          clear hX hd hI
          go_simp
          refine (callsIn_wide.2 (HNF.out W HI.out)).mono ?_
          rintro e u2 ⟨u, rfl, hu, hb⟩
          exact hK _ _ (HI.out.trans (hb.mono HI.out.size)) hb (by show FAt u2 (upd ys 2 u 2) _; rw [upd_same]; exact hu)
        · intro listed ys X W hsz hsd hi2 hall hX hI hd K hK
          have e2 : X.tmps.getD 2 undef = .string line := hX 2 (Nat.le_of_ble_eq_true rfl)
          have HI := Lib.hid hI
          refine step_run (.inl rfl) ?_
          clear hX hd hI
          go_simp
          exact hK _ _ HI.out (Below.refl _ _) (NV.of (by decide) (fun u h => by cases h; rfl))
        · intro listed ys X W hsz hsd hi2 hall hX hI hd K hK
          have e45 : X.tmps.getD 45 undef = ys 2 := hX 45 (Nat.le_of_ble_eq_true rfl)
          have e46 : X.tmps.getD 46 undef = .string line := (hX 46 (Nat.le_of_ble_eq_true rfl)).trans (NV.val (hd ⟨3, .data⟩ (by simp) rfl) (by decide) rfl)
          have HY := Lib.hid (show FAt W (ys 2) (notF F) from hd ⟨2, .data⟩ (by simp) rfl)
          have HI := Lib.hid hI
          refine step_run (.inl rfl) ?_
          clear hX hd hI
          go_simp
          refine (callsIn_wide.2 (HLN.out W _ HI.out HY.out)).mono ?_
          rintro e u2 ⟨rfl, hb⟩
          exact hK _ _ (HI.out.trans (hb.mono HI.out.size)) hb (NV.of (by decide) (fun u h => by cases h; rfl))
        · intro listed ys X W hsz hsd hi2 hall hX hI hd K hK
          have e7 : X.tmps.getD 7 undef = .pointer (some ⟨A, 0, none⟩) := hX 7 (Nat.le_of_ble_eq_true rfl)
          have c0 := CB.cell (HCF.out W hI) 0
          have c1 := CB.cell (HCF.out W hI) 1
          have c2 := CB.cell (HCF.out W hI) 2
          have c3 := CB.cell (HCF.out W hI) 3
          simp only [cellsF, List.getElem?_toArray, List.getElem?_cons_succ, List.getElem?_cons_zero] at c0 c1 c2 c3
          have HI := Lib.hid hI
          refine step_run (.inl rfl) ?_
          clear hX hd hI
          go_simp
          exact hK _ _ HI.out (Below.refl _ _) (NV.of (by decide) (fun u h => by cases h; exact HVF.out))
        · intro listed ys X W hsz hsd hi2 hall hX hI hd K hK
          have e2 : X.tmps.getD 2 undef = .string line := hX 2 (Nat.le_of_ble_eq_true rfl)
          have HI := Lib.hid hI
          refine step_run (.inl rfl) ?_
          clear hX hd hI
          go_simp
          exact hK _ _ HI.out (Below.refl _ _) (NV.of (by decide) (fun u h => by cases h; rfl))
        · intro listed ys X W hsz hsd hi2 hall hX hI hd K hK
          have e48 : X.tmps.getD 48 undef = vf := (hX 48 (Nat.le_of_ble_eq_true rfl)).trans (NV.val (hd ⟨5, .data⟩ (by simp) rfl) (by decide) rfl)
          have e49 : X.tmps.getD 49 undef = .string line := (hX 49 (Nat.le_of_ble_eq_true rfl)).trans (NV.val (hd ⟨6, .data⟩ (by simp) rfl) (by decide) rfl)
          have HI := Lib.hid hI
          refine step_run (.inl rfl) ?_
          clear hX hd hI
          go_simp
          refine (callsIn_wide.2 (HLF.out W HI.out)).mono ?_
          rintro e u2 ⟨rfl, hb⟩
          exact hK _ _ (HI.out.trans (hb.mono HI.out.size)) hb (NV.of (by decide) (fun u h => by cases h; rfl))
        · intro listed ys X W hsz hsd hi2 hall hX hI hd K hK
          have e50 : X.tmps.getD 50 undef = .bool true := (hX 50 (Nat.le_of_ble_eq_true rfl)).trans (NV.val (hd ⟨7, .data⟩ (by simp) rfl) (by decide) rfl)
          have HI := Lib.hid hI
          refine step_run (.inl rfl) ?_
          clear hX hd hI
          go_simp
          exact hK _ _ HI.out (Below.refl _ _) (NV.of (by decide) (fun u h => by cases h; rfl))
        · intro listed ys X W hsz hsd hi2 hall hX hI hd K hK
          have e47 : X.tmps.getD 47 undef = .bool false := (hX 47 (Nat.le_of_ble_eq_true rfl)).trans (NV.val (hd ⟨4, .data⟩ (by simp) rfl) (by decide) rfl)
          have e51 : X.tmps.getD 51 undef = .bool false := (hX 51 (Nat.le_of_ble_eq_true rfl)).trans (NV.val (hd ⟨8, .data⟩ (by simp) rfl) (by decide) rfl)
          have HI := Lib.hid hI
          refine step_run (.inl rfl) ?_
          clear hX hd hI
          go_simp
          exact hK _ _ HI.out (Below.refl _ _) (NV.of (by decide) (fun u h => by cases h; rfl))
        · intro listed ys X W hsz hsd hi2 hall hX hI hd K hK
          have e52 : X.tmps.getD 52 undef = .bool true := (hX 52 (Nat.le_of_ble_eq_true rfl)).trans (NV.val (hd ⟨9, .data⟩ (by simp) rfl) (by decide) rfl)
          have HI := Lib.hid hI
          refine step_run (.inl rfl) ?_
          clear hX hd hI
          go_simp
          exact hK _ _ HI.out (Below.refl _ _) (NV.of (by decide) (fun u h => by cases h; rfl))
        · intro listed ys X W hsz hsd hi2 hall hX hI hd K hK
          have eg : X.tmps.getD 53 undef = .bool true := (hX 53 (Nat.le_of_ble_eq_true rfl)).trans (NV.val (hd ⟨10, .guard⟩ (by simp) rfl) (by decide) rfl)
          have e9 : X.tmps.getD 9 undef = .func (.func 8) #[] #[] := hX 9 (Nat.le_of_ble_eq_true rfl)
          have HI := Lib.hid hI
          refine step_run (.inr ⟨10, 53, true, rfl, rfl, eg⟩) ?_
          clear hX hd hI
          go_simp
          exact hK _ _ HI.out (Below.refl _ _) (NV.of (by decide) (fun u h => by cases h; rfl))
        · intro listed ys X W hsz hsd hi2 hall hX hI hd K hK
          have eg : X.tmps.getD 53 undef = .bool true := (hX 53 (Nat.le_of_ble_eq_true rfl)).trans (NV.val (hd ⟨10, .guard⟩ (by simp) rfl) (by decide) rfl)
          have e10 : X.tmps.getD 10 undef = .pointer (some ⟨C, 0, none⟩) := hX 10 (Nat.le_of_ble_eq_true rfl)
          have c0 := CB.cell (HCA.out W hI) 0
          have c1 := CB.cell (HCA.out W hI) 1
          have c2 := CB.cell (HCA.out W hI) 2
          have c3 := CB.cell (HCA.out W hI) 3
          simp only [cellsF, List.getElem?_toArray, List.getElem?_cons_succ, List.getElem?_cons_zero] at c0 c1 c2 c3
          have HI := Lib.hid hI
          refine step_run (.inr ⟨10, 53, true, rfl, rfl, eg⟩) ?_
          clear hX hd hI
          go_simp
          exact hK _ _ HI.out (Below.refl _ _) (NV.of (by decide) (fun u h => by cases h; exact HVA.out))
        · intro listed ys X W hsz hsd hi2 hall hX hI hd K hK
          have eg : X.tmps.getD 53 undef = .bool true := (hX 53 (Nat.le_of_ble_eq_true rfl)).trans (NV.val (hd ⟨10, .guard⟩ (by simp) rfl) (by decide) rfl)
          have e54 : X.tmps.getD 54 undef = .func (.func 8) #[] #[] := (hX 54 (Nat.le_of_ble_eq_true rfl)).trans (NV.val (hd ⟨11, .data⟩ (by simp) rfl) (by decide) rfl)
          have e55 : X.tmps.getD 55 undef = va := (hX 55 (Nat.le_of_ble_eq_true rfl)).trans (NV.val (hd ⟨12, .data⟩ (by simp) rfl) (by decide) rfl)
          have HI := Lib.hid hI
          refine step_run (.inr ⟨10, 53, true, rfl, rfl, eg⟩) ?_
          clear hX hd hI
          go_simp
          refine (callsIn_wide.2 (HNA.out W HI.out)).mono ?_
          rintro e u2 ⟨u, rfl, hu, hb⟩
          exact hK _ _ (HI.out.trans (hb.mono HI.out.size)) hb (by show FAt u2 (upd ys 13 u 13) _; rw [upd_same]; exact hu)
        · intro listed ys X W hsz hsd hi2 hall hX hI hd K hK
          have eg : X.tmps.getD 53 undef = .bool true := (hX 53 (Nat.le_of_ble_eq_true rfl)).trans (NV.val (hd ⟨10, .guard⟩ (by simp) rfl) (by decide) rfl)
          have e2 : X.tmps.getD 2 undef = .string line := hX 2 (Nat.le_of_ble_eq_true rfl)
          have HI := Lib.hid hI
          refine step_run (.inr ⟨10, 53, true, rfl, rfl, eg⟩) ?_
          clear hX hd hI
          go_simp
          exact hK _ _ HI.out (Below.refl _ _) (NV.of (by decide) (fun u h => by cases h; rfl))
        · intro listed ys X W hsz hsd hi2 hall hX hI hd K hK
          have eg : X.tmps.getD 53 undef = .bool true := (hX 53 (Nat.le_of_ble_eq_true rfl)).trans (NV.val (hd ⟨10, .guard⟩ (by simp) rfl) (by decide) rfl)
          have e56 : X.tmps.getD 56 undef = ys 13 := hX 56 (Nat.le_of_ble_eq_true rfl)
          have e57 : X.tmps.getD 57 undef = .string line := (hX 57 (Nat.le_of_ble_eq_true rfl)).trans (NV.val (hd ⟨14, .data⟩ (by simp) rfl) (by decide) rfl)
          have HY := Lib.hid (show FAt W (ys 13) (notF (andF F G)) from hd ⟨13, .data⟩ (by simp) rfl)
          have HI := Lib.hid hI
          refine step_run (.inr ⟨10, 53, true, rfl, rfl, eg⟩) ?_
          clear hX hd hI
          go_simp
          refine (callsIn_wide.2 (HLNA.out W _ HI.out HY.out)).mono ?_
          rintro e u2 ⟨rfl, hb⟩
          exact hK _ _ (HI.out.trans (hb.mono HI.out.size)) hb (NV.of (by decide) (fun u h => by cases h; rfl))
        · intro listed ys X W hsz hsd hi2 hall hX hI hd K hK
          have eg : X.tmps.getD 53 undef = .bool true := (hX 53 (Nat.le_of_ble_eq_true rfl)).trans (NV.val (hd ⟨10, .guard⟩ (by simp) rfl) (by decide) rfl)
          have e11 : X.tmps.getD 11 undef = .pointer (some ⟨D, 0, none⟩) := hX 11 (Nat.le_of_ble_eq_true rfl)
          have c0 := CB.cell (HCO.out W hI) 0
          have c1 := CB.cell (HCO.out W hI) 1
          have c2 := CB.cell (HCO.out W hI) 2
          have c3 := CB.cell (HCO.out W hI) 3
          simp only [cellsF, List.getElem?_toArray, List.getElem?_cons_succ, List.getElem?_cons_zero] at c0 c1 c2 c3
          have HI := Lib.hid hI
          refine step_run (.inr ⟨10, 53, true, rfl, rfl, eg⟩) ?_
          clear hX hd hI
          go_simp
          exact hK _ _ HI.out (Below.refl _ _) (NV.of (by decide) (fun u h => by cases h; exact HVO.out))
        · intro listed ys X W hsz hsd hi2 hall hX hI hd K hK
          have eg : X.tmps.getD 53 undef = .bool true := (hX 53 (Nat.le_of_ble_eq_true rfl)).trans (NV.val (hd ⟨10, .guard⟩ (by simp) rfl) (by decide) rfl)
          have e2 : X.tmps.getD 2 undef = .string line := hX 2 (Nat.le_of_ble_eq_true rfl)
          have HI := Lib.hid hI
          refine step_run (.inr ⟨10, 53, true, rfl, rfl, eg⟩) ?_
          clear hX hd hI
          go_simp
          exact hK _ _ HI.out (Below.refl _ _) (NV.of (by decide) (fun u h => by cases h; rfl))
        · intro listed ys X W hsz hsd hi2 hall hX hI hd K hK
          have eg : X.tmps.getD 53 undef = .bool true := (hX 53 (Nat.le_of_ble_eq_true rfl)).trans (NV.val (hd ⟨10, .guard⟩ (by simp) rfl) (by decide) rfl)
          have e59 : X.tmps.getD 59 undef = vo := (hX 59 (Nat.le_of_ble_eq_true rfl)).trans (NV.val (hd ⟨16, .data⟩ (by simp) rfl) (by decide) rfl)
          have e60 : X.tmps.getD 60 undef = .string line := (hX 60 (Nat.le_of_ble_eq_true rfl)).trans (NV.val (hd ⟨17, .data⟩ (by simp) rfl) (by decide) rfl)
          have HI := Lib.hid hI
          refine step_run (.inr ⟨10, 53, true, rfl, rfl, eg⟩) ?_
          clear hX hd hI
          go_simp
          refine (callsIn_wide.2 (HLO.out W HI.out)).mono ?_
          rintro e u2 ⟨rfl, hb⟩
          exact hK _ _ (HI.out.trans (hb.mono HI.out.size)) hb (NV.of (by decide) (fun u h => by cases h; rfl))
        · intro listed ys X W hsz hsd hi2 hall hX hI hd K hK
          have eg : X.tmps.getD 53 undef = .bool true := (hX 53 (Nat.le_of_ble_eq_true rfl)).trans (NV.val (hd ⟨10, .guard⟩ (by simp) rfl) (by decide) rfl)
          have e58 : X.tmps.getD 58 undef = .bool (!r2) := (hX 58 (Nat.le_of_ble_eq_true rfl)).trans (NV.val (hd ⟨15, .data⟩ (by simp) rfl) (by decide) rfl)
          have e61 : X.tmps.getD 61 undef = .bool (!r2) := (hX 61 (Nat.le_of_ble_eq_true rfl)).trans (NV.val (hd ⟨18, .data⟩ (by simp) rfl) (by decide) rfl)
          have HI := Lib.hid hI
          refine step_run (.inr ⟨10, 53, true, rfl, rfl, eg⟩) ?_
          clear hX hd hI
          go_simp
          exact hK _ _ HI.out (Below.refl _ _) (NV.of (by decide) (fun u h => by cases h; rfl))
        · intro listed ys X W hsz hsd hi2 hall hX hI hd K hK
          have e53 : X.tmps.getD 53 undef = .bool true := (hX 53 (Nat.le_of_ble_eq_true rfl)).trans (NV.val (hd ⟨10, .data⟩ (by simp) rfl) (by decide) rfl)
          have e62 : X.tmps.getD 62 undef = .bool true := (hX 62 (Nat.le_of_ble_eq_true rfl)).trans (NV.val (hd ⟨19, .data⟩ (by simp) rfl) (by decide) rfl)
          have HI := Lib.hid hI
          refine step_run (.inl rfl) ?_
          clear hX hd hI
          go_simp
          exact hK _ _ HI.out (Below.refl _ _) (NV.of (by decide) (fun u h => by cases h; rfl))
        · intro listed ys X W hsz hsd hi2 hall hX hI hd K hK
          have e63 : X.tmps.getD 63 undef = .bool true := (hX 63 (Nat.le_of_ble_eq_true rfl)).trans (NV.val (hd ⟨20, .data⟩ (by simp) rfl) (by decide) rfl)
          have HI := Lib.hid hI
          refine step_run (.inl rfl) ?_
          clear hX hd hI
          go_simp
          exact hK _ _ HI.out (Below.refl _ _) (NV.of (by decide) (fun u h => by cases h; rfl))
        · intro listed ys X W hsz hsd hi2 hall hX hI hd K hK
          have eg : X.tmps.getD 64 undef = .bool true := (hX 64 (Nat.le_of_ble_eq_true rfl)).trans (NV.val (hd ⟨21, .guard⟩ (by simp) rfl) (by decide) rfl)
          have e10 : X.tmps.getD 10 undef = .pointer (some ⟨C, 0, none⟩) := hX 10 (Nat.le_of_ble_eq_true rfl)
          have c0 := CB.cell (HCA.out W hI) 0
          have c1 := CB.cell (HCA.out W hI) 1
          have c2 := CB.cell (HCA.out W hI) 2
          have c3 := CB.cell (HCA.out W hI) 3
          simp only [cellsF, List.getElem?_toArray, List.getElem?_cons_succ, List.getElem?_cons_zero] at c0 c1 c2 c3
          have HI := Lib.hid hI
          refine step_run (.inr ⟨21, 64, true, rfl, rfl, eg⟩) ?_
          clear hX hd hI
          go_simp
          exact hK _ _ HI.out (Below.refl _ _) (NV.of (by decide) (fun u h => by cases h; exact HVA.out))
        · intro listed ys X W hsz hsd hi2 hall hX hI hd K hK
          have eg : X.tmps.getD 64 undef = .bool true := (hX 64 (Nat.le_of_ble_eq_true rfl)).trans (NV.val (hd ⟨21, .guard⟩ (by simp) rfl) (by decide) rfl)
          have e2 : X.tmps.getD 2 undef = .string line := hX 2 (Nat.le_of_ble_eq_true rfl)
          have HI := Lib.hid hI
          refine step_run (.inr ⟨21, 64, true, rfl, rfl, eg⟩) ?_
          clear hX hd hI
          go_simp
          exact hK _ _ HI.out (Below.refl _ _) (NV.of (by decide) (fun u h => by cases h; rfl))
        · intro listed ys X W hsz hsd hi2 hall hX hI hd K hK
          have eg : X.tmps.getD 64 undef = .bool true := (hX 64 (Nat.le_of_ble_eq_true rfl)).trans (NV.val (hd ⟨21, .guard⟩ (by simp) rfl) (by decide) rfl)
          have e65 : X.tmps.getD 65 undef = va := (hX 65 (Nat.le_of_ble_eq_true rfl)).trans (NV.val (hd ⟨22, .data⟩ (by simp) rfl) (by decide) rfl)
          have e66 : X.tmps.getD 66 undef = .string line := (hX 66 (Nat.le_of_ble_eq_true rfl)).trans (NV.val (hd ⟨23, .data⟩ (by simp) rfl) (by decide) rfl)
          have HI := Lib.hid hI
          refine step_run (.inr ⟨21, 64, true, rfl, rfl, eg⟩) ?_
          clear hX hd hI
          go_simp
          refine (callsIn_wide.2 (HLA.out W HI.out)).mono ?_
          rintro e u2 ⟨rfl, hb⟩
          exact hK _ _ (HI.out.trans (hb.mono HI.out.size)) hb (NV.of (by decide) (fun u h => by cases h; rfl))
        · intro listed ys X W hsz hsd hi2 hall hX hI hd K hK
          have eg : X.tmps.getD 64 undef = .bool true := (hX 64 (Nat.le_of_ble_eq_true rfl)).trans (NV.val (hd ⟨21, .guard⟩ (by simp) rfl) (by decide) rfl)
          have e7 : X.tmps.getD 7 undef = .pointer (some ⟨A, 0, none⟩) := hX 7 (Nat.le_of_ble_eq_true rfl)
          have c0 := CB.cell (HCF.out W hI) 0
          have c1 := CB.cell (HCF.out W hI) 1
          have c2 := CB.cell (HCF.out W hI) 2
          have c3 := CB.cell (HCF.out W hI) 3
          simp only [cellsF, List.getElem?_toArray, List.getElem?_cons_succ, List.getElem?_cons_zero] at c0 c1 c2 c3
          have HI := Lib.hid hI
          refine step_run (.inr ⟨21, 64, true, rfl, rfl, eg⟩) ?_
          clear hX hd hI
          go_simp
          exact hK _ _ HI.out (Below.refl _ _) (NV.of (by decide) (fun u h => by cases h; exact HVF.out))
        · intro listed ys X W hsz hsd hi2 hall hX hI hd K hK
          have eg : X.tmps.getD 64 undef = .bool true := (hX 64 (Nat.le_of_ble_eq_true rfl)).trans (NV.val (hd ⟨21, .guard⟩ (by simp) rfl) (by decide) rfl)
          have e2 : X.tmps.getD 2 undef = .string line := hX 2 (Nat.le_of_ble_eq_true rfl)
          have HI := Lib.hid hI
          refine step_run (.inr ⟨21, 64, true, rfl, rfl, eg⟩) ?_
          clear hX hd hI
          go_simp
          exact hK _ _ HI.out (Below.refl _ _) (NV.of (by decide) (fun u h => by cases h; rfl))
        · intro listed ys X W hsz hsd hi2 hall hX hI hd K hK
          have eg : X.tmps.getD 64 undef = .bool true := (hX 64 (Nat.le_of_ble_eq_true rfl)).trans (NV.val (hd ⟨21, .guard⟩ (by simp) rfl) (by decide) rfl)
          have e68 : X.tmps.getD 68 undef = vf := (hX 68 (Nat.le_of_ble_eq_true rfl)).trans (NV.val (hd ⟨25, .data⟩ (by simp) rfl) (by decide) rfl)
          have e69 : X.tmps.getD 69 undef = .string line := (hX 69 (Nat.le_of_ble_eq_true rfl)).trans (NV.val (hd ⟨26, .data⟩ (by simp) rfl) (by decide) rfl)
          have HI := Lib.hid hI
          refine step_run (.inr ⟨21, 64, true, rfl, rfl, eg⟩) ?_
          clear hX hd hI
          go_simp
          refine (callsIn_wide.2 (HLF.out W HI.out)).mono ?_
          rintro e u2 ⟨rfl, hb⟩
          exact hK _ _ (HI.out.trans (hb.mono HI.out.size)) hb (NV.of (by decide) (fun u h => by cases h; rfl))
        · intro listed ys X W hsz hsd hi2 hall hX hI hd K hK
          have eg : X.tmps.getD 64 undef = .bool true := (hX 64 (Nat.le_of_ble_eq_true rfl)).trans (NV.val (hd ⟨21, .guard⟩ (by simp) rfl) (by decide) rfl)
          have e70 : X.tmps.getD 70 undef = .bool true := (hX 70 (Nat.le_of_ble_eq_true rfl)).trans (NV.val (hd ⟨27, .data⟩ (by simp) rfl) (by decide) rfl)
          have HI := Lib.hid hI
          refine step_run (.inr ⟨21, 64, true, rfl, rfl, eg⟩) ?_
          clear hX hd hI
          go_simp
          exact hK _ _ HI.out (Below.refl _ _) (NV.of (by decide) (fun u h => by cases h; rfl))
        · intro listed ys X W hsz hsd hi2 hall hX hI hd K hK
          have eg : X.tmps.getD 71 undef = .bool true := (hX 71 (Nat.le_of_ble_eq_true rfl)).trans (NV.val (hd ⟨28, .guard⟩ (by simp) rfl) (by decide) rfl)
          have e8 : X.tmps.getD 8 undef = .pointer (some ⟨B, 0, none⟩) := hX 8 (Nat.le_of_ble_eq_true rfl)
          have c0 := CB.cell (HCG.out W hI) 0
          have c1 := CB.cell (HCG.out W hI) 1
          have c2 := CB.cell (HCG.out W hI) 2
          have c3 := CB.cell (HCG.out W hI) 3
          simp only [cellsF, List.getElem?_toArray, List.getElem?_cons_succ, List.getElem?_cons_zero] at c0 c1 c2 c3
          have HI := Lib.hid hI
          refine step_run (.inr ⟨28, 71, true, rfl, rfl, eg⟩) ?_
          clear hX hd hI
          go_simp
          exact hK _ _ HI.out (Below.refl _ _) (NV.of (by decide) (fun u h => by cases h; exact HVG.out))
        · intro listed ys X W hsz hsd hi2 hall hX hI hd K hK
          have eg : X.tmps.getD 71 undef = .bool true := (hX 71 (Nat.le_of_ble_eq_true rfl)).trans (NV.val (hd ⟨28, .guard⟩ (by simp) rfl) (by decide) rfl)
          have e2 : X.tmps.getD 2 undef = .string line := hX 2 (Nat.le_of_ble_eq_true rfl)
          have HI := Lib.hid hI
          refine step_run (.inr ⟨28, 71, true, rfl, rfl, eg⟩) ?_
          clear hX hd hI
          go_simp
          exact hK _ _ HI.out (Below.refl _ _) (NV.of (by decide) (fun u h => by cases h; rfl))
        · intro listed ys X W hsz hsd hi2 hall hX hI hd K hK
          have eg : X.tmps.getD 71 undef = .bool true := (hX 71 (Nat.le_of_ble_eq_true rfl)).trans (NV.val (hd ⟨28, .guard⟩ (by simp) rfl) (by decide) rfl)
          have e72 : X.tmps.getD 72 undef = vg := (hX 72 (Nat.le_of_ble_eq_true rfl)).trans (NV.val (hd ⟨29, .data⟩ (by simp) rfl) (by decide) rfl)
          have e73 : X.tmps.getD 73 undef = .string line := (hX 73 (Nat.le_of_ble_eq_true rfl)).trans (NV.val (hd ⟨30, .data⟩ (by simp) rfl) (by decide) rfl)
          have HI := Lib.hid hI
          refine step_run (.inr ⟨28, 71, true, rfl, rfl, eg⟩) ?_
          clear hX hd hI
          go_simp
          refine (callsIn_wide.2 (HLG.out W HI.out)).mono ?_
          rintro e u2 ⟨rfl, hb⟩
          exact hK _ _ (HI.out.trans (hb.mono HI.out.size)) hb (NV.of (by decide) (fun u h => by cases h; rfl))
        · intro listed ys X W hsz hsd hi2 hall hX hI hd K hK
          have eg : X.tmps.getD 64 undef = .bool true := (hX 64 (Nat.le_of_ble_eq_true rfl)).trans (NV.val (hd ⟨21, .guard⟩ (by simp) rfl) (by decide) rfl)
          have e71 : X.tmps.getD 71 undef = .bool true := (hX 71 (Nat.le_of_ble_eq_true rfl)).trans (NV.val (hd ⟨28, .data⟩ (by simp) rfl) (by decide) rfl)
          have e74 : X.tmps.getD 74 undef = .bool r2 := (hX 74 (Nat.le_of_ble_eq_true rfl)).trans (NV.val (hd ⟨31, .data⟩ (by simp) rfl) (by decide) rfl)
          have HI := Lib.hid hI
          refine step_run (.inr ⟨21, 64, true, rfl, rfl, eg⟩) ?_
          clear hX hd hI
          go_simp
          exact hK _ _ HI.out (Below.refl _ _) (NV.of (by decide) (fun u h => by cases h; rfl))
        · intro listed ys X W hsz hsd hi2 hall hX hI hd K hK
          have eg : X.tmps.getD 64 undef = .bool true := (hX 64 (Nat.le_of_ble_eq_true rfl)).trans (NV.val (hd ⟨21, .guard⟩ (by simp) rfl) (by decide) rfl)
          have e67 : X.tmps.getD 67 undef = .bool r2 := (hX 67 (Nat.le_of_ble_eq_true rfl)).trans (NV.val (hd ⟨24, .data⟩ (by simp) rfl) (by decide) rfl)
          have e75 : X.tmps.getD 75 undef = .bool r2 := (hX 75 (Nat.le_of_ble_eq_true rfl)).trans (NV.val (hd ⟨32, .data⟩ (by simp) rfl) (by decide) rfl)
          have HI := Lib.hid hI
          refine step_run (.inr ⟨21, 64, true, rfl, rfl, eg⟩) ?_
          clear hX hd hI
          go_simp
          exact hK _ _ HI.out (Below.refl _ _) (NV.of (by decide) (fun u h => by cases h; rfl))
        · intro listed ys X W hsz hsd hi2 hall hX hI hd K hK
          have e64 : X.tmps.getD 64 undef = .bool true := (hX 64 (Nat.le_of_ble_eq_true rfl)).trans (NV.val (hd ⟨21, .data⟩ (by simp) rfl) (by decide) rfl)
          have e76 : X.tmps.getD 76 undef = .bool true := (hX 76 (Nat.le_of_ble_eq_true rfl)).trans (NV.val (hd ⟨33, .data⟩ (by simp) rfl) (by decide) rfl)
          have HI := Lib.hid hI
          refine step_run (.inl rfl) ?_
          clear hX hd hI
          go_simp
          exact hK _ _ HI.out (Below.refl _ _) (NV.of (by decide) (fun u h => by cases h; rfl))
        · intro listed ys X W hsz hsd hi2 hall hX hI hd K hK
          have e77 : X.tmps.getD 77 undef = .bool true := (hX 77 (Nat.le_of_ble_eq_true rfl)).trans (NV.val (hd ⟨34, .data⟩ (by simp) rfl) (by decide) rfl)
          have HI := Lib.hid hI
          refine step_run (.inl rfl) ?_
          clear hX hd hI
          go_simp
          exact hK _ _ HI.out (Below.refl _ _) (NV.of (by decide) (fun u h => by cases h; rfl))
      case fin =>
        intro listed ys w6 hall hI hV
        have hy := NV.val (hV 35 (by decide) rfl) (by decide) rfl
        have HB6 := Lib.hid (HB5.out.trans (hI.mono HB5.out.size))
        clear hall hI hV
        refine fin_of 6 (v := .bool true) ?_ (by simp) hy
        intro P6 h6 hdf
        have x6 : P6.tmps[6]?.getD undef = .bool true := by rw [← Array.getD_eq_getD_getElem?]; exact h6
        go_wp2_with fail
        refine bodyPost_ret (v := .bool true) (by simp [results, Try.results3, go_sem, x6]) hdf ⟨rfl, HB6.out⟩
    | false =>
      rw [Bool.false_and] at hla hlo hlna
      rw [Bool.not_false] at hln hlo hlna
      have HLF := Lib.hid hlf
      have HLG := Lib.hid hlg
      have HLA := Lib.hid hla
      have HLO := Lib.hid hlo
      have HLN := Lib.hid hln
      have HLNA := Lib.hid hlna
      clear hlf hlg hla hlo hln hlna
      refine wpIn_region_flow (fun _ => trivial) (by kernel_rfl) (fun _ _ w' => Below w5.heap.size w5 w') (fun _ _ u1 u2 => Below u1.heap.size u1 u2) (NV (notF F) (notF (andF F G)) [some (.func (.func 8) #[] #[]), some (vf), none, some (.string line), some (.bool true), some (vf), some (.string line), some (.bool false), some (.bool true), some (.bool true), some (.bool true), some (.func (.func 8) #[] #[]), some (va), none, some (.string line), some (.bool true), some (vo), some (.string line), some (.bool true), some (.bool true), some (.bool true), some (.bool true), some (va), some (.string line), some (.bool false), some (vf), some (.string line), some (.bool false), some (.bool false), some (undef), some (undef), some (undef), some (.bool false), some (.bool true), some (.bool true), some (.bool true)]) (fun j => j == 35) (by kernel_rfl) (by kernel_rfl) (fun i j ys v u1 u2 hij _ _ hV hR => hV.keep hij hR) ((Below.refl _ w5).drew) ?step ?fin
      case step =>
        refine ⟨?_, ?_, ?_, ?_, ?_, ?_, ?_, ?_, ?_, ?_, ?_, ?_, ?_, ?_, ?_, ?_, ?_, ?_, ?_, ?_, ?_, ?_, ?_, ?_, ?_, ?_, ?_, ?_, ?_, ?_, ?_, ?_, ?_, ?_, ?_, ?_, trivial⟩
        · intro listed ys X W hsz hsd hi2 hall hX hI hd K hK
          have e9 : X.tmps.getD 9 undef = .func (.func 8) #[] #[] := hX 9 (Nat.le_of_ble_eq_true rfl)
          have HI := Lib.hid hI
          refine step_run (.inl rfl) ?_
          clear hX hd hI
          go_simp
          exact hK _ _ HI.out (Below.refl _ _) (NV.of (by decide) (fun u h => by cases h; rfl))
        · intro listed ys X W hsz hsd hi2 hall hX hI hd K hK
          have e7 : X.tmps.getD 7 undef = .pointer (some ⟨A, 0, none⟩) := hX 7 (Nat.le_of_ble_eq_true rfl)
          have c0 := CB.cell (HCF.out W hI) 0
          have c1 := CB.cell (HCF.out W hI) 1
          have c2 := CB.cell (HCF.out W hI) 2
          have c3 := CB.cell (HCF.out W hI) 3
          simp only [cellsF, List.getElem?_toArray, List.getElem?_cons_succ, List.getElem?_cons_zero] at c0 c1 c2 c3
          have HI := Lib.hid hI
          refine step_run (.inl rfl) ?_
          clear hX hd hI
          go_simp
          exact hK _ _ HI.out (Below.refl _ _) (NV.of (by decide) (fun u h => by cases h; exact HVF.out))
        · intro listed ys X W hsz hsd hi2 hall hX hI hd K hK
          have e43 : X.tmps.getD 43 undef = .func (.func 8) #[] #[] := (hX 43 (Nat.le_of_ble_eq_true rfl)).trans (NV.val (hd ⟨0, .data⟩ (by simp) rfl) (by decide) rfl)
          have e44 : X.tmps.getD 44 undef = vf := (hX 44 (Nat.le_of_ble_eq_true rfl)).trans (NV.val (hd ⟨1, .data⟩ (by simp) rfl) (by decide) rfl)
          have HI := Lib.hid hI
          refine step_run (.inl rfl) ?_
          clear hX hd hI
          go_simp
          refine (callsIn_wide.2 (HNF.out W HI.out)).mono ?_
          rintro e u2 ⟨u, rfl, hu, hb⟩
          exact hK _ _ (HI.out.trans (hb.mono HI.out.size)) hb (by show FAt u2 (upd ys 2 u 2) _; rw [upd_same]; exact hu)
        · intro listed ys X W hsz hsd hi2 hall hX hI hd K hK
          have e2 : X.tmps.getD 2 undef = .string line := hX 2 (Nat.le_of_ble_eq_true rfl)
          have HI := Lib.hid hI
          refine step_run (.inl rfl) ?_
          clear hX hd hI
          go_simp
          exact hK _ _ HI.out (Below.refl _ _) (NV.of (by decide) (fun u h => by cases h; rfl))
        · intro listed ys X W hsz hsd hi2 hall hX hI hd K hK
          have e45 : X.tmps.getD 45 undef = ys 2 := hX 45 (Nat.le_of_ble_eq_true rfl)
          have e46 : X.tmps.getD 46 undef = .string line := (hX 46 (Nat.le_of_ble_eq_true rfl)).trans (NV.val (hd ⟨3, .data⟩ (by simp) rfl) (by decide) rfl)
          have HY := Lib.hid (show FAt W (ys 2) (notF F) from hd ⟨2, .data⟩ (by simp) rfl)
          have HI := Lib.hid hI
          refine step_run (.inl rfl) ?_
          clear hX hd hI
          go_simp
          refine (callsIn_wide.2 (HLN.out W _ HI.out HY.out)).mono ?_
          rintro e u2 ⟨rfl, hb⟩
          exact hK _ _ (HI.out.trans (hb.mono HI.out.size)) hb (NV.of (by decide) (fun u h => by cases h; rfl))
        · intro listed ys X W hsz hsd hi2 hall hX hI hd K hK
          have e7 : X.tmps.getD 7 undef = .pointer (some ⟨A, 0, none⟩) := hX 7 (Nat.le_of_ble_eq_true rfl)
          have c0 := CB.cell (HCF.out W hI) 0
          have c1 := CB.cell (HCF.out W hI) 1
          have c2 := CB.cell (HCF.out W hI) 2
          have c3 := CB.cell (HCF.out W hI) 3
          simp only [cellsF, List.getElem?_toArray, List.getElem?_cons_succ, List.getElem?_cons_zero] at c0 c1 c2 c3
          have HI := Lib.hid hI
          refine step_run (.inl rfl) ?_
          clear hX hd hI
          go_simp
          exact hK _ _ HI.out (Below.refl _ _) (NV.of (by decide) (fun u h => by cases h; exact HVF.out))
        · intro listed ys X W hsz hsd hi2 hall hX hI hd K hK
          have e2 : X.tmps.getD 2 undef = .string line := hX 2 (Nat.le_of_ble_eq_true rfl)
          have HI := Lib.hid hI
          refine step_run (.inl rfl) ?_
          clear hX hd hI
          go_simp
          exact hK _ _ HI.out (Below.refl _ _) (NV.of (by decide) (fun u h => by cases h; rfl))
        · intro listed ys X W hsz hsd hi2 hall hX hI hd K hK
          have e48 : X.tmps.getD 48 undef = vf := (hX 48 (Nat.le_of_ble_eq_true rfl)).trans (NV.val (hd ⟨5, .data⟩ (by simp) rfl) (by decide) rfl)
          have e49 : X.tmps.getD 49 undef = .string line := (hX 49 (Nat.le_of_ble_eq_true rfl)).trans (NV.val (hd ⟨6, .data⟩ (by simp) rfl) (by decide) rfl)
          have HI := Lib.hid hI
          refine step_run (.inl rfl) ?_
          clear hX hd hI
          go_simp
          refine (callsIn_wide.2 (HLF.out W HI.out)).mono ?_
          rintro e u2 ⟨rfl, hb⟩
          exact hK _ _ (HI.out.trans (hb.mono HI.out.size)) hb (NV.of (by decide) (fun u h => by cases h; rfl))
        · intro listed ys X W hsz hsd hi2 hall hX hI hd K hK
          have e50 : X.tmps.getD 50 undef = .bool false := (hX 50 (Nat.le_of_ble_eq_true rfl)).trans (NV.val (hd ⟨7, .data⟩ (by simp) rfl) (by decide) rfl)
          have HI := Lib.hid hI
          refine step_run (.inl rfl) ?_
          clear hX hd hI
          go_simp
          exact hK _ _ HI.out (Below.refl _ _) (NV.of (by decide) (fun u h => by cases h; rfl))
        · intro listed ys X W hsz hsd hi2 hall hX hI hd K hK
          have e47 : X.tmps.getD 47 undef = .bool true := (hX 47 (Nat.le_of_ble_eq_true rfl)).trans (NV.val (hd ⟨4, .data⟩ (by simp) rfl) (by decide) rfl)
          have e51 : X.tmps.getD 51 undef = .bool true := (hX 51 (Nat.le_of_ble_eq_true rfl)).trans (NV.val (hd ⟨8, .data⟩ (by simp) rfl) (by decide) rfl)
          have HI := Lib.hid hI
          refine step_run (.inl rfl) ?_
          clear hX hd hI
          go_simp
          exact hK _ _ HI.out (Below.refl _ _) (NV.of (by decide) (fun u h => by cases h; rfl))
        · intro listed ys X W hsz hsd hi2 hall hX hI hd K hK
          have e52 : X.tmps.getD 52 undef = .bool true := (hX 52 (Nat.le_of_ble_eq_true rfl)).trans (NV.val (hd ⟨9, .data⟩ (by simp) rfl) (by decide) rfl)
          have HI := Lib.hid hI
          refine step_run (.inl rfl) ?_
          clear hX hd hI
          go_simp
          exact hK _ _ HI.out (Below.refl _ _) (NV.of (by decide) (fun u h => by cases h; rfl))
        · intro listed ys X W hsz hsd hi2 hall hX hI hd K hK
          have eg : X.tmps.getD 53 undef = .bool true := (hX 53 (Nat.le_of_ble_eq_true rfl)).trans (NV.val (hd ⟨10, .guard⟩ (by simp) rfl) (by decide) rfl)
          have e9 : X.tmps.getD 9 undef = .func (.func 8) #[] #[] := hX 9 (Nat.le_of_ble_eq_true rfl)
          have HI := Lib.hid hI
          refine step_run (.inr ⟨10, 53, true, rfl, rfl, eg⟩) ?_
          clear hX hd hI
          go_simp
          exact hK _ _ HI.out (Below.refl _ _) (NV.of (by decide) (fun u h => by cases h; rfl))
        · intro listed ys X W hsz hsd hi2 hall hX hI hd K hK
          have eg : X.tmps.getD 53 undef = .bool true := (hX 53 (Nat.le_of_ble_eq_true rfl)).trans (NV.val (hd ⟨10, .guard⟩ (by simp) rfl) (by decide) rfl)
          have e10 : X.tmps.getD 10 undef = .pointer (some ⟨C, 0, none⟩) := hX 10 (Nat.le_of_ble_eq_true rfl)
          have c0 := CB.cell (HCA.out W hI) 0
          have c1 := CB.cell (HCA.out W hI) 1
          have c2 := CB.cell (HCA.out W hI) 2
          have c3 := CB.cell (HCA.out W hI) 3
          simp only [cellsF, List.getElem?_toArray, List.getElem?_cons_succ, List.getElem?_cons_zero] at c0 c1 c2 c3
          have HI := Lib.hid hI
          refine step_run (.inr ⟨10, 53, true, rfl, rfl, eg⟩) ?_
          clear hX hd hI
          go_simp
          exact hK _ _ HI.out (Below.refl _ _) (NV.of (by decide) (fun u h => by cases h; exact HVA.out))
        · intro listed ys X W hsz hsd hi2 hall hX hI hd K hK
          have eg : X.tmps.getD 53 undef = .bool true := (hX 53 (Nat.le_of_ble_eq_true rfl)).trans (NV.val (hd ⟨10, .guard⟩ (by simp) rfl) (by decide) rfl)
          have e54 : X.tmps.getD 54 undef = .func (.func 8) #[] #[] := (hX 54 (Nat.le_of_ble_eq_true rfl)).trans (NV.val (hd ⟨11, .data⟩ (by simp) rfl) (by decide) rfl)
          have e55 : X.tmps.getD 55 undef = va := (hX 55 (Nat.le_of_ble_eq_true rfl)).trans (NV.val (hd ⟨12, .data⟩ (by simp) rfl) (by decide) rfl)
          have HI := Lib.hid hI
          refine step_run (.inr ⟨10, 53, true, rfl, rfl, eg⟩) ?_
          clear hX hd hI
          go_simp
          refine (callsIn_wide.2 (HNA.out W HI.out)).mono ?_
          rintro e u2 ⟨u, rfl, hu, hb⟩
          exact hK _ _ (HI.out.trans (hb.mono HI.out.size)) hb (by show FAt u2 (upd ys 13 u 13) _; rw [upd_same]; exact hu)
        · intro listed ys X W hsz hsd hi2 hall hX hI hd K hK
          have eg : X.tmps.getD 53 undef = .bool true := (hX 53 (Nat.le_of_ble_eq_true rfl)).trans (NV.val (hd ⟨10, .guard⟩ (by simp) rfl) (by decide) rfl)
          have e2 : X.tmps.getD 2 undef = .string line := hX 2 (Nat.le_of_ble_eq_true rfl)
          have HI := Lib.hid hI
          refine step_run (.inr ⟨10, 53, true, rfl, rfl, eg⟩) ?_
          clear hX hd hI
          go_simp
          exact hK _ _ HI.out (Below.refl _ _) (NV.of (by decide) (fun u h => by cases h; rfl))
        · intro listed ys X W hsz hsd hi2 hall hX hI hd K hK
          have eg : X.tmps.getD 53 undef = .bool true := (hX 53 (Nat.le_of_ble_eq_true rfl)).trans (NV.val (hd ⟨10, .guard⟩ (by simp) rfl) (by decide) rfl)
          have e56 : X.tmps.getD 56 undef = ys 13 := hX 56 (Nat.le_of_ble_eq_true rfl)
          have e57 : X.tmps.getD 57 undef = .string line := (hX 57 (Nat.le_of_ble_eq_true rfl)).trans (NV.val (hd ⟨14, .data⟩ (by simp) rfl) (by decide) rfl)
          have HY := Lib.hid (show FAt W (ys 13) (notF (andF F G)) from hd ⟨13, .data⟩ (by simp) rfl)
          have HI := Lib.hid hI
          refine step_run (.inr ⟨10, 53, true, rfl, rfl, eg⟩) ?_
          clear hX hd hI
          go_simp
          refine (callsIn_wide.2 (HLNA.out W _ HI.out HY.out)).mono ?_
          rintro e u2 ⟨rfl, hb⟩
          exact hK _ _ (HI.out.trans (hb.mono HI.out.size)) hb (NV.of (by decide) (fun u h => by cases h; rfl))
        · intro listed ys X W hsz hsd hi2 hall hX hI hd K hK
          have eg : X.tmps.getD 53 undef = .bool true := (hX 53 (Nat.le_of_ble_eq_true rfl)).trans (NV.val (hd ⟨10, .guard⟩ (by simp) rfl) (by decide) rfl)
          have e11 : X.tmps.getD 11 undef = .pointer (some ⟨D, 0, none⟩) := hX 11 (Nat.le_of_ble_eq_true rfl)
          have c0 := CB.cell (HCO.out W hI) 0
          have c1 := CB.cell (HCO.out W hI) 1
          have c2 := CB.cell (HCO.out W hI) 2
          have c3 := CB.cell (HCO.out W hI) 3
          simp only [cellsF, List.getElem?_toArray, List.getElem?_cons_succ, List.getElem?_cons_zero] at c0 c1 c2 c3
          have HI := Lib.hid hI
          refine step_run (.inr ⟨10, 53, true, rfl, rfl, eg⟩) ?_
          clear hX hd hI
          go_simp
          exact hK _ _ HI.out (Below.refl _ _) (NV.of (by decide) (fun u h => by cases h; exact HVO.out))
        · intro listed ys X W hsz hsd hi2 hall hX hI hd K hK
          have eg : X.tmps.getD 53 undef = .bool true := (hX 53 (Nat.le_of_ble_eq_true rfl)).trans (NV.val (hd ⟨10, .guard⟩ (by simp) rfl) (by decide) rfl)
          have e2 : X.tmps.getD 2 undef = .string line := hX 2 (Nat.le_of_ble_eq_true rfl)
          have HI := Lib.hid hI
          refine step_run (.inr ⟨10, 53, true, rfl, rfl, eg⟩) ?_
          clear hX hd hI
          go_simp
          exact hK _ _ HI.out (Below.refl _ _) (NV.of (by decide) (fun u h => by cases h; rfl))
        · intro listed ys X W hsz hsd hi2 hall hX hI hd K hK
          have eg : X.tmps.getD 53 undef = .bool true := (hX 53 (Nat.le_of_ble_eq_true rfl)).trans (NV.val (hd ⟨10, .guard⟩ (by simp) rfl) (by decide) rfl)
          have e59 : X.tmps.getD 59 undef = vo := (hX 59 (Nat.le_of_ble_eq_true rfl)).trans (NV.val (hd ⟨16, .data⟩ (by simp) rfl) (by decide) rfl)
          have e60 : X.tmps.getD 60 undef = .string line := (hX 60 (Nat.le_of_ble_eq_true rfl)).trans (NV.val (hd ⟨17, .data⟩ (by simp) rfl) (by decide) rfl)
          have HI := Lib.hid hI
          refine step_run (.inr ⟨10, 53, true, rfl, rfl, eg⟩) ?_
          clear hX hd hI
          go_simp
          refine (callsIn_wide.2 (HLO.out W HI.out)).mono ?_
          rintro e u2 ⟨rfl, hb⟩
          exact hK _ _ (HI.out.trans (hb.mono HI.out.size)) hb (NV.of (by decide) (fun u h => by cases h; rfl))
        · intro listed ys X W hsz hsd hi2 hall hX hI hd K hK
          have eg : X.tmps.getD 53 undef = .bool true := (hX 53 (Nat.le_of_ble_eq_true rfl)).trans (NV.val (hd ⟨10, .guard⟩ (by simp) rfl) (by decide) rfl)
          have e58 : X.tmps.getD 58 undef = .bool true := (hX 58 (Nat.le_of_ble_eq_true rfl)).trans (NV.val (hd ⟨15, .data⟩ (by simp) rfl) (by decide) rfl)
          have e61 : X.tmps.getD 61 undef = .bool true := (hX 61 (Nat.le_of_ble_eq_true rfl)).trans (NV.val (hd ⟨18, .data⟩ (by simp) rfl) (by decide) rfl)
          have HI := Lib.hid hI
          refine step_run (.inr ⟨10, 53, true, rfl, rfl, eg⟩) ?_
          clear hX hd hI
          go_simp
          exact hK _ _ HI.out (Below.refl _ _) (NV.of (by decide) (fun u h => by cases h; rfl))
        · intro listed ys X W hsz hsd hi2 hall hX hI hd K hK
          have e53 : X.tmps.getD 53 undef = .bool true := (hX 53 (Nat.le_of_ble_eq_true rfl)).trans (NV.val (hd ⟨10, .data⟩ (by simp) rfl) (by decide) rfl)
          have e62 : X.tmps.getD 62 undef = .bool true := (hX 62 (Nat.le_of_ble_eq_true rfl)).trans (NV.val (hd ⟨19, .data⟩ (by simp) rfl) (by decide) rfl)
          have HI := Lib.hid hI
          refine step_run (.inl rfl) ?_
          clear hX hd hI
          go_simp
          exact hK _ _ HI.out (Below.refl _ _) (NV.of (by decide) (fun u h => by cases h; rfl))
        · intro listed ys X W hsz hsd hi2 hall hX hI hd K hK
          have e63 : X.tmps.getD 63 undef = .bool true := (hX 63 (Nat.le_of_ble_eq_true rfl)).trans (NV.val (hd ⟨20, .data⟩ (by simp) rfl) (by decide) rfl)
          have HI := Lib.hid hI
          refine step_run (.inl rfl) ?_
          clear hX hd hI
          go_simp
          exact hK _ _ HI.out (Below.refl _ _) (NV.of (by decide) (fun u h => by cases h; rfl))
        · intro listed ys X W hsz hsd hi2 hall hX hI hd K hK
          have eg : X.tmps.getD 64 undef = .bool true := (hX 64 (Nat.le_of_ble_eq_true rfl)).trans (NV.val (hd ⟨21, .guard⟩ (by simp) rfl) (by decide) rfl)
          have e10 : X.tmps.getD 10 undef = .pointer (some ⟨C, 0, none⟩) := hX 10 (Nat.le_of_ble_eq_true rfl)
          have c0 := CB.cell (HCA.out W hI) 0
          have c1 := CB.cell (HCA.out W hI) 1
          have c2 := CB.cell (HCA.out W hI) 2
          have c3 := CB.cell (HCA.out W hI) 3
          simp only [cellsF, List.getElem?_toArray, List.getElem?_cons_succ, List.getElem?_cons_zero] at c0 c1 c2 c3
          have HI := Lib.hid hI
          refine step_run (.inr ⟨21, 64, true, rfl, rfl, eg⟩) ?_
          clear hX hd hI
          go_simp
          exact hK _ _ HI.out (Below.refl _ _) (NV.of (by decide) (fun u h => by cases h; exact HVA.out))
        · intro listed ys X W hsz hsd hi2 hall hX hI hd K hK
          have eg : X.tmps.getD 64 undef = .bool true := (hX 64 (Nat.le_of_ble_eq_true rfl)).trans (NV.val (hd ⟨21, .guard⟩ (by simp) rfl) (by decide) rfl)
          have e2 : X.tmps.getD 2 undef = .string line := hX 2 (Nat.le_of_ble_eq_true rfl)
          have HI := Lib.hid hI
          refine step_run (.inr ⟨21, 64, true, rfl, rfl, eg⟩) ?_
          clear hX hd hI
          go_simp
          exact hK _ _ HI.out (Below.refl _ _) (NV.of (by decide) (fun u h => by cases h; rfl))
        · intro listed ys X W hsz hsd hi2 hall hX hI hd K hK
          have eg : X.tmps.getD 64 undef = .bool true := (hX 64 (Nat.le_of_ble_eq_true rfl)).trans (NV.val (hd ⟨21, .guard⟩ (by simp) rfl) (by decide) rfl)
          have e65 : X.tmps.getD 65 undef = va := (hX 65 (Nat.le_of_ble_eq_true rfl)).trans (NV.val (hd ⟨22, .data⟩ (by simp) rfl) (by decide) rfl)
          have e66 : X.tmps.getD 66 undef = .string line := (hX 66 (Nat.le_of_ble_eq_true rfl)).trans (NV.val (hd ⟨23, .data⟩ (by simp) rfl) (by decide) rfl)
          have HI := Lib.hid hI
          refine step_run (.inr ⟨21, 64, true, rfl, rfl, eg⟩) ?_
          clear hX hd hI
          go_simp
          refine (callsIn_wide.2 (HLA.out W HI.out)).mono ?_
          rintro e u2 ⟨rfl, hb⟩
          exact hK _ _ (HI.out.trans (hb.mono HI.out.size)) hb (NV.of (by decide) (fun u h => by cases h; rfl))
        · intro listed ys X W hsz hsd hi2 hall hX hI hd K hK
          have eg : X.tmps.getD 64 undef = .bool true := (hX 64 (Nat.le_of_ble_eq_true rfl)).trans (NV.val (hd ⟨21, .guard⟩ (by simp) rfl) (by decide) rfl)
          have e7 : X.tmps.getD 7 undef = .pointer (some ⟨A, 0, none⟩) := hX 7 (Nat.le_of_ble_eq_true rfl)
          have c0 := CB.cell (HCF.out W hI) 0
          have c1 := CB.cell (HCF.out W hI) 1
          have c2 := CB.cell (HCF.out W hI) 2
          have c3 := CB.cell (HCF.out W hI) 3
          simp only [cellsF, List.getElem?_toArray, List.getElem?_cons_succ, List.getElem?_cons_zero] at c0 c1 c2 c3
          have HI := Lib.hid hI
          refine step_run (.inr ⟨21, 64, true, rfl, rfl, eg⟩) ?_
          clear hX hd hI
          go_simp
          exact hK _ _ HI.out (Below.refl _ _) (NV.of (by decide) (fun u h => by cases h; exact HVF.out))
        · intro listed ys X W hsz hsd hi2 hall hX hI hd K hK
          have eg : X.tmps.getD 64 undef = .bool true := (hX 64 (Nat.le_of_ble_eq_true rfl)).trans (NV.val (hd ⟨21, .guard⟩ (by simp) rfl) (by decide) rfl)
          have e2 : X.tmps.getD 2 undef = .string line := hX 2 (Nat.le_of_ble_eq_true rfl)
          have HI := Lib.hid hI
          refine step_run (.inr ⟨21, 64, true, rfl, rfl, eg⟩) ?_
          clear hX hd hI
          go_simp
          exact hK _ _ HI.out (Below.refl _ _) (NV.of (by decide) (fun u h => by cases h; rfl))
        · intro listed ys X W hsz hsd hi2 hall hX hI hd K hK
          have eg : X.tmps.getD 64 undef = .bool true := (hX 64 (Nat.le_of_ble_eq_true rfl)).trans (NV.val (hd ⟨21, .guard⟩ (by simp) rfl) (by decide) rfl)
          have e68 : X.tmps.getD 68 undef = vf := (hX 68 (Nat.le_of_ble_eq_true rfl)).trans (NV.val (hd ⟨25, .data⟩ (by simp) rfl) (by decide) rfl)
          have e69 : X.tmps.getD 69 undef = .string line := (hX 69 (Nat.le_of_ble_eq_true rfl)).trans (NV.val (hd ⟨26, .data⟩ (by simp) rfl) (by decide) rfl)
          have HI := Lib.hid hI
          refine step_run (.inr ⟨21, 64, true, rfl, rfl, eg⟩) ?_
          clear hX hd hI
          go_simp
          refine (callsIn_wide.2 (HLF.out W HI.out)).mono ?_
          rintro e u2 ⟨rfl, hb⟩
          exact hK _ _ (HI.out.trans (hb.mono HI.out.size)) hb (NV.of (by decide) (fun u h => by cases h; rfl))
        · intro listed ys X W hsz hsd hi2 hall hX hI hd K hK
          have eg : X.tmps.getD 64 undef = .bool true := (hX 64 (Nat.le_of_ble_eq_true rfl)).trans (NV.val (hd ⟨21, .guard⟩ (by simp) rfl) (by decide) rfl)
          have e70 : X.tmps.getD 70 undef = .bool false := (hX 70 (Nat.le_of_ble_eq_true rfl)).trans (NV.val (hd ⟨27, .data⟩ (by simp) rfl) (by decide) rfl)
          have HI := Lib.hid hI
          refine step_run (.inr ⟨21, 64, true, rfl, rfl, eg⟩) ?_
          clear hX hd hI
          go_simp
          exact hK _ _ HI.out (Below.refl _ _) (NV.of (by decide) (fun u h => by cases h; rfl))
        · intro listed ys X W hsz hsd hi2 hall hX hI hd K hK
          have eg : X.tmps.getD 71 undef = .bool false := (hX 71 (Nat.le_of_ble_eq_true rfl)).trans (NV.val (hd ⟨28, .guard⟩ (by simp) rfl) (by decide) rfl)
          refine skip_step ⟨28, 71, false, rfl, rfl, eg⟩ ?_
          exact hK undef _ hI (Below.refl _ _) (NV.of (by decide) (fun u h => by cases h; rfl))
        · intro listed ys X W hsz hsd hi2 hall hX hI hd K hK
          have eg : X.tmps.getD 71 undef = .bool false := (hX 71 (Nat.le_of_ble_eq_true rfl)).trans (NV.val (hd ⟨28, .guard⟩ (by simp) rfl) (by decide) rfl)
          refine skip_step ⟨28, 71, false, rfl, rfl, eg⟩ ?_
          exact hK undef _ hI (Below.refl _ _) (NV.of (by decide) (fun u h => by cases h; rfl))
        · intro listed ys X W hsz hsd hi2 hall hX hI hd K hK
          have eg : X.tmps.getD 71 undef = .bool false := (hX 71 (Nat.le_of_ble_eq_true rfl)).trans (NV.val (hd ⟨28, .guard⟩ (by simp) rfl) (by decide) rfl)
          refine skip_step ⟨28, 71, false, rfl, rfl, eg⟩ ?_
          exact hK undef _ hI (Below.refl _ _) (NV.of (by decide) (fun u h => by cases h; rfl))
        · intro listed ys X W hsz hsd hi2 hall hX hI hd K hK
          have eg : X.tmps.getD 64 undef = .bool true := (hX 64 (Nat.le_of_ble_eq_true rfl)).trans (NV.val (hd ⟨21, .guard⟩ (by simp) rfl) (by decide) rfl)
          have e71 : X.tmps.getD 71 undef = .bool false := (hX 71 (Nat.le_of_ble_eq_true rfl)).trans (NV.val (hd ⟨28, .data⟩ (by simp) rfl) (by decide) rfl)
          have e74 : X.tmps.getD 74 undef = undef := (hX 74 (Nat.le_of_ble_eq_true rfl)).trans (NV.val (hd ⟨31, .data⟩ (by simp) rfl) (by decide) rfl)
          have HI := Lib.hid hI
          refine step_run (.inr ⟨21, 64, true, rfl, rfl, eg⟩) ?_
          clear hX hd hI
          go_simp
          exact hK _ _ HI.out (Below.refl _ _) (NV.of (by decide) (fun u h => by cases h; rfl))
        · intro listed ys X W hsz hsd hi2 hall hX hI hd K hK
          have eg : X.tmps.getD 64 undef = .bool true := (hX 64 (Nat.le_of_ble_eq_true rfl)).trans (NV.val (hd ⟨21, .guard⟩ (by simp) rfl) (by decide) rfl)
          have e67 : X.tmps.getD 67 undef = .bool false := (hX 67 (Nat.le_of_ble_eq_true rfl)).trans (NV.val (hd ⟨24, .data⟩ (by simp) rfl) (by decide) rfl)
          have e75 : X.tmps.getD 75 undef = .bool false := (hX 75 (Nat.le_of_ble_eq_true rfl)).trans (NV.val (hd ⟨32, .data⟩ (by simp) rfl) (by decide) rfl)
          have HI := Lib.hid hI
          refine step_run (.inr ⟨21, 64, true, rfl, rfl, eg⟩) ?_
          clear hX hd hI
          go_simp
          exact hK _ _ HI.out (Below.refl _ _) (NV.of (by decide) (fun u h => by cases h; rfl))
        · intro listed ys X W hsz hsd hi2 hall hX hI hd K hK
          have e64 : X.tmps.getD 64 undef = .bool true := (hX 64 (Nat.le_of_ble_eq_true rfl)).trans (NV.val (hd ⟨21, .data⟩ (by simp) rfl) (by decide) rfl)
          have e76 : X.tmps.getD 76 undef = .bool true := (hX 76 (Nat.le_of_ble_eq_true rfl)).trans (NV.val (hd ⟨33, .data⟩ (by simp) rfl) (by decide) rfl)
          have HI := Lib.hid hI
          refine step_run (.inl rfl) ?_
          clear hX hd hI
          go_simp
          exact hK _ _ HI.out (Below.refl _ _) (NV.of (by decide) (fun u h => by cases h; rfl))
        · intro listed ys X W hsz hsd hi2 hall hX hI hd K hK
          have e77 : X.tmps.getD 77 undef = .bool true := (hX 77 (Nat.le_of_ble_eq_true rfl)).trans (NV.val (hd ⟨34, .data⟩ (by simp) rfl) (by decide) rfl)
          have HI := Lib.hid hI
          refine step_run (.inl rfl) ?_
          clear hX hd hI
          go_simp
          exact hK _ _ HI.out (Below.refl _ _) (NV.of (by decide) (fun u h => by cases h; rfl))
      case fin =>
        intro listed ys w6 hall hI hV
        have hy := NV.val (hV 35 (by decide) rfl) (by decide) rfl
        have HB6 := Lib.hid (HB5.out.trans (hI.mono HB5.out.size))
        clear hall hI hV
        refine fin_of 6 (v := .bool true) ?_ (by simp) hy
        intro P6 h6 hdf
        have x6 : P6.tmps[6]?.getD undef = .bool true := by rw [← Array.getD_eq_getD_getElem?]; exact h6
        go_wp2_with fail
        refine bodyPost_ret (v := .bool true) (by simp [results, Try.results3, go_sem, x6]) hdf ⟨rfl, HB6.out⟩

end Go.Proofs.Ytbcpcahfafghkaa
