/-
  ENTRIES AS THEY LIE: each with its labels' slice; their cells, one after the other. slices.Clone.
-/
import Derived.Test.YtgcldnojmdabpaaSmall
namespace Go.Proofs.Ytgcldnojmdabpaa
open Go.RowKit Go

/-- An entry's cells. -/
def rawC (x : Value × Ent) : List Value := [.int .i64 x.2.tm, x.1, .string x.2.line]
def flatR : List (Value × Ent) → List Value
  | [] => []
  | x :: r => rawC x ++ flatR r

theorem flatR_length : ∀ R : List (Value × Ent), (flatR R).length = R.length * 3
  | [] => rfl
  | x :: r => by simp only [flatR, List.length_append, flatR_length r, rawC, List.length_cons, List.length_nil]; omega

theorem flatR_append : ∀ R S : List (Value × Ent), flatR (R ++ S) = flatR R ++ flatR S
  | [], _ => rfl
  | x :: r, S => by simp only [List.cons_append, flatR, flatR_append r S, List.append_assoc]

theorem flatR_get : ∀ (R : List (Value × Ent)) (i : Nat) (h : i < R.length) (c : Nat), c < 3 → (flatR R)[i * 3 + c]? = (rawC R[i])[c]?
  | [], i, h, _, _ => by simp at h
  | x :: r, 0, _, c, hc => by
    simp only [flatR, Nat.zero_mul, Nat.zero_add, List.getElem_cons_zero]
    rw [List.getElem?_append_left (by simp [rawC]; omega)]
  | x :: r, i + 1, h, c, hc => by
    simp only [flatR, List.getElem_cons_succ]
    rw [List.getElem?_append_right (by simp [rawC]; omega), ← flatR_get r i (by simpa using h) c hc]
    congr 1
    simp [rawC]
    omega

theorem LabsAt.one {G : Nat → Prop} {w : World} {v : Value} {ls : List Lab} (h : LabsAt G w v ls) : v.oneCell' = true := by
  obtain ⟨a, cap, rfl, _⟩ := h
  rfl

/-- Each one's labels lie so. -/
def RawL (L : Nat → Prop) (w : World) (R : List (Value × Ent)) : Prop := ∀ x ∈ R, LabsAt L w x.1 x.2.labs

theorem RawL.lay {L : Nat → Prop} {w w' : World} {R : List (Value × Ent)} (h : RawL L w R) (hl : Lay w w') : RawL L w' R := fun x hx => (h x hx).lay hl
theorem RawL.keep {L H : Nat → Prop} {w w' : World} {R : List (Value × Ent)} (h : RawL L w R) (hk : Keep H w w') (hd : ∀ b, L b → b < w.heap.size → ¬ H b) : RawL L w' R := fun x hx => (h x hx).keep hk hd
theorem RawL.mono {L M : Nat → Prop} {w : World} {R : List (Value × Ent)} (h : RawL L w R) (hM : ∀ b, L b → b < w.heap.size → M b) : RawL M w R := fun x hx => (h x hx).mono hM

theorem flatR_one {L : Nat → Prop} {w : World} {R : List (Value × Ent)} (h : RawL L w R) : ∀ u ∈ flatR R, u.oneCell' = true := by
  induction R with
  | nil => intro u hu; simp [flatR] at hu
  | cons x r ih =>
    intro u hu
    simp only [flatR, List.mem_append] at hu
    rcases hu with hu | hu
    · simp only [rawC, List.mem_cons, List.not_mem_nil, or_false] at hu
      rcases hu with rfl | rfl | rfl
      · rfl
      · exact (h x (by simp)).one
      · rfl
    · exact ih (fun y hy => h y (by simp [hy])) u hu

theorem list_of {α : Type} (d : α) (p : Nat → α → Prop) : ∀ (n : Nat), (∀ i, i < n → ∃ x, p i x) → ∃ l : List α, l.length = n ∧ ∀ i, i < n → p i (l.getD i d)
  | 0, _ => ⟨[], rfl, fun i h => by omega⟩
  | n + 1, h => by
    obtain ⟨l, hl, hp⟩ := list_of d p n (fun i hi => h i (by omega))
    obtain ⟨x, hx⟩ := h n (by omega)
    refine ⟨l ++ [x], by simp [hl], fun i hi => ?_⟩
    rcases Nat.lt_or_ge i n with hlt | hge
    · have := hp i hlt
      simp only [List.getD, List.getElem?_append_left (hl ▸ hlt)] at this ⊢
      exact this
    · obtain rfl : i = n := by omega
      simp only [List.getD, List.getElem?_append_right (Nat.le_of_eq hl), hl, Nat.sub_self, List.getElem?_cons_zero, Option.getD_some]
      exact hx

/-- The cells of entries, from a place on. -/
def RawAt (w : World) (b off : Nat) (R : List (Value × Ent)) : Prop :=
  ∀ i (h : i < R.length), w.cell? ⟨b, off + i * 3, none⟩ = some (.int .i64 R[i].2.tm) ∧ w.cell? ⟨b, off + i * 3 + 1, none⟩ = some R[i].1 ∧ w.cell? ⟨b, off + i * 3 + 2, none⟩ = some (.string R[i].2.line)

theorem EntsAt.raw {G L : Nat → Prop} {w : World} {a : Option Addr} {n cap : Nat} {es : List Ent} (h : EntsAt G L w (.slice a n cap) es) (h0 : es ≠ []) :
    ∃ b off R, a = some ⟨b, off, none⟩ ∧ n = R.length ∧ R.map Prod.snd = es ∧ G b ∧ b < w.heap.size ∧ RawAt w b off R ∧ RawL L w R := by
  obtain ⟨a', cap', hv, hn, h | ⟨b, off, ha, hg, hlt, hc⟩⟩ := h
  · exact absurd h h0
  · simp only [Value.slice.injEq] at hv
    obtain ⟨rfl, rfl, rfl⟩ := hv
    obtain ⟨vs, hl, hp⟩ := list_of (Value.slice none 0 0) (fun i lv => ∀ h : i < es.length, w.cell? ⟨b, off + i * 3, none⟩ = some (.int .i64 es[i].tm) ∧ w.cell? ⟨b, off + i * 3 + 1, none⟩ = some lv ∧ w.cell? ⟨b, off + i * 3 + 2, none⟩ = some (.string es[i].line) ∧ LabsAt L w lv es[i].labs) es.length (fun i hi => by
      obtain ⟨lv, h⟩ := hc i hi
      exact ⟨lv, fun _ => h⟩)
    have hz : (vs.zip es).length = es.length := by simp [hl]
    have hget : ∀ i (hi : i < (vs.zip es).length), (vs.zip es)[i] = (vs.getD i (Value.slice none 0 0), es[i]'(by omega)) := fun i hi => by
      rw [List.getElem_zip]
      have : i < vs.length := by omega
      simp [List.getD, this]
    refine ⟨b, off, vs.zip es, ha, hz.symm, ?_, hg, hlt, fun i hi => ?_, fun x hx => ?_⟩
    · exact List.map_snd_zip (by omega)
    · rw [hget i hi]
      have := hp i (by omega) (by omega)
      exact ⟨this.1, this.2.1, this.2.2.1⟩
    · obtain ⟨i, hi, rfl⟩ := List.getElem_of_mem hx
      rw [hget i hi]
      exact (hp i (by omega) (by omega)).2.2.2

theorem RawAt.cells {w : World} {b off : Nat} {R : List (Value × Ent)} (h : RawAt w b off R) (j : Nat) (u : Value) (hu : (flatR R)[j]? = some u) : w.cell? ⟨b, off + j, none⟩ = some u := by
  have hj : j < (flatR R).length := (List.getElem?_eq_some_iff.1 hu).1
  rw [flatR_length] at hj
  have hi : j / 3 < R.length := by omega
  have hjd : j = j / 3 * 3 + j % 3 := by omega
  have hg := flatR_get R (j / 3) hi (j % 3) (by omega)
  rw [← hjd, hu] at hg
  obtain ⟨h0, h1, h2⟩ := h (j / 3) hi
  have hm : j % 3 = 0 ∨ j % 3 = 1 ∨ j % 3 = 2 := by omega
  rcases hm with hm | hm | hm
  · rw [hm] at hg hjd
    rw [show off + j = off + j / 3 * 3 by omega, h0]
    simpa [rawC] using hg.symm
  · rw [hm] at hg hjd
    rw [show off + j = off + j / 3 * 3 + 1 by omega, h1]
    simpa [rawC] using hg.symm
  · rw [hm] at hg hjd
    rw [show off + j = off + j / 3 * 3 + 2 by omega, h2]
    simpa [rawC] using hg.symm

theorem RawAt.lay {w w' : World} {b off : Nat} {R : List (Value × Ent)} (h : RawAt w b off R) (hb : b < w.heap.size) (hl : Lay w w') : RawAt w' b off R := fun i hi => by
  obtain ⟨h0, h1, h2⟩ := h i hi
  exact ⟨(hl.cell hb).trans h0, (hl.cell hb).trans h1, (hl.cell hb).trans h2⟩

/-- Entries as what is appended. -/
theorem RawAt.src {w : World} {b off : Nat} {R : List (Value × Ent)} (h : RawAt w b off R) {L : Nat → Prop} (hL : RawL L w R) (cap : Nat) : Src Try.prog 3 39 (.slice (some ⟨b, off, none⟩) R.length cap) R.length (flatR R) w :=
  Src.ofSlice w Try.underlying39 ⟨b, off, none⟩ R.length cap (flatR R) (flatR_length R) (fun j u hu => by
    have e : (⟨b, off, none⟩ : Addr).add j = ⟨b, off + j, none⟩ := by
      unfold Addr.add
      split
      · rename_i h; subst h; rfl
      · rfl
    rw [e]
    exact h.cells j u hu) (flatR_one hL)

/-- A slice of the call's own that holds entries. -/
theorem Rk.rawAt {G : Nat → Prop} {w : World} {v : Value} {n : Nat} {R : List (Value × Ent)} (h : Rk 3 G w v n (flatR R)) :
    n = R.length ∧ ((v = .slice none 0 0 ∧ R = []) ∨ ∃ g cap, v = .slice (some ⟨g, 0, none⟩) R.length cap ∧ G g ∧ g < w.heap.size ∧ R.length ≤ cap ∧ cap ≤ maxLen ∧ RawAt w g 0 R ∧ (∀ j, j < cap * 3 → (w.cell? ⟨g, j, none⟩).isSome = true ∧ w.frozen? ⟨g, j, none⟩ = false)) := by
  obtain ⟨h0, h⟩ := h
  rw [flatR_length] at h0
  have hn : n = R.length := by omega
  subst hn
  refine ⟨rfl, ?_⟩
  rcases h with ⟨h1, h2⟩ | ⟨g, cap, h1, h2, h3, h4, h5, h6, h7⟩
  · exact .inl ⟨h1, List.eq_nil_of_length_eq_zero h2⟩
  · refine .inr ⟨g, cap, h1, h2, h3, h4, h5, fun i hi => ?_, h7⟩
    have get : ∀ c, c < 3 → w.cell? ⟨g, 0 + i * 3 + c, none⟩ = (rawC R[i])[c]? := fun c hc => by
      rw [← flatR_get R i hi c hc, Nat.zero_add]
      exact h6 _ (by rw [flatR_length]; omega)
    exact ⟨by simpa [rawC] using get 0 (by omega), by simpa [rawC] using get 1 (by omega), by simpa [rawC] using get 2 (by omega)⟩

theorem RawAt.ents {G L : Nat → Prop} {w : World} {b off cap : Nat} {R : List (Value × Ent)} (h : RawAt w b off R) (hL : RawL L w R) (hg : G b) (hb : b < w.heap.size) (hn : R.length ≤ 9223372036854775807) :
    EntsAt G L w (.slice (some ⟨b, off, none⟩) R.length cap) (R.map Prod.snd) := by
  refine ⟨_, cap, by rw [List.length_map], by rw [List.length_map]; exact hn, .inr ⟨b, off, rfl, hg, hb, fun i hi => ?_⟩⟩
  rw [List.length_map] at hi
  obtain ⟨h0, h1, h2⟩ := h i hi
  rw [List.getElem_map]
  exact ⟨_, h0, h1, h2, hL _ (List.getElem_mem hi)⟩

theorem Rk.ents {G L : Nat → Prop} {w : World} {v : Value} {n : Nat} {R : List (Value × Ent)} (h : Rk 3 G w v n (flatR R)) (hL : RawL L w R) : EntsAt G L w v (R.map Prod.snd) := by
  obtain ⟨_, ⟨rfl, rfl⟩ | ⟨g, cap, rfl, hg, hb, hl, hm, hr, _⟩⟩ := h.rawAt
  · exact ⟨none, 0, rfl, by simp, .inl rfl⟩
  · exact hr.ents hL hg hb (by unfold maxLen at hm; omega)

theorem info24 : (Try.prog.info? 24).map (fun i => (i.zero, i.size, i.bytes)) = some (some (.agg #[.int .i64 0, .slice none 0 0, .string ⟨#[]⟩]), 3, 48) := by kernel_rfl

theorem elem24 : ∃ i z, Elem Try.prog 39 24 i z 3 48 := by
  obtain ⟨i, hi, hz, hs, hb⟩ := info_parts info24
  exact ⟨i, _, Try.underlying39, hi, hz, hs, hb, by kernel_rfl⟩

set_option maxHeartbeats 2000000 in
set_option maxRecDepth 100000 in
/-- slices.Clone. -/
theorem clone_any {G L : Nat → Prop} {w : World} {v : Value} {es : List Ent} (h : EntsAt G L w v es) (hn : es.length ≤ 1000000) :
    Calls Try.prog 53 #[v] w fun e w' => ∃ v' R, e = .returned v' ∧ Rk 3 (fun k => w.heap.size ≤ k) w' v' es.length (flatR R) ∧ R.map Prod.snd = es ∧ RawL L w' R ∧ Lay w w' := by
  obtain ⟨i24, z24, E24⟩ := elem24
  have q39 : ∀ (w : World) (a : Option Addr) (n c n' c' : Nat), (binOp .eql 39 (.slice a n c) (.slice none n' c')).run Try.prog w = .ok (.bool a.isNone) w := fun w a n c n' c' => Lib.run_eql_slice_nil w _ _ a n c n' c' Try.underlying39
  have hsrc : ∃ R, R.map Prod.snd = es ∧ RawL L w R ∧ ∀ w1, Lay w w1 → Src Try.prog 3 39 v es.length (flatR R) w1 := by
    obtain ⟨a, cap, rfl, hn, hc⟩ := id h
    by_cases h0 : es = []
    · subst h0
      refine ⟨[], rfl, fun x hx => by simp at hx, fun w1 _ => ?_⟩
      cases a with
      | none => exact Src.ofNil _ Try.underlying39 cap
      | some p => exact Src.ofSlice _ Try.underlying39 p 0 cap [] rfl (fun j u hu => by simp at hu) (fun u hu => by simp at hu)
    · obtain ⟨b, off, R, rfl, hnR, hR, hg, hb, hraw, hL⟩ := h.raw h0
      exact ⟨R, hR, hL, fun w1 hl => by rw [hnR]; exact (hraw.lay hb hl).src (hL.lay hl) cap⟩
  obtain ⟨R, hR, hL, hs⟩ := hsrc
  obtain ⟨a, cap, rfl, hn63, hc⟩ := id h
  clear h
  cases a with
  | none =>
    have h0 : es = [] := by
      rcases hc with h0 | ⟨b, off, h0, _⟩
      · exact h0
      · cases h0
    subst h0
    clear hc hs
    go_enter Try.func53, Try.ntmps53
    go_wp2
    go_ret
    exact ⟨_, [], rfl, Rk.nil _ _ _, rfl, (fun x hx => by simp at hx), Keep.refl _ _⟩
  | some p =>
    clear hc
    have HSS := Lib.hid (hs (w.alloc (.cells #[] 24)) ((Keep.refl _ _).alloc _))
    have HR := Lib.hid hR
    have HLL := Lib.hid hL
    clear hR hL hs
    go_enter Try.func53, Try.ntmps53
    go_wp2_with (at_builtin; refine wpList_append_rk E24 _ rfl _ _ 39 rfl (G := fun k => w.heap.size ≤ k) rfl ((rk_new 3 w 0 [] 24 rfl (by omega)).mono (fun k hk _ => Nat.le_of_eq hk.symm)) ?c1 _ es.length (flatR R) rfl HSS.out ?c2 ?c3 ?_)
    case c1 => intro k hk; simp at hk; omega
    case c2 => omega
    case c3 => omega
    intro v' w1 hrk hk
    have HK := Lib.hid hrk
    have hk2 : Keep (fun k => w.heap.size ≤ k) (w.alloc (.cells #[] 24)) w1 := hk.into (fun b _ hb => by
      obtain ⟨n, c, e⟩ := hb
      simp only [Value.slice.injEq, Option.some.injEq, Addr.mk.injEq, and_true] at e
      omega)
    have hlay : Lay w w1 := Keep.into (Keep.trans ((Keep.refl (fun k => w.heap.size ≤ k) w).alloc _) hk2) (fun k hlt hk => by omega)
    have HLY := Lib.hid hlay
    clear hrk hk hk2 hlay
    go_wp2
    go_ret
    refine ⟨v', R, rfl, ?_, HR.out, ?_, HLY.out⟩
    · exact HK.out.mono (fun k hk _ => hk.1)
    · exact HLL.out.lay HLY.out

end Go.Proofs.Ytgcldnojmdabpaa
