/-
  AN ENGINE THAT LOOKS LABELS UP, AS IT LIES: its flows by their labels' bytes; an entry more.
-/
import Derived.Test.YtgfjbboeappemaaGreatDoorFa14
import Derived.Test.YtgfjbboeappemaaGreatDoorSt14
import Derived.Test.YtgfjbboeappemaaGreatDoorBb14
namespace Go.Proofs.YtgfjbboeappemaaGreatDoor.E4
open Go.RowKit Go

/-- A flow: its labels, its chunks. -/
structure Fl where
  lv : Value
  cv : Value
  ls : List Lab
  CH : List (Value × List (Value × Ent))
def Fl.val (t : Fl) : Value := .agg #[t.lv, t.cv]

/-- An engine: its box gb, its map mb, in which t stands at a key. κ: of which kind a block is; ω: of which flow. -/
structure EngC (κ : Nat → Nat) (ω : Nat → ByteArray) (w : World) (B gb mb n : Nat) (f : ByteArray → Option Fl) (es : List Ent) : Prop where
  c : Bl w gb 77 #[.map (some mb), .int .i64 (es.length : Int)]
  m : MapAt Tryz.prog 9 w mb n (fun s => (f s).map Fl.val)
  r : ∀ s t, f s = some t → s = keyL t.ls ∧ LabsMod t.ls ∧ t.CH ≠ [] ∧ FlowAt (fun b => B ≤ b ∧ κ b = 4 ∧ ω b = s) (fun b => B ≤ b ∧ κ b = 3) w t.lv t.cv t.ls t.CH
  e : ∀ x, x ∈ es ↔ ∃ t, f (keyL x.labs) = some t ∧ x ∈ flatC t.CH
  g : B ≤ gb ∧ κ gb = 1
  k : B ≤ mb ∧ κ mb = 2

/-- An engine with these entries, in the order in which they were added. -/
def EngAt (w : World) (B gb : Nat) (es : List Ent) : Prop :=
  ∃ κ ω mb n f, EngC κ ω w B gb mb n f es ∧ n ≤ es.length

theorem EngC.carry {κ : Nat → Nat} {ω : Nat → ByteArray} {w w' : World} {B gb mb n : Nat} {f : ByteArray → Option Fl} {es : List Ent} (h : EngC κ ω w B gb mb n f es) (hs : w.heap.size ≤ w'.heap.size) (hb : ∀ b, b < w.heap.size → w'.heap[b]? = w.heap[b]?) : EngC κ ω w' B gb mb n f es :=
  ⟨(hb _ h.c.lt).trans h.c, h.m.carry (hb _ h.m.lt), fun s t hst => by obtain ⟨h1, h2, h3, h4⟩ := h.r s t hst; exact ⟨h1, h2, h3, h4.carry hs fun k _ hlt => hb k hlt⟩, h.e, h.g, h.k⟩
theorem EngC.below {κ : Nat → Nat} {ω : Nat → ByteArray} {w w' : World} {B gb mb n : Nat} {f : ByteArray → Option Fl} {es : List Ent} (h : EngC κ ω w B gb mb n f es) (hb : Below w.heap.size w w') : EngC κ ω w' B gb mb n f es := h.carry hb.size fun b hlt => hb.block b hlt
theorem EngAt.below {w w' : World} {B gb : Nat} {es : List Ent} (h : EngAt w B gb es) (hb : Below w.heap.size w w') : EngAt w' B gb es := by
  obtain ⟨κ, ω, mb, n, f, h, hr⟩ := h
  exact ⟨κ, ω, mb, n, f, h.below hb, hr⟩

theorem strict_nodup {l : List Ent} (h : Strict entC l) : l.Nodup := h.imp fun {a b} hab e => by
  subst e
  rw [entC_lc.refl] at hab
  cases hab

theorem EngC.fl_len {κ : Nat → Nat} {ω : Nat → ByteArray} {w : World} {B gb mb n : Nat} {f : ByteArray → Option Fl} {es : List Ent} (h : EngC κ ω w B gb mb n f es) {s : ByteArray} {t : Fl} (hst : f s = some t) : (flatC t.CH).length ≤ es.length := by
  obtain ⟨h1, _, _, h4⟩ := h.r s t hst
  refine sub_len (strict_nodup h4.s) fun x hx => (h.e x).2 ⟨t, ?_, hx⟩
  rw [h4.m x hx, ← h1]; exact hst

theorem EngC.has {κ : Nat → Nat} {ω : Nat → ByteArray} {w : World} {B gb mb n : Nat} {f : ByteArray → Option Fl} {es : List Ent} (h : EngC κ ω w B gb mb n f es) (e : Ent) : hasE es e = match f (keyL e.labs) with | some t => hasE (flatC t.CH) e | none => false := by
  rw [Bool.eq_iff_iff, hasE_iff, h.e]
  cases hf : f (keyL e.labs) with
  | none => simp
  | some t =>
    simp only [Option.some.injEq, exists_eq_left', hasE_iff]

/-- The engine behind it all. -/
theorem add_end {κ : Nat → Nat} {ω : Nat → ByteArray} {w w3 w5 w8 : World} {B gb mb n fb C : Nat} {f : ByteArray → Option Fl} {es : List Ent} {e : Ent} {t' : Fl} {CH : List (Value × List (Value × Ent))} (h : EngC κ ω w B gb mb n f es) (hB : B ≤ w.heap.size) (hm : LabsMod e.labs) (_hno : hasE es e = false)
    (hl : Lay w w3) (hfb : w.heap.size ≤ fb) (hC : w3.heap.size ≤ C) (hk : Keep (fun b => b = fb ∨ (B ≤ b ∧ κ b = 4 ∧ ω b = keyL e.labs ∧ b < w.heap.size)) w3 w5) (hls : t'.ls = e.labs) (h0 : t'.CH ≠ []) (hCH : CH = match f (keyL e.labs) with | some t => t.CH | none => [])
    (hfl : FlowAt (fun b => (B ≤ b ∧ κ b = 4 ∧ ω b = keyL e.labs ∧ b < w.heap.size) ∨ C ≤ b) (fun b => (B ≤ b ∧ κ b = 3 ∧ b < w.heap.size) ∨ (w3.heap.size ≤ b ∧ b < C)) w5 t'.lv t'.cv t'.ls t'.CH) (hmem : ∀ x, x ∈ flatC t'.CH ↔ x ∈ flatC CH ∨ x = e)
    (hk8 : Keep (fun b => b = gb ∨ b = mb) w5 w8) (hc8 : Bl w8 gb 77 #[.map (some mb), .int .i64 ((es.length : Int) + 1)]) (hm8 : MapAt Tryz.prog 9 w8 mb (n + 1) (fun x => if x = keyL e.labs then some t'.val else (f x).map Fl.val)) (hn : n ≤ es.length) :
    EngAt w8 B gb (es ++ [e]) ∧ Below B w w8 := by
  have hs3 := hl.size
  have hs5 := hk.size
  have hs8 := hk8.size
  have hg := h.g
  have hkk := h.k
  have hgl := h.c.lt
  have hml := h.m.lt
  have hold : ∀ b, b < w.heap.size → b ≠ gb → b ≠ mb → ¬ (B ≤ b ∧ κ b = 4 ∧ ω b = keyL e.labs) → w8.heap[b]? = w.heap[b]? := fun b hb h1 h2 h3 =>
    (hk8.block b (by omega) fun h => h.elim h1 h2).trans ((hk.block b (by omega) fun h => h.elim (fun h => by omega) fun h => h3 ⟨h.1, h.2.1, h.2.2.1⟩).trans (Lay.block hl hb))
  have hbel : Below B w w8 := by
    have h1 : Below B w w3 := (lay_below hl).mono hB
    have h2 : Below B w3 w5 := hk.below13 (fun b hb => by rcases hb with h | h <;> omega) (by omega)
    have h3 : Below B w5 w8 := hk8.below13 (fun b hb => by rcases hb with h | h <;> omega) (by omega)
    exact (h1.trans h2).trans h3
  refine ⟨⟨fun b => if b < w.heap.size then κ b else if b < C then 3 else 4, fun b => if b < w.heap.size then ω b else keyL e.labs, mb, n + 1, fun x => if x = keyL e.labs then some t' else f x, ⟨?_, ?_, fun s t hst => ?_, fun x => ?_, ⟨hg.1, by rw [if_pos hgl]; exact hg.2⟩, ⟨hkk.1, by rw [if_pos hml]; exact hkk.2⟩⟩, by rw [List.length_append, List.length_singleton]; omega⟩, hbel⟩
  · rw [List.length_append, List.length_singleton]
    exact hc8
  · have he : (fun s => (if s = keyL e.labs then some t' else f s).map Fl.val) = fun x => if x = keyL e.labs then some t'.val else (f x).map Fl.val := by
      funext s
      by_cases hs : s = keyL e.labs
      · rw [if_pos hs, if_pos hs]; rfl
      · rw [if_neg hs, if_neg hs]
    show MapAt _ 9 w8 mb (n + 1) (fun s => (if s = keyL e.labs then some t' else f s).map Fl.val)
    rw [he]
    exact hm8
  · by_cases hs : s = keyL e.labs
    · rw [if_pos hs] at hst
      obtain rfl : t' = t := by injection hst
      refine ⟨by rw [hs, hls], by rw [hls]; exact hm, h0, ?_⟩
      refine (hfl.carry hs8 fun b hb hlt => hk8.block b hlt fun h => ?_).mono (fun b hb hlt => ?_) fun b hb hlt => ?_
      · rcases h with h | h
        · rw [h] at hb
          rcases hb with (hb | hb) | hb | hb <;> omega
        · rw [h] at hb
          rcases hb with (hb | hb) | hb | hb <;> omega
      · rcases hb with hb | hb
        · exact ⟨hb.1, by rw [if_pos hb.2.2.2]; exact hb.2.1, by rw [if_pos hb.2.2.2, hs]; exact hb.2.2.1⟩
        · exact ⟨by omega, by rw [if_neg (by omega), if_neg (by omega)], by rw [if_neg (by omega)]; exact hs.symm⟩
      · rcases hb with hb | hb
        · exact ⟨hb.1, by rw [if_pos hb.2.2]; exact hb.2.1⟩
        · exact ⟨by omega, by rw [if_neg (by omega), if_pos hb.2]⟩
    · rw [if_neg hs] at hst
      obtain ⟨h1, h2, h3, h4⟩ := h.r s t hst
      refine ⟨h1, h2, h3, ?_⟩
      have h5 := h4.mono (G' := fun b => (B ≤ b ∧ κ b = 4 ∧ ω b = s) ∧ b < w.heap.size) (L' := fun b => (B ≤ b ∧ κ b = 3) ∧ b < w.heap.size) (fun b hb hlt => ⟨hb, hlt⟩) fun b hb hlt => ⟨hb, hlt⟩
      refine (h5.carry (by omega) fun b hb hlt => hold b hlt (fun e => ?_) (fun e => ?_) fun h6 => ?_).mono (fun b hb hlt => ?_) fun b hb hlt => ?_
      · rw [e] at hb; rcases hb with hb | hb <;> omega
      · rw [e] at hb; rcases hb with hb | hb <;> omega
      · rcases hb with hb | hb
        · exact hs (hb.1.2.2.symm.trans h6.2.2)
        · omega
      · exact ⟨hb.1.1, by rw [if_pos hb.2]; exact hb.1.2.1, by rw [if_pos hb.2]; exact hb.1.2.2⟩
      · exact ⟨hb.1.1, by rw [if_pos hb.2]; exact hb.1.2⟩
  · rw [List.mem_append, List.mem_singleton, h.e]
    show _ ↔ ∃ t, (if keyL x.labs = keyL e.labs then some t' else f (keyL x.labs)) = some t ∧ x ∈ flatC t.CH
    by_cases hk : keyL x.labs = keyL e.labs
    · rw [if_pos hk, hk]
      simp only [Option.some.injEq, exists_eq_left']
      rw [hmem, hCH]
      cases hf : f (keyL e.labs) with
      | none => simp [flatC]
      | some t => simp
    · rw [if_neg hk]
      constructor
      · rintro (h | h)
        · exact h
        · exact absurd (by rw [h]) hk
      · exact .inl

end Go.Proofs.YtgfjbboeappemaaGreatDoor.E4
