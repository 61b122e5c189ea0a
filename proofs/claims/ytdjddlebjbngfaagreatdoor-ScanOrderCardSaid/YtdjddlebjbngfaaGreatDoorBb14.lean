/-
  ENGINES: what is added; labels in new memory; steps of regions that draw their order; what is sorted, as a function (stage 13's, joined).
-/
import Derived.Test.YtdjddlebjbngfaaGreatDoorCt13
import Derived.Test.YtdjddlebjbngfaaGreatDoorGv12
import Derived.Test.YtdjddlebjbngfaaGreatDoorNb
import Derived.Test.YtdjddlebjbngfaaGreatDoorEt
import Derived.Maps.OwnSet
import Derived.Test.YtdjddlebjbngfaaGreatDoorAk12
import Derived.Test.YtdjddlebjbngfaaGreatDoorGk12
import Derived.Laws.Pointers
import Derived.Test.YtdjddlebjbngfaaGreatDoorLb9
import Derived.Deep.RegionLaw
import Derived.Lib.LazyBuf
namespace Go.Proofs.YtdjddlebjbngfaaGreatDoor.H3
open Go.RowKit Go

theorem step_skip {F : Fence} {n : Nat} {P : Program} {ops : Array Oper} {Q : Exit → Act → World → Prop} {o : Oper} {A : Act} {w : World} {K : Act → World → Prop} (h : ∃ j d b, o.guard = some (j, !b) ∧ (ops[j]?).bind (·.dst) = some d ∧ A.tmps.getD d undef = .bool b) (hk : K (A.put o.dst undef) w) :
    if Region.wanted o (yielded ops A.tmps) = true then o.wpIn F n P A w K Q else K (A.put o.dst undef) w := by
  have hwt : ¬ Region.wanted o (yielded ops A.tmps) = true := by
    obtain ⟨j, d, b, h, hd, hv⟩ := h
    unfold Region.wanted
    rw [h]
    unfold yielded
    simp only [hd, Option.bind_some]
    have e : A.tmps[d]? = some (.bool b) := by
      cases hx : A.tmps[d]? with
      | none => rw [Array.getD_eq_getD_getElem?, hx] at hv; cases hv
      | some y => rw [Array.getD_eq_getD_getElem?, hx] at hv; simpa using hv
    rw [e]
    cases b <;> simp
  rw [if_neg hwt]
  exact hk

end Go.Proofs.YtdjddlebjbngfaaGreatDoor.H3

namespace Go.Proofs.YtdjddlebjbngfaaGreatDoor.E4
open Go.RowKit Go
open Go.Sort (grow)

theorem Keep.below13 {G : Nat → Prop} {B : Nat} {w w' : World} (h : Keep G w w') (hG : ∀ k, G k → B ≤ k) (hB : B ≤ w.heap.size) : Below B w w' :=
  ⟨h.os, h.tape, h.output, h.size, fun k hk => h.block k (Nat.lt_of_lt_of_le hk hB) fun hg => by have := hG k hg; omega⟩

/-- What Add makes of the entries. -/
def hasE (es : List Ent) (e : Ent) : Bool := es.any fun x => decide (entC x e = 0)

theorem hasE_iff {es : List Ent} {e : Ent} : hasE es e = true ↔ e ∈ es := by
  unfold hasE
  rw [List.any_eq_true]
  constructor
  · rintro ⟨x, hx, h⟩
    rw [← entC_lc.eq _ _ (of_decide_eq_true h)]
    exact hx
  · exact fun h => ⟨e, h, decide_eq_true (entC_lc.refl e)⟩

def addE (es : List Ent) (e : Ent) : List Ent := if (e.ok && !hasE es e) = true then es ++ [e] else es

theorem addE_yes {es : List Ent} {e : Ent} (h : e.ok = true) (h2 : hasE es e = false) : addE es e = es ++ [e] := by unfold addE; rw [h, h2]; rfl

theorem addE_bad {es : List Ent} {e : Ent} (h : e.ok = false) : addE es e = es := by unfold addE; rw [h]; rfl

theorem addE_old {es : List Ent} {e : Ent} (h : hasE es e = true) : addE es e = es := by unfold addE; rw [h, Bool.not_true, Bool.and_false]; rfl

theorem addE_ways (es : List Ent) (e : Ent) : (addE es e = es ++ [e] ∧ e.ok = true ∧ e ∉ es) ∨ (addE es e = es ∧ (e.ok = false ∨ e ∈ es)) := by
  cases h : e.ok with
  | false => exact .inr ⟨addE_bad h, .inl rfl⟩
  | true =>
    cases h2 : hasE es e with
    | true => exact .inr ⟨addE_old h2, .inr (hasE_iff.1 h2)⟩
    | false => exact .inl ⟨addE_yes h h2, rfl, fun hm => by rw [hasE_iff.2 hm] at h2; cases h2⟩

theorem addE_len (es : List Ent) (e : Ent) : (addE es e).length ≤ es.length + 1 := by
  rcases addE_ways es e with ⟨h, _⟩ | ⟨h, _⟩ <;> rw [h] <;> simp

theorem addE_mem {es : List Ent} {e x : Ent} : x ∈ addE es e ↔ x ∈ es ∨ (x = e ∧ e.ok = true) := by
  rcases addE_ways es e with ⟨h, h1, h2⟩ | ⟨h, h1⟩ <;> rw [h]
  · rw [List.mem_append, List.mem_singleton]
    exact ⟨fun h3 => h3.imp id fun h4 => ⟨h4, h1⟩, fun h3 => h3.imp id fun h4 => h4.1⟩
  · constructor
    · exact .inl
    · rintro (h3 | ⟨rfl, h3⟩)
      · exact h3
      · rcases h1 with h1 | h1
        · rw [h1] at h3; cases h3
        · exact h1

theorem addE_nodup {es : List Ent} (h : es.Nodup) (e : Ent) : (addE es e).Nodup := by
  rcases addE_ways es e with ⟨h0, h1, h2⟩ | ⟨h0, h1⟩ <;> rw [h0]
  · rw [List.nodup_append]
    exact ⟨h, by simp, fun a ha b hb hab => h2 (by rw [List.mem_singleton] at hb; rw [← hb, ← hab]; exact ha)⟩
  · exact h

/-- .. of a row of entries. -/
def addAll (es : List Ent) (l : List Ent) : List Ent := l.foldl addE es

theorem addAll_mem {l : List Ent} : ∀ {es : List Ent} {x : Ent}, x ∈ addAll es l ↔ x ∈ es ∨ (x ∈ l ∧ x.ok = true) := by
  induction l with
  | nil => intro es x; simp [addAll]
  | cons e r ih =>
    intro es x
    show x ∈ addAll (addE es e) r ↔ _
    rw [ih, addE_mem, List.mem_cons]
    constructor
    · rintro ((h | ⟨rfl, h⟩) | ⟨h1, h2⟩)
      · exact .inl h
      · exact .inr ⟨.inl rfl, h⟩
      · exact .inr ⟨.inr h1, h2⟩
    · rintro (h | ⟨rfl | h1, h2⟩)
      · exact .inl (.inl h)
      · exact .inl (.inr ⟨rfl, h2⟩)
      · exact .inr ⟨h1, h2⟩

theorem addAll_nodup {l : List Ent} : ∀ {es : List Ent}, es.Nodup → (addAll es l).Nodup := by
  induction l with
  | nil => intro es h; exact h
  | cons e r ih => intro es h; exact ih (addE_nodup h e)

theorem addAll_len {l : List Ent} : ∀ {es : List Ent}, (addAll es l).length ≤ es.length + l.length := by
  induction l with
  | nil => intro es; simp [addAll]
  | cons e r ih =>
    intro es
    have h1 := ih (es := addE es e)
    have h2 := addE_len es e
    show (addAll (addE es e) r).length ≤ _
    simp only [List.length_cons]
    omega

theorem addAll_take (es : List Ent) (l : List Ent) (i : Nat) (h : i < l.length) : addAll es (l.take (i + 1)) = addE (addAll es (l.take i)) l[i] := by
  unfold addAll
  rw [← List.take_append_getElem h, List.foldl_append]
  rfl

theorem addAll_fine {es : List Ent} (h : ∀ x ∈ es, x.Mod) (i : Nat) : ∀ x ∈ addAll [] (es.take i), x.Mod := fun x hx => by
  rcases addAll_mem.1 hx with h1 | h1
  · cases h1
  · exact h x (List.mem_of_mem_take h1.1)

/-- append, as one operation inside a fence, by what it is known to run to. -/
theorem operIn_append13 {F : Fence} {nn : Nat} {P : Program} {o : Oper} {a : Act} {w w' : World} {K : Act → World → Prop} {Q : Exit → Act → World → Prop} {sv xv v' : Value} (s x : Operand) (t : TypeId)
    (ho : o.op = .call { callee := .builtin .append, args := #[s, x], argTypes := #[t, t] }) (hs : a.eval s = sv) (hx : a.eval x = xv) (hrun : (Builtin.append_ #[t, t] o.type #[sv, xv]).run P w = .ok v' w') (hK : K (a.put o.dst v') w') : o.wpIn F nn P a w K Q := by
  unfold Oper.wpIn
  refine ⟨?_, ?_⟩
  · simp [Oper.about, ho, resolve, Target.leads, Sem.run_pure]
  · rw [Oper.semAt_plain F _ _ (by rw [ho]; intro c hc'; cases hc')]
    simp [execOp, ho, resolve, invoke, builtin, hs, hx, hrun, Result.andThen]
    exact hK

theorem gvq_keep {cs : List (Option Value)} {S : List Nat} {sp : Nat → Value → World → Prop} {i j : Nat} {ys : Nat → Value} {v : Value} {w w' : World} (hS : j ∉ S) (hij : i ≠ j) (h : GV cs S sp j ys w) : GV cs S sp j (H3.upd ys i v) w' := by
  unfold GV at h ⊢
  rw [if_neg hS] at h ⊢
  intro u hu
  rw [H3.upd_other ys v (Ne.symm hij)]
  exact h u hu

theorem foldl_bytes (ns : List UInt8) : (ns.map fun b => (b.toNat : Int)).foldl (fun (r : ByteArray) n => r.push (UInt8.ofNat n.toNat)) ByteArray.empty = ⟨ns.toArray⟩ := by
  rw [foldl_push_bytes]
  simp [Function.comp_def]

/-- string(b). -/
theorem bs_string {B : Nat} {w : World} {v : Value} {l : List UInt8} (h : Bs B w v l) : (convert 67 9 v).run Tryz.prog w = .ok (.string ⟨l.toArray⟩) w := by
  rcases h with ⟨rfl, rfl⟩ | ⟨g, cap, rfl, hBg, hg, hlc, hm, hc, hf⟩
  · rw [run_convert_bytes_string (P := Tryz.prog) w 67 9 5 none 0 0 Tryz.underlying67 Tryz.underlying5 Tryz.underlying9]
    rfl
  · rw [run_convert_bytes_string (P := Tryz.prog) w 67 9 5 _ _ _ Tryz.underlying67 Tryz.underlying5 Tryz.underlying9, run_bytesToString (P := Tryz.prog) w ⟨g, 0, none⟩ l.length cap (l.map fun b => (b.toNat : Int)), foldl_bytes]
    have e : ((l.map fun b => (b.toNat : Int)).map (Value.int .u8)) = cellsOf l := by simp [cellsOf]
    rw [e]
    have := run_firstCells_some (P := Tryz.prog) w 1 l.length ⟨g, 0, none⟩ l.length cap (cellsOf l) (by rw [cellsOf_length]; omega) (fun j u hu => by
      have hj : j < l.length := by
        have := (List.getElem?_eq_some_iff.1 hu).1
        rwa [cellsOf_length] at this
      have e : (⟨g, 0, none⟩ : Addr).add j = ⟨g, j, none⟩ := by unfold Addr.add; split <;> simp_all
      rw [e, hc j hj, hu])
    simpa [Builtin.firstCells] using this

theorem By.bs {G : Nat → Prop} {w : World} {v : Value} {l : List UInt8} (h : By G w v l) : Bs 0 w v l := by
  obtain ⟨_, ⟨h1, h2⟩ | ⟨g, cap, h1, _, h2, h3, h4, h5, h6⟩⟩ := h
  · exact .inl ⟨h1, List.eq_nil_of_length_eq_zero h2⟩
  · exact .inr ⟨g, cap, h1, Nat.zero_le _, h2, h3, h4, fun j hj => h5 j (by rw [cellsOf_length]; exact hj), fun j hj => h6 j (by omega)⟩

theorem Sorts.len13 {desc : Bool} {es out : List Ent} (h : Sorts (ordC desc) es out) : out.length ≤ es.length := by
  have hnd : out.Nodup := h.1.imp fun {a b} hab e => by
    subst e
    rw [(ordC_lc desc).refl] at hab
    cases hab
  have key : ∀ {l m : List Ent}, l.Nodup → (∀ x ∈ l, x ∈ m) → l.length ≤ m.length := by
    intro l
    induction l with
    | nil => intro m _ _; exact Nat.zero_le _
    | cons x r ih =>
      intro m h hs
      rw [List.nodup_cons] at h
      obtain ⟨s, t, rfl⟩ := List.append_of_mem (hs x (by simp))
      have h1 := ih (m := s ++ t) h.2 fun y hy => by
        have h2 := hs y (List.mem_cons_of_mem _ hy)
        have h3 : y ≠ x := fun e => h.1 (e ▸ hy)
        simp only [List.mem_append, List.mem_cons] at h2 ⊢
        rcases h2 with h2 | h2 | h2
        · exact .inl h2
        · exact absurd h2 h3
        · exact .inr h2
      simp only [List.length_append, List.length_cons] at h1 ⊢
      omega
  exact key hnd fun x hx => (h.2 x).1 hx

theorem great_no {a : Ask} (h : a.great = false) : a.all.length ≤ 1000 ∧ (∀ l ∈ a.all, l.length ≤ 1000) ∧ a.mat.length ≤ 1000 ∧ ∀ l ∈ a.all, ∀ s ∈ l, s.size ≤ 100000 := by
  unfold Ask.great at h
  simp only [Bool.or_eq_false_iff, decide_eq_false_iff_not] at h
  obtain ⟨⟨⟨h1, h2⟩, h3⟩, _⟩ := h
  have h4 : ∀ l ∈ a.all, bigL l = false := fun l hl => by
    cases e : bigL l with
    | false => rfl
    | true => rw [List.any_eq_true.2 ⟨l, hl, e⟩] at h3; cases h3
  refine ⟨by omega, fun l hl => ?_, by omega, fun l hl s hs => ?_⟩
  · have := h4 l hl
    unfold bigL at this
    simp only [Bool.or_eq_false_iff, decide_eq_false_iff_not] at this
    omega
  · have := h4 l hl
    unfold bigL bigW at this
    simp only [Bool.or_eq_false_iff, decide_eq_false_iff_not] at this
    have h5 := this.2
    by_cases e : 2000 < s.size
    · rw [List.any_eq_true.2 ⟨s, hs, decide_eq_true e⟩] at h5; cases h5
    · omega

theorem sub_len {l m : List Ent} (h : l.Nodup) (hs : ∀ x ∈ l, x ∈ m) : l.length ≤ m.length := by
  induction l generalizing m with
  | nil => exact Nat.zero_le _
  | cons x r ih =>
    rw [List.nodup_cons] at h
    obtain ⟨s, t, rfl⟩ := List.append_of_mem (hs x (by simp))
    have h1 := ih (m := s ++ t) h.2 fun y hy => by
      have h2 := hs y (List.mem_cons_of_mem _ hy)
      have h3 : y ≠ x := fun e => h.1 (e ▸ hy)
      simp only [List.mem_append, List.mem_cons] at h2 ⊢
      rcases h2 with h2 | h2 | h2
      · exact .inl h2
      · exact absurd h2 h3
      · exact .inr h2
    simp only [List.length_append, List.length_cons] at h1 ⊢
    omega

theorem Sorts.nodup {desc : Bool} {es out : List Ent} (h : Sorts (ordC desc) es out) : out.Nodup := h.1.imp fun {a b} hab e => by
  subst e
  rw [(ordC_lc desc).refl] at hab
  cases hab

theorem nodup_len {l m : List Ent} (h : l.Nodup) (k : m.Nodup) (hs : ∀ x, x ∈ l ↔ x ∈ m) : l.length = m.length :=
  Nat.le_antisymm (sub_len h fun x hx => (hs x).1 hx) (sub_len k fun x hx => (hs x).2 hx)

/-- The entries, each once, in a row. -/
noncomputable def chosen (P : List Ent → Prop) : List Ent := @dite _ (∃ s, P s) (Classical.propDecidable _) (fun h => Classical.choose h) (fun _ => [])

theorem chosen_ok {P : List Ent → Prop} (h : ∃ s, P s) : P (chosen P) := by
  unfold chosen
  rw [dif_pos h]
  exact Classical.choose_spec h

noncomputable def srtOf (desc : Bool) (l : List Ent) : List Ent := chosen fun s => Sorts (ordC desc) l s

theorem srtOf_eq {desc : Bool} {l s : List Ent} (h : Sorts (ordC desc) l s) : srtOf desc l = s :=
  Sorts.unique (ordC_lc desc) (chosen_ok (P := fun s => Sorts (ordC desc) l s) ⟨s, h⟩) h fun _ => Iff.rfl

theorem srtOf_same {desc : Bool} {l m : List Ent} (h : ∀ x, x ∈ l ↔ x ∈ m) : srtOf desc l = srtOf desc m := by
  have e : (fun s => Sorts (ordC desc) l s) = fun s => Sorts (ordC desc) m s := funext fun s => propext ⟨fun k => ⟨k.1, fun x => (k.2 x).trans (h x)⟩, fun k => ⟨k.1, fun x => (k.2 x).trans (h x).symm⟩⟩
  unfold srtOf
  rw [e]

theorem src_entN {e : Ent} {w : World} {al : Option Addr} {cl : Nat} : Src Tryz.prog 3 22 (.slice (some ⟨w.heap.size, 0, none⟩) 1 1) 1 (flatR [((.slice al e.labs.length cl : Value), e)]) (w.alloc (.cells #[.int .i64 e.tm, .slice al e.labs.length cl, .string e.line] 29)) :=
  Rk.src Tryz.underlying22 (rk_new 3 w 1 (flatR [((.slice al e.labs.length cl : Value), e)]) 29 rfl (by omega)) (fun u hu => by
    simp only [flatR, rawC, List.append_nil, List.mem_cons, List.not_mem_nil, or_false] at hu
    rcases hu with rfl | rfl | rfl <;> rfl)

end Go.Proofs.YtdjddlebjbngfaaGreatDoor.E4
