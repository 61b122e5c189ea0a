/-
  A FLOW OF WHICH ONE CHUNK HAS TURNED.
-/
import Derived.Test.YtgfjbboeappemaaGreatDoorIns14
namespace Go.Proofs.YtgfjbboeappemaaGreatDoor.E4
open Go.RowKit Go

theorem set_end {G L : Nat → Prop} {w w5 : World} {lv cv v' : Value} {ls : List Lab} {CH : List (Value × List (Value × Ent))} {i gc : Nat} {R : List (Value × Ent)} (h : FlowAt G L w lv cv ls CH) (hi : i < CH.length) (hgc : ∀ b, At cv b → b = gc) (hgl : gc < w.heap.size)
    (hLG : ∀ b, L b → ¬ G b) (hGc : G gc) (hgat : At cv gc) (hk : Keep (fun b => b = gc ∨ At CH[i].1 b) w w5) (hrk : Rk 1 G w5 cv CH.length ((CH.map Prod.fst).set i v')) (hr : Rk 3 (fun b => At CH[i].1 b ∨ w.heap.size ≤ b) w5 v' R.length (flatR R)) (hRL : RawL L w5 R) (hR0 : R ≠ [])
    (hst : Strict entC (flatC (CH.set i (v', R)))) (hlab : ∀ e ∈ flatC (CH.set i (v', R)), e.labs = ls) :
    FlowAt (fun b => G b ∨ w.heap.size ≤ b) L w5 lv cv ls (CH.set i (v', R)) := by
  have hx := List.getElem_mem hi
  have hset : CH.set i (v', R) = CH.take i ++ (v', R) :: CH.drop (i + 1) := by rw [List.set_eq_take_append_cons_drop, if_pos hi]
  have hsplit : CH = CH.take i ++ CH[i] :: CH.drop (i + 1) := by rw [← List.drop_eq_getElem_cons hi, List.take_append_drop]
  have htk : ∀ x ∈ CH.take i, x ∈ CH := fun x hx => List.mem_of_mem_take hx
  have hdp : ∀ x ∈ CH.drop (i + 1), x ∈ CH := fun x hx => List.mem_of_mem_drop hx
  have hd := h.d
  rw [hsplit, List.pairwise_append, List.pairwise_cons] at hd
  obtain ⟨hd1, ⟨hd2, hd3⟩, hd4⟩ := hd
  have hold : ∀ x ∈ CH, ∀ b, At x.1 b → G b ∧ b < w.heap.size ∧ b ≠ gc := fun x hx b hb => by
    have h1 := (h.e x hx).at hb
    exact ⟨h1.1, h1.2, fun e => h.o x hx b hb (e ▸ hgat)⟩
  have hke : ∀ x ∈ CH, (∀ b, At x.1 b → ¬ At CH[i].1 b) → Rk 3 G w5 x.1 x.2.length (flatR x.2) := fun x hx hu => by
    have hr' : Rk 3 (fun b => At x.1 b) w x.1 x.2.length (flatR x.2) := (h.e x hx).mono fun b _ ha => ha
    have hr2 : Rk 3 (fun b => At x.1 b) w5 x.1 x.2.length (flatR x.2) := hr'.keep hk fun b hb _ _ e => by
      rcases e with e | e
      · exact (hold x hx b hb).2.2 e
      · exact hu b hb e
    exact hr2.mono fun b hb _ => (hold x hx b hb).1
  have hlk : ∀ {u : Value} {l : List Lab}, LabsAt L w u l → LabsAt L w5 u l := fun hl => hl.keep hk fun b hb _ e => by
    rcases e with e | e
    · exact hLG b hb (by rw [e]; exact hGc)
    · exact hLG b hb (hold _ hx b e).1
  have hat' : ∀ b, At v' b → At CH[i].1 b ∨ w.heap.size ≤ b := fun b hb => (hr.at hb).1
  refine ⟨hlk h.l, ?_, fun x hx => ?_, fun x hx => ?_, ?_, fun x hx b hb hb' => ?_, fun x hx => ?_, hst, hlab⟩
  · rw [List.length_set, ← xs_set]
    exact hrk.mono fun b hb _ => .inl hb
  · rw [hset] at hx
    simp only [List.mem_append, List.mem_cons] at hx
    rcases hx with hx | rfl | hx
    · exact (hke x (htk x hx) fun b hb hb2 => hd4 x hx _ (List.mem_cons_self ..) b hb hb2).mono fun b hb _ => .inl hb
    · exact hr.mono fun b hb _ => hb.imp (fun hb => (hold _ (List.getElem_mem hi) b hb).1) id
    · exact (hke x (hdp x hx) fun b hb hb2 => hd2 x hx b hb2 hb).mono fun b hb _ => .inl hb
  · rw [hset] at hx
    simp only [List.mem_append, List.mem_cons] at hx
    rcases hx with hx | rfl | hx
    · exact fun y hy => hlk (h.r x (htk x hx) y hy)
    · exact hRL
    · exact fun y hy => hlk (h.r x (hdp x hx) y hy)
  · rw [hset, List.pairwise_append, List.pairwise_cons]
    have hnew : ∀ x ∈ CH, (∀ b, At x.1 b → ¬ At CH[i].1 b) → ∀ b, At x.1 b → ¬ At v' b := fun x hx hu b hb hb2 => by
      rcases hat' b hb2 with h3 | h3
      · exact hu b hb h3
      · have := (hold x hx b hb).2.1
        omega
    refine ⟨hd1, ⟨fun y hy b hb hb2 => hnew y (hdp y hy) (fun b hb hb2 => hd2 y hy b hb2 hb) b hb2 hb, hd3⟩, fun x hx y hy b hb hb2 => ?_⟩
    simp only [List.mem_cons] at hy
    rcases hy with rfl | hy
    · exact hnew x (htk x hx) (fun b hb hb2 => hd4 x hx _ (List.mem_cons_self ..) b hb hb2) b hb hb2
    · exact hd4 x hx y (List.mem_cons_of_mem _ hy) b hb hb2
  · rw [hset] at hx
    simp only [List.mem_append, List.mem_cons] at hx
    have hbg := hgc b hb'
    rcases hx with hx | rfl | hx
    · exact (hold x (htk x hx) b hb).2.2 hbg
    · rcases hat' b hb with h3 | h3
      · exact (hold _ (List.getElem_mem hi) b h3).2.2 hbg
      · omega
    · exact (hold x (hdp x hx) b hb).2.2 hbg
  · rw [hset] at hx
    simp only [List.mem_append, List.mem_cons] at hx
    rcases hx with hx | rfl | hx
    · exact h.n x (htk x hx)
    · exact hR0
    · exact h.n x (hdp x hx)

end Go.Proofs.YtgfjbboeappemaaGreatDoor.E4
