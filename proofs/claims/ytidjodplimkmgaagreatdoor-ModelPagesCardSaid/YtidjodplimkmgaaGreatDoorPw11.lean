/-
  THE PAGES THAT ARE GONE OVER, as rows of entries.
-/
import Derived.Test.YtidjodplimkmgaaGreatDoorGn11
namespace Go.Proofs.YtidjodplimkmgaaGreatDoor.E4
open Go.RowKit Go Go.Shelf

theorem pages_map {α β : Type} (f : α → β) (n : Nat) : ∀ (k : Nat) (l : List α), Md.pages n k (l.map f) = (Md.pages n k l).map (List.map f)
  | 0, _ => rfl
  | k + 1, l => by
    unfold Md.pages
    rw [List.length_map, ← List.map_take, ← List.map_drop, pages_map f n k (l.drop n)]
    split <;> rfl
theorem chunks_map {α β : Type} (f : α → β) (n : Nat) (l : List α) : chunks n (l.map f) = (chunks n l).map (List.map f) := by
  unfold chunks
  rw [List.length_map, pages_map]

theorem RawSl.ents {C : Nat → Prop} {W : World} {v : Value} {R : List (Value × Ent)} (h : RawSl C W v R) (hL : RawL (fun _ => True) W R) (hn : R.length ≤ 1000) : EntsAt (fun _ => True) (fun _ => True) W v (R.map Prod.snd) := by
  obtain ⟨a, c, rfl, h0 | ⟨b, off, rfl, _, hlt, hr⟩⟩ := h
  · subst h0
    exact ⟨a, c, rfl, by simp, .inl rfl⟩
  · exact hr.ents hL trivial hlt (by omega)

theorem rows_of_gone {xs : List (List (Value × Ent))} {w : World} {e : Ending} {w' : World} (h : GoneP xs w e w') (hL : ∀ x ∈ xs, RawL (fun _ => True) w x) (hn : ∀ x ∈ xs, x.length ≤ 1000) (hx : xs.length ≤ 1000) :
    ∃ v, e = .returned v ∧ RowsAt w' v (xs.map (List.map Prod.snd)) ∧ Lay w w' := by
  obtain ⟨v, vs, rfl, hrk, hp, hl⟩ := h
  refine ⟨v, rfl, ?_, hl⟩
  obtain ⟨hvl, ⟨rfl, h0⟩ | ⟨g, cap, rfl, _, hg, hc1, _, hcs, _⟩⟩ := hrk
  · have : xs = [] := List.eq_nil_of_length_eq_zero h0
    subst this
    exact ⟨none, 0, rfl, by simp, .inl rfl⟩
  · refine ⟨_, cap, by rw [List.length_map], by rw [List.length_map]; omega, .inr ⟨g, 0, rfl, hg, fun i hi => ?_⟩⟩
    rw [List.length_map] at hi
    obtain ⟨u, hu, hr⟩ := hp i hi
    refine ⟨u, by rw [Nat.zero_add, hcs i (by omega)]; exact hu, ?_⟩
    rw [List.getElem_map]
    exact hr.ents ((hL _ (List.getElem_mem hi)).lay hl) (hn _ (List.getElem_mem hi))

theorem chunks_count {α : Type} {n : Nat} (hn : 1 ≤ n) (l : List α) : (chunks n l).length = max ((l.length + n - 1) / n) 1 := Md.pages_count hn _ _ (Nat.le_refl _)
theorem chunks_short {α : Type} {n : Nat} (hn : 1 ≤ n) (l : List α) : (chunks n l).length ≤ l.length + 1 := by
  rw [chunks_count hn]
  have : (l.length + n - 1) / n ≤ l.length + 1 := by
    rw [← Nat.lt_succ_iff, Nat.div_lt_iff_lt_mul (by omega)]
    have h : (l.length + 1).succ * n = l.length * n + n + n := by
      rw [Nat.succ_mul, Nat.add_mul, Nat.one_mul]
    have h2 : l.length ≤ l.length * n := Nat.le_mul_of_pos_right _ (by omega)
    omega
  omega

theorem pgone_any (q : Qy) {s0 : Nat} {w : World} {BL BR : Nat} {v : Value} {out : List Ent} (hBL : Box w BL 3 (.int .i64 q.lim)) (hBR : Box w BR 33 v) (he : EntsAt (fun b => s0 ≤ b) (fun _ => True) w v out) (hsq : Sq v out.length) (h1 : 1 ≤ q.lim) (h8 : q.lim ≤ 8) (hn : out.length ≤ 360) (m : Int) :
    Calls Tryz.prog 8 #[.func (.func 18) #[] #[.pointer (some ⟨BL, 0, none⟩), .pointer (some ⟨BR, 0, none⟩)], .int .i64 m] w fun e w' => ∃ v', e = .returned v' ∧ RowsAt w' v' ((chunks q.lim.toNat out).take m.toNat) ∧ Lay w w' := by
  have el : q.lim = ((q.lim.toNat : Nat) : Int) := by omega
  generalize q.lim.toNat = lim at el ⊢
  rw [el] at hBL h1 h8
  have hl1 : 1 ≤ lim := by omega
  have hl8 : lim ≤ 8 := by omega
  clear el h1 h8
  by_cases h0 : out = []
  · subst h0
    obtain ⟨a, c, rfl⟩ : ∃ a c, v = .slice a 0 c := by
      rcases hsq with ⟨h2, _⟩ | ⟨g, c, h2, _⟩
      · exact ⟨none, 0, h2⟩
      · exact ⟨_, c, h2⟩
    have hG := pages_gives0 (fun k => k = BL ∨ k = BR) a c lim BL BR w hBL hBR (.inl rfl) (.inr rfl) hl1
    refine (gone_any (chunks lim []) _ _ m w hG (fun k hk => hk.elim (fun e => e ▸ hBL.lt) (fun e => e ▸ hBR.lt)) (by rw [chunks_nil]; decide)).mono ?_
    intro e w' h
    obtain ⟨v', h1, h2, h3⟩ := rows_of_gone h (fun x hx => by
      have := List.mem_of_mem_take hx
      rw [chunks_nil, List.mem_singleton] at this
      subst this
      intro y hy
      cases hy) (fun x hx => by
      have := List.mem_of_mem_take hx
      rw [chunks_nil, List.mem_singleton] at this
      subst this
      decide) (by rw [List.length_take, chunks_nil]; simp; omega)
    refine ⟨v', h1, ?_, h3⟩
    rw [List.map_take, ← chunks_map] at h2
    exact h2
  · rcases hsq with ⟨_, h2⟩ | ⟨g, cap, rfl, hcap⟩
    · exact absurd (List.eq_nil_of_length_eq_zero h2) h0
    obtain ⟨b, off, R, hb, hR, rfl, _, hlt, hraw, hrl⟩ := he.raw h0
    simp only [Option.some.injEq, Addr.mk.injEq, and_true] at hb
    obtain ⟨rfl, rfl⟩ := hb
    rw [List.length_map] at hn hcap hBR
    have hR0 : 0 < R.length := List.length_pos_iff.2 fun e => h0 (by rw [e]; rfl)
    have hG := pages_gives1 (fun k => k = BL ∨ k = BR ∨ k = g) R g cap lim BL BR w hBL hBR (.inl rfl) (.inr (.inl rfl)) (.inr (.inr rfl)) (fun k hk => by
      rcases hk with rfl | rfl | rfl
      · exact hBL.lt
      · exact hBR.lt
      · exact hlt) hraw (OneC.of_raw hrl) hR0 hl1 (by omega) (by omega) hcap
    have hcs := chunks_short hl1 R
    refine (gone_any (chunks lim R) _ _ m w hG (fun k hk => by
      rcases hk with rfl | rfl | rfl
      · exact hBL.lt
      · exact hBR.lt
      · exact hlt) (by omega)).mono ?_
    intro e w' h
    obtain ⟨v', h1, h2, h3⟩ := rows_of_gone h (fun x hx y hy => hrl y (chunk_pos hl1 hR0 (List.mem_of_mem_take hx) y hy)) (fun x hx => by
      have := chunk_len (List.mem_of_mem_take hx)
      omega) (by rw [List.length_take]; omega)
    refine ⟨v', h1, ?_, h3⟩
    rw [chunks_map, ← List.map_take]
    exact h2

end Go.Proofs.YtidjodplimkmgaaGreatDoor.E4
