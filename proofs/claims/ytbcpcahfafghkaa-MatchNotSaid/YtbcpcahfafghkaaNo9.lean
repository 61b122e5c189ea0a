/-
  THE LAW'S OWN not: a filter of one kid; and what a store into a box that is new leaves of filters.
-/
import Derived.Test.YtbcpcahfafghkaaOr9
namespace Go.Proofs.Ytbcpcahfafghkaa
open Go.RowKit Go

/-- Not of a filter. -/
def notF (f : Ft) : Ft := .mk 6 ⟨#[]⟩ ⟨#[]⟩ [f]

def zeroF : Array Value := #[.int .i64 0, .string ⟨#[]⟩, .string ⟨#[]⟩, .slice none 0 0]

/-- No filter's kids lie in a box that says nothing. -/
theorem zero_other {W : World} {B : Nat} (hz : CB W B 26 zeroF) {b off : Nat} {x : Int} (h : W.cell? ⟨b, off, none⟩ = some (.int .i64 x)) (hx : x ≠ 0) : b ≠ B := by
  rintro rfl
  rw [CB.cell hz] at h
  unfold zeroF at h
  rcases off with _ | _ | _ | _ | off
  · simp at h
    exact hx h.symm
  all_goals simp at h

mutual
theorem KsAt.stored {w w' : World} {B : Nat} (hz : CB w B 26 zeroF) (hs : w.heap.size ≤ w'.heap.size) (hb : ∀ k, k < w.heap.size → k ≠ B → w'.heap[k]? = w.heap[k]?) : ∀ (kv : Value) (f : Ft), Fit f → KsAt w kv f → KsAt w' kv f
  | kv, .mk _ _ _ k, hf, h => by
    rw [KsAt] at h ⊢
    obtain ⟨a, cap, hv, hl, h | ⟨b, off, ha, hlt, hk⟩⟩ := h
    · exact ⟨a, cap, hv, hl, .inl h⟩
    · exact ⟨a, cap, hv, hl, .inr ⟨b, off, ha, Nat.lt_of_lt_of_le hlt hs, KAt.stored hz hs hb b hlt off k hf.kids hk⟩⟩
theorem KAt.stored {w w' : World} {B : Nat} (hz : CB w B 26 zeroF) (hs : w.heap.size ≤ w'.heap.size) (hb : ∀ k, k < w.heap.size → k ≠ B → w'.heap[k]? = w.heap[k]?) (b : Nat) (hlt : b < w.heap.size) : ∀ (off : Nat) (l : List Ft), (∀ x ∈ l, Fit x) → KAt w b off l → KAt w' b off l
  | _, [], _, _ => by rw [KAt]; trivial
  | off, x :: r, hf, h => by
    rw [KAt] at h ⊢
    obtain ⟨⟨kv, h0, h1, h2, h3, h4⟩, h5⟩ := h
    have hx : x.op ≠ 0 := by
      have := hf x (by simp)
      obtain ⟨o, n, t, k⟩ := x
      exact this.op
    have e := hb b hlt (zero_other hz h0 hx)
    exact ⟨⟨kv, (World.cell?_of_block (a := ⟨b, off, none⟩) e).trans h0, (World.cell?_of_block (a := ⟨b, off + 1, none⟩) e).trans h1, (World.cell?_of_block (a := ⟨b, off + 2, none⟩) e).trans h2, (World.cell?_of_block (a := ⟨b, off + 3, none⟩) e).trans h3, KsAt.stored hz hs hb kv x (hf x (by simp)) h4⟩, KAt.stored hz hs hb b hlt (off + 4) r (fun y hy => hf y (by simp [hy])) h5⟩
end

set_option maxHeartbeats 4000000 in
set_option maxRecDepth 100000 in
theorem not_any (f : Ft) (v : Value) (w : World) (hv : FAt w v f) (_hf : Fit f) : Calls Try.prog 8 #[v] w fun e w' => ∃ u, e = .returned u ∧ FAt w' u (notF f) ∧ Below w.heap.size w w' := by
  obtain ⟨kv, rfl, hk⟩ := hv
  obtain ⟨a, c, rfl⟩ := hk.shape
  have HK := Lib.hid hk
  clear hk
  simp only [Ft.val]
  go_enter Try.func8, Try.ntmps8
  go_wp2_with fail
  have hb2 : Below w.heap.size w ((w.alloc (.cells (cellsF f (.slice a f.kids.length c)) 26)).alloc (.cells #[.int .i64 6, .string ⟨#[]⟩, .string ⟨#[]⟩, .slice (some ⟨w.heap.size + 1 + 1, 0, none⟩) 1 1] 26)) := ((Below.refl _ w).alloc (Nat.le_refl _) _).alloc (by simp) _
  have hk2 := kids_at _ 6 [(f, .slice a f.kids.length c)] (by simp) (fun x hx => by rw [List.mem_singleton] at hx; rw [hx]; exact KsAt.below hb2 _ _ HK.out) _ rfl
  have hb3 := hb2.alloc (by simp; omega) (.cells (cellsF f (.slice a f.kids.length c)) 26)
  have hq := CB.new (w.alloc (.cells (cellsF f (.slice a f.kids.length c)) 26)) 26 #[.int .i64 6, .string ⟨#[]⟩, .string ⟨#[]⟩, .slice (some ⟨w.heap.size + 1 + 1, 0, none⟩) 1 1]
  rw [World.size_alloc] at hq
  have hq3 := (Below.heap_alloc ((w.alloc (.cells (cellsF f (.slice a f.kids.length c)) 26)).alloc (.cells #[.int .i64 6, .string ⟨#[]⟩, .string ⟨#[]⟩, .slice (some ⟨w.heap.size + 1 + 1, 0, none⟩) 1 1] 26)) (.cells (cellsF f (.slice a f.kids.length c)) 26) (w.heap.size + 1) (by simp)).trans hq
  have q0 := CB.cell hq3 0
  have q1 := CB.cell hq3 1
  have q2 := CB.cell hq3 2
  have q3 := CB.cell hq3 3
  simp only [cellsF, List.getElem?_toArray, List.getElem?_cons_succ, List.getElem?_cons_zero] at q0 q1 q2 q3
  rw [World.size_alloc, World.size_alloc] at hk2
  have HK2 := Lib.hid hk2
  have HB3 := Lib.hid hb3
  clear hk2 hb2 hb3 hq hq3
  refine bodyPost_ret (v := .agg #[.int .i64 6, .string ⟨#[]⟩, .string ⟨#[]⟩, .slice (some ⟨w.heap.size + 1 + 1, 0, none⟩) 1 1]) (by simp [results, Try.results8, go_sem, q0, q1, q2, q3]) rfl ?_
  exact ⟨_, rfl, ⟨_, rfl, HK2.out⟩, HB3.out⟩

end Go.Proofs.Ytbcpcahfafghkaa
