/-
  word.Has: IS A TEXT A WORD OF ANOTHER ONE?
-/
import Derived.Test.YtgjlbcmejanfaaaDoorSame
namespace Go.Proofs.YtgjlbcmejanfaaaDoor
open Go.RowKit Go Go.Shelf

attribute [local go_sem] Oper.semAt_some wide_fn wide_depth

/-- The words of a text, as texts; its inner ones. -/
def wordsB (s : ByteArray) : List ByteArray := (M.places s.data.toList).map (pc s)
def innerB (s : ByteArray) : List ByteArray := ((M.places s.data.toList).filter (M.within s.data.toList)).map (pc s)

theorem bs_data (l : List UInt8) : (bs l).data.toList = l := rfl
theorem bs_self (s : ByteArray) : bs s.data.toList = s := rfl

theorem wordsB_eq (s : ByteArray) : wordsB s = (M.words s.data.toList).map bs := by
  unfold wordsB
  rw [← M.places_words, List.map_map]
  rfl

theorem wordsB_length (s : ByteArray) : (wordsB s).length ≤ s.size := by
  rw [wordsB_eq, List.length_map]
  have h := M.words_length s.data.toList
  have e : s.data.toList.length = s.size := Array.length_toList
  omega

theorem innerB_length (s : ByteArray) : (innerB s).length ≤ s.size := by
  have h := wordsB_length s
  unfold innerB
  unfold wordsB at h
  rw [List.length_map] at h ⊢
  have := List.length_filter_le (M.within s.data.toList) (M.places s.data.toList)
  omega

/-- Is t a word of s? -/
def hasB (s t : ByteArray) : Bool := (wordsB s).any fun x => decide (x = t)
theorem hasB_iff (s t : ByteArray) : hasB s t = true ↔ t ∈ wordsB s := by
  unfold hasB
  rw [List.any_eq_true]
  constructor
  · rintro ⟨x, hx, h⟩
    rw [decide_eq_true_eq] at h
    rwa [← h]
  · intro h
    exact ⟨t, h, decide_eq_true rfl⟩

/-- The two boxes: the text, the answer. -/
def HasI (B : Nat) (t : ByteArray) (b : Bool) (p : Prop) : Stance := fun G W => p ∧ Box W B 9 (.string t) ∧ Box W (B + 1) 4 (.bool b) ∧ G = (fun k => k = B ∨ k = B + 1)
theorem HasI.stable (B : Nat) (t : ByteArray) (b : Bool) (p : Prop) : Stable (HasI B t b p) := by
  rintro G W W' ⟨h0, h1, h2, rfl⟩ _ hk
  exact ⟨h0, h1.keep hk (fun h => h (.inl rfl)), h2.keep hk (fun h => h (.inr rfl)), rfl⟩

def HasX (B : Nat) (t : ByteArray) (c : Code) (pre : List ByteArray) : Stance := HasI B t true (c = .ret ∧ t ∈ pre)

theorem bytes_eq {s t : ByteArray} (h : s = t) : (s.toList == t.toList) = true := by rw [h]; exact beq_self_eq_true _

set_option maxHeartbeats 4000000 in
set_option maxRecDepth 100000 in
theorem has_any (s t : ByteArray) (hlen : s.size ≤ 70368744177664) (w : World) :
    Calls Tryd.prog 12 #[.string s, .string t] w fun e w' => e = .returned (.bool (hasB s t)) ∧ Below w.heap.size w w' := by
  refine (callsIn_wide (n := 9)).1 ?_
  refine callsIn_of_wp_marks Tryd.func12 rfl trivial ?_
  simp only [Tryd.ntmps12, List.size_toArray, List.length_cons, List.length_nil, Nat.reduceAdd, Nat.reduceSub, Array.replicate_succ, Array.replicate_zero, List.push_toArray, List.append_toArray, List.nil_append, List.cons_append]
  gi_wp2_with (gi_at_call 10; refine (callsIn_wide.2 (words_any s _)).mono ?_; rintro e w' ⟨rfl, rfl⟩)
  have ht0 := Box.new w 9 (.string t)
  have hr0 := Box.new (w.alloc (.cells #[.string t] 9)) 4 (.bool false)
  rw [World.size_alloc] at hr0
  have hs0 := Box.new ((w.alloc (.cells #[.string t] 9)).alloc (.cells #[.bool false] 4)) 9 (.string s)
  rw [World.size_alloc, World.size_alloc] at hs0
  obtain ⟨W0, hW0⟩ : ∃ W0, ((w.alloc (.cells #[.string t] 9)).alloc (.cells #[.bool false] 4)).alloc (.cells #[.string s] 9) = W0 := ⟨_, rfl⟩
  have hsz : W0.heap.size = w.heap.size + 3 := by rw [← hW0]; simp
  have ht1 : Box W0 w.heap.size 9 (.string t) := by rw [← hW0]; exact (ht0.alloc _).alloc _
  have hr1 : Box W0 (w.heap.size + 1) 4 (.bool false) := by rw [← hW0]; exact hr0.alloc _
  have hs1 : Box W0 (w.heap.size + 1 + 1) 9 (.string s) := by rw [← hW0]; exact hs0
  have hk1 : ∀ H, Keep H w W0 := fun H => by rw [← hW0]; exact (((Keep.refl H w).alloc _).alloc _).alloc _
  rw [hW0]
  have HSZ := Lib.hid hsz
  clear ht0 hr0 hs0 hW0 hsz
  refine wpIn_over (gf := 18) (lb := #[.pointer (some ⟨w.heap.size + 1 + 1, 0, none⟩)]) rfl (enters_of Tryd.func18 (by kernel_rfl) rfl) (words_gives s hlen (w.heap.size + 1 + 1) W0 hs1) (fun k hk => by subst hk; exact hs1.lt) (fun _ => rfl)
    (fun pre => HasI w.heap.size t false (t ∉ pre)) (HasX w.heap.size t) (fun s => HasI.stable _ _ _ _) (fun c s => HasI.stable _ _ _ _) (fun k => k = w.heap.size ∨ k = w.heap.size + 1)
    (fun k hk h => by subst hk; omega) ⟨by simp, ht1, hr1, rfl⟩ (fun k h => by rw [HSZ.out]; omega)
    (fun x => { tmps := #[.string s, .string t, undef, .pointer (some ⟨w.heap.size, 0, none⟩), .pointer (some ⟨w.heap.size + 1, 0, none⟩), .string x, .string s, .func (.func 18) #[] #[.pointer (some ⟨w.heap.size + 1 + 1, 0, none⟩)], .string x, undef, undef, undef], defers := [] }) ?assign ?body ?done ?stop
  case assign =>
    intro l2 x W2 K hK
    dsimp only [encS]
    gi_wp2
    exact hK
  case body =>
    rintro l2 pre x G1 W hpx ⟨hp, hbt, hbr, rfl⟩ hlive
    have hct := hbt.cell
    have hcr := hbr.cell
    have hfr := hbr.frozen
    by_cases hxt : x = t
    · have hb := bytes_eq hxt
      have HN := Lib.hid (Next.mk (J := HasX w.heap.size t .ret (pre ++ [x])) (G := fun k => k = w.heap.size ∨ k = w.heap.size + 1) (W := W) (W' := W.setCell ⟨w.heap.size + 1, 0, none⟩ (.bool true)) _
        ⟨⟨rfl, by simp [hxt]⟩, hbt.keep (keep_setCell (G := fun k => k = w.heap.size + 1) W _ _ rfl) (fun h => by omega), hbr.set _, rfl⟩ (fun k hk => by have := hlive k hk; simpa using this) (fun k hk => .inl hk) (keep_setCell W _ _ (.inr rfl)))
      clear hp hbt hbr hlive hxt
      gi_wp2
      exact HN.out
    · have hb := bytes_ne hxt
      have HN := Lib.hid (Next.mk (J := HasI w.heap.size t false (t ∉ pre ++ [x])) (G := fun k => k = w.heap.size ∨ k = w.heap.size + 1) (W := W) (W' := W) _
        ⟨by simp [hp]; exact fun e => hxt e.symm, hbt, hbr, rfl⟩ hlive (fun k hk => .inl hk) (Keep.refl _ _))
      clear hp hbt hbr hlive hxt
      gi_wp2
      exact HN.out
  case done =>
    intro D We hlf
    obtain ⟨G', ⟨hp, hbt, hbr, hG'⟩, hl, hg, hk, hD1, hD2, hD3⟩ := id hlf
    have hcr := hbr.cell
    have hfr := hbr.frozen
    have hd : hasB s t = false := by rw [Bool.eq_false_iff]; exact fun h => hp ((hasB_iff s t).1 h)
    have hks : Keep (fun k => w.heap.size ≤ k) W0 (We.setCell ⟨w.heap.size + 1, 0, none⟩ (.bool false)) := (hk.mono (fun k _ h => by omega)).trans (keep_setCell We _ _ (by omega))
    have hD4 : (We.setCell ⟨w.heap.size + 1, 0, none⟩ (.bool false)).heap[D]? = some (.deferred (some [])) := ((keep_setCell (G := fun k => k = w.heap.size + 1) We _ _ rfl).block D (Array.getElem?_eq_some_iff.1 hD3).1 (fun h => hD2 (by rw [hG']; exact .inr h))).trans hD3
    have hc : ((We.setCell ⟨w.heap.size + 1, 0, none⟩ (.bool false)).putObj D (.deferred none)).cell? ⟨w.heap.size + 1, 0, none⟩ = some (.bool false) :=
      ((hbr.set (.bool false)).keep ((Keep.refl (fun k => k = D) _).put _ (fun _ => rfl)) (fun h => hD2 (by rw [hG']; exact .inr h.symm))).cell
    have HC := Lib.hid hc
    have HB := Lib.hid (Keep.below (((hk1 _).trans hks).put (r := D) (.deferred none) (fun h => by have := HSZ.out; omega)) (fun _ h => h) (Nat.le_refl _))
    have HD := Lib.hid hD4
    have HDD := Lib.hid hd
    clear hc hd hD4 hks hbt hbr hp hl hg hk hD1 hD2 hD3 hG'
    gi_wp2
    refine ⟨by simp, .inl ⟨_, _, rfl, run_takeDeferred HD.out, ?_⟩⟩
    refine ⟨.bool false, ?_, by rw [HDD.out], HB.out⟩
    have hc := HC.out
    simp [results, Tryd.results12, go_sem, hc]
  case stop =>
    intro D c pre We hpre hlf
    obtain ⟨G', ⟨⟨rfl, hp⟩, hbt, hbr, hG'⟩, hl, hg, hk, hD1, hD2, hD3⟩ := id hlf
    have hd : hasB s t = true := (hasB_iff s t).2 (hpre.subset hp)
    have hc : (We.putObj D (.deferred none)).cell? ⟨w.heap.size + 1, 0, none⟩ = some (.bool true) :=
      (hbr.keep ((Keep.refl (fun k => k = D) _).put _ (fun _ => rfl)) (fun h => hD2 (by rw [hG']; exact .inr h.symm))).cell
    have HC := Lib.hid hc
    have HB := Lib.hid (Keep.below (((hk1 _).trans (hk.mono (H := fun k => w.heap.size ≤ k) (fun k _ h => by omega))).put (r := D) (.deferred none) (fun h => by have := HSZ.out; omega)) (fun _ h => h) (Nat.le_refl _))
    have HDD := Lib.hid hd
    clear hc hd hbt hbr hp hl hg hk hD1 hD2 hD3 hG'
    gi_wp2
    refine ⟨by simp, .inl ⟨_, _, rfl, hlf.takes, ?_⟩⟩
    refine ⟨.bool true, ?_, by rw [HDD.out], HB.out⟩
    have hc := HC.out
    simp [results, Tryd.results12, go_sem, hc]

end Go.Proofs.YtgjlbcmejanfaaaDoor
