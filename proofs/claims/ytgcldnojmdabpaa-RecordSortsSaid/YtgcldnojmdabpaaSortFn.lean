/-
  slices.SortFunc of entries, by the library's own contract.
-/
import Derived.Test.YtgcldnojmdabpaaRaw
import Derived.Test.YtgcldnojmdabpaaLists
import Derived.Shelf.SlSortCmp.WholeK
namespace Go.Proofs.Ytgcldnojmdabpaa
open Go.RowKit Go Go.Sort

/-- An entry as it lies, its labels in w, in blocks of M. -/
structure SE (M : Nat → Prop) (w : World) where
  lv : Value
  ent : Ent
  ok : LabsAt M w lv ent.labs

instance (M : Nat → Prop) (w : World) : Inhabited (SE M w) := ⟨⟨.slice none 0 0, ⟨0, [], ⟨#[]⟩⟩, LabsAt.nil _ _⟩⟩

def SE.raw {M : Nat → Prop} {w : World} (s : SE M w) : Value × Ent := (s.lv, s.ent)
def SE.enc {M : Nat → Prop} {w : World} (s : SE M w) : List Value := rawC s.raw

theorem lt_ord {c : Int} (h : c = -1 ∨ c = 0 ∨ c = 1) : decide (c < 0) = decide (c = -1) := by
  rw [decide_eq_decide]; omega

theorem ltOf_eq {α β : Type} {c : β → β → Int} (hc : LC c) (f : α → β) (x y : α) : Go.Proofs.ltOf (fun x y => c (f x) (f y)) x y = decide (c (f x) (f y) = -1) := lt_ord (hc.tri _ _)

theorem swo_of {α β : Type} {c : β → β → Int} (hc : LC c) (f : α → β) : SWO (Go.Proofs.ltOf fun x y => c (f x) (f y)) where
  irrefl x := by
    rw [ltOf_eq hc f, hc.refl]
    rfl
  trans x y z h1 h2 := by
    rw [ltOf_eq hc f] at *
    simp only [decide_eq_true_eq] at *
    exact hc.tr _ _ _ h1 h2
  ntrans x y z h1 h2 := by
    rw [ltOf_eq hc f] at *
    simp only [decide_eq_false_iff_not] at *
    intro h3
    have a1 := hc.neg (f x) (f y)
    have a2 := hc.neg (f y) (f z)
    have t1 := hc.tri (f x) (f y)
    have t2 := hc.tri (f y) (f z)
    by_cases e1 : c (f x) (f y) = 0
    · rw [hc.eq _ _ e1] at h3; exact h2 h3
    · by_cases e2 : c (f y) (f z) = 0
      · rw [hc.eq _ _ e2] at h1; exact h1 h3
      · have b1 : c (f y) (f x) = -1 := by omega
        have b2 : c (f z) (f y) = -1 := by omega
        have b3 := hc.tr _ _ _ b2 b1
        have := hc.neg (f x) (f z)
        omega

theorem labs_sortWorld {M : Nat → Prop} {w : World} {g : Nat} (hM : ∀ b, M b → b ≠ g) (s : SE M w) (_hg : g < w.heap.size) (m : Nat) (os : Array Obj) (dk : Array (SE M w)) : LabsAt M (Go.Proofs.sortWorldK SE.enc 3 w g 0 m dk os) s.lv s.ent.labs := by
  refine s.ok.carry (Go.Proofs.size_sortWorldK_c _ _ _ _ _ _ _ _) fun b hb hlt => ?_
  unfold Go.Proofs.sortWorldK
  show ((putRowK SE.enc 3 (Sort.ahead w m) g 0 dk).heap ++ os)[b]? = _
  have hs : (putRowK SE.enc 3 (Sort.ahead w m) g 0 dk).heap.size = w.heap.size := by simp [putRowK, putRow, mapBlock, Sort.ahead]
  rw [Array.getElem?_append_left (by rw [hs]; exact hlt)]
  simp only [putRowK, putRow, mapBlock, Sort.ahead, Array.getElem?_modify]
  rw [if_neg (fun e => hM b hb e.symm)]

theorem keep_sortWorld {M : Nat → Prop} {w : World} {g : Nat} (m : Nat) (os : Array Obj) (dk : Array (SE M w)) : Keep (fun b => b = g) w (Go.Proofs.sortWorldK SE.enc 3 w g 0 m dk os) := by
  refine ⟨rfl, rfl, rfl, Go.Proofs.size_sortWorldK_c _ _ _ _ _ _ _ _, ?_, fun b hlt hb => ?_⟩
  · unfold Go.Proofs.sortWorldK
    show w.drawn ≤ w.drawn + m
    omega
  · unfold Go.Proofs.sortWorldK
    show ((putRowK SE.enc 3 (Sort.ahead w m) g 0 dk).heap ++ os)[b]? = _
    have hs : (putRowK SE.enc 3 (Sort.ahead w m) g 0 dk).heap.size = w.heap.size := by simp [putRowK, putRow, mapBlock, Sort.ahead]
    rw [Array.getElem?_append_left (by rw [hs]; exact hlt)]
    simp only [putRowK, putRow, mapBlock, Sort.ahead, Array.getElem?_modify]
    rw [if_neg (fun e => hb e.symm)]

theorem cmpLays_any (desc : Bool) {M : Nat → Prop} {w : World} {g : Nat} (hM : ∀ b, M b → b ≠ g) (hg : g < w.heap.size) (size : Nat) : Go.Proofs.CmpLays Try.prog (ordF desc) #[] (SE.enc (M := M) (w := w)) 3 (fun x y => ordC desc x.ent y.ent) g 0 size w := by
  intro m os dk _ x y
  have h := ordF_any desc (labs_sortWorld hM x hg m os dk) (labs_sortWorld hM y hg m os dk)
  exact h.mono fun e w' ⟨he, hl⟩ => ⟨he, hl.grown⟩

theorem eg_ordF (desc : Bool) : ∀ args w, (callFunc (ordF desc) args).run Try.prog w = .ok (.enter (ordF desc) args) w := by
  cases desc
  · exact Go.Proofs.enters_of Try.func24 (by kernel_rfl) rfl
  · exact Go.Proofs.enters_of Try.func52 (by kernel_rfl) rfl

set_option maxHeartbeats 1000000 in
theorem sort0_ins (cap : Nat) (a : Option Addr) (fv : Value) (w : World) : Calls Try.prog 76 #[.slice a 0 cap, .int .i64 0, .int .i64 0, fv] w fun e w' => e = .returned (.tuple #[]) ∧ w' = w := by
  go_enter Try.func76, Try.ntmps76
  go_wp2
  refine wp_loop_rounds 1 ?_
  rw [rounds_succ]
  go_wp2
  go_end0
  exact ⟨rfl, rfl⟩

set_option maxHeartbeats 2000000 in
theorem sort0_pdq (cap : Nat) (a : Option Addr) (lim : Int) (fv : Value) (w : World) : Calls Try.prog 70 #[.slice a 0 cap, .int .i64 0, .int .i64 0, .int .i64 lim, fv] w fun e w' => e = .returned (.tuple #[]) ∧ w' = w := by
  go_enter Try.func70, Try.ntmps70
  go_wp2
  refine wp_loop_rounds 1 ?_
  rw [rounds_succ]
  go_wp2_with (go_at_call 76; refine (sort0_ins _ _ _ _).mono ?_; rintro e w' ⟨rfl, rfl⟩)
  (try simp only [Exit.inBlock, Exit.then]); refine bodyPost_ret (results_none rfl _ _ _) rfl ?_
  exact ⟨rfl, rfl⟩

set_option maxHeartbeats 2000000 in
theorem sort0_any (cap : Nat) (a : Option Addr) (fv : Value) (w : World) : Calls Try.prog 54 #[.slice a 0 cap, fv] w fun e w' => e = .returned (.tuple #[]) ∧ w' = w := by
  have hl : ∀ W, Calls Try.prog 71 #[.int .u64 0] W fun e w' => (∃ l : Int, e = .returned (.int .i64 l)) ∧ w' = W := fun W =>
    (Go.Proofs.Any.bits_Len (Go.Proofs.SlLaysF0.n15.bits (P := Try.prog) (ρ := Try.sortEnt_ren) { Try.sortEnt with }) 0 W (by omega) (by omega)).mono fun _ _ ⟨he, hw⟩ => ⟨⟨_, he⟩, hw⟩
  go_enter Try.func54, Try.ntmps54
  go_wp2_with (first | (go_at_call 71; refine (hl _).mono ?_; rintro e w' ⟨⟨l, rfl⟩, rfl⟩) | (go_at_call 70; refine (sort0_pdq _ _ _ _ _).mono ?_; rintro e w' ⟨rfl, rfl⟩))
  go_end0
  exact ⟨rfl, rfl⟩

/-- As they lie, once more. -/
def rawsOf {M : Nat → Prop} {w : World} (d : Array (SE M w)) : List (Value × Ent) := d.toList.map SE.raw

theorem rawsOf_get {M : Nat → Prop} {w : World} (d : Array (SE M w)) (i : Nat) (h : i < d.size) : (rawsOf d)[i]'(by simpa [rawsOf] using h) = (d[i]!).raw := by
  simp [rawsOf, getElem!_pos, h]

theorem flat_of {M : Nat → Prop} {w : World} (d : Array (SE M w)) (j : Nat) (hj : j < d.size * 3) : (flatR (rawsOf d))[j]? = some ((flatK SE.enc 3 d)[j]!) := by
  have hl : (rawsOf d).length = d.size := by simp [rawsOf]
  have hi : j / 3 < d.size := by omega
  have hg := flatR_get (rawsOf d) (j / 3) (by omega) (j % 3) (by omega)
  rw [show j / 3 * 3 + j % 3 = j by omega, rawsOf_get d (j / 3) hi] at hg
  rw [hg, get_flatK _ _ _ _ hj]
  have hm : j % 3 = 0 ∨ j % 3 = 1 ∨ j % 3 = 2 := by omega
  rcases hm with hm | hm | hm <;> rw [hm] <;> rfl

theorem sortFn_some (desc : Bool) {G M : Nat → Prop} {w : World} {g cap : Nat} {R : List (Value × Ent)} (h : Rk 3 G w (.slice (some ⟨g, 0, none⟩) R.length cap) R.length (flatR R)) (hM : ∀ b, M b → b ≠ g) (hL : RawL M w R) (hn : R.length ≤ 1000000) :
    Calls Try.prog 54 #[.slice (some ⟨g, 0, none⟩) R.length cap, .func (.func (ordF desc)) #[] #[]] w fun e w' => e = .returned (.tuple #[]) ∧ ∃ R', Rk 3 G w' (.slice (some ⟨g, 0, none⟩) R.length cap) R.length (flatR R') ∧ (R'.map Prod.snd).Perm (R.map Prod.snd) ∧ Weak (ordC desc) (R'.map Prod.snd) ∧ RawL M w' R' ∧ Keep (fun b => b = g) w w' := by
  obtain ⟨h0, h | ⟨g', cap', hv, hG, hg, hle, hm, hc, hf⟩⟩ := h
  · cases h.1
  simp only [Value.slice.injEq, Option.some.injEq, Addr.mk.injEq, and_true, true_and] at hv
  obtain ⟨rfl, rfl⟩ := hv
  obtain ⟨D, hD⟩ : ∃ D : List (SE M w), D.map SE.raw = R := by
    have : ∀ l : List (Value × Ent), (∀ x ∈ l, x ∈ R) → ∃ D : List (SE M w), D.map SE.raw = l := by
      intro l
      induction l with
      | nil => exact fun _ => ⟨[], rfl⟩
      | cons x r ih =>
        intro hx
        obtain ⟨D, hD⟩ := ih fun y hy => hx y (by simp [hy])
        exact ⟨⟨x.1, x.2, hL x (hx x (by simp))⟩ :: D, by rw [List.map_cons, hD]; rfl⟩
    exact this R fun _ h => h
  obtain ⟨d, hd⟩ : ∃ d : Array (SE M w), d = D.toArray := ⟨_, rfl⟩
  have hR : rawsOf d = R := by rw [hd]; simpa [rawsOf] using hD
  have hsz : d.size = R.length := by rw [← hR]; simp [rawsOf]
  have hH : HoldsK SE.enc 3 w g 0 d := by
    intro j hj
    rw [size_flatK] at hj
    have e := flat_of d j hj
    rw [hR] at e
    rw [Nat.zero_add]
    refine ⟨?_, (hf j (by omega)).2⟩
    rw [hc j (by rw [flatR_length]; omega), e]
    rfl
  have hcon := Go.Proofs.AnyQ.slices_SortFunc Try.sortEnt 3 Try.isAgg24 Try.sizeOf24 (SE.enc (M := M) (w := w)) (fun _ => rfl)
    (fun x v hv => by
      simp only [SE.enc, rawC, List.mem_cons, List.not_mem_nil, or_false] at hv
      rcases hv with rfl | rfl | rfl
      · rfl
      · exact x.ok.one
      · rfl)
    (fun x y => ordC desc x.ent y.ent) (swo_of (ordC_lc desc) (fun s : SE M w => s.ent)) (ordF desc) #[] g 0 cap d w (eg_ordF desc) (cmpLays_any desc hM hg d.size) hH hg (by omega)
  rw [hsz] at hcon
  refine Calls.mono (f := 54) hcon ?_
  rintro e w' ⟨rfl, d', n, os, hp, hs, rfl⟩
  have hsz' : d'.size = d.size := hp.1
  have hH' := Go.Proofs.holdsK_sortWorldK_c SE.enc 3 w g 0 d d' n os hH hg hsz'
  have hkeep := keep_sortWorld (M := M) (w := w) (g := g) n os d'
  have hperm : d'.toList.Perm d.toList := by
    have := hp.2.2
    rwa [show (d'.extract 0 R.length) = d' from by rw [← hsz, ← hsz']; simp, show (d.extract 0 R.length) = d from by rw [← hsz]; simp] at this
  refine ⟨rfl, rawsOf d', ⟨?_, .inr ⟨g, cap, rfl, hG, Nat.lt_of_lt_of_le hg hkeep.size, hle, hm, fun j hj => ?_, fun j hj => ?_⟩⟩, ?_, ?_, ?_, hkeep⟩
  · rw [flatR_length]; simp [rawsOf, hsz', hsz]
  · rw [flatR_length] at hj
    have hj' : j < d'.size * 3 := by simpa [rawsOf] using hj
    have := (hH' j (by rw [size_flatK]; exact hj')).1
    rw [Nat.zero_add] at this
    rw [this, flat_of d' j hj']
    rfl
  · by_cases hin : j < d'.size * 3
    · have := hH' j (by rw [size_flatK]; exact hin)
      rw [Nat.zero_add] at this
      exact ⟨by rw [this.1]; rfl, this.2⟩
    · have e : ∀ (W : World), W = Go.Proofs.sortWorldK SE.enc 3 w g 0 n d' os → W.heap[g]? = (putRowK SE.enc 3 (Sort.ahead w n) g 0 d').heap[g]? := by
        rintro W rfl
        unfold Go.Proofs.sortWorldK
        show ((putRowK SE.enc 3 (Sort.ahead w n) g 0 d').heap ++ os)[g]? = _
        have hs2 : (putRowK SE.enc 3 (Sort.ahead w n) g 0 d').heap.size = w.heap.size := by simp [putRowK, putRow, mapBlock, Sort.ahead]
        rw [Array.getElem?_append_left (by rw [hs2]; exact hg)]
      have e' := e _ rfl
      rw [World.cell?_of_block (a := ⟨g, j, none⟩) e', World.frozen?_of_block (a := ⟨g, j, none⟩) e']
      have hc2 : (putRowK SE.enc 3 (Sort.ahead w n) g 0 d').cell? ⟨g, j, none⟩ = w.cell? ⟨g, j, none⟩ := cell?_putRow_other id (Sort.ahead w n) g 0 _ _ (by right; right; rw [size_flatK]; show 0 + _ ≤ j; omega)
      have hf2 : (putRowK SE.enc 3 (Sort.ahead w n) g 0 d').frozen? ⟨g, j, none⟩ = w.frozen? ⟨g, j, none⟩ := frozen?_putRow id (Sort.ahead w n) g 0 _ _
      rw [hc2, hf2]
      exact hf j hj
  · have := (hperm.map SE.raw).map Prod.snd
    rw [show (d.toList.map SE.raw) = R from hR] at this
    exact this
  · refine List.pairwise_iff_getElem.2 fun i j hi hj hij => ?_
    have hi' : i < d'.size := by simpa [rawsOf] using hi
    have hj' : j < d'.size := by simpa [rawsOf] using hj
    have := hs i j (Nat.zero_le _) hij (by omega)
    rw [ltOf_eq (ordC_lc desc) (fun s : SE M w => s.ent)] at this
    rw [List.getElem_map, List.getElem_map, rawsOf_get d' i hi', rawsOf_get d' j hj']
    exact of_decide_eq_false this
  · intro x hx
    obtain ⟨s, _, rfl⟩ := List.mem_map.1 hx
    exact labs_sortWorld hM s hg n os d'

/-- slices.SortFunc of entries. -/
theorem sortFn_any (desc : Bool) {G M : Nat → Prop} {w : World} {v : Value} {n : Nat} {R : List (Value × Ent)} (h : Rk 3 G w v n (flatR R)) (hM : ∀ b, M b → ¬ At v b) (hL : RawL M w R) (hn : n ≤ 1000000) :
    Calls Try.prog 54 #[v, .func (.func (ordF desc)) #[] #[]] w fun e w' => e = .returned (.tuple #[]) ∧ ∃ R', Rk 3 G w' v n (flatR R') ∧ (R'.map Prod.snd).Perm (R.map Prod.snd) ∧ Weak (ordC desc) (R'.map Prod.snd) ∧ RawL M w' R' ∧ Keep (At v) w w' := by
  obtain ⟨rfl, ⟨rfl, rfl⟩ | ⟨g, cap, rfl, hG, hg, _⟩⟩ := h.rawAt
  · exact (sort0_any 0 none _ w).mono fun e w' ⟨he, hw⟩ => ⟨he, [], by rw [hw]; exact h, List.Perm.refl _, List.Pairwise.nil, (fun x hx => by simp at hx), by rw [hw]; exact Keep.refl _ _⟩
  · have hat : ∀ b, At (.slice (some ⟨g, 0, none⟩) R.length cap) b ↔ b = g := fun b => by
      constructor
      · rintro ⟨n, c, e⟩
        simp only [Value.slice.injEq, Option.some.injEq, Addr.mk.injEq, and_true] at e
        exact e.1.symm
      · rintro rfl
        exact ⟨_, _, rfl⟩
    refine (sortFn_some desc h (fun b hb e => hM b hb ((hat b).2 e)) hL hn).mono ?_
    rintro e w' ⟨rfl, R', h1, h2, h3, h4, h5⟩
    exact ⟨rfl, R', h1, h2, h3, h4, h5.into fun b _ e => (hat b).2 e⟩

end Go.Proofs.Ytgcldnojmdabpaa
