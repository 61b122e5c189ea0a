/-
  Es.
-/
import Derived.Test.YtoobjjpheegmdaaGreatJ01
import Derived.Test.YtoobjjpheegmdaaGreatJ03
import Derived.Shelf.SlSortCmp.WholeK
import Derived.Shelf.SlSortCmp.QuietGrown
import Derived.Laws.EntriesVeiled
namespace Go.Proofs.YtoobjjpheegmdaaGreat.E4
open Go
def Strict (c : Ent → Ent → Int) (l : List Ent) : Prop := l.Pairwise fun a b => c a b = -1
def Weak (c : Ent → Ent → Int) (l : List Ent) : Prop := l.Pairwise fun a b => c b a ≠ -1
def Sorts (c : Ent → Ent → Int) (es out : List Ent) : Prop := Strict c out ∧ ∀ x, x ∈ out ↔ x ∈ es
theorem strict_unique {c : Ent → Ent → Int} (hc : LC c) : ∀ {l m : List Ent}, Strict c l → Strict c m → (∀ x, x ∈ l ↔ x ∈ m) → l = m
  | [], [], _, _, _ => rfl
  | [], b :: m, _, _, h => by
    have := (h b).2 (by simp)
    simp at this
  | a :: l, [], _, _, h => by
    have := (h a).1 (by simp)
    simp at this
  | a :: l, b :: m, hl, hm, h => by
    obtain ⟨h1, h2⟩ := List.pairwise_cons.1 hl
    obtain ⟨k1, k2⟩ := List.pairwise_cons.1 hm
    have irr : ∀ x, c x x ≠ -1 := fun x e => by rw [hc.refl] at e; omega
    have hab : a = b := by
      have ha := (h a).1 (by simp)
      have hb := (h b).2 (by simp)
      rcases List.mem_cons.1 ha with e | ha
      · exact e
      · rcases List.mem_cons.1 hb with e | hb
        · exact e.symm
        · exact absurd (hc.tr _ _ _ (h1 b hb) (k1 a ha)) (irr a)
    subst hab
    have : l = m := strict_unique hc h2 k2 fun x => by
      constructor
      · intro hx
        rcases List.mem_cons.1 ((h x).1 (by simp [hx])) with e | hx'
        · exact absurd (h1 x hx) (by rw [e]; exact irr a)
        · exact hx'
      · intro hx
        rcases List.mem_cons.1 ((h x).2 (by simp [hx])) with e | hx'
        · exact absurd (k1 x hx) (by rw [e]; exact irr a)
        · exact hx'
    rw [this]
theorem Sorts.unique {c : Ent → Ent → Int} (hc : LC c) {es fs l m : List Ent} (h : Sorts c es l) (k : Sorts c fs m) (he : ∀ x, x ∈ es ↔ x ∈ fs) : l = m :=
  strict_unique hc h.1 k.1 fun x => (h.2 x).trans ((he x).trans (k.2 x).symm)
theorem Strict.nil (c : Ent → Ent → Int) : Strict c [] := List.Pairwise.nil
theorem Strict.one (c : Ent → Ent → Int) (x : Ent) : Strict c [x] := List.pairwise_singleton _ _
theorem Strict.snoc {c : Ent → Ent → Int} (hc : LC c) {l : List Ent} {y : Ent} (h : Strict c (l ++ [y])) {x : Ent} (hx : c y x = -1) : Strict c (l ++ [y] ++ [x]) := by
  refine List.pairwise_append.2 ⟨h, List.pairwise_singleton _ _, fun a ha b hb => ?_⟩
  rw [List.mem_singleton.1 hb]
  rcases List.mem_append.1 ha with ha | ha
  · exact hc.tr _ _ _ ((List.pairwise_append.1 h).2.2 a ha y (by simp)) hx
  · rw [List.mem_singleton.1 ha]; exact hx
theorem strict_insert {c : Ent → Ent → Int} (hc : LC c) {l : List Ent} {k : Nat} {x : Ent} (hk : k ≤ l.length) (h : Strict c l) (h1 : ∀ i (hi : i < k), c (l[i]'(by omega)) x = -1) (h2 : ∀ i (hi : i < l.length), k ≤ i → c x l[i] = -1) :
    Strict c (l.take k ++ x :: l.drop k) := by
  refine List.pairwise_append.2 ⟨h.sublist (List.take_sublist _ _), List.pairwise_cons.2 ⟨fun b hb => ?_, h.sublist (List.drop_sublist _ _)⟩, fun a ha b hb => ?_⟩
  · obtain ⟨i, hi, rfl⟩ := List.getElem_of_mem hb
    rw [List.getElem_drop]
    exact h2 (k + i) _ (by omega)
  · obtain ⟨i, hi, rfl⟩ := List.getElem_of_mem ha
    have hik : i < k := by rw [List.length_take] at hi; omega
    rw [List.getElem_take]
    rcases List.mem_cons.1 hb with rfl | hb
    · exact h1 i hik
    · obtain ⟨j, hj, rfl⟩ := List.getElem_of_mem hb
      rw [List.getElem_drop]
      exact hc.tr _ _ _ (h1 i hik) (h2 (k + j) _ (by omega))
end Go.Proofs.YtoobjjpheegmdaaGreat.E4
namespace Go.Proofs.YtoobjjpheegmdaaGreat.E4
open Go.RowKit Go Go.Sort
structure SE (M : Nat → Prop) (w : World) where
  lv : Value
  ent : Ent
  ok : LabsAt M w lv ent.labs
instance (M : Nat → Prop) (w : World) : Inhabited (SE M w) := ⟨⟨.slice none 0 0, ⟨0, [], ⟨#[]⟩⟩, LabsAt.nil _ _⟩⟩
def SE.raw {M : Nat → Prop} {w : World} (s : SE M w) : Value × Ent := (s.lv, s.ent)
def SE.enc {M : Nat → Prop} {w : World} (s : SE M w) : List Value := rawC s.raw
theorem lt_ord {c : Int} (h : c = -1 ∨ c = 0 ∨ c = 1) : decide (c < 0) = decide (c = -1) := by
  rw [decide_eq_decide]; omega
theorem ltOf_eq {α β : Type} {c : β → β → Int} (hc : LC c) (f : α → β) (x y : α) : Go.Proofs.ltOf (fun x y => c (f x) (f y)) x y = decide (c (f x) (f y) = -1) := lt_ord (hc.tri _ _)
theorem swo_of {α β : Type} {c : β → β → Int} (hc : LC c) (f : α → β) : SWO (Go.Proofs.ltOf fun x y => c (f x) (f y)) where
  irrefl x := by
    rw [ltOf_eq hc f, hc.refl]
    rfl
  trans x y z h1 h2 := by
    rw [ltOf_eq hc f] at *
    simp only [decide_eq_true_eq] at *
    exact hc.tr _ _ _ h1 h2
  ntrans x y z h1 h2 := by
    rw [ltOf_eq hc f] at *
    simp only [decide_eq_false_iff_not] at *
    intro h3
    have a1 := hc.neg (f x) (f y)
    have a2 := hc.neg (f y) (f z)
    have t1 := hc.tri (f x) (f y)
    have t2 := hc.tri (f y) (f z)
    by_cases e1 : c (f x) (f y) = 0
    · rw [hc.eq _ _ e1] at h3; exact h2 h3
    · by_cases e2 : c (f y) (f z) = 0
      · rw [hc.eq _ _ e2] at h1; exact h1 h3
      · have b1 : c (f y) (f x) = -1 := by omega
        have b2 : c (f z) (f y) = -1 := by omega
        have b3 := hc.tr _ _ _ b2 b1
        have := hc.neg (f x) (f z)
        omega
theorem labs_sortWorld {M : Nat → Prop} {w : World} {g : Nat} (hM : ∀ b, M b → b ≠ g) (s : SE M w) (_hg : g < w.heap.size) (m : Nat) (os : Array Obj) (dk : Array (SE M w)) : LabsAt M (Go.Proofs.sortWorldK SE.enc 3 w g 0 m dk os) s.lv s.ent.labs := by
  refine s.ok.carry (Go.Proofs.size_sortWorldK_c _ _ _ _ _ _ _ _) fun b hb hlt => ?_
  unfold Go.Proofs.sortWorldK
  show ((putRowK SE.enc 3 (Sort.ahead w m) g 0 dk).heap ++ os)[b]? = _
  have hs : (putRowK SE.enc 3 (Sort.ahead w m) g 0 dk).heap.size = w.heap.size := by simp [putRowK, putRow, mapBlock, Sort.ahead]
  rw [Array.getElem?_append_left (by rw [hs]; exact hlt)]
  simp only [putRowK, putRow, mapBlock, Sort.ahead, Array.getElem?_modify]
  rw [if_neg (fun e => hM b hb e.symm)]
theorem keep_sortWorld {M : Nat → Prop} {w : World} {g : Nat} (m : Nat) (os : Array Obj) (dk : Array (SE M w)) : Keep (fun b => b = g) w (Go.Proofs.sortWorldK SE.enc 3 w g 0 m dk os) := by
  refine ⟨rfl, rfl, rfl, Go.Proofs.size_sortWorldK_c _ _ _ _ _ _ _ _, ?_, fun b hlt hb => ?_⟩
  · unfold Go.Proofs.sortWorldK
    show w.drawn ≤ w.drawn + m
    omega
  · unfold Go.Proofs.sortWorldK
    show ((putRowK SE.enc 3 (Sort.ahead w m) g 0 dk).heap ++ os)[b]? = _
    have hs : (putRowK SE.enc 3 (Sort.ahead w m) g 0 dk).heap.size = w.heap.size := by simp [putRowK, putRow, mapBlock, Sort.ahead]
    rw [Array.getElem?_append_left (by rw [hs]; exact hlt)]
    simp only [putRowK, putRow, mapBlock, Sort.ahead, Array.getElem?_modify]
    rw [if_neg (fun e => hb e.symm)]
theorem cmpLays_any (desc : Bool) {M : Nat → Prop} {w : World} {g : Nat} (hM : ∀ b, M b → b ≠ g) (hg : g < w.heap.size) (size : Nat) : Go.Proofs.CmpLays Tryz.prog (ordF desc) #[] (SE.enc (M := M) (w := w)) 3 (fun x y => ordC desc x.ent y.ent) g 0 size w := by
  intro m os dk _ x y
  have h := ordF_any desc (labs_sortWorld hM x hg m os dk) (labs_sortWorld hM y hg m os dk)
  exact h.mono fun e w' ⟨he, hl⟩ => ⟨he, hl.grown⟩
theorem eg_ordF (desc : Bool) : ∀ args w, (callFunc (ordF desc) args).run Tryz.prog w = .ok (.enter (ordF desc) args) w := by
  cases desc
  · exact Go.Proofs.enters_of Tryz.func109 (by kernel_rfl) rfl
  · exact Go.Proofs.enters_of Tryz.func110 (by kernel_rfl) rfl
set_option maxHeartbeats 1000000 in
theorem sort0_ins (cap : Nat) (a : Option Addr) (fv : Value) (w : World) : Calls Tryz.prog 123 #[.slice a 0 cap, .int .i64 0, .int .i64 0, fv] w fun e w' => e = .returned (.tuple #[]) ∧ w' = w := by
  go_enter Tryz.func123, Tryz.ntmps123
  go_wp2
  refine wp_loop_rounds 1 ?_
  rw [rounds_succ]
  go_wp2
  go_end0
  exact ⟨rfl, rfl⟩
set_option maxHeartbeats 2000000 in
theorem sort0_pdq (cap : Nat) (a : Option Addr) (lim : Int) (fv : Value) (w : World) : Calls Tryz.prog 111 #[.slice a 0 cap, .int .i64 0, .int .i64 0, .int .i64 lim, fv] w fun e w' => e = .returned (.tuple #[]) ∧ w' = w := by
  go_enter Tryz.func111, Tryz.ntmps111
  go_wp2
  refine wp_loop_rounds 1 ?_
  rw [rounds_succ]
  go_wp2_with (go_at_call 123; refine (sort0_ins _ _ _ _).mono ?_; rintro e w' ⟨rfl, rfl⟩)
  (try simp only [Exit.inBlock, Exit.then]); refine bodyPost_ret (results_none rfl _ _ _) rfl ?_
  exact ⟨rfl, rfl⟩
set_option maxHeartbeats 2000000 in
theorem sort0_any (cap : Nat) (a : Option Addr) (fv : Value) (w : World) : Calls Tryz.prog 90 #[.slice a 0 cap, fv] w fun e w' => e = .returned (.tuple #[]) ∧ w' = w := by
  have hl : ∀ W, Calls Tryz.prog 112 #[.int .u64 0] W fun e w' => (∃ l : Int, e = .returned (.int .i64 l)) ∧ w' = W := fun W =>
    (Go.Proofs.Any.bits_Len (Go.Proofs.SlLaysF0.n15.bits (P := Tryz.prog) (ρ := Tryz.sortEnt_ren) { Tryz.sortEnt with }) 0 W (by omega) (by omega)).mono fun _ _ ⟨he, hw⟩ => ⟨⟨_, he⟩, hw⟩
  go_enter Tryz.func90, Tryz.ntmps90
  go_wp2_with (first | (go_at_call 112; refine (hl _).mono ?_; rintro e w' ⟨⟨l, rfl⟩, rfl⟩) | (go_at_call 111; refine (sort0_pdq _ _ _ _ _).mono ?_; rintro e w' ⟨rfl, rfl⟩))
  go_end0
  exact ⟨rfl, rfl⟩
def rawsOf {M : Nat → Prop} {w : World} (d : Array (SE M w)) : List (Value × Ent) := d.toList.map SE.raw
theorem rawsOf_get {M : Nat → Prop} {w : World} (d : Array (SE M w)) (i : Nat) (h : i < d.size) : (rawsOf d)[i]'(by simpa [rawsOf] using h) = (d[i]!).raw := by
  simp [rawsOf, getElem!_pos, h]
theorem flat_of {M : Nat → Prop} {w : World} (d : Array (SE M w)) (j : Nat) (hj : j < d.size * 3) : (flatR (rawsOf d))[j]? = some ((flatK SE.enc 3 d)[j]!) := by
  have hl : (rawsOf d).length = d.size := by simp [rawsOf]
  have hi : j / 3 < d.size := by omega
  have hg := flatR_get (rawsOf d) (j / 3) (by omega) (j % 3) (by omega)
  rw [show j / 3 * 3 + j % 3 = j by omega, rawsOf_get d (j / 3) hi] at hg
  rw [hg, get_flatK _ _ _ _ hj]
  have hm : j % 3 = 0 ∨ j % 3 = 1 ∨ j % 3 = 2 := by omega
  rcases hm with hm | hm | hm <;> rw [hm] <;> rfl
theorem sortFn_some (desc : Bool) {G M : Nat → Prop} {w : World} {g cap : Nat} {R : List (Value × Ent)} (h : Rk 3 G w (.slice (some ⟨g, 0, none⟩) R.length cap) R.length (flatR R)) (hM : ∀ b, M b → b ≠ g) (hL : RawL M w R) (hn : R.length ≤ 1000000) :
    Calls Tryz.prog 90 #[.slice (some ⟨g, 0, none⟩) R.length cap, .func (.func (ordF desc)) #[] #[]] w fun e w' => e = .returned (.tuple #[]) ∧ ∃ R', Rk 3 G w' (.slice (some ⟨g, 0, none⟩) R.length cap) R.length (flatR R') ∧ (R'.map Prod.snd).Perm (R.map Prod.snd) ∧ Weak (ordC desc) (R'.map Prod.snd) ∧ RawL M w' R' ∧ Keep (fun b => b = g) w w' := by
  obtain ⟨h0, h | ⟨g', cap', hv, hG, hg, hle, hm, hc, hf⟩⟩ := h
  · cases h.1
  simp only [Value.slice.injEq, Option.some.injEq, Addr.mk.injEq, and_true, true_and] at hv
  obtain ⟨rfl, rfl⟩ := hv
  obtain ⟨D, hD⟩ : ∃ D : List (SE M w), D.map SE.raw = R := by
    have : ∀ l : List (Value × Ent), (∀ x ∈ l, x ∈ R) → ∃ D : List (SE M w), D.map SE.raw = l := by
      intro l
      induction l with
      | nil => exact fun _ => ⟨[], rfl⟩
      | cons x r ih =>
        intro hx
        obtain ⟨D, hD⟩ := ih fun y hy => hx y (by simp [hy])
        exact ⟨⟨x.1, x.2, hL x (hx x (by simp))⟩ :: D, by rw [List.map_cons, hD]; rfl⟩
    exact this R fun _ h => h
  obtain ⟨d, hd⟩ : ∃ d : Array (SE M w), d = D.toArray := ⟨_, rfl⟩
  have hR : rawsOf d = R := by rw [hd]; simpa [rawsOf] using hD
  have hsz : d.size = R.length := by rw [← hR]; simp [rawsOf]
  have hH : HoldsK SE.enc 3 w g 0 d := by
    intro j hj
    rw [size_flatK] at hj
    have e := flat_of d j hj
    rw [hR] at e
    rw [Nat.zero_add]
    refine ⟨?_, (hf j (by omega)).2⟩
    rw [hc j (by rw [flatR_length]; omega), e]
    rfl
  have hcon := Go.Proofs.AnyQ.slices_SortFunc Tryz.sortEnt 3 Tryz.isAgg32 Tryz.sizeOf32 (SE.enc (M := M) (w := w)) (fun _ => rfl)
    (fun x v hv => by
      simp only [SE.enc, rawC, List.mem_cons, List.not_mem_nil, or_false] at hv
      rcases hv with rfl | rfl | rfl
      · rfl
      · exact x.ok.one
      · rfl)
    (fun x y => ordC desc x.ent y.ent) (swo_of (ordC_lc desc) (fun s : SE M w => s.ent)) (ordF desc) #[] g 0 cap d w (eg_ordF desc) (cmpLays_any desc hM hg d.size) hH hg (by omega)
  rw [hsz] at hcon
  refine Calls.mono (f := 90) hcon ?_
  rintro e w' ⟨rfl, d', n, os, hp, hs, rfl⟩
  have hsz' : d'.size = d.size := hp.1
  have hH' := Go.Proofs.holdsK_sortWorldK_c SE.enc 3 w g 0 d d' n os hH hg hsz'
  have hkeep := keep_sortWorld (M := M) (w := w) (g := g) n os d'
  have hperm : d'.toList.Perm d.toList := by
    have := hp.2.2
    rwa [show (d'.extract 0 R.length) = d' from by rw [← hsz, ← hsz']; simp, show (d.extract 0 R.length) = d from by rw [← hsz]; simp] at this
  refine ⟨rfl, rawsOf d', ⟨?_, .inr ⟨g, cap, rfl, hG, Nat.lt_of_lt_of_le hg hkeep.size, hle, hm, fun j hj => ?_, fun j hj => ?_⟩⟩, ?_, ?_, ?_, hkeep⟩
  · rw [flatR_length]; simp [rawsOf, hsz', hsz]
  · rw [flatR_length] at hj
    have hj' : j < d'.size * 3 := by simpa [rawsOf] using hj
    have := (hH' j (by rw [size_flatK]; exact hj')).1
    rw [Nat.zero_add] at this
    rw [this, flat_of d' j hj']
    rfl
  · by_cases hin : j < d'.size * 3
    · have := hH' j (by rw [size_flatK]; exact hin)
      rw [Nat.zero_add] at this
      exact ⟨by rw [this.1]; rfl, this.2⟩
    · have e : ∀ (W : World), W = Go.Proofs.sortWorldK SE.enc 3 w g 0 n d' os → W.heap[g]? = (putRowK SE.enc 3 (Sort.ahead w n) g 0 d').heap[g]? := by
        rintro W rfl
        unfold Go.Proofs.sortWorldK
        show ((putRowK SE.enc 3 (Sort.ahead w n) g 0 d').heap ++ os)[g]? = _
        have hs2 : (putRowK SE.enc 3 (Sort.ahead w n) g 0 d').heap.size = w.heap.size := by simp [putRowK, putRow, mapBlock, Sort.ahead]
        rw [Array.getElem?_append_left (by rw [hs2]; exact hg)]
      have e' := e _ rfl
      rw [World.cell?_of_block (a := ⟨g, j, none⟩) e', World.frozen?_of_block (a := ⟨g, j, none⟩) e']
      have hc2 : (putRowK SE.enc 3 (Sort.ahead w n) g 0 d').cell? ⟨g, j, none⟩ = w.cell? ⟨g, j, none⟩ := cell?_putRow_other id (Sort.ahead w n) g 0 _ _ (by right; right; rw [size_flatK]; show 0 + _ ≤ j; omega)
      have hf2 : (putRowK SE.enc 3 (Sort.ahead w n) g 0 d').frozen? ⟨g, j, none⟩ = w.frozen? ⟨g, j, none⟩ := frozen?_putRow id (Sort.ahead w n) g 0 _ _
      rw [hc2, hf2]
      exact hf j hj
  · have := (hperm.map SE.raw).map Prod.snd
    rw [show (d.toList.map SE.raw) = R from hR] at this
    exact this
  · refine List.pairwise_iff_getElem.2 fun i j hi hj hij => ?_
    have hi' : i < d'.size := by simpa [rawsOf] using hi
    have hj' : j < d'.size := by simpa [rawsOf] using hj
    have := hs i j (Nat.zero_le _) hij (by omega)
    rw [ltOf_eq (ordC_lc desc) (fun s : SE M w => s.ent)] at this
    rw [List.getElem_map, List.getElem_map, rawsOf_get d' i hi', rawsOf_get d' j hj']
    exact of_decide_eq_false this
  · intro x hx
    obtain ⟨s, _, rfl⟩ := List.mem_map.1 hx
    exact labs_sortWorld hM s hg n os d'
theorem sortFn_any (desc : Bool) {G M : Nat → Prop} {w : World} {v : Value} {n : Nat} {R : List (Value × Ent)} (h : Rk 3 G w v n (flatR R)) (hM : ∀ b, M b → ¬ At v b) (hL : RawL M w R) (hn : n ≤ 1000000) :
    Calls Tryz.prog 90 #[v, .func (.func (ordF desc)) #[] #[]] w fun e w' => e = .returned (.tuple #[]) ∧ ∃ R', Rk 3 G w' v n (flatR R') ∧ (R'.map Prod.snd).Perm (R.map Prod.snd) ∧ Weak (ordC desc) (R'.map Prod.snd) ∧ RawL M w' R' ∧ Keep (At v) w w' := by
  obtain ⟨rfl, ⟨rfl, rfl⟩ | ⟨g, cap, rfl, hG, hg, _⟩⟩ := h.rawAt
  · exact (sort0_any 0 none _ w).mono fun e w' ⟨he, hw⟩ => ⟨he, [], by rw [hw]; exact h, List.Perm.refl _, List.Pairwise.nil, (fun x hx => by simp at hx), by rw [hw]; exact Keep.refl _ _⟩
  · have hat : ∀ b, At (.slice (some ⟨g, 0, none⟩) R.length cap) b ↔ b = g := fun b => by
      constructor
      · rintro ⟨n, c, e⟩
        simp only [Value.slice.injEq, Option.some.injEq, Addr.mk.injEq, and_true] at e
        exact e.1.symm
      · rintro rfl
        exact ⟨_, _, rfl⟩
    refine (sortFn_some desc h (fun b hb e => hM b hb ((hat b).2 e)) hL hn).mono ?_
    rintro e w' ⟨rfl, R', h1, h2, h3, h4, h5⟩
    exact ⟨rfl, R', h1, h2, h3, h4, h5.into fun b _ e => (hat b).2 e⟩
end Go.Proofs.YtoobjjpheegmdaaGreat.E4
namespace Go.Proofs.YtoobjjpheegmdaaGreat.E4
open Go.RowKit Go
set_option maxHeartbeats 2000000 in
set_option maxRecDepth 100000 in
theorem eq_any (desc : Bool) {G H : Nat → Prop} {w : World} {x y : Ent} {xl yl : Value} (hx : LabsAt G w xl x.labs) (hy : LabsAt H w yl y.labs) (c : Nat) (hc : w.cell? ⟨c, 0, none⟩ = some (.func (.func (ordF desc)) #[] #[])) (hlt : c < w.heap.size) :
    Calls Tryz.prog 92 #[x.val xl, y.val yl, .pointer (some ⟨c, 0, none⟩)] w fun e w' => e = .returned (.bool (decide (ordC desc x y = 0))) ∧ Lay w w' := by
  obtain ⟨a, ca, rfl, _⟩ := id hx
  obtain ⟨b, cb, rfl, _⟩ := id hy
  have HL0 : Hid (Lay w ((w.alloc (.cells #[.int .i64 x.tm, .slice a x.labs.length ca, .string x.line] 32)).alloc (.cells #[.int .i64 y.tm, .slice b y.labs.length cb, .string y.line] 32))) := Lib.hid (((Keep.refl _ _).alloc _).alloc _)
  have H1 := Lib.hid (ordF_any desc (hx.lay HL0.out) (hy.lay HL0.out))
  unfold Ent.val at H1 ⊢
  clear hx hy
  generalize ordC desc x y = r at H1
  cases desc
  all_goals
    by_cases h0 : r = 0
    · subst h0
      go_enter Tryz.func92, Tryz.ntmps92
      go_wp2_with fail
      refine H1.out.mono ?_
      rintro e w1 ⟨rfl, hl1⟩
      go_wp2_with fail
      go_ret
      exact ⟨by simp, Keep.trans HL0.out hl1⟩
    · have hz : (r == 0) = false := by simpa using h0
      rw [decide_eq_false h0]
      clear h0
      go_enter Tryz.func92, Tryz.ntmps92
      go_wp2_with fail
      refine H1.out.mono ?_
      rintro e w1 ⟨rfl, hl1⟩
      go_wp2_with fail
      go_ret
      exact ⟨by simp, Keep.trans HL0.out hl1⟩
theorem grown_of_lay {f : Nat} {args : Array Value} {w : World} {n : Nat} {os : Array Obj} {v : Value} (h : Calls Tryz.prog f args (Sort.grow (w.drewN n) os) fun e w' => e = .returned v ∧ Lay (Sort.grow (w.drewN n) os) w') :
    Calls Tryz.prog f args (Sort.grow (w.drewN n) os) fun e w'' => e = .returned v ∧ ∃ p : GrownBy, w'' = Sort.grow (w.drewN p.n) p.os :=
  Calls.grown_of (h.mono fun _ _ ⟨he, hl⟩ => ⟨he, hl.grown⟩)
theorem mem_zeroCells {cells : Array Value} {n : Nat} {u : Value} (h : u ∈ (Builtin.zeroCells cells n).toList) : u ∈ cells.toList := by
  unfold Builtin.zeroCells at h
  rw [Array.toList_map, List.mem_map] at h
  obtain ⟨i, hi, rfl⟩ := h
  rw [Array.toList_range, List.mem_range] at hi
  have hp : 0 < cells.size := by
    rcases Nat.eq_zero_or_pos cells.size with h0 | h0
    · rw [h0, Nat.mul_zero] at hi; omega
    · exact h0
  have hlt := Nat.mod_lt i hp
  rw [getElem!_pos cells _ hlt]
  exact Array.mem_toList_iff.2 (Array.getElem_mem _)
theorem run_clear_k (w : World) (t e ty : TypeId) (z : Value) (k : Nat) (ht : Tryz.prog.underlying t = some (.slice e)) (hv : ∀ w, (zeroValue e).run Tryz.prog w = .ok z w) (hz : z.cells.size = k) (h1 : ∀ u ∈ z.cells.toList, u.oneCell' = true) (b o n c : Nat) (hn : 0 < n)
    (hc : ∀ j, j < n * k → (w.cell? ⟨b, o + j, none⟩).isSome = true) (hf : ∀ j, j < n * k → w.frozen? ⟨b, o + j, none⟩ = false) :
    (Builtin.clear_ #[t] ty #[.slice (some ⟨b, o, none⟩) n c]).run Tryz.prog w = .ok (.tuple #[]) (w.setCells b o (Builtin.zeroCells z.cells n).toList) := by
  have hl : (Builtin.zeroCells z.cells n).toList.length = n * k := by rw [Array.length_toList, size_zeroCells, hz]
  have hst := run_storeCells_cells (P := Tryz.prog) b o (Builtin.zeroCells z.cells n).toList 0 w (by rw [hl]; simpa using hc) (by rw [hl]; simpa using hf) (by intro v hv'; exact h1 v (mem_zeroCells hv'))
  simp only [Nat.add_zero] at hst
  obtain ⟨m, rfl⟩ : ∃ m, n = m + 1 := ⟨n - 1, by omega⟩
  simp [Builtin.clear_, run_underlying ht, hv, hst]
structure CI (M : Nat → Prop) (desc : Bool) (w : World) (g cap : Nat) (R : List (Value × Ent)) (i0 i k : Nat) (C : List (Value × Ent)) (wr : World) : Prop where
  len : C.length = i
  lt : i + 1 ≤ i0 + k
  one : 1 ≤ i0
  pos : 1 ≤ k
  le : i0 + k ≤ R.length
  keep : Keep (fun b => b = g) w wr
  done : RawAt wr g 0 C
  rest : ∀ j (h : j < R.length), i0 + k ≤ j + 1 → wr.cell? ⟨g, j * 3, none⟩ = some (.int .i64 R[j].2.tm) ∧ wr.cell? ⟨g, j * 3 + 1, none⟩ = some R[j].1 ∧ wr.cell? ⟨g, j * 3 + 2, none⟩ = some (.string R[j].2.line)
  ex : ∀ j, j < cap * 3 → (wr.cell? ⟨g, j, none⟩).isSome = true ∧ wr.frozen? ⟨g, j, none⟩ = false
  labs : RawL M w C
  strict : Strict (ordC desc) (C.map Prod.snd)
  mem : ∀ x, x ∈ C.map Prod.snd ↔ x ∈ (R.take (i0 + k)).map Prod.snd
  last : ∃ C0 z, C = C0 ++ [z] ∧ ∀ h : i0 + k - 1 < R.length, z.2 = R[i0 + k - 1].2
theorem CI.lay {M : Nat → Prop} {desc : Bool} {w : World} {g cap : Nat} {R : List (Value × Ent)} {i0 i k : Nat} {C : List (Value × Ent)} {wr wr' : World} (h : CI M desc w g cap R i0 i k C wr) (hg : g < w.heap.size) (hl : Lay wr wr') : CI M desc w g cap R i0 i k C wr' := by
  have hgw : g < wr.heap.size := Nat.lt_of_lt_of_le hg h.keep.size
  refine ⟨h.len, h.lt, h.one, h.pos, h.le, h.keep.trans hl.keep, h.done.lay hgw hl, fun j hj hk => ?_, fun j hj => ?_, h.labs, h.strict, h.mem, h.last⟩
  · obtain ⟨a, b, c⟩ := h.rest j hj hk
    exact ⟨(hl.cell hgw).trans a, (hl.cell hgw).trans b, (hl.cell hgw).trans c⟩
  · rw [World.cell?_of_block (a := ⟨g, j, none⟩) (hl.block hgw), World.frozen?_of_block (a := ⟨g, j, none⟩) (hl.block hgw)]
    exact h.ex j hj
theorem take_snocE {R : List (Value × Ent)} {n : Nat} (h : n < R.length) : (R.take (n + 1)).map Prod.snd = (R.take n).map Prod.snd ++ [R[n].2] := by
  rw [List.take_succ_eq_append_getElem h, List.map_append]; rfl
theorem CI.skip {M : Nat → Prop} {desc : Bool} {w : World} {g cap : Nat} {R : List (Value × Ent)} {i0 i k : Nat} {C : List (Value × Ent)} {wr : World} (h : CI M desc w g cap R i0 i k C wr) (hlt : i0 + k < R.length) (he : ordC desc R[i0 + k].2 (R[i0 + k - 1]'(by omega)).2 = 0) : CI M desc w g cap R i0 i (k + 1) C wr := by
  have hl := h.lt
  have ho := h.one
  refine ⟨h.len, by omega, h.one, by omega, by omega, h.keep, h.done, fun j hj hk => h.rest j hj (by omega), h.ex, h.labs, h.strict, fun x => ?_, ?_⟩
  · rw [h.mem x, ← Nat.add_assoc, take_snocE hlt, List.mem_append, List.mem_singleton]
    constructor
    · exact .inl
    · rintro (hx | rfl)
      · exact hx
      · rw [(ordC_lc desc).eq _ _ he]
        exact List.mem_map_of_mem (List.mem_take_iff_getElem.2 ⟨i0 + k - 1, by omega, rfl⟩)
  · obtain ⟨C0, z, hC, hz⟩ := h.last
    refine ⟨C0, z, hC, fun h' => ?_⟩
    rw [hz (by omega)]
    have := (ordC_lc desc).eq _ _ he
    simp only [← Nat.add_assoc, Nat.add_sub_cancel]
    exact this.symm
theorem CI.put {M : Nat → Prop} {desc : Bool} {w : World} {g cap : Nat} {R : List (Value × Ent)} {i0 i k : Nat} {C : List (Value × Ent)} {wr : World} (h : CI M desc w g cap R i0 i k C wr) (hg : g < w.heap.size) (hle : R.length ≤ cap) (hlt : i0 + k < R.length) (hL : RawL M w R) (hw : Weak (ordC desc) (R.map Prod.snd)) (he : ¬ ordC desc R[i0 + k].2 (R[i0 + k - 1]'(by omega)).2 = 0) :
    CI M desc w g cap R i0 (i + 1) (k + 1) (C ++ [R[i0 + k]]) (wr.setCells g (i * 3) (rawC R[i0 + k])) := by
  have hl := h.lt
  have ho := h.one
  have hgw : g < wr.heap.size := Nat.lt_of_lt_of_le hg h.keep.size
  have hcl := h.len
  have out : ∀ o, (o < i * 3 ∨ i * 3 + 3 ≤ o) → (wr.setCells g (i * 3) (rawC R[i0 + k])).cell? ⟨g, o, none⟩ = wr.cell? ⟨g, o, none⟩ := fun o ho => World.cell?_setCells_out g _ _ _ _ (fun _ _ => by show o < i * 3 ∨ i * 3 + (rawC R[i0 + k]).length ≤ o; simpa [rawC] using ho)
  have inn : ∀ j, j < 3 → (wr.setCells g (i * 3) (rawC R[i0 + k])).cell? ⟨g, i * 3 + j, none⟩ = (rawC R[i0 + k])[j]? := fun j hj => by
    have hj' : j < (rawC R[i0 + k]).length := by simpa [rawC] using hj
    rw [World.cell?_setCells_in g (rawC R[i0 + k]) (i * 3) wr (fun j hj => (h.ex _ (by simp [rawC] at hj; omega)).1) j hj', List.getElem?_eq_getElem hj']
  refine ⟨by simp [hcl], by omega, h.one, by omega, by omega, h.keep.trans (keep_setCells _ _ _ _ _ rfl), fun j hj => ?_, fun j hj hk => ?_, fun j hj => ⟨?_, ?_⟩, fun x hx => ?_, ?_, fun x => ?_, ?_⟩
  · rw [List.length_append, List.length_singleton, hcl] at hj
    by_cases hji : j < i
    · rw [List.getElem_append_left (by omega)]
      obtain ⟨a, b, c⟩ := h.done j (by omega)
      refine ⟨?_, ?_, ?_⟩
      · rw [Nat.zero_add, out _ (by omega)]; simpa using a
      · rw [Nat.zero_add, out _ (by omega)]; simpa using b
      · rw [Nat.zero_add, out _ (by omega)]; simpa using c
    · obtain rfl : j = i := by omega
      rw [List.getElem_append_right (by omega)]
      simp only [hcl, Nat.sub_self, List.getElem_singleton, Nat.zero_add]
      exact ⟨by simpa [rawC] using inn 0 (by omega), by simpa [rawC] using inn 1 (by omega), by simpa [rawC] using inn 2 (by omega)⟩
  · obtain ⟨a, b, c⟩ := h.rest j hj (by omega)
    exact ⟨(out _ (by omega)).trans a, (out _ (by omega)).trans b, (out _ (by omega)).trans c⟩
  · by_cases hin : i * 3 ≤ j ∧ j < i * 3 + 3
    · have := inn (j - i * 3) (by omega)
      rw [show i * 3 + (j - i * 3) = j by omega] at this
      rw [this, List.getElem?_eq_getElem (by simp [rawC]; omega)]
      rfl
    · rw [out j (by omega)]
      exact (h.ex j hj).1
  · rw [World.frozen?_setCells]
    exact (h.ex j hj).2
  · rcases List.mem_append.1 hx with hx | hx
    · exact h.labs x hx
    · rw [List.mem_singleton.1 hx]
      exact hL _ (List.getElem_mem hlt)
  · obtain ⟨C0, z, hC, hz⟩ := h.last
    have hs := h.strict
    rw [hC, List.map_append] at hs ⊢
    rw [List.map_append]
    refine Strict.snoc (ordC_lc desc) hs ?_
    rw [hz (by omega)]
    have hwk : ordC desc R[i0 + k].2 (R[i0 + k - 1]'(by omega)).2 ≠ -1 := by
      have := List.pairwise_iff_getElem.1 hw (i0 + k - 1) (i0 + k) (by simp; omega) (by simp; omega) (by omega)
      simpa using this
    have hn := (ordC_lc desc).neg (R[i0 + k].2) (R[i0 + k - 1]'(by omega)).2
    have ht := (ordC_lc desc).tri (R[i0 + k].2) (R[i0 + k - 1]'(by omega)).2
    omega
  · rw [List.map_append, List.mem_append, h.mem x, ← Nat.add_assoc, take_snocE hlt, List.mem_append]
    simp
  · refine ⟨C, R[i0 + k], rfl, fun h' => ?_⟩
    simp only [← Nat.add_assoc, Nat.add_sub_cancel]
theorem CI.fin {M : Nat → Prop} {desc : Bool} {w : World} {g cap : Nat} {R : List (Value × Ent)} {i0 k : Nat} {C : List (Value × Ent)} {wr : World} (h : CI M desc w g cap R i0 C.length k C wr) (hM : ∀ b, M b → b ≠ g) (hk : i0 + k = R.length) (hle : R.length ≤ cap) (Z : List Value) (hZ : Z.length = (R.length - C.length) * 3) :
    RawAt (wr.setCells g (C.length * 3) Z) g 0 C ∧ (∀ j, j < cap * 3 → ((wr.setCells g (C.length * 3) Z).cell? ⟨g, j, none⟩).isSome = true ∧ (wr.setCells g (C.length * 3) Z).frozen? ⟨g, j, none⟩ = false) ∧
      RawL M (wr.setCells g (C.length * 3) Z) C ∧ Sorts (ordC desc) (R.map Prod.snd) (C.map Prod.snd) ∧ Keep (fun b => b = g) w (wr.setCells g (C.length * 3) Z) := by
  have hl := h.lt
  have out : ∀ o, (o < C.length * 3 ∨ C.length * 3 + Z.length ≤ o) → (wr.setCells g (C.length * 3) Z).cell? ⟨g, o, none⟩ = wr.cell? ⟨g, o, none⟩ := fun o ho => World.cell?_setCells_out g _ _ _ _ (fun _ _ => ho)
  have hkeep : Keep (fun b => b = g) w (wr.setCells g (C.length * 3) Z) := h.keep.trans (keep_setCells _ _ _ _ _ rfl)
  refine ⟨fun j hj => ?_, fun j hj => ⟨?_, ?_⟩, h.labs.keep hkeep fun b hb _ => hM b hb, ⟨h.strict, fun x => ?_⟩, hkeep⟩
  · obtain ⟨a, b, c⟩ := h.done j hj
    exact ⟨(out _ (by omega)).trans a, (out _ (by omega)).trans b, (out _ (by omega)).trans c⟩
  · by_cases hin : C.length * 3 ≤ j ∧ j < C.length * 3 + Z.length
    · have hj' : j - C.length * 3 < Z.length := by omega
      have := World.cell?_setCells_in g Z (C.length * 3) wr (fun q hq => (h.ex _ (by omega)).1) (j - C.length * 3) hj'
      rw [show C.length * 3 + (j - C.length * 3) = j by omega] at this
      rw [this]
      rfl
    · rw [out j (by omega)]
      exact (h.ex j hj).1
  · rw [World.frozen?_setCells]
    exact (h.ex j hj).2
  · rw [h.mem x, hk, List.take_length]
theorem CI.start {M : Nat → Prop} {desc : Bool} {w : World} {g cap : Nat} {R : List (Value × Ent)} {i0 : Nat} {wr : World} (hg : g < w.heap.size) (h1 : 1 ≤ i0) (hlt : i0 < R.length) (hraw : RawAt w g 0 R) (hf : ∀ j, j < cap * 3 → (w.cell? ⟨g, j, none⟩).isSome = true ∧ w.frozen? ⟨g, j, none⟩ = false) (hL : RawL M w R) (hl : Lay w wr)
    (hs : Strict (ordC desc) ((R.take i0).map Prod.snd)) (he : ordC desc R[i0].2 (R[i0 - 1]'(by omega)).2 = 0) : CI M desc w g cap R i0 i0 1 (R.take i0) wr := by
  have hcell : ∀ j (h : j < R.length), wr.cell? ⟨g, j * 3, none⟩ = some (.int .i64 R[j].2.tm) ∧ wr.cell? ⟨g, j * 3 + 1, none⟩ = some R[j].1 ∧ wr.cell? ⟨g, j * 3 + 2, none⟩ = some (.string R[j].2.line) := fun j hj => by
    obtain ⟨a, b, c⟩ := hraw j hj
    rw [Nat.zero_add] at a b c
    exact ⟨(hl.cell hg).trans a, (hl.cell hg).trans b, (hl.cell hg).trans c⟩
  refine ⟨by rw [List.length_take]; omega, by omega, h1, Nat.le_refl _, by omega, hl.keep, fun j hj => ?_, fun j hj _ => hcell j hj, fun j hj => ?_, fun x hx => hL x (List.mem_of_mem_take hx), hs, fun x => ?_, ?_⟩
  · rw [List.length_take] at hj
    rw [List.getElem_take, Nat.zero_add]
    exact hcell j (by omega)
  · rw [World.cell?_of_block (a := ⟨g, j, none⟩) (hl.block hg), World.frozen?_of_block (a := ⟨g, j, none⟩) (hl.block hg)]
    exact hf j hj
  · rw [take_snocE hlt, List.mem_append, List.mem_singleton]
    constructor
    · exact .inl
    · rintro (hx | rfl)
      · exact hx
      · rw [(ordC_lc desc).eq _ _ he]
        exact List.mem_map_of_mem (List.mem_take_iff_getElem.2 ⟨i0 - 1, by omega, rfl⟩)
  · refine ⟨R.take (i0 - 1), R[i0 - 1]'(by omega), ?_, fun h' => ?_⟩
    · have := List.take_succ_eq_append_getElem (l := R) (i := i0 - 1) (by omega)
      rwa [show i0 - 1 + 1 = i0 by omega] at this
    · simp only [Nat.add_sub_cancel]
      rw [(ordC_lc desc).eq _ _ he]
set_option maxHeartbeats 8000000 in
set_option maxRecDepth 100000 in
theorem compact_some (desc : Bool) {M : Nat → Prop} {w : World} {g cap : Nat} {R : List (Value × Ent)} (hg : g < w.heap.size) (hle : R.length ≤ cap) (hraw : RawAt w g 0 R) (hf : ∀ j, j < cap * 3 → (w.cell? ⟨g, j, none⟩).isSome = true ∧ w.frozen? ⟨g, j, none⟩ = false)
    (hM : ∀ b, M b → b ≠ g) (hL : RawL M w R) (hn : R.length ≤ 1000000) (hw : Weak (ordC desc) (R.map Prod.snd)) (c : Nat) (hc : w.cell? ⟨c, 0, none⟩ = some (.func (.func (ordF desc)) #[] #[])) (hlt : c < w.heap.size) (hcg : c ≠ g) :
    Calls Tryz.prog 91 #[.slice (some ⟨g, 0, none⟩) R.length cap, .func (.func 92) #[] #[.pointer (some ⟨c, 0, none⟩)]] w fun e w' =>
      ∃ R', e = .returned (.slice (some ⟨g, 0, none⟩) R'.length cap) ∧ R'.length ≤ cap ∧ RawAt w' g 0 R' ∧ (∀ j, j < cap * 3 → (w'.cell? ⟨g, j, none⟩).isSome = true ∧ w'.frozen? ⟨g, j, none⟩ = false) ∧ RawL M w' R' ∧ Sorts (ordC desc) (R.map Prod.snd) (R'.map Prod.snd) ∧ Keep (fun b => b = g) w w' := by
  have HRAW := Lib.hid hraw
  have HF := Lib.hid hf
  have HRL := Lib.hid hL
  have HW := Lib.hid hw
  have HC := Lib.hid hc
  clear hraw hf hL hw hc
  by_cases h2 : R.length < 2
  · have d2 : decide ((R.length : Int) < 2) = true := by simp; omega
    go_enter Tryz.func91, Tryz.ntmps91
    go_wp2_with fail
    go_ret
    refine ⟨R, rfl, hle, HRAW.out, HF.out, HRL.out, ⟨?_, fun x => Iff.rfl⟩, Keep.refl _ _⟩
    match R, h2 with
    | [], _ => exact Strict.nil _
    | [a], _ => exact Strict.one _ _
  · have d2 : decide ((R.length : Int) < 2) = false := by simp; omega
    go_enter Tryz.func91, Tryz.ntmps91
    go_wp2_with fail
    clear d2
    go_loopw [5] (fun vi wr => ∃ k : Nat, vi = .int .i64 k ∧ 1 ≤ k ∧ k ≤ R.length ∧ Lay w wr ∧ Strict (ordC desc) ((R.take k).map Prod.snd)) (fun vi _ => R.length - (intOf vi).toNat)
    case atStart =>
      refine ⟨1, rfl, Nat.le_refl _, by omega, Keep.refl _ _, ?_⟩
      match R, h2 with
      | a :: r, _ => exact Strict.one _ _
    case round =>
      obtain ⟨k, rfl, hk1, hk, hl, hs⟩ := hrel
      have HS := Lib.hid hs
      have HL := Lib.hid hl
      clear hs
      by_cases hkl : k < R.length
      · have e1 := HRAW.out k hkl
        have e0 := HRAW.out (k - 1) (by omega)
        have l1 := HRL.out _ (List.getElem_mem hkl)
        have l0 := HRL.out _ (List.getElem_mem (show k - 1 < R.length by omega))
        obtain ⟨x, hxk⟩ : ∃ x, R[k] = x := ⟨_, rfl⟩
        obtain ⟨y, hyk⟩ : ∃ y, R[k - 1]'(by omega) = y := ⟨_, rfl⟩
        rw [hxk] at e1 l1
        rw [hyk] at e0 l0
        obtain ⟨xl, xe⟩ := x
        obtain ⟨yl, ye⟩ := y
        have E1 := Lib.hid e1
        have E0 := Lib.hid e0
        have hgw : g < wr.heap.size := Nat.lt_of_lt_of_le hg hl.size
        simp only [Nat.zero_add] at e1 e0
        have f0 := fun n os => cell_grown (n := n) (os := os) (by exact hgw) ((hl.cell hg).trans e1.1)
        have f1 := fun n os => cell_grown (n := n) (os := os) (by exact hgw) ((hl.cell hg).trans e1.2.1)
        have f2 := fun n os => cell_grown (n := n) (os := os) (by exact hgw) ((hl.cell hg).trans e1.2.2)
        have y0 := fun n os => cell_grown (n := n) (os := os) (by exact hgw) ((hl.cell hg).trans e0.1)
        have y1 := fun n os => cell_grown (n := n) (os := os) (by exact hgw) ((hl.cell hg).trans e0.2.1)
        have y2 := fun n os => cell_grown (n := n) (os := os) (by exact hgw) ((hl.cell hg).trans e0.2.2)
        have kk : ((k : Int) - 1).toNat = k - 1 := by omega
        have b1 : (0 : Int) ≤ (k : Int) - 1 := by omega
        have b2 : (k : Int) - 1 < (R.length : Int) := by omega
        have b3 : (1 : Int) ≤ (k : Int) := by omega
        have kw : IntKind.i64.wrap ((k : Int) - 1) = (k : Int) - 1 := by rw [IntKind.wrap_i64]; omega
        have hmx : Tryz.prog.follows .mixedOrders = true := by kernel_rfl
        have HEQ : Hid (∀ n os, Calls Tryz.prog 92 #[xe.val xl, ye.val yl, .pointer (some ⟨c, 0, none⟩)] (Sort.grow (wr.drewN n) os) fun e w' => e = .returned (.bool (decide (ordC desc xe ye = 0))) ∧ ∃ p : GrownBy, w' = Sort.grow (wr.drewN p.n) p.os) := Lib.hid fun n os => by
          have hlg : Lay w (Sort.grow (wr.drewN n) os) := Keep.trans HL.out (Lay.of_grown n os)
          exact grown_of_lay (eq_any desc (l1.lay hlg) (l0.lay hlg) c ((hlg.cell hlt).trans HC.out) (Nat.lt_of_lt_of_le hlt hlg.size))
        unfold Ent.val at HEQ
        have L1 := Lib.hid l1
        have L0 := Lib.hid l0
        clear e1 e0 hl l1 l0
        have HX := Lib.hid hxk
        have HY := Lib.hid hyk
        clear hxk hyk
        by_cases heq : ordC desc xe ye = 0
        · rw [decide_eq_true heq] at HEQ
          have hci := CI.start (cap := cap) (wr := wr) hg hk1 hkl HRAW.out HF.out HRL.out HL.out HS.out (by rw [HX.out, HY.out]; exact heq)
          have HCI := Lib.hid hci
          clear hci heq
          go_wp2_with fail
          go_quiet_grown ((go_at_call 92; exact HEQ.out _ _))
          have hci2 := HCI.out.lay hg (Lay.of_grown nq osq)
          have HCI2 := Lib.hid hci2
          clear hci2 f0 f1 f2 y0 y1 y2 HEQ
          go_wp2_with fail
          go_loopw [5, 7] (fun vi vk wr => ∃ (i j : Nat) (C : List (Value × Ent)), vi = .int .i64 i ∧ vk = .int .i64 j ∧ CI M desc w g cap R k i j C wr) (fun _ vk _ => R.length - (intOf vk).toNat)
          case atStart => exact ⟨k, 1, _, rfl, rfl, HCI2.out⟩
          case round =>
            obtain ⟨i, j, C, rfl, rfl, hci⟩ := hrel
            have HCI := Lib.hid hci
            have hi1 := hci.lt
            have hj1 := hci.le
            have hj0 := hci.pos
            have hgw : g < wr.heap.size := Nat.lt_of_lt_of_le hg hci.keep.size
            clear hci
            by_cases hjl : k + j < R.length
            · have rx := HCI.out.rest (k + j) hjl (by omega)
              have ry := HCI.out.rest (k + j - 1) (by omega) (by omega)
              have lx := HRL.out _ (List.getElem_mem hjl)
              have ly := HRL.out _ (List.getElem_mem (show k + j - 1 < R.length by omega))
              obtain ⟨x', hxk'⟩ : ∃ x', R[k + j] = x' := ⟨_, rfl⟩
              obtain ⟨y', hyk'⟩ : ∃ y', R[k + j - 1]'(by omega) = y' := ⟨_, rfl⟩
              rw [hxk'] at rx lx
              rw [hyk'] at ry ly
              obtain ⟨ul, ue⟩ := x'
              obtain ⟨zl, ze⟩ := y'
              rw [show (k + j) * 3 = k * 3 + j * 3 by omega] at rx
              rw [show (k + j - 1) * 3 = k * 3 + (j - 1) * 3 by omega] at ry
              simp only [] at rx ry lx ly
              have f0 := fun n os => cell_grown (n := n) (os := os) (by exact hgw) rx.1
              have f1 := fun n os => cell_grown (n := n) (os := os) (by exact hgw) rx.2.1
              have f2 := fun n os => cell_grown (n := n) (os := os) (by exact hgw) rx.2.2
              have z0 := fun n os => cell_grown (n := n) (os := os) (by exact hgw) ry.1
              have z1 := fun n os => cell_grown (n := n) (os := os) (by exact hgw) ry.2.1
              have z2 := fun n os => cell_grown (n := n) (os := os) (by exact hgw) ry.2.2
              have jj : ((j : Int) - 1).toNat = j - 1 := by omega
              have jw : IntKind.i64.wrap ((j : Int) - 1) = (j : Int) - 1 := by rw [IntKind.wrap_i64]; omega
              have jb0 : (j : Int) < ((R.length - k : Nat) : Int) := by omega
              have jb1 : (0 : Int) ≤ (j : Int) - 1 := by omega
              have jb2 : (j : Int) - 1 < ((R.length - k : Nat) : Int) := by omega
              have jb3 : (1 : Int) ≤ (j : Int) := by omega
              have hlk : ∀ b, M b → b < w.heap.size → ¬ (fun b => b = g) b := fun b hb _ => hM b hb
              have HEQ2 : Hid (∀ n os, Calls Tryz.prog 92 #[ue.val ul, ze.val zl, .pointer (some ⟨c, 0, none⟩)] (Sort.grow (wr.drewN n) os) fun e w' => e = .returned (.bool (decide (ordC desc ue ze = 0))) ∧ ∃ p : GrownBy, w' = Sort.grow (wr.drewN p.n) p.os) := Lib.hid fun n os => by
                have hlg : Lay wr (Sort.grow (wr.drewN n) os) := Lay.of_grown n os
                have hcw : wr.cell? ⟨c, 0, none⟩ = some (.func (.func (ordF desc)) #[] #[]) := (World.cell?_of_block (a := ⟨c, 0, none⟩) (HCI.out.keep.block c hlt hcg)).trans HC.out
                have hcl : c < wr.heap.size := Nat.lt_of_lt_of_le hlt HCI.out.keep.size
                exact grown_of_lay (eq_any desc ((lx.keep HCI.out.keep hlk).lay hlg) ((ly.keep HCI.out.keep hlk).lay hlg) c ((hlg.cell hcl).trans hcw) (Nat.lt_of_lt_of_le hcl hlg.size))
              unfold Ent.val at HEQ2
              obtain ⟨ua, uc, rfl, _⟩ := id lx
              have HX2 := Lib.hid hxk'
              have HY2 := Lib.hid hyk'
              clear rx ry lx ly hxk' hyk' hlk
              by_cases heq2 : ordC desc ue ze = 0
              · rw [decide_eq_true heq2] at HEQ2
                have HN := Lib.hid (HCI.out.skip hjl (by rw [HX2.out, HY2.out]; exact heq2))
                clear heq2
                go_wp2_with fail
                go_quiet_grown ((go_at_call 92; exact HEQ2.out _ _))
                have HN2 := Lib.hid (HN.out.lay hg (Lay.of_grown nq osq))
                clear f0 f1 f2 z0 z1 z2 HEQ2
                go_wp2_with fail
                go_roundw
                case rel => exact ⟨i, j + 1, C, rfl, by go_num, HN2.out⟩
                case measure => simp [intOf]; omega
              · have hp := Lib.hid heq2
                have d0 := decide_eq_false heq2
                rw [d0] at HEQ2
                clear d0 heq2
                go_wp2_with fail
                go_quiet_grown ((go_at_call 92; exact HEQ2.out _ _))
                have HN2 := Lib.hid (HCI.out.lay hg (Lay.of_grown nq osq))
                have HPUT := Lib.hid (HN2.out.put hg hle hjl HRL.out HW.out (by rw [HX2.out, HY2.out]; exact hp.out))
                obtain ⟨p0, q0⟩ := HN2.out.ex (i * 3) (by omega)
                obtain ⟨p1, q1⟩ := HN2.out.ex (i * 3 + 1) (by omega)
                obtain ⟨p2, q2⟩ := HN2.out.ex (i * 3 + 2) (by omega)
                obtain ⟨o0, r0⟩ := Option.isSome_iff_exists.1 p0
                obtain ⟨o1, r1⟩ := Option.isSome_iff_exists.1 p1
                obtain ⟨o2, r2⟩ := Option.isSome_iff_exists.1 p2
                have g0 := f0 nq osq
                have g1 := f1 nq osq
                have g2 := f2 nq osq
                have ib : (i : Int) < (R.length : Int) := by omega
                clear f0 f1 f2 z0 z1 z2 HEQ2 p0 p1 p2
                generalize Sort.grow (wr.drewN nq) osq = W2 at *
                go_wp2_with fail
                go_roundw
                case rel =>
                  have h := HPUT.out
                  rw [HX2.out] at h
                  exact ⟨i + 1, j + 1, _, by go_num, by go_num, h⟩
                case measure => simp [intOf]; omega
            · have hjn : k + j = R.length := by omega
              have hlen := HCI.out.len
              subst hlen
              have hclr : ∀ ty, (Builtin.clear_ #[43] ty #[.slice (some ⟨g, C.length * 3, none⟩) (R.length - C.length) (cap - C.length)]).run Tryz.prog wr = _ := fun ty =>
                run_clear_k wr 43 32 ty (.agg #[.int .i64 0, .slice none 0 0, .string ⟨#[]⟩]) 3 Tryz.underlying43 Tryz.zeroValue32 rfl (fun u hu => by
                  simp only [Value.cells, List.mem_cons, List.not_mem_nil, or_false] at hu
                  rcases hu with rfl | rfl | rfl <;> rfl) g (C.length * 3) (R.length - C.length) (cap - C.length) (by omega)
                  (fun q hq => (HCI.out.ex _ (by omega)).1) (fun q hq => (HCI.out.ex _ (by omega)).2)
              have ib : (C.length : Int) ≤ (R.length : Int) := by omega
              have ic : C.length ≤ cap := by omega
              have HFIN := Lib.hid (HCI.out.fin hM hjn hle (Builtin.zeroCells #[.int .i64 0, .slice none 0 0, .string ⟨#[]⟩] (R.length - C.length)).toList (by rw [Array.length_toList, size_zeroCells]; rfl))
              go_wp2_with fail
              go_ret
              obtain ⟨h1, h2, h3, h4, h5⟩ := HFIN.out
              exact ⟨C, rfl, by omega, h1, h2, h3, h4, h5⟩
        · have d0 := decide_eq_false heq
          rw [d0] at HEQ
          clear d0
          go_wp2_with fail
          go_quiet_grown ((go_at_call 92; exact HEQ.out _ _))
          have HLG := Lib.hid (Keep.trans HL.out (Lay.of_grown nq osq))
          clear f0 f1 f2 y0 y1 y2 HEQ
          go_wp2_with fail
          go_roundw
          case rel =>
            refine ⟨k + 1, by go_num, by omega, by omega, HLG.out, ?_⟩
            rw [take_snocE hkl]
            have hst := HS.out
            have e : R.take k = R.take (k - 1) ++ [R[k - 1]'(by omega)] := by
              have := List.take_succ_eq_append_getElem (l := R) (i := k - 1) (by omega)
              rwa [show k - 1 + 1 = k by omega] at this
            rw [e, List.map_append] at hst ⊢
            refine Strict.snoc (ordC_lc desc) hst ?_
            rw [HX.out, HY.out]
            have hwk := List.pairwise_iff_getElem.1 HW.out (k - 1) k (by simp; omega) (by simp; omega) (by omega)
            simp only [List.getElem_map] at hwk
            rw [HX.out, HY.out] at hwk
            have hn := (ordC_lc desc).neg xe ye
            have ht := (ordC_lc desc).tri xe ye
            simp only [] at hwk ⊢
            omega
          case measure => simp [intOf]; omega
      · obtain rfl : k = R.length := by omega
        rw [List.take_length] at HS
        go_wp2_with fail
        go_ret
        refine ⟨R, rfl, hle, HRAW.out.lay hg HL.out, fun j hj => ?_, HRL.out.lay HL.out, ⟨HS.out, fun x => Iff.rfl⟩, HL.out.keep⟩
        rw [World.cell?_of_block (a := ⟨g, j, none⟩) (HL.out.block hg), World.frozen?_of_block (a := ⟨g, j, none⟩) (HL.out.block hg)]
        exact HF.out j hj
set_option maxHeartbeats 1000000 in
theorem compact0_any (cap : Nat) (a : Option Addr) (fv : Value) (w : World) : Calls Tryz.prog 91 #[.slice a 0 cap, fv] w fun e w' => e = .returned (.slice a 0 cap) ∧ w' = w := by
  go_enter Tryz.func91, Tryz.ntmps91
  go_wp2
  go_ret
  exact ⟨rfl, rfl⟩
theorem compact_any (desc : Bool) {G M : Nat → Prop} {w : World} {v : Value} {n : Nat} {R : List (Value × Ent)} (h : Rk 3 G w v n (flatR R)) (hM : ∀ b, M b → ¬ At v b) (hL : RawL M w R) (hn : n ≤ 1000000) (hw : Weak (ordC desc) (R.map Prod.snd)) (c : Nat) (hc : w.cell? ⟨c, 0, none⟩ = some (.func (.func (ordF desc)) #[] #[])) (hlt : c < w.heap.size) (hcv : ¬ At v c) :
    Calls Tryz.prog 91 #[v, .func (.func 92) #[] #[.pointer (some ⟨c, 0, none⟩)]] w fun e w' => ∃ v' R', e = .returned v' ∧ Rk 3 G w' v' R'.length (flatR R') ∧ (∀ b, At v' b → At v b) ∧ RawL M w' R' ∧ Sorts (ordC desc) (R.map Prod.snd) (R'.map Prod.snd) ∧ Keep (At v) w w' := by
  obtain ⟨rfl, ⟨rfl, rfl⟩ | ⟨g, cap, rfl, hG, hg, hle, hm, hraw, hf⟩⟩ := h.rawAt
  · exact (compact0_any 0 none _ w).mono fun e w' ⟨he, hw⟩ => ⟨_, [], he, Rk.nil _ _ _, (fun _ h => h), (fun x hx => by simp at hx), ⟨Strict.nil _, fun x => Iff.rfl⟩, by rw [hw]; exact Keep.refl _ _⟩
  · have hat : ∀ n b, At (.slice (some ⟨g, 0, none⟩) n cap) b ↔ b = g := fun n b => by
      constructor
      · rintro ⟨n, c, e⟩
        simp only [Value.slice.injEq, Option.some.injEq, Addr.mk.injEq, and_true] at e
        exact e.1.symm
      · rintro rfl
        exact ⟨_, _, rfl⟩
    refine (compact_some desc hg hle hraw hf (fun b hb e => hM b hb ((hat _ b).2 e)) hL hn hw c hc hlt (fun e => hcv ((hat _ c).2 e))).mono ?_
    rintro e w' ⟨R', rfl, h1, h2, h3, h4, h5, h6⟩
    refine ⟨_, R', rfl, ⟨by rw [flatR_length], .inr ⟨g, cap, rfl, hG, Nat.lt_of_lt_of_le hg h6.size, h1, hm, fun j hj => ?_, h3⟩⟩, (fun b hb => (hat _ b).2 ((hat _ b).1 hb)), h4, h5, h6.into fun b _ e => (hat _ b).2 e⟩
    have hj' := List.getElem?_eq_getElem hj
    rw [hj']
    have := h2.cells j _ hj'
    rwa [Nat.zero_add] at this
end Go.Proofs.YtoobjjpheegmdaaGreat.E4
namespace Go.Proofs.YtoobjjpheegmdaaGreat.E4
open Go.RowKit Go
def SortPost (desc : Bool) (L : Nat → Prop) (es : List Ent) (w : World) (e : Ending) (w' : World) : Prop :=
  ∃ v' R', e = .returned v' ∧ Rk 3 (fun b => w.heap.size ≤ b) w' v' R'.length (flatR R') ∧ RawL (fun b => L b ∧ b < w.heap.size) w' R' ∧ Sorts (ordC desc) es (R'.map Prod.snd) ∧ Lay w w'
set_option maxHeartbeats 4000000 in
set_option maxRecDepth 100000 in
theorem sort_any (desc : Bool) {G L : Nat → Prop} {w : World} {v : Value} {es : List Ent} (h : EntsAt G L w v es) (hn : es.length ≤ 1000000) :
    Calls Tryz.prog 77 #[.bool desc, v] w (SortPost desc L es w) := by
  have hL0 : Lay w (w.alloc (.cells #[.func (.func (ordF desc)) #[] #[]] 150)) := (Keep.refl _ _).alloc _
  have HE := Lib.hid (((h.mono (fun _ hb _ => hb) (fun b hb hlt => (⟨hb, hlt⟩ : L b ∧ b < w.heap.size))).lay hL0))
  have HL0 := Lib.hid hL0
  obtain ⟨a, ca, rfl, _⟩ := id h
  clear h hL0
  go_enter Tryz.func77, Tryz.ntmps77
  have hord : ∀ w, Calls Tryz.prog 89 #[.bool desc] w fun e w' => e = .returned (.func (.func (ordF desc)) #[] #[]) ∧ w = w' := fun w => (order_any desc w).mono fun _ _ ⟨a, b⟩ => ⟨a, b.symm⟩
  go_wp2_with fail
  refine (hord _).mono ?_
  rintro e w' ⟨rfl, rfl⟩
  clear hord
  go_wp2_with fail
  refine (clone_any HE.out hn).mono ?_
  rintro e w2 ⟨v2, R, rfl, hrk, hR, hRL, hl2⟩
  have hsz1 : (w.alloc (.cells #[.func (.func (ordF desc)) #[] #[]] 150)).heap.size = w.heap.size + 1 := by simp
  rw [hsz1] at hrk
  have hc2 : w2.cell? ⟨w.heap.size, 0, none⟩ = some (.func (.func (ordF desc)) #[] #[]) := (Lay.cell hl2 (by simp)).trans (by go_simp)
  have hat : ∀ b, At v2 b → w.heap.size + 1 ≤ b := fun b hb => (hrk.at hb).1
  have hlt2 : w.heap.size < w2.heap.size := Nat.lt_of_lt_of_le (by rw [hsz1]; omega) hl2.size
  have HL2 := Lib.hid (Keep.trans HL0.out hl2)
  have HSF := Lib.hid (sortFn_any desc hrk (fun b hb ha => by have := hat b ha; omega) hRL hn)
  have HR := Lib.hid hR
  have HRL := Lib.hid hRL
  have HAT := Lib.hid hat
  clear hrk hR hRL hl2 hat hsz1
  go_wp2_with fail
  refine HSF.out.mono ?_
  rintro e w3 ⟨rfl, R2, hrk3, hperm, hweak, hRL3, hk3⟩
  have hc3 : w3.cell? ⟨w.heap.size, 0, none⟩ = some (.func (.func (ordF desc)) #[] #[]) := (World.cell?_of_block (a := ⟨w.heap.size, 0, none⟩) (hk3.block w.heap.size hlt2 (fun ha => by have := HAT.out w.heap.size ha; omega))).trans hc2
  have hlt3 : w.heap.size < w3.heap.size := Nat.lt_of_lt_of_le hlt2 hk3.size
  have HL3 := Lib.hid (Keep.trans (HL2.out.into (H := fun b => w.heap.size ≤ b) (fun _ _ h => h.elim)) (hk3.into (H := fun b => w.heap.size ≤ b) (fun b _ ha => by have := HAT.out b ha; omega)))
  have HCF := Lib.hid (compact_any desc hrk3 (fun b hb ha => by have := HAT.out b ha; omega) hRL3 hn hweak w.heap.size hc3 hlt3 (fun ha => by have := HAT.out _ ha; omega))
  have HP := Lib.hid hperm
  clear hrk3 hperm hweak hRL3 hk3 HSF hc2 hlt2
  go_wp2_with fail
  refine HCF.out.mono ?_
  rintro e w4 ⟨v4, R4, rfl, hrk4, hat4, hRL4, hs4, hk4⟩
  have HRK4 := Lib.hid hrk4
  have HRL4 := Lib.hid hRL4
  have HS4 := Lib.hid hs4
  have HK4 := Lib.hid hk4
  have HAT4 := Lib.hid hat4
  clear hrk4 hRL4 hs4 hk4 hat4 HCF
  go_wp2_with fail
  go_ret
  have hk4' : Keep (fun b => w.heap.size ≤ b) w3 w4 := HK4.out.into fun b _ ha => by have := HAT.out b ha; omega
  refine ⟨v4, R4, rfl, ?_, ?_, ?_, Keep.into (Keep.trans HL3.out hk4') fun k hlt hk => by omega⟩
  · exact HRK4.out.mono fun b _ ha => by have := HAT.out b (HAT4.out b ha); omega
  · exact HRL4.out
  · refine ⟨HS4.out.1, fun x => (HS4.out.2 x).trans ?_⟩
    rw [HP.out.mem_iff, HR.out]
end Go.Proofs.YtoobjjpheegmdaaGreat.E4
