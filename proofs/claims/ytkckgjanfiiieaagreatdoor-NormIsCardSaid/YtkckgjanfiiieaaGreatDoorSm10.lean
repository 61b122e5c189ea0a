/-
  MATCHERS CLONED AND SORTED: slices.Clone, slices.SortFunc.
-/
import Derived.Test.YtkckgjanfiiieaaGreatDoorMc10
import Derived.Test.YtkckgjanfiiieaaGreatDoorSl10
import Derived.Shelf.SlSortCmp.WholeK
namespace Go.Proofs.YtkckgjanfiiieaaGreatDoor
open Go.RowKit Go Go.Sort

theorem Lay.grown {w w' : World} (h : Lay w w') : ∃ q os, w' = Sort.grow (w.drewN q) os := by
  refine ⟨w'.drawn - w.drawn, w'.heap.extract w.heap.size w'.heap.size, ?_⟩
  have hh : w'.heap = w.heap ++ w'.heap.extract w.heap.size w'.heap.size := by
    apply Array.ext_getElem?
    intro i
    have hs := h.size
    by_cases hi : i < w.heap.size
    · rw [h.block hi, Array.getElem?_append_left hi]
    · rw [Array.getElem?_append_right (by omega), Array.getElem?_extract]
      by_cases h2 : i < w'.heap.size
      · rw [if_pos (by omega)]
        congr 1
        omega
      · rw [if_neg (by omega), Array.getElem?_eq_none (by omega)]
  have hd : w.drawn + (w'.drawn - w.drawn) = w'.drawn := by have := h.drawn; omega
  obtain ⟨heap, tape, drawn, os, output⟩ := w'
  have h1 := h.os
  have h2 := h.tape
  have h3 := h.output
  simp only [] at h1 h2 h3 hh hd ⊢
  subst h1 h2 h3
  show _ = ({ heap := w.heap ++ heap.extract w.heap.size heap.size, tape := w.tape, drawn := w.drawn + (drawn - w.drawn), os := w.os, output := w.output } : World)
  rw [← hh, hd]

theorem lt_ord {c : Int} (h : c = -1 ∨ c = 0 ∨ c = 1) : decide (c < 0) = decide (c = -1) := by
  rw [decide_eq_decide]; omega

theorem ltOf_eq {α β : Type} {c : β → β → Int} (hc : LC c) (f : α → β) (x y : α) : Go.Proofs.ltOf (fun x y => c (f x) (f y)) x y = decide (c (f x) (f y) = -1) := lt_ord (hc.tri _ _)

theorem swo_of {α β : Type} {c : β → β → Int} (hc : LC c) (f : α → β) : SWO (Go.Proofs.ltOf fun x y => c (f x) (f y)) where
  irrefl x := by
    rw [ltOf_eq hc f, hc.refl]
    rfl
  trans x y z h1 h2 := by
    rw [ltOf_eq hc f] at *
    simp only [decide_eq_true_eq] at *
    exact hc.tr _ _ _ h1 h2
  ntrans x y z h1 h2 := by
    rw [ltOf_eq hc f] at *
    simp only [decide_eq_false_iff_not] at *
    intro h3
    have a1 := hc.neg (f x) (f y)
    have a2 := hc.neg (f y) (f z)
    have t1 := hc.tri (f x) (f y)
    have t2 := hc.tri (f y) (f z)
    by_cases e1 : c (f x) (f y) = 0
    · rw [hc.eq _ _ e1] at h3; exact h2 h3
    · by_cases e2 : c (f y) (f z) = 0
      · rw [hc.eq _ _ e2] at h1; exact h1 h3
      · have b1 : c (f y) (f x) = -1 := by omega
        have b2 : c (f z) (f y) = -1 := by omega
        have b3 := hc.tr _ _ _ b2 b1
        have := hc.neg (f x) (f z)
        omega

instance : Inhabited Mt := ⟨⟨⟨#[]⟩, false, ⟨#[]⟩⟩⟩

theorem keep_sortWorld {w : World} {g : Nat} (m : Nat) (os : Array Obj) (dk : Array (Mt)) : Keep (fun b => b = g) w (Go.Proofs.sortWorldK matC 3 w g 0 m dk os) := by
  refine ⟨rfl, rfl, rfl, Go.Proofs.size_sortWorldK_c _ _ _ _ _ _ _ _, ?_, fun b hlt hb => ?_⟩
  · unfold Go.Proofs.sortWorldK
    show w.drawn ≤ w.drawn + m
    omega
  · unfold Go.Proofs.sortWorldK
    show ((putRowK matC 3 (Sort.ahead w m) g 0 dk).heap ++ os)[b]? = _
    have hs : (putRowK matC 3 (Sort.ahead w m) g 0 dk).heap.size = w.heap.size := by simp [putRowK, putRow, mapBlock, Sort.ahead]
    rw [Array.getElem?_append_left (by rw [hs]; exact hlt)]
    simp only [putRowK, putRow, mapBlock, Sort.ahead, Array.getElem?_modify]
    rw [if_neg (fun e => hb e.symm)]

/-- Rising. -/
def WeakM (l : List Mt) : Prop := l.Pairwise fun a b => mtC b a ≠ -1

theorem cmpLaysM {w : World} {g c : Nat} (hc : w.cell? ⟨c, 0, none⟩ = some (.func (.func 28) #[] #[])) (hcl : c < w.heap.size) (hcg : c ≠ g) (size : Nat) : Go.Proofs.CmpLays Tryz.prog 31 #[.pointer (some ⟨c, 0, none⟩)] matC 3 mtC g 0 size w := by
  intro m os dk _ x y
  have hk := keep_sortWorld (w := w) (g := g) m os dk
  exact (cmpM_any x y c _ ((World.cell?_of_block (a := ⟨c, 0, none⟩) (hk.block c hcl hcg)).trans hc) (Nat.lt_of_lt_of_le hcl hk.size)).mono fun e w' ⟨he, hl⟩ => ⟨he, hl.grown⟩

theorem eg_cmpM : ∀ args w, (callFunc 31 args).run Tryz.prog w = .ok (.enter 31 args) w :=
  Go.Proofs.enters_of Tryz.func31 (by kernel_rfl) rfl

set_option maxHeartbeats 1000000 in
theorem sort0_ins (cap : Nat) (a : Option Addr) (fv : Value) (w : World) : Calls Tryz.prog 53 #[.slice a 0 cap, .int .i64 0, .int .i64 0, fv] w fun e w' => e = .returned (.tuple #[]) ∧ w' = w := by
  go_enter Tryz.func53, Tryz.ntmps53
  go_wp2
  refine wp_loop_rounds 1 ?_
  rw [rounds_succ]
  go_wp2
  go_end0
  exact ⟨rfl, rfl⟩

set_option maxHeartbeats 2000000 in
theorem sort0_pdq (cap : Nat) (a : Option Addr) (lim : Int) (fv : Value) (w : World) : Calls Tryz.prog 41 #[.slice a 0 cap, .int .i64 0, .int .i64 0, .int .i64 lim, fv] w fun e w' => e = .returned (.tuple #[]) ∧ w' = w := by
  go_enter Tryz.func41, Tryz.ntmps41
  go_wp2
  refine wp_loop_rounds 1 ?_
  rw [rounds_succ]
  go_wp2_with (go_at_call 53; refine (sort0_ins _ _ _ _).mono ?_; rintro e w' ⟨rfl, rfl⟩)
  (try simp only [Exit.inBlock, Exit.then]); refine bodyPost_ret (results_none rfl _ _ _) rfl ?_
  exact ⟨rfl, rfl⟩

set_option maxHeartbeats 2000000 in
theorem sort0_any (cap : Nat) (a : Option Addr) (fv : Value) (w : World) : Calls Tryz.prog 30 #[.slice a 0 cap, fv] w fun e w' => e = .returned (.tuple #[]) ∧ w' = w := by
  have hl : ∀ W, Calls Tryz.prog 42 #[.int .u64 0] W fun e w' => (∃ l : Int, e = .returned (.int .i64 l)) ∧ w' = W := fun W =>
    (Go.Proofs.Any.bits_Len (Go.Proofs.SlLaysF0.n15.bits (P := Tryz.prog) (ρ := Tryz.sortMat_ren) { Tryz.sortMat with }) 0 W (by omega) (by omega)).mono fun _ _ ⟨he, hw⟩ => ⟨⟨_, he⟩, hw⟩
  go_enter Tryz.func30, Tryz.ntmps30
  go_wp2_with (first | (go_at_call 42; refine (hl _).mono ?_; rintro e w' ⟨⟨l, rfl⟩, rfl⟩) | (go_at_call 41; refine (sort0_pdq _ _ _ _ _).mono ?_; rintro e w' ⟨rfl, rfl⟩))
  go_end0
  exact ⟨rfl, rfl⟩

theorem flat_ofM (d : Array Mt) (j : Nat) (hj : j < d.size * 3) : (flatM d.toList)[j]? = some ((Go.Sort.flatK matC 3 d)[j]!) := by
  have hi : j / 3 < d.size := by omega
  have hg := flatM_get d.toList (j / 3) (by simpa using hi) (j % 3) (by omega)
  rw [show j / 3 * 3 + j % 3 = j by omega] at hg
  rw [hg, get_flatK _ _ _ _ hj, show d.toList[j / 3]'(by simpa using hi) = d[j / 3]! by simp [getElem!_pos, hi]]
  have hm : j % 3 = 0 ∨ j % 3 = 1 ∨ j % 3 = 2 := by omega
  rcases hm with hm | hm | hm <;> rw [hm] <;> rfl

theorem sortM_some {G : Nat → Prop} {w : World} {g cap : Nat} {R : List Mt} (h : Rk 3 G w (.slice (some ⟨g, 0, none⟩) R.length cap) R.length (flatM R)) (c : Nat) (hc : w.cell? ⟨c, 0, none⟩ = some (.func (.func 28) #[] #[])) (hcl : c < w.heap.size) (hcg : c ≠ g) (hn : R.length ≤ 1000000) :
    Calls Tryz.prog 30 #[.slice (some ⟨g, 0, none⟩) R.length cap, .func (.func 31) #[] #[.pointer (some ⟨c, 0, none⟩)]] w fun e w' => e = .returned (.tuple #[]) ∧ ∃ R', Rk 3 G w' (.slice (some ⟨g, 0, none⟩) R.length cap) R.length (flatM R') ∧ R'.Perm R ∧ WeakM R' ∧ Keep (fun b => b = g) w w' := by
  obtain ⟨h0, h | ⟨g', cap', hv, hG, hg, hle, hm, hcc, hf⟩⟩ := h
  · cases h.1
  simp only [Value.slice.injEq, Option.some.injEq, Addr.mk.injEq, and_true, true_and] at hv
  obtain ⟨rfl, rfl⟩ := hv
  obtain ⟨d, hd⟩ : ∃ d : Array Mt, d = R.toArray := ⟨_, rfl⟩
  have hR : d.toList = R := by rw [hd]
  have hsz : d.size = R.length := by rw [hd]; simp
  have hH : HoldsK matC 3 w g 0 d := by
    intro j hj
    rw [size_flatK] at hj
    have e := flat_ofM d j hj
    rw [hR] at e
    rw [Nat.zero_add]
    refine ⟨?_, (hf j (by omega)).2⟩
    rw [hcc j (by rw [flatM_length]; omega), e]
    rfl
  have hcon := Go.Proofs.AnyQ.slices_SortFunc Tryz.sortMat 3 Tryz.isAgg45 Tryz.sizeOf45 matC (fun _ => rfl)
    (fun x v hv => by
      simp only [matC, List.mem_cons, List.not_mem_nil, or_false] at hv
      rcases hv with rfl | rfl | rfl <;> rfl)
    mtC (swo_of mtC_lc (fun x : Mt => x)) 31 #[.pointer (some ⟨c, 0, none⟩)] g 0 cap d w eg_cmpM (cmpLaysM hc hcl hcg d.size) hH hg (by omega)
  rw [hsz] at hcon
  refine Calls.mono (f := 30) hcon ?_
  rintro e w' ⟨rfl, d', n, os, hp, hs, rfl⟩
  have hsz' : d'.size = d.size := hp.1
  have hH' := Go.Proofs.holdsK_sortWorldK_c matC 3 w g 0 d d' n os hH hg hsz'
  have hkeep := keep_sortWorld (w := w) (g := g) n os d'
  have hperm : d'.toList.Perm d.toList := by
    have := hp.2.2
    rwa [show (d'.extract 0 R.length) = d' from by rw [← hsz, ← hsz']; simp, show (d.extract 0 R.length) = d from by rw [← hsz]; simp] at this
  refine ⟨rfl, d'.toList, ⟨?_, .inr ⟨g, cap, rfl, hG, Nat.lt_of_lt_of_le hg hkeep.size, hle, hm, fun j hj => ?_, fun j hj => ?_⟩⟩, ?_, ?_, hkeep⟩
  · rw [flatM_length]; simp [hsz', hsz]
  · rw [flatM_length] at hj
    have hj' : j < d'.size * 3 := by simpa using hj
    have := (hH' j (by rw [size_flatK]; exact hj')).1
    rw [Nat.zero_add] at this
    rw [this, flat_ofM d' j hj']
    rfl
  · by_cases hin : j < d'.size * 3
    · have := hH' j (by rw [size_flatK]; exact hin)
      rw [Nat.zero_add] at this
      exact ⟨by rw [this.1]; rfl, this.2⟩
    · have e : ∀ (W : World), W = Go.Proofs.sortWorldK matC 3 w g 0 n d' os → W.heap[g]? = (putRowK matC 3 (Sort.ahead w n) g 0 d').heap[g]? := by
        rintro W rfl
        unfold Go.Proofs.sortWorldK
        show ((putRowK matC 3 (Sort.ahead w n) g 0 d').heap ++ os)[g]? = _
        have hs2 : (putRowK matC 3 (Sort.ahead w n) g 0 d').heap.size = w.heap.size := by simp [putRowK, putRow, mapBlock, Sort.ahead]
        rw [Array.getElem?_append_left (by rw [hs2]; exact hg)]
      have e' := e _ rfl
      rw [World.cell?_of_block (a := ⟨g, j, none⟩) e', World.frozen?_of_block (a := ⟨g, j, none⟩) e']
      have hc2 : (putRowK matC 3 (Sort.ahead w n) g 0 d').cell? ⟨g, j, none⟩ = w.cell? ⟨g, j, none⟩ := cell?_putRow_other id (Sort.ahead w n) g 0 _ _ (by right; right; rw [size_flatK]; show 0 + _ ≤ j; omega)
      have hf2 : (putRowK matC 3 (Sort.ahead w n) g 0 d').frozen? ⟨g, j, none⟩ = w.frozen? ⟨g, j, none⟩ := frozen?_putRow id (Sort.ahead w n) g 0 _ _
      rw [hc2, hf2]
      exact hf j hj
  · rwa [hR] at hperm
  · refine List.pairwise_iff_getElem.2 fun i j hi hj hij => ?_
    have hi' : i < d'.size := by simpa using hi
    have hj' : j < d'.size := by simpa using hj
    have := hs i j (Nat.zero_le _) hij (by omega)
    rw [ltOf_eq mtC_lc (fun x : Mt => x)] at this
    rw [show d'.toList[i]'hi = d'[i]! by simp [getElem!_pos, hi'], show d'.toList[j]'hj = d'[j]! by simp [getElem!_pos, hj']]
    exact of_decide_eq_false this

/-- slices.SortFunc of matchers. -/
theorem sortM_any {G : Nat → Prop} {w : World} {v : Value} {R : List Mt} (h : Rk 3 G w v R.length (flatM R)) (c : Nat) (hc : w.cell? ⟨c, 0, none⟩ = some (.func (.func 28) #[] #[])) (hcl : c < w.heap.size) (hcv : ¬ At v c) (hn : R.length ≤ 1000000) :
    Calls Tryz.prog 30 #[v, .func (.func 31) #[] #[.pointer (some ⟨c, 0, none⟩)]] w fun e w' => e = .returned (.tuple #[]) ∧ ∃ R', Rk 3 G w' v R.length (flatM R') ∧ R'.Perm R ∧ WeakM R' ∧ Keep (At v) w w' := by
  have h' := h
  obtain ⟨h0, ⟨rfl, h1⟩ | ⟨g, cap, rfl, hG, hg, _⟩⟩ := h'
  · obtain rfl := List.eq_nil_of_length_eq_zero h1
    exact (sort0_any 0 none _ w).mono fun e w' ⟨he, hw⟩ => ⟨he, [], by rw [hw]; exact h, List.Perm.refl _, List.Pairwise.nil, by rw [hw]; exact Keep.refl _ _⟩
  · have hat : ∀ b, At (.slice (some ⟨g, 0, none⟩) R.length cap) b ↔ b = g := fun b => by
      constructor
      · rintro ⟨n, c, e⟩
        simp only [Value.slice.injEq, Option.some.injEq, Addr.mk.injEq, and_true] at e
        exact e.1.symm
      · rintro rfl
        exact ⟨_, _, rfl⟩
    refine (sortM_some h c hc hcl (fun e => hcv ((hat c).2 e)) hn).mono ?_
    rintro e w' ⟨rfl, R', h1, h2, h3, h5⟩
    exact ⟨rfl, R', h1, h2, h3, h5.into fun b _ e => (hat b).2 e⟩

set_option maxHeartbeats 2000000 in
set_option maxRecDepth 100000 in
/-- slices.Clone of matchers. -/
theorem cloneM_any {w : World} {v : Value} {l : List Mt} (h : MsAt w v l) (hn : l.length ≤ 1000000) :
    Calls Tryz.prog 29 #[v] w fun e w' => ∃ v', e = .returned v' ∧ Rk 3 (fun k => w.heap.size ≤ k) w' v' l.length (flatM l) ∧ Lay w w' := by
  obtain ⟨i24, z24, E24⟩ := elem43
  have qs : ∀ (w : World) (a : Option Addr) (n c n' c' : Nat), (binOp .eql 28 (.slice a n c) (.slice none n' c')).run Tryz.prog w = .ok (.bool a.isNone) w := fun w a n c n' c' => Lib.run_eql_slice_nil w _ _ a n c n' c' Tryz.underlying28
  have HSS := Lib.hid (fun w1 (hl : Lay w w1) => (h.lay hl).src)
  obtain ⟨a, cap, rfl, hn63, hc⟩ := id h
  clear h
  cases a with
  | none =>
    have h0 : l = [] := by
      rcases hc with h0 | ⟨b, off, h0, _⟩
      · exact h0
      · cases h0
    subst h0
    clear hc
    go_enter Tryz.func29, Tryz.ntmps29
    go_wp2
    go_ret
    exact ⟨_, rfl, Rk.nil _ _ _, Keep.refl _ _⟩
  | some p =>
    clear hc
    have HS2 := Lib.hid (HSS.out (w.alloc (.cells #[] 45)) ((Keep.refl _ _).alloc _))
    clear HSS
    go_enter Tryz.func29, Tryz.ntmps29
    go_wp2_with (at_builtin; refine wpList_append_rk E24 _ rfl _ _ 28 rfl (G := fun k => w.heap.size ≤ k) rfl ((rk_new 3 w 0 [] 45 rfl (by omega)).mono (fun k hk _ => Nat.le_of_eq hk.symm)) ?c1 _ l.length (flatM l) rfl HS2.out ?c2 ?c3 ?_)
    case c1 => intro k hk; simp at hk; omega
    case c2 => omega
    case c3 => omega
    intro v' w1 hrk hk
    have HK := Lib.hid hrk
    have hk2 : Keep (fun k => w.heap.size ≤ k) (w.alloc (.cells #[] 45)) w1 := hk.into (fun b _ hb => by
      obtain ⟨n, c, e⟩ := hb
      simp only [Value.slice.injEq, Option.some.injEq, Addr.mk.injEq, and_true] at e
      omega)
    have hlay : Lay w w1 := Keep.into (Keep.trans ((Keep.refl (fun k => w.heap.size ≤ k) w).alloc _) hk2) (fun k hlt hk => by omega)
    have HLY := Lib.hid hlay
    clear hrk hk hk2 hlay
    go_wp2
    go_ret
    refine ⟨v', rfl, ?_, HLY.out⟩
    exact HK.out.mono (fun k hk _ => hk.1)

end Go.Proofs.YtkckgjanfiiieaaGreatDoor
