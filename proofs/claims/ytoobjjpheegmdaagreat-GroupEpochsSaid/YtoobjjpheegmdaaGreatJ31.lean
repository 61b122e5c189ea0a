/-
  Ov15.
-/
import Derived.Test.YtoobjjpheegmdaaGreatJ30
import Derived.RangeFuncRecord
import Derived.RangeFuncSeq
import Derived.RangeFuncCalls
import Derived.Shelf.Abstract
import Derived.WalkKit
namespace Go.Proofs.YtoobjjpheegmdaaGreat.E4.IT
open Go.RowKit Go
structure Keep (G : Nat → Prop) (w w' : World) : Prop where
  os : w'.os = w.os
  tape : w'.tape = w.tape
  output : w'.output = w.output
  size : w.heap.size ≤ w'.heap.size
  block : ∀ k, k < w.heap.size → ¬ G k → w'.heap[k]? = w.heap[k]?
theorem Keep.refl (G : Nat → Prop) (w : World) : Keep G w w := ⟨rfl, rfl, rfl, Nat.le_refl _, fun _ _ _ => rfl⟩
theorem Keep.trans {G : Nat → Prop} {a b c : World} (h : Keep G a b) (k : Keep G b c) : Keep G a c :=
  ⟨k.os.trans h.os, k.tape.trans h.tape, k.output.trans h.output, Nat.le_trans h.size k.size, fun j hj hn => (k.block j (Nat.lt_of_lt_of_le hj h.size) hn).trans (h.block j hj hn)⟩
theorem Keep.into {G H : Nat → Prop} {w w' : World} (h : Keep G w w') (hk : ∀ k, k < w.heap.size → G k → H k) : Keep H w w' :=
  ⟨h.os, h.tape, h.output, h.size, fun k hlt hn => h.block k hlt fun hg => hn (hk k hlt hg)⟩
theorem Keep.alloc {G : Nat → Prop} {a w : World} (h : Keep G a w) (o : Obj) : Keep G a (w.alloc o) :=
  ⟨h.os, h.tape, h.output, by simp; have := h.size; omega, fun k hk hn => (Below.heap_alloc w o k (Nat.lt_of_lt_of_le hk h.size)).trans (h.block k hk hn)⟩
theorem Keep.below {G : Nat → Prop} {B : Nat} {w w' : World} (h : Keep G w w') (hG : ∀ k, G k → B ≤ k) (hB : B ≤ w.heap.size) : Below B w w' :=
  ⟨h.os, h.tape, h.output, h.size, fun k hk => h.block k (by omega) fun hg => by have := hG k hg; omega⟩
theorem Keep.of {G : Nat → Prop} {w w' : World} (h : E4.Keep G w w') : Keep G w w' := ⟨h.os, h.tape, h.output, h.size, h.block⟩
theorem Keep.ofBelow {B : Nat} {w w' : World} (h : Below B w w') : Keep (fun k => B ≤ k) w w' := ⟨h.os, h.tape, h.output, h.size, fun k _ hn => h.block k (Nat.lt_of_not_le hn)⟩
theorem Keep.ofChg {g : Nat} {w w' : World} (h : Chg g w w') : Keep (fun k => k = g) w w' := ⟨h.os, h.tape, h.output, h.size, fun k hk hn => h.block k hk hn⟩
abbrev Lay (w w' : World) : Prop := Keep (fun _ => False) w w'
theorem Lay.keep {G : Nat → Prop} {w w' : World} (h : Lay w w') : Keep G w w' := h.into fun _ _ h => h.elim
theorem Lay.block {w w' : World} (h : Lay w w') {k : Nat} (hk : k < w.heap.size) : w'.heap[k]? = w.heap[k]? := Keep.block h k hk (fun h => h)
theorem Lay.of {w w' : World} (h : Below w.heap.size w w') : Lay w w' := (Keep.ofBelow h).into fun k hk h => by omega
theorem Keep.mono {G H : Nat → Prop} {a b : World} (h : Keep G a b) (hGH : ∀ k, k < a.heap.size → G k → H k) : Keep H a b := h.into hGH
theorem Keep.put {G : Nat → Prop} {a w : World} (h : Keep G a w) {r : Nat} (o : Obj) (hr : r < a.heap.size → G r) : Keep G a (w.putObj r o) :=
  ⟨h.os, h.tape, h.output, by simpa using h.size, fun k hk hn => by
    rw [World.putObj_heap_other (fun e => hn (by subst e; exact hr hk))]
    exact h.block k hk hn⟩
def Live (G : Nat → Prop) (w : World) : Prop := ∀ k, G k → k < w.heap.size
abbrev Stance := (Nat → Prop) → World → Prop
def Stable (J : Stance) : Prop := ∀ G W W', J G W → Live G W → Keep (fun k => ¬ G k) W W' → J G W'
def Next (J : Stance) (G : Nat → Prop) (W W' : World) : Prop :=
  ∃ G', J G' W' ∧ Live G' W' ∧ (∀ k, G' k → G k ∨ W.heap.size ≤ k) ∧ Keep G W W'
theorem Next.keep {J : Stance} {G : Nat → Prop} {W W' : World} (h : Next J G W W') : Keep G W W' := h.elim fun _ h => h.2.2.2
theorem Next.mk {J : Stance} {G : Nat → Prop} {W W' : World} (G' : Nat → Prop) (hJ : J G' W') (hL : Live G' W') (hG : ∀ k, G' k → G k ∨ W.heap.size ≤ k) (hK : Keep G W W') : Next J G W W' := ⟨G', hJ, hL, hG, hK⟩
theorem Next.from {J : Stance} {G H : Nat → Prop} {A W W' : World} (hG : ∀ k, G k → H k ∨ A.heap.size ≤ k) (hK : Keep H A W) (h : Next J G W W') : Next J H A W' := by
  obtain ⟨G', hJ, hL, hg, hk⟩ := h
  refine ⟨G', hJ, hL, fun k hk' => ?_, hk.os.trans hK.os, hk.tape.trans hK.tape, hk.output.trans hK.output, Nat.le_trans hK.size hk.size, fun k hk' hn => ?_⟩
  · rcases hg k hk' with h | h
    · exact hG k h
    · exact .inr (Nat.le_trans hK.size h)
  · have hng : ¬ G k := fun hgk => by
      rcases hG k hgk with h | h
      · exact hn h
      · omega
    exact (hk.block k (Nat.lt_of_lt_of_le hk' hK.size) hng).trans (hK.block k hk' hn)
theorem Keep.after {G H : Nat → Prop} {A W W' : World} (hG : ∀ k, G k → H k ∨ A.heap.size ≤ k) (hK : Keep H A W) (hk : Keep G W W') : Keep H A W' :=
  (Next.from (J := fun _ _ => True) hG hK ⟨fun _ => False, trivial, fun _ h => h.elim, fun _ h => h.elim, hk⟩).keep
def Left (J : Stance) (G : Nat → Prop) (W W' : World) (D : Nat) : Prop :=
  ∃ G', J G' W' ∧ Live G' W' ∧ (∀ k, G' k → G k ∨ W.heap.size ≤ k) ∧ Keep G W W' ∧ W.heap.size ≤ D ∧ ¬ G' D ∧ W'.heap[D]? = some (.deferred (some []))
theorem Left.takes {J : Stance} {G : Nat → Prop} {P : Program} {W W' : World} {D : Nat} (h : Left J G W W' D) : (Instr.takeDeferred D).run P W' = .ok [] (W'.putObj D (.deferred none)) := by
  obtain ⟨G', h1, h2, h3, h4, h5, h6, h7⟩ := h
  exact run_takeDeferred h7
def Gives {α : Type} (P : Program) (g : Nat) (lb : Array Value) (C : Nat → Prop) (encs : α → Array Value → (Nat → Prop) → World → Prop) (xs : List α) (w0 : World) : Prop :=
  ∀ (l : Nat) (J Jx : List α → Stance) (G : Nat → Prop) (W : World), Keep (fun k => ¬ C k) w0 W → (∀ k, C k → ¬ G k) → (∀ s, Stable (J s)) → (∀ s, Stable (Jx s)) →
    (∀ pre x G1 own W1 args, encs x args own W1 → (∀ k, own k → ¬ G1 k) → (∀ k, own k → k < W1.heap.size) → pre ++ [x] <+: xs → J pre G1 W1 → Live G1 W1 → ∀ n, YieldAt Fence.wide n P l args W1 fun e W' =>
      (e = .returned (.bool true) ∧ Next (J (pre ++ [x])) (fun k => G1 k ∨ own k) W1 W') ∨ (e = .returned (.bool false) ∧ Next (Jx (pre ++ [x])) (fun k => G1 k ∨ own k) W1 W')) →
    J [] G W → Live G W →
    Calls P g (#[.func (.yield l) #[] #[]] ++ lb) W fun e W' => (∃ v, e = .returned v) ∧ (Next (J xs) G W W' ∨ ∃ pre, pre <+: xs ∧ Next (Jx pre) G W W')
def roundEnd {α : Type} (I : List α → Stance) (Ix : Code → List α → Stance) (xs : List α) (G : Nat → Prop) (W : World) : Exit → Act → World → Prop
  | .normal, _, W' => Next (I xs) G W W'
  | .ret, _, W' => Next (Ix .ret xs) G W W'
  | .exit id, _, W' => Next (Ix (.exit id) xs) G W W'
  | .goto t, _, W' => Next (Ix (.goto t) xs) G W W'
  | .panic _, _, _ => False
  | .outgrown, _, _ => False
def withLoop (I : Stance) (L D : Nat) (o : Obj) : Stance := fun G W =>
  ∃ G', I G' W ∧ Live G' W ∧ G = (fun k => G' k ∨ k = L ∨ k = D) ∧ ¬ G' L ∧ ¬ G' D ∧ W.heap[L]? = some o ∧ W.heap[D]? = some (.deferred (some []))
theorem withLoop_stable {I : Stance} (hI : Stable I) (L D : Nat) (o : Obj) : Stable (withLoop I L D o) := by
  rintro G W W' ⟨G', h1, h2, rfl, h4, h5, h6, h7⟩ hL hk
  refine ⟨G', hI G' W W' h1 h2 (hk.mono fun k _ hn hg => hn (.inl hg)), fun k hg => Nat.lt_of_lt_of_le (h2 k hg) hk.size, rfl, h4, h5, ?_, ?_⟩
  · rw [hk.block L (hL L (.inr (.inl rfl))) (fun hn => hn (.inr (.inl rfl)))]; exact h6
  · rw [hk.block D (hL D (.inr (.inr rfl))) (fun hn => hn (.inr (.inr rfl)))]; exact h7
theorem round_any {n m : Nat} {P : Program} {l : Nat} {f : FuncId} {tmps : Array Value} {assign body : Code} {w : World} {R : Ending → World → Prop} (h : RoundIn Fence.wide n P l f tmps assign body w R) : RoundIn Fence.wide m P l f tmps assign body w R :=
  ⟨trivial, fun c cs _ => h.2 c cs (room_wide _)⟩
theorem wpIn_over {α : Type} {P : Program} {n : Nat} {g : Operand} {ps : Array Tmp} {assign body : Code} {Q : Exit → Act → World → Prop} {a : Act} {w : World}
    {gf : Nat} {lb : Array Value} (hg : a.eval g = .func (.func gf) #[] lb) (eg : ∀ args w, (callFunc gf args).run P w = .ok (.enter gf args) w)
    {C : Nat → Prop} {encs : α → Array Value → (Nat → Prop) → World → Prop} {xs : List α} (hseq : Gives P gf lb C encs xs w) (hC : ∀ k, C k → k < w.heap.size) (hps : ∀ x args own W, encs x args own W → args.size = ps.size)
    (I : List α → Stance) (Ix : Code → List α → Stance) (hI : ∀ s, Stable (I s)) (hIx : ∀ c s, Stable (Ix c s)) (G : Nat → Prop) (hGC : ∀ k, C k → ¬ G k) (h0 : I [] G w) (hl : Live G w)
    (Mid : α → Array Value → Nat → Act → World → Prop) (hMid : ∀ x args B a W W', Mid x args B a W → Keep (fun k => k < B) W W' → Mid x args B a W')
    (hassign : ∀ (l : Nat) (x : α) (args : Array Value) (own : Nat → Prop) (W : World) (K : Act → World → Prop), encs x args own W → (∀ a W', Lay W W' → Mid x args W.heap.size a W' → K a W') →
      assign.wpIn (Fence.wide.inRound l) (n - 1 - 1) P (Exit.then K (fun _ _ _ => False)) { tmps := (ps.zip args).foldl (fun t (p, v) => t.setIfInBounds p v) a.tmps, defers := [] } W)
    (hbody : ∀ (l : Nat) (pre : List α) (x : α) (args : Array Value) (G1 own : Nat → Prop) (B : Nat) (a₁ : Act) (W0 W : World), encs x args own W0 → (∀ k, own k → ¬ G1 k) → (∀ k, own k → k < B) → Keep (fun k => ¬ C k ∧ ¬ own k) W0 W →  pre ++ [x] <+: xs → I pre G1 W → (∀ k, G1 k → k < B) → B ≤ W.heap.size → Mid x args B a₁ W → body.wpIn (Fence.wide.inRound l) (n - 1 - 1) P (roundEnd I Ix (pre ++ [x]) (fun k => G1 k ∨ own k) W) a₁ W)
    (hdone : ∀ (D : Nat) (W : World), Left (I xs) G w W D → Q .normal { a with defers := { target := .collected D, args := #[] } :: a.defers } W)
    (hstop : ∀ (D : Nat) (c : Code) (pre : List α) (W : World), pre <+: xs → Left (Ix c pre) G w W D → c.wpIn Fence.wide n P Q { a with defers := { target := .collected D, args := #[] } :: a.defers } W) :
    (Code.rangeFunc g ps assign body).wpIn Fence.wide n P Q a w := by
  refine wpIn_rangeFunc ?_
  intro fn _
  have hro : Fence.wide.round = none := rfl
  rw [hro]
  obtain ⟨rec, hrec⟩ : ∃ rec : LoopState → Option Code → Loop, rec = fun st pe => { state := st, pending := pe, fn, tmps := a.tmps, params := ps, assign, body, defers := w.heap.size } := ⟨_, rfl⟩
  obtain ⟨W1, hW1⟩ : ∃ W1, (w.alloc (.deferred (some []))).alloc (.loop (rec .ready none)) = W1 := ⟨_, rfl⟩
  have hL1 : W1.heap[w.heap.size + 1]? = some (.loop (rec .ready none)) := by
    rw [← hW1]
    have := World.alloc_heap_new (w.alloc (.deferred (some []))) (.loop (rec .ready none))
    rwa [World.size_alloc] at this
  have hD1 : W1.heap[w.heap.size]? = some (.deferred (some [])) := by
    rw [← hW1]
    exact (Below.heap_alloc _ _ _ (by simp)).trans (World.alloc_heap_new w _)
  have hK1 : ∀ H, Keep H w W1 := fun H => by rw [← hW1]; exact ((Keep.refl H w).alloc _).alloc _
  have hsz1 : W1.heap.size = w.heap.size + 2 := by rw [← hW1]; simp
  have hnL : ¬ G (w.heap.size + 1) := fun h => by have := hl _ h; omega
  have hnD : ¬ G w.heap.size := fun h => by have := hl _ h; omega
  refine ⟨w.heap.size + 1, [{ target := .collected w.heap.size, args := #[] }], W1, { target := .fn (.func gf) lb, args := #[.func (.yield (w.heap.size + 1)) #[] #[]] }, W1, gf,
    #[.func (.yield (w.heap.size + 1)) #[] #[]] ++ lb, W1, ?_, ?_, fun _ _ => trivial, ?_, (fun h => by cases h), ?_⟩
  · rw [← hW1, hrec]; exact run_enterLoop_outer _ _ _ _ _
  · simp only [resolve, hg]
    simp [go_sem]
  · simp [invoke, go_sem, eg]
  · refine callsIn_wide.2 ((hseq (w.heap.size + 1) (fun pre => withLoop (I pre) (w.heap.size + 1) w.heap.size (.loop (rec .ready none)))
      (fun pre G' W => ∃ c, withLoop (Ix c pre) (w.heap.size + 1) w.heap.size (.loop (rec .done (some c))) G' W)
      (fun k => G k ∨ k = w.heap.size + 1 ∨ k = w.heap.size) W1 (hK1 _) (fun k hc hg' => ?_) (fun s => withLoop_stable (hI s) _ _ _)
      (fun s G' W W' ⟨c, hc⟩ hL hk => ⟨c, withLoop_stable (hIx c s) _ _ _ G' W W' hc hL hk⟩) ?round
      ⟨G, hI [] G w W1 h0 hl (hK1 _), fun k hk => by have := hl k hk; omega, rfl, hnL, hnD, hL1, hD1⟩ (fun k hk => by
        rcases hk with hk | rfl | rfl
        · have := hl k hk; omega
        · omega
        · omega)).mono ?behind)
    · rcases hg' with hg' | rfl | rfl
      · exact hGC k hc hg'
      · have := hC _ hc; omega
      · have := hC _ hc; omega
    case round =>
      rintro pre x G1 own W0 args hargs hdis hlo hpx ⟨G', hi0, hlv0, rfl, hnl0, hnd0, hL0, hD0⟩ _ m
      have hnl : ¬ (fun k => G' k ∨ own k) (w.heap.size + 1) := fun h => h.elim hnl0 fun h => hdis _ h (.inr (.inl rfl))
      have hnd : ¬ (fun k => G' k ∨ own k) w.heap.size := fun h => h.elim hnd0 fun h => hdis _ h (.inr (.inr rfl))
      have hlt0 : w.heap.size + 1 < W0.heap.size := (Array.getElem?_eq_some_iff.1 hL0).1
      have hy := run_yield (P := P) (args := args) hL0 (by rw [hrec]; exact hps x args _ _ hargs)
      rw [hrec] at hy
      refine ⟨fn, _, assign, body, hy, round_any (n := n - 1 - 1) (roundIn_of_wpIn (F := Fence.wide) trivial (hassign _ x args _ W0 _ hargs fun a₁ W hlay hmid => ?_))⟩
      have hi := hI pre G' W0 W hi0 hlv0 hlay.keep
      have hlv : Live G' W := fun k hk => Nat.lt_of_lt_of_le (hlv0 k hk) hlay.size
      have hL := (hlay.block hlt0).trans hL0
      have hD := (hlay.block (by omega : w.heap.size < W0.heap.size)).trans hD0
      have hlt : w.heap.size + 1 < W.heap.size := (Array.getElem?_eq_some_iff.1 hL).1
      refine ⟨_, run_beginRound hL (by rw [hrec]), ?_⟩
      obtain ⟨W2, hW2⟩ : ∃ W2, W.putObj (w.heap.size + 1) (.loop { rec .ready none with state := .busy }) = W2 := ⟨_, rfl⟩
      have hL2 : W2.heap[w.heap.size + 1]? = some (.loop { rec .ready none with state := .busy }) := by rw [← hW2]; exact World.putObj_heap_same hlt
      have hD2 : W2.heap[w.heap.size]? = some (.deferred (some [])) := by rw [← hW2]; exact (World.putObj_heap_other (by omega)).trans hD
      have hsz2 : W2.heap.size = W.heap.size := by rw [← hW2]; simp
      have hk2 : ∀ H, H (w.heap.size + 1) → Keep H W W2 := fun H hH => by rw [← hW2]; exact (Keep.refl _ _).put _ (fun _ => hH)
      rw [hW2]
      refine wpIn_mono (hbody _ pre x args G' own W0.heap.size a₁ W0 W2 hargs (fun k h hg => hdis k h (.inl hg)) hlo (hlay.keep.trans (hk2 _ ⟨fun hc => by have := hC _ hc; omega, fun ho => hdis _ ho (.inr (.inl rfl))⟩)) hpx (hI pre G' W W2 hi hlv (hk2 _ hnl0)) hlv0 (by rw [hsz2]; exact hlay.size) (hMid _ _ _ _ _ _ hmid (hk2 _ (by omega)))) ?_
      have fin : ∀ (J : Stance) (jump : Option Code) (W3 : World), Stable J → Next J (fun k => G' k ∨ own k) W2 W3 →
          (Instr.endRound (w.heap.size + 1) jump).run P W3 = .ok (.bool jump.isNone) (W3.putObj (w.heap.size + 1) (.loop (rec (if jump.isNone then .ready else .done) jump))) ∧
          Next (withLoop J (w.heap.size + 1) w.heap.size (.loop (rec (if jump.isNone then .ready else .done) jump))) (fun k => (G' k ∨ k = w.heap.size + 1 ∨ k = w.heap.size) ∨ own k) W0 (W3.putObj (w.heap.size + 1) (.loop (rec (if jump.isNone then .ready else .done) jump))) := by
        intro J jump W3 hJs hn
        obtain ⟨G3, hJ3, hl3, hg3, hk3⟩ := hn
        have hL3 := (hk3.block _ (by omega) hnl).trans hL2
        have hD3 := (hk3.block _ (by omega) hnd).trans hD2
        have hlt3 := (Array.getElem?_eq_some_iff.1 hL3).1
        have hn3 : ¬ G3 (w.heap.size + 1) := fun h => (hg3 _ h).elim (fun h => hnl h) (fun h => by omega)
        have hn3d : ¬ G3 w.heap.size := fun h => (hg3 _ h).elim (fun h => hnd h) (fun h => by omega)
        have he := run_endRound (P := P) jump hL3
        rw [hrec] at he ⊢
        refine ⟨he, fun k => G3 k ∨ k = w.heap.size + 1 ∨ k = w.heap.size, ⟨G3, hJs G3 _ _ hJ3 hl3 ((Keep.refl _ _).put _ (fun _ => hn3)), fun k hk => by rw [World.putObj_size]; exact hl3 k hk, rfl, hn3, hn3d, World.putObj_heap_same hlt3, (World.putObj_heap_other (by omega)).trans hD3⟩,
          fun k hk => ?_, fun k hk => ?_, ?_⟩
        · rw [World.putObj_size]
          rcases hk with hk | rfl | rfl
          · exact hl3 k hk
          · exact hlt3
          · omega
        · rcases hk with hk | hk
          · rcases hg3 k hk with (h | h) | h
            · exact .inl (.inl (.inl h))
            · exact .inl (.inr h)
            · exact .inr (by have := hlay.size; omega)
          · exact .inl (.inl (.inr hk))
        · refine Keep.put ?_ _ (fun _ => .inl (.inr (.inl rfl)))
          exact hlay.keep.trans ((hk2 _ (.inl (.inr (.inl rfl)))).trans (hk3.mono fun k _ h => h.elim (fun h => .inl (.inl h)) .inr))
      rintro e a3 W3 hp
      cases e with
      | normal => obtain ⟨h1, h2⟩ := fin _ none W3 (hI _) hp; exact ⟨_, _, h1, .inl ⟨rfl, h2⟩⟩
      | ret =>
        obtain ⟨h1, G4, h2, h3⟩ := fin _ (some .ret) W3 (hIx .ret _) hp
        exact ⟨_, _, h1, .inr ⟨rfl, G4, ⟨.ret, h2⟩, h3⟩⟩
      | exit id =>
        obtain ⟨h1, G4, h2, h3⟩ := fin _ (some (.exit id)) W3 (hIx (.exit id) _) hp
        exact ⟨_, _, h1, .inr ⟨rfl, G4, ⟨.exit id, h2⟩, h3⟩⟩
      | goto t =>
        obtain ⟨h1, G4, h2, h3⟩ := fin _ (some (.goto t)) W3 (hIx (.goto t) _) hp
        exact ⟨_, _, h1, .inr ⟨rfl, G4, ⟨.goto t, h2⟩, h3⟩⟩
      | panic ch => exact hp.elim
      | outgrown => exact hp.elim
    case behind =>
      have out : ∀ (J : Stance) (st : LoopState) (jump : Option Code) (W3 : World), Stable J → st ≠ .busy → Next (withLoop J (w.heap.size + 1) w.heap.size (.loop (rec st jump))) (fun k => G k ∨ k = w.heap.size + 1 ∨ k = w.heap.size) W1 W3 →
          ∃ W4, (Instr.endLoop (w.heap.size + 1)).run P W3 = .ok jump W4 ∧ Left J G w W4 w.heap.size := by
        rintro J st jump W3 hJs hst ⟨_, ⟨G3, hJ3, hl3, rfl, hn3, hn3d, hL3, hD3⟩, _, hg3, hk3⟩
        have he := run_endLoop (P := P) hL3 (by rw [hrec]; exact hst)
        have hp : (rec st jump).pending = jump := by rw [hrec]
        rw [hp] at he
        refine ⟨_, he, G3, hJs G3 _ _ hJ3 hl3 ((Keep.refl _ _).put _ (fun _ => hn3)), fun k hk => by rw [World.putObj_size]; exact hl3 k hk, fun k hk => ?_, ?_, Nat.le_refl _, hn3d, (World.putObj_heap_other (by omega)).trans hD3⟩
        · rcases hg3 k (.inl hk) with (h | rfl | rfl) | h
          · exact .inl h
          · exact .inr (by omega)
          · exact .inr (by omega)
          · exact .inr (by omega)
        · refine Keep.put (Keep.after (fun k hk => ?_) (hK1 G) hk3) _ (fun h => by omega)
          rcases hk with hk | rfl | rfl
          · exact .inl hk
          · exact .inr (by omega)
          · exact .inr (by omega)
      rintro e W2 ⟨⟨v, rfl⟩, (hn | ⟨pre, hpre, G2, ⟨c, hc⟩, hr⟩)⟩
      · obtain ⟨W4, he, hlf⟩ := out _ .ready none W2 (hI _) (by simp) hn
        exact ⟨none, W4, he, hdone _ W4 hlf⟩
      · obtain ⟨W4, he, hlf⟩ := out (Ix c pre) .done (some c) W2 (hIx c pre) (by simp) ⟨G2, hc, hr⟩
        exact ⟨some c, W4, he, hstop _ c pre W4 hpre hlf⟩
theorem Keep.setCell {G : Nat → Prop} {a w : World} (h : Keep G a w) {p : Addr} (hp : a.heap.size ≤ p.block ∨ G p.block) (u : Value) : Keep G a (w.setCell p u) :=
  ⟨h.os, h.tape, h.output, by simpa [World.setCell] using h.size, fun k hk hn => (Below.heap_setCell w p u k (fun e => by subst e; exact hp.elim (fun h => by omega) hn)).trans (h.block k hk hn)⟩
def Box (W : World) (B : Nat) (t : TypeId) (v : Value) : Prop := W.heap[B]? = some (.cells #[v] t (0, 0))
theorem Box.lt {W : World} {B : Nat} {t : TypeId} {v : Value} (h : Box W B t v) : B < W.heap.size := (Array.getElem?_eq_some_iff.1 h).1
theorem Box.cell {W : World} {B : Nat} {t : TypeId} {v : Value} (h : Box W B t v) : W.cell? ⟨B, 0, none⟩ = some v := by simp [World.cell?, show W.heap[B]? = _ from h]
theorem Box.frozen {W : World} {B : Nat} {t : TypeId} {v : Value} (h : Box W B t v) : W.frozen? ⟨B, 0, none⟩ = false := by simp [World.frozen?, show W.heap[B]? = _ from h]
theorem Box.new (W : World) (t : TypeId) (v : Value) : Box (W.alloc (.cells #[v] t)) W.heap.size t v := World.alloc_heap_new W _
theorem Box.keep {G : Nat → Prop} {W W' : World} {B : Nat} {t : TypeId} {v : Value} (h : Box W B t v) (hk : Keep G W W') (hn : ¬ G B) : Box W' B t v := (hk.block B h.lt hn).trans h
theorem Box.alloc {W : World} {B : Nat} {t : TypeId} {v : Value} (h : Box W B t v) (o : Obj) : Box (W.alloc o) B t v := h.keep ((Keep.refl (fun _ => False) W).alloc o) (fun h => h)
theorem Box.set {W : World} {B : Nat} {t : TypeId} {v : Value} (v' : Value) (h : Box W B t v) : Box (W.setCell ⟨B, 0, none⟩ v') B t v' := by
  obtain ⟨hlt, hk⟩ := Array.getElem?_eq_some_iff.1 h
  show (W.heap.modify B _)[B]? = _
  rw [Array.getElem?_eq_getElem (by rw [Array.size_modify]; exact hlt), Array.getElem_modify_self, hk]
  rfl
theorem keep_setCell {G : Nat → Prop} (w : World) (b : Nat) (v : Value) (h : G b) : Keep G w (w.setCell ⟨b, 0, none⟩ v) := (Keep.refl G w).setCell (p := ⟨b, 0, none⟩) (.inr h) v
end Go.Proofs.YtoobjjpheegmdaaGreat.E4.IT
