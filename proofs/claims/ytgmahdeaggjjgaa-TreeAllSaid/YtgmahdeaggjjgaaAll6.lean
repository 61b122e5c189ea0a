/-
  tree.All: THE ITERATOR OVER A COPY OF A FILTER, that hands out copies.
-/
import Derived.Test.YtgmahdeaggjjgaaCloneW6
namespace Go.Proofs.Ytgmahdeaggjjgaa
open Go.RowKit Go Go.Shelf

attribute [local go_sem] Oper.semAt_some wide_fn wide_depth

/-- What All tells of a filter: all but what its list holds. -/
def encR (x : Ft × Nat) (args : Array Value) (_W : World) : Prop := ∃ a c, args = #[.agg #[.int .i64 x.1.op, .string x.1.name, .string x.1.text, .slice a x.1.kids.length c], .int .i64 (x.2 : Nat)] ∧ x.1.kids.length ≤ 9223372036854775807

/-- What an iterator that goes over another one keeps: its loop's side, and its own box Y; what it goes over lies in C. -/
def lift (y : Value) (C G : Nat → Prop) (W : World) (J : Stance) : Stance := fun G1 Wr =>
  ∃ G', J G' Wr ∧ Live G' Wr ∧ G1 = (fun k => G' k ∨ (k ≤ W.heap.size ∧ ¬ C k)) ∧ Box Wr W.heap.size 62 y ∧ ¬ G' W.heap.size ∧ (∀ k, G' k → G k ∨ W.heap.size + 2 ≤ k) ∧ W.heap.size + 2 ≤ Wr.heap.size ∧ Keep (fun k => G k ∨ C k) W Wr

theorem lift_stable {y : Value} {C G : Nat → Prop} {W : World} {J : Stance} (hC : ¬ C W.heap.size) (hJ : Stable J) : Stable (lift y C G W J) := by
  rintro G1 Wr W' ⟨G', h1, h2, rfl, h4, h5, h6, h8, h7⟩ hL hk
  refine ⟨G', hJ G' Wr W' h1 h2 (hk.mono fun k _ hn hg => hn (.inl hg)), fun k hg => Nat.lt_of_lt_of_le (h2 k hg) hk.size, rfl, h4.keep hk (fun hn => hn (.inr ⟨Nat.le_refl _, hC⟩)), h5, h6, Nat.le_trans h8 hk.size,
    hk.os.trans h7.os, hk.tape.trans h7.tape, hk.output.trans h7.output, Nat.le_trans h7.size hk.size, Nat.le_trans h7.drawn hk.drawn, fun k hk' hn => ?_⟩
  rw [hk.block k (Nat.lt_of_lt_of_le hk' h7.size) (fun hn2 => hn2 (.inr ⟨Nat.le_of_lt hk', fun hc => hn (.inr hc)⟩))]
  exact h7.block k hk' hn

theorem unlift {y : Value} {C G H : Nat → Prop} {W A W' : World} {J : Stance} (h : Next (lift y C G W J) H A W') (hA : ∀ k, k < W.heap.size → C k → A.heap[k]? = W.heap[k]?) (hWA : W.heap.size ≤ A.heap.size) (hH : ∀ k, C k → ¬ H k) : Next J G W W' := by
  obtain ⟨_, ⟨G', h1, h2, rfl, _, _, h6, _, h7⟩, _, _, hk⟩ := h
  refine ⟨G', h1, h2, fun k hg => (h6 k hg).imp id fun h => by omega, h7.os, h7.tape, h7.output, h7.size, h7.drawn, fun k hlt hn => ?_⟩
  by_cases hc : C k
  · exact (hk.block k (Nat.lt_of_lt_of_le hlt hWA) (hH k hc)).trans (hA k hlt hc)
  · exact h7.block k hlt (fun h => h.elim hn hc)

/-- A round of the inner loop, by the outer loop's; ahead of it, something is laid (Wr to Wd). -/
theorem relift {y : Value} {C G G' : Nat → Prop} {W Wr Wd W' : World} {J : Stance} (_hC : ¬ C W.heap.size) (h4 : Box Wr W.heap.size 62 y) (h5 : ¬ G' W.heap.size) (h6 : ∀ k, G' k → G k ∨ W.heap.size + 2 ≤ k) (h7 : Keep (fun k => G k ∨ C k) W Wr) (_hCG : ∀ k, C k → ¬ G' k) (hs : W.heap.size + 2 ≤ Wr.heap.size) (hd : Lay Wr Wd) (h : Next J G' Wd W') :
    Next (lift y C G W J) (fun k => G' k ∨ (k ≤ W.heap.size ∧ ¬ C k)) Wr W' := by
  obtain ⟨G2, hJ2, hl2, hg2, hk2⟩ := h
  have hk3 : Keep G' Wr W' := hd.keep.trans hk2
  have hlt := h4.lt
  have hsz := hk3.size
  have hdz := hd.size
  refine ⟨fun k => G2 k ∨ (k ≤ W.heap.size ∧ ¬ C k), ⟨G2, hJ2, hl2, rfl, h4.keep hk3 h5, fun h => (hg2 _ h).elim h5 (fun h => ?_), fun k hk => (hg2 k hk).elim (fun h => h6 k h) (fun h => .inr ?_), Nat.le_trans hs hsz, ?_⟩, fun k hk => ?_, fun k hk => ?_, hk3.mono fun k _ h => .inl h⟩
  · have h : Wd.heap.size ≤ W.heap.size := h
    omega
  · have h : Wd.heap.size ≤ k := h
    omega
  · refine ⟨hk3.os.trans h7.os, hk3.tape.trans h7.tape, hk3.output.trans h7.output, Nat.le_trans h7.size hk3.size, Nat.le_trans h7.drawn hk3.drawn, fun k hlt' hn => ?_⟩
    rw [hk3.block k (Nat.lt_of_lt_of_le hlt' h7.size) (fun hg => (h6 k hg).elim (fun h => hn (.inl h)) (fun h => by omega))]
    exact h7.block k hlt' hn
  · rcases hk with hk | hk
    · exact hl2 k hk
    · omega
  · rcases hk with hk | hk
    · exact (hg2 k hk).elim (fun h => .inl (.inl h)) (fun h => .inr (by omega))
    · exact .inl (.inr hk)

mutual
theorem nodes_count : ∀ (d : Nat) (f : Ft) (p : Ft × Nat), p ∈ Ft.nodes d f → p.1.count ≤ f.count
  | d, .mk o n t k, p, h => by
    rw [Ft.nodes, List.mem_cons] at h
    rcases h with rfl | h
    · exact Nat.le_refl _
    · have := nodesOf_count (d + 1) k p h
      rw [Ft.count]
      omega
theorem nodesOf_count : ∀ (d : Nat) (l : List Ft) (p : Ft × Nat), p ∈ Ft.nodesOf d l → p.1.count ≤ Ft.counts l
  | _, [], p, h => by simp [Ft.nodesOf] at h
  | d, x :: r, p, h => by
    rw [Ft.nodesOf, List.mem_append] at h
    rw [Ft.counts]
    rcases h with h | h
    · have := nodes_count d x p h; omega
    · have := nodesOf_count d r p h; omega
end

theorem KsB.len {C : Nat → Prop} {w : World} {kv : Value} {f : Ft} (h : KsB C w kv f) : f.kids.length ≤ 9223372036854775807 := by
  obtain ⟨o, n, t, k⟩ := f
  rw [KsB] at h
  obtain ⟨_, _, _, h, _⟩ := h
  exact h

/-- What the operations of 'yield(clone(g), depth)' leave. -/
def AV (y g : Value) (d : Nat) : Nat → (Nat → Value) → World → Prop
  | 0, ys, _ => ys 0 = y
  | 1, ys, _ => ys 1 = g
  | 3, ys, _ => ys 3 = .int .i64 d
  | 5, ys, _ => ∃ c : Bool, ys 4 = .bool c ∧ ys 5 = .bool (!c)
  | _, _, _ => True

set_option maxHeartbeats 8000000 in
set_option maxRecDepth 100000 in
theorem all_gives (C : Nat → Prop) (f : Ft) (hcf : f.count ≤ 100000) (B : Nat) (kv : Value) (w : World) (hB : FBox w B kv f) (hCB : C B) (hC : ∀ k, C k → k < w.heap.size) (hks : KsB C w kv f) :
    Gives Try.prog 33 #[.pointer (some ⟨B, 0, none⟩)] C encR (Ft.nodes 0 f) w := by
  intro l J Jx G W hW hCG hJ hJx hY h0 hlive
  have hBW := hB.keep hW (fun h => h hCB)
  have hksW : KsB C W kv f := KsB.keep hW.size (fun b hb hlt => hW.block b hlt (fun h => h hb)) _ _ hks
  have hCW : ∀ k, C k → k < W.heap.size := fun k hk => Nat.lt_of_lt_of_le (hC k hk) hW.size
  obtain ⟨ak, ck, rfl⟩ := hks.shape
  have hGR : ¬ G W.heap.size := fun h => by have := hlive _ h; omega
  have hCR : ¬ C W.heap.size := fun h => by have := hCW _ h; omega
  obtain ⟨Wa, hWa⟩ : ∃ Wa, Wa = W.alloc (.cells #[.func (.yield l) #[] #[]] 62) := ⟨_, rfl⟩
  have hla : Lay W Wa := by rw [hWa]; exact (Keep.refl _ _).alloc _
  have hsa : Wa.heap.size = W.heap.size + 1 := by rw [hWa]; simp
  have hya : Box Wa W.heap.size 62 (.func (.yield l) #[] #[]) := by rw [hWa]; exact Box.new W 62 _
  have hle : Lay Wa (eachW Wa (.slice ak f.kids.length ck) f) := (Keep.refl _ _).alloc _
  have hse : (eachW Wa (.slice ak f.kids.length ck) f).heap.size = W.heap.size + 2 := by unfold eachW; rw [World.size_alloc, hsa]
  have hfe : FBox (eachW Wa (.slice ak f.kids.length ck) f) Wa.heap.size (.slice ak f.kids.length ck) f := FBox.new _ _ _
  rw [hsa] at hfe
  have hke : KsB (fun k => C k ∨ k = W.heap.size + 1) (eachW Wa (.slice ak f.kids.length ck) f) (.slice ak f.kids.length ck) f :=
    KsB.keep (Nat.le_trans hla.size hle.size) (fun b _ hlt => (hle.block (Nat.lt_of_lt_of_le hlt hla.size)).trans (hla.block hlt)) _ _ (KsB.mono (fun b _ hb => .inl hb) _ _ hksW)
  have HG := each_gives (fun k => C k ∨ k = W.heap.size + 1) f hcf _ _ _ hfe (.inr rfl) (fun k hk => by rw [hse]; exact hk.elim (fun h => by have := hCW k h; omega) (fun h => by omega)) hke
  have HEA := Lib.hid (each_any f ak f.kids.length ck Wa)
  obtain ⟨We, hWe⟩ : ∃ We, We = eachW Wa (.slice ak f.kids.length ck) f := ⟨_, rfl⟩
  rw [← hWe] at HEA HG hse hle
  rw [hsa] at HEA
  have hye := hya.keep hle (fun h => h)
  have HLE : Hid (Lay W We) := Lib.hid (hla.trans hle)
  have x0 := hBW.c0
  have x1 := hBW.c1
  have x2 := hBW.c2
  have x3 := hBW.c3
  have HWA := Lib.hid hWa
  have hBlt := hBW.lt
  clear hB hBW hks hksW hfe hke hya hle hWe hWa hla
  refine (callsIn_wide (n := 9)).1 ?_
  refine callsIn_of_wp_marks Try.func33 rfl trivial ?_
  simp only [Try.ntmps33, List.size_toArray, List.length_cons, List.length_nil, Nat.reduceAdd, Nat.reduceSub, Array.replicate_succ, Array.replicate_zero, List.push_toArray, List.append_toArray, List.nil_append, List.cons_append]
  gi_wp2_with fail
  rw [← HWA.out]
  gi_wp2_with (gi_at_call 24; refine (callsIn_wide.2 HEA.out).mono ?_; rintro e w' ⟨rfl, rfl⟩)
  obtain ⟨y, hy⟩ : ∃ y : Value, y = .func (.yield l) #[] #[] := ⟨_, rfl⟩
  have hDJ : ∀ (G' : Nat → Prop), (∀ k, G' k → G k ∨ W.heap.size + 2 ≤ k) → ∀ k, (C k ∨ k = W.heap.size + 1) → ¬ (G' k ∨ (k ≤ W.heap.size ∧ ¬ C k)) := by
    rintro G' h6 k hc (hg | ⟨h1, h2⟩)
    · rcases h6 k hg with h | h
      · rcases hc with hc | rfl
        · exact hCG k hc h
        · have := hlive _ h; omega
      · rcases hc with hc | rfl
        · have := hCW k hc; omega
        · omega
    · rcases hc with hc | rfl
      · exact h2 hc
      · omega
  refine wpIn_over (gf := 34) (lb := #[.pointer (some ⟨W.heap.size + 1, 0, none⟩)]) rfl (enters_of Try.func34 (by kernel_rfl) rfl) HG (fun k hk => by rw [hse]; exact hk.elim (fun h => by have := hCW k h; omega) (fun h => by omega)) (fun x args _ ⟨kv, h, _⟩ => by rw [h]; rfl)
    (fun pre => lift (.func (.yield l) #[] #[]) C G W (J pre)) (fun c pre => lift (.func (.yield l) #[] #[]) C G W (fun G' Wr => c = .ret ∧ Jx pre G' Wr))
    (fun s => lift_stable hCR (hJ _)) (fun c s => lift_stable hCR (fun G' W1 W2 h hl hk => ⟨h.1, hJx _ G' W1 W2 h.2 hl hk⟩)) (fun k => G k ∨ (k ≤ W.heap.size ∧ ¬ C k)) (hDJ G fun k h => .inl h)
    ⟨G, hJ _ _ _ _ h0 hlive HLE.out.keep, fun k hk => Nat.lt_of_lt_of_le (hlive k hk) HLE.out.size, rfl, hye, hGR, fun k hk => .inl hk, Nat.le_of_eq hse.symm, HLE.out.keep⟩
    (fun k hk => hk.elim (fun hk => Nat.lt_of_lt_of_le (hlive k hk) HLE.out.size) (fun hk => by rw [hse]; omega))
    (fun x args B' a Wm => ∃ (av : Option Addr) (cv : Nat), args = #[x.1.val (.slice av x.1.kids.length cv), .int .i64 (x.2 : Nat)] ∧ FBox Wm B' (.slice av x.1.kids.length cv) x.1 ∧ a = { tmps := #[.func (.yield l) #[] #[], .pointer (some ⟨B, 0, none⟩), .pointer (some ⟨W.heap.size, 0, none⟩), .pointer (some ⟨B', 0, none⟩), .int .i64 (x.2 : Nat), .agg #[.int .i64 f.op, .string f.name, .string f.text, .slice ak f.kids.length ck], .func (.func 34) #[] #[.pointer (some ⟨W.heap.size + 1, 0, none⟩)], .agg #[.int .i64 x.1.op, .string x.1.name, .string x.1.text, .slice av x.1.kids.length cv], .int .i64 (x.2 : Nat), undef, undef, undef, undef, undef, undef], defers := [] })
    (fun _ _ _ _ _ _ ⟨av, cv, h0, h, e⟩ hk => ⟨av, cv, h0, h.keep hk (Nat.lt_irrefl _), e⟩) ?assign ?body ?done ?stop
  case assign =>
    rintro l2 x args W2 K ⟨kv, rfl, hk⟩ hK
    obtain ⟨av, cv, rfl⟩ := hk.shape
    have HK := Lib.hid hK
    clear hK hk
    simp only [Ft.val]
    gi_wp2_with fail
    exact HK.out _ _ ((Keep.refl _ _).alloc _) ⟨av, cv, rfl, FBox.new _ _ _, by simp⟩
  case body =>
    rintro l2 pre x args G1 B' a Wz Wr ⟨kv0, hargs0, hkb0⟩ hzr hpx ⟨G', h1, h2, rfl, h4, h5, h6, hsWr, h7⟩ hlt hBle ⟨av, cv, hargs, hfx, rfl⟩
    obtain rfl : kv0 = .slice av x.1.kids.length cv := by
      rw [hargs0] at hargs
      simp only [Ft.val] at hargs
      injection hargs with h
      simpa using h
    have hkb : KsB (fun k => C k ∨ k = W.heap.size + 1) Wr (.slice av x.1.kids.length cv) x.1 := KsB.keep hzr.size (fun b hb hlt => hzr.block b hlt (fun h => h hb)) _ _ hkb0
    have h63 := hkb.len
    have hmem : x ∈ Ft.nodes 0 f := hpx.subset (by simp)
    have hxc := nodes_count 0 f x hmem
    have hcl := clone_any x.1.count x.1 Wr.drew (x.1.val (.slice av x.1.kids.length cv)) (Nat.le_refl _) (by omega) ⟨_, rfl, KsAt.below (Lay.below ((Keep.refl _ Wr).drew)) _ _ (KsB.at _ _ hkb)⟩
    simp only [Ft.val] at hcl
    have HCL := Lib.hid hcl
    have hyc := h4.cell
    have hylt := h4.lt
    have HFX := Lib.hid hfx
    have hJd := hJ _ _ _ _ h1 h2 ((Keep.refl (fun k => ¬ G' k) Wr).drew)
    have hCG' : ∀ k, C k → ¬ G' k := fun k hk h => hDJ G' h6 k (.inl hk) (.inl h)
    have HRL := Lib.hid fun (J' : Stance) (Wd W' : World) (hd : Lay Wr Wd) (h : Next J' G' Wd W') => relift (J := J') hCR h4 h5 h6 h7 hCG' hsWr hd h
    have HY := Lib.hid hY
    have HPX := Lib.hid hpx
    have HJS := Lib.hid hJ
    clear hY hpx hkb0 hkb hzr hargs0 hargs hcl hfx h4 h6 h7 hmem HG
    gi_wp2_with fail
    refine wpIn_region_flow (fun _ => trivial) (by kernel_rfl) (waist2I 2 4 Wr.drew (fun v w' => ∃ a' c', v = .agg #[.int .i64 x.1.op, .string x.1.name, .string x.1.text, .slice a' x.1.kids.length c'] ∧ Lay Wr w')
        (fun v w' => ∃ Wd, Lay Wr Wd ∧ ((v = .bool true ∧ Next (J (pre ++ [x])) G' Wd w') ∨ (v = .bool false ∧ Next (Jx (pre ++ [x])) G' Wd w')))) (fun _ _ _ _ => True)
      (AV (.func (.yield l) #[] #[]) (.agg #[.int .i64 x.1.op, .string x.1.name, .string x.1.text, .slice av x.1.kids.length cv]) x.2) (fun j => j == 5) (by kernel_rfl) (by kernel_rfl) ?hst ⟨fun _ => rfl, fun h => (by cases h), fun h => (by cases h)⟩ ?step ?fin
    case hst =>
      intro i' j ys v w1' w2' hij hanc _ hV _
      match j, hV with
      | 0, hV => exact (upd_other ys v (Ne.symm hij)).trans hV
      | 1, hV => exact (upd_other ys v (Ne.symm hij)).trans hV
      | 2, hV => trivial
      | 3, hV => exact (upd_other ys v (Ne.symm hij)).trans hV
      | 4, hV => trivial
      | 5, hV =>
        obtain ⟨c, h5, h6⟩ := hV
        by_cases e : i' = 4
        · subst e; cases hanc.symm.trans (by kernel_rfl : _ = true)
        · exact ⟨c, (upd_other ys v (Ne.symm e)).trans h5, (upd_other ys v (Ne.symm hij)).trans h6⟩
      | _ + 6, hV => trivial
    case step =>
      have hlay : ∀ (listed : Array Bool) (ys : Nat → Value) (w' : World), waist2I 2 4 Wr.drew (fun v w' => ∃ a' c', v = .agg #[.int .i64 x.1.op, .string x.1.name, .string x.1.text, .slice a' x.1.kids.length c'] ∧ Lay Wr w')
        (fun v w' => ∃ Wd, Lay Wr Wd ∧ ((v = .bool true ∧ Next (J (pre ++ [x])) G' Wd w') ∨ (v = .bool false ∧ Next (Jx (pre ++ [x])) G' Wd w'))) listed ys w' → listed.getD 4 false = false → Lay Wr w' := by
        intro listed ys w' hI h6
        cases h4 : listed.getD 2 false with
        | false => rw [hI.1 h4]; exact (Keep.refl _ _).drew
        | true => obtain ⟨_, _, _, h⟩ := hI.2.1 h4 h6; exact h
      have HLAY := Lib.hid hlay
      clear hlay
      refine ⟨?_, ?_, ?_, ?_, ?_, ?_, trivial⟩
      · intro listed ys A w' hsz hsd hi2 hall hA hI hd K hK
        have e2 : A.tmps.getD 2 undef = .pointer (some ⟨W.heap.size, 0, none⟩) := hA 2 (Nat.le_of_ble_eq_true rfl)
        have hyc' := ((HLAY.out listed ys w' hI (not_yet hsd hi2 (by kernel_rfl))).cell (b := W.heap.size) (o := 0) hylt).trans hyc
        refine step_run (.inl rfl) ?_
        clear hA hd
        go_simp
        exact hK _ _ (hI.other (by decide) (by decide) _) trivial (upd_same _ _ _)
      · intro listed ys A w' hsz hsd hi2 hall hA hI hd K hK
        have e3 : A.tmps.getD 3 undef = .pointer (some ⟨B', 0, none⟩) := hA 3 (Nat.le_of_ble_eq_true rfl)
        have hl' := HLAY.out listed ys w' hI (not_yet hsd hi2 (by kernel_rfl))
        obtain ⟨x0, x1, x2, x3, z0, z1, z2, z3⟩ := (HFX.out.keep hl' (fun h => h)).bx
        refine step_run (.inl rfl) ?_
        clear hA hd hl'
        go_simp
        exact hK _ _ (hI.other (by decide) (by decide) _) trivial (upd_same _ _ _)
      · intro listed ys A w' hsz hsd hi2 hall hA hI hd K hK
        have e10 : A.tmps.getD 10 undef = .agg #[.int .i64 x.1.op, .string x.1.name, .string x.1.text, .slice av x.1.kids.length cv] := (hA 10 (Nat.le_of_ble_eq_true rfl)).trans (hd ⟨1, .data⟩ (by simp) rfl)
        have h6 := not_yet (c := 4) hsd hi2 (by kernel_rfl)
        obtain rfl := hI.1 hi2
        refine step_run (.inl rfl) ?_
        clear hA hd
        go_simp
        refine (callsIn_wide.2 HCL.out).mono ?_
        rintro e W4 ⟨kv', rfl, hkb, hl4⟩
        obtain ⟨a', c', rfl⟩ := hkb.shape
        exact hK _ _ (waist2I.call (by rw [hsz]; decide) (by decide) h6 ⟨a', c', rfl, ((Keep.refl _ Wr).drew).trans hl4⟩) trivial trivial
      · intro listed ys A w' hsz hsd hi2 hall hA hI hd K hK
        have e4 : A.tmps.getD 4 undef = .int .i64 (x.2 : Nat) := hA 4 (Nat.le_of_ble_eq_true rfl)
        refine step_run (.inl rfl) ?_
        clear hA hd
        go_simp
        exact hK _ _ (hI.other (by decide) (by decide) _) trivial (upd_same _ _ _)
      · intro listed ys A w' hsz hsd hi2 hall hA hI hd K hK
        have e9 : A.tmps.getD 9 undef = .func (.yield l) #[] #[] := (hA 9 (Nat.le_of_ble_eq_true rfl)).trans (hd ⟨0, .data⟩ (by simp) rfl)
        have e12 : A.tmps.getD 12 undef = .int .i64 (x.2 : Nat) := (hA 12 (Nat.le_of_ble_eq_true rfl)).trans (hd ⟨3, .data⟩ (by simp) rfl)
        have h2' : listed.getD 2 false = true := hall ⟨2, .data⟩ (by simp) rfl
        obtain ⟨a', c', hv, hl4⟩ := hI.2.1 h2' hi2
        have e11 : A.tmps.getD 11 undef = .agg #[.int .i64 x.1.op, .string x.1.name, .string x.1.text, .slice a' x.1.kids.length c'] := (hA 11 (Nat.le_of_ble_eq_true rfl)).trans hv
        obtain ⟨fn, tmps, assign, body, hyy, hR⟩ := HY.out pre x G' w' _ ⟨a', c', rfl, h63⟩ HPX.out (HJS.out _ _ _ _ h1 h2 hl4.keep) (fun k hk => Nat.lt_of_lt_of_le (h2 k hk) hl4.size) 4
        have HR := Lib.hid hR
        have HL4 := Lib.hid hl4
        refine step_run (.inl rfl) ?_
        clear hA hd hR hl4 hv
        go_simp
        refine (round_in (round_any HR.out)).mono ?_
        rintro e W3 (⟨rfl, hn⟩ | ⟨rfl, hn⟩)
        · exact hK _ _ (waist2I.last (by rw [hsz]; decide) (by decide) h2' ⟨w', HL4.out, .inl ⟨rfl, hn⟩⟩) trivial trivial
        · exact hK _ _ (waist2I.last (by rw [hsz]; decide) (by decide) h2' ⟨w', HL4.out, .inr ⟨rfl, hn⟩⟩) trivial trivial
      · intro listed ys A w' hsz hsd hi2 hall hA hI hd K hK
        obtain ⟨Wd, hld, hn⟩ := hI.2.2 (hall ⟨4, .data⟩ (by simp) rfl)
        have e13 : A.tmps.getD 13 undef = ys 4 := hA 13 (Nat.le_of_ble_eq_true rfl)
        rcases hn with ⟨hb, _⟩ | ⟨hb, _⟩
        · rw [hb] at e13
          refine step_run (.inl rfl) ?_
          clear hA hd
          go_simp
          exact hK _ _ (hI.other (by decide) (by decide) _) trivial ⟨true, (upd_other _ _ (by decide)).trans hb, upd_same _ _ _⟩
        · rw [hb] at e13
          refine step_run (.inl rfl) ?_
          clear hA hd
          go_simp
          exact hK _ _ (hI.other (by decide) (by decide) _) trivial ⟨false, (upd_other _ _ (by decide)).trans hb, upd_same _ _ _⟩
    case fin =>
      intro listed ys w' hall hI hV
      obtain ⟨Wd, hld, hn⟩ := hI.2.2 (hall 4 (by decide))
      obtain ⟨c, hc4, hc5⟩ := hV 5 (by decide) rfl
      have HLD := Lib.hid hld
      clear hI hV hall hld
      rcases hn with ⟨hb, hn⟩ | ⟨hb, hn⟩
      · rw [hb] at hc4
        obtain rfl : c = true := by injection hc4 with h; exact h.symm
        have HN := Lib.hid (HRL.out _ Wd w' HLD.out hn)
        clear hn hb hc4
        simp only [putsFrom]
        simp only [hc5, Bool.not_true, Act.put, List.setIfInBounds_toArray, List.set_cons_succ, List.set_cons_zero]
        gi_wp2_with fail
        exact HN.out
      · rw [hb] at hc4
        obtain rfl : c = false := by injection hc4 with h; exact h.symm
        have HN := Lib.hid hn
        clear hn hb hc4
        simp only [putsFrom]
        simp only [hc5, Bool.not_false, Act.put, List.setIfInBounds_toArray, List.set_cons_succ, List.set_cons_zero]
        gi_wp2_with fail
        show Next (lift _ C G W (fun G' Wr => Code.ret = .ret ∧ Jx (pre ++ [x]) G' Wr)) _ Wr w'
        exact HRL.out _ Wd w' HLD.out (HN.out.imp fun _ _ h => ⟨rfl, h⟩)
  case done =>
    intro D We' hlf
    have HN := Lib.hid (unlift (hlf.shut (lift_stable hCR (hJ _))) (fun k hk _ => HLE.out.block hk) HLE.out.size (fun k hk h => hDJ G (fun k h => .inl h) k (.inl hk) h))
    gi_wp2_with fail
    refine ⟨by simp, .inl ⟨_, _, rfl, hlf.takes, ?_⟩⟩
    exact ⟨_, results_none rfl _ _ _, ⟨_, rfl⟩, .inl HN.out⟩
  case stop =>
    intro D c pre We' hpre hlf
    have hc : c = .ret := by obtain ⟨_, ⟨_, ⟨hc, _⟩, _⟩, _⟩ := hlf; exact hc
    subst hc
    have HN := Lib.hid (unlift (hlf.shut (lift_stable hCR (fun G' W1 W2 h hl hk => ⟨h.1, hJx _ G' W1 W2 h.2 hl hk⟩))) (fun k hk _ => HLE.out.block hk) HLE.out.size (fun k hk h => hDJ G (fun k h => .inl h) k (.inl hk) h))
    gi_wp2_with fail
    refine ⟨by simp, .inl ⟨_, _, rfl, hlf.takes, ?_⟩⟩
    exact ⟨_, results_none rfl _ _ _, ⟨_, rfl⟩, .inr ⟨pre, hpre, HN.out.imp fun _ _ h => h.2⟩⟩

end Go.Proofs.Ytgmahdeaggjjgaa
