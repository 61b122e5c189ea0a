/-
  model.Pages: THE ITERATOR OVER THE PAGES OF AN ANSWER, each a copy of its own.
-/
import Derived.Test.YtidjodplimkmgaaGreatDoorCh11
import Derived.Test.YtidjodplimkmgaaGreatDoorFlow6
namespace Go.Proofs.YtidjodplimkmgaaGreatDoor.E4
open Go.RowKit Go Go.Shelf

attribute [local go_sem] Oper.semAt_some wide_fn wide_depth

/-- What is handed over: a page, in blocks that are the taker's. -/
def encP (R : List (Value × Ent)) (args : Array Value) (own : Nat → Prop) (W : World) : Prop := ∃ v, args = #[v] ∧ RawSl own W v R

theorem RawSl.mono {C D : Nat → Prop} {W : World} {v : Value} {R : List (Value × Ent)} (h : RawSl C W v R) (hd : ∀ k, C k → D k) : RawSl D W v R := by
  obtain ⟨a, c, hv, h | ⟨b, off, ha, hb, hlt, hr⟩⟩ := h
  · exact ⟨a, c, hv, .inl h⟩
  · exact ⟨a, c, hv, .inr ⟨b, off, ha, hd b hb, hlt, hr⟩⟩

theorem RawAt.block {W W' : World} {b off : Nat} {R : List (Value × Ent)} (h : RawAt W b off R) (hb : W'.heap[b]? = W.heap[b]?) : RawAt W' b off R := fun i hi => by
  obtain ⟨x0, x1, x2⟩ := h i hi
  exact ⟨(World.cell?_of_block (a := ⟨b, off + i * 3, none⟩) hb).trans x0, (World.cell?_of_block (a := ⟨b, off + i * 3 + 1, none⟩) hb).trans x1, (World.cell?_of_block (a := ⟨b, off + i * 3 + 2, none⟩) hb).trans x2⟩

theorem RawSl.keep {C G : Nat → Prop} {W W' : World} {v : Value} {R : List (Value × Ent)} (h : RawSl C W v R) (hk : Keep G W W') (hd : ∀ k, C k → ¬ G k) : RawSl C W' v R := by
  obtain ⟨a, c, hv, h | ⟨b, off, ha, hb, hlt, hr⟩⟩ := h
  · exact ⟨a, c, hv, .inl h⟩
  · exact ⟨a, c, hv, .inr ⟨b, off, ha, hb, Nat.lt_of_lt_of_le hlt hk.size, hr.block (hk.block b hlt (hd b hb))⟩⟩

theorem Rk.rawSl {G : Nat → Prop} {W : World} {v : Value} {R : List (Value × Ent)} (h : Rk 3 G W v R.length (flatR R)) : RawSl (fun b => G b ∧ At v b ∧ b < W.heap.size) W v R := by
  obtain ⟨_, ⟨rfl, h0⟩ | ⟨g, cap, rfl, hg, hlt, _, _, hr, _⟩⟩ := h.rawAt
  · subst h0
    exact ⟨none, 0, rfl, .inl rfl⟩
  · exact ⟨_, cap, rfl, .inr ⟨g, 0, rfl, ⟨hg, ⟨_, _, rfl⟩, hlt⟩, hlt, hr⟩⟩

/-- All cells of the raw rows are of one cell each. -/
def OneC (R : List (Value × Ent)) : Prop := ∀ x ∈ R, x.1.oneCell' = true
theorem OneC.flat : ∀ {R : List (Value × Ent)}, OneC R → ∀ u ∈ flatR R, u.oneCell' = true
  | [], _, u, hu => by simp [flatR] at hu
  | x :: r, h, u, hu => by
    simp only [flatR, rawC, List.cons_append, List.nil_append, List.mem_cons] at hu
    rcases hu with rfl | rfl | rfl | hu
    · rfl
    · exact h x (by simp)
    · rfl
    · exact OneC.flat (R := r) (fun y hy => h y (List.mem_cons_of_mem _ hy)) u hu
theorem OneC.of_raw {L : Nat → Prop} {w : World} {R : List (Value × Ent)} (h : RawL L w R) : OneC R := fun x hx => (h x hx).one

set_option maxHeartbeats 2000000 in
set_option maxRecDepth 100000 in
/-- slices.Clone of what lies raw. -/
theorem cloneR_any (C : Nat → Prop) (R : List (Value × Ent)) (v : Value) (w : World) (h : RawSl C w v R) (hone : OneC R) (hn : R.length ≤ 1000000) :
    Calls Tryz.prog 20 #[v] w fun e w' => ∃ v', e = .returned v' ∧ Rk 3 (fun k => w.heap.size ≤ k) w' v' R.length (flatR R) ∧ Lay w w' := by
  obtain ⟨i24, z24, E24⟩ := elem24
  have q39 : ∀ (w : World) (a : Option Addr) (n c n' c' : Nat), (binOp .eql 33 (.slice a n c) (.slice none n' c')).run Tryz.prog w = .ok (.bool a.isNone) w := fun w a n c n' c' => Lib.run_eql_slice_nil w _ _ a n c n' c' Tryz.underlying33
  obtain ⟨a, c, rfl, h0⟩ := h
  have hs : ∀ w1, Lay w w1 → Src Tryz.prog 3 33 (.slice a R.length c) R.length (flatR R) w1 := by
    intro w1 hl
    rcases h0 with rfl | ⟨b, off, rfl, _, hlt, hr⟩
    · cases a with
      | none => exact Src.ofNil _ Tryz.underlying33 c
      | some p => exact Src.ofSlice _ Tryz.underlying33 p 0 c [] rfl (fun j u hu => by simp at hu) (fun u hu => by simp at hu)
    · exact Src.ofSlice _ Tryz.underlying33 ⟨b, off, none⟩ R.length c (flatR R) (flatR_length R) (fun j u hu => by rw [add_lit]; exact (RawAt.lay hr hlt hl).cells j u hu) hone.flat
  cases a with
  | none =>
    have h0 : R = [] := by
      rcases h0 with h0 | ⟨b, off, h0, _⟩
      · exact h0
      · cases h0
    subst h0
    clear hs
    go_enter Tryz.func20, Tryz.ntmps20
    go_wp2
    go_ret
    exact ⟨_, rfl, Rk.nil _ _ _, Keep.refl _ _⟩
  | some p =>
    clear h0
    have HSS := Lib.hid (hs (w.alloc (.cells #[] 43)) ((Keep.refl _ _).alloc _))
    clear hs
    go_enter Tryz.func20, Tryz.ntmps20
    go_wp2_with (at_builtin; refine wpList_append_rk E24 _ rfl _ _ 33 rfl (G := fun k => w.heap.size ≤ k) rfl ((rk_new 3 w 0 [] 43 rfl (by omega)).mono (fun k hk _ => Nat.le_of_eq hk.symm)) ?c1 _ R.length (flatR R) rfl HSS.out ?c2 ?c3 ?_)
    case c1 => intro k hk; simp at hk; omega
    case c2 => omega
    case c3 => omega
    intro v' w1 hrk hk
    have HK := Lib.hid hrk
    have hk2 : Keep (fun k => w.heap.size ≤ k) (w.alloc (.cells #[] 43)) w1 := hk.into (fun b _ hb => by
      obtain ⟨n, c, e⟩ := hb
      simp only [Value.slice.injEq, Option.some.injEq, Addr.mk.injEq, and_true] at e
      omega)
    have hlay : Lay w w1 := Keep.into (Keep.trans ((Keep.refl (fun k => w.heap.size ≤ k) w).alloc _) hk2) (fun k hlt hk => by omega)
    have HLY := Lib.hid hlay
    clear hrk hk hk2 hlay
    go_wp2
    go_ret
    exact ⟨v', rfl, by simpa using HK.out.mono (fun k hk _ => hk.1), HLY.out⟩

/-- What the operations of 'yield(clone(page))' leave. -/
def AV (y g : Value) : Nat → (Nat → Value) → World → Prop
  | 0, ys, _ => ys 0 = y
  | 1, ys, _ => ys 1 = g
  | 4, ys, _ => ∃ c : Bool, ys 3 = .bool c ∧ ys 4 = .bool (!c)
  | _, _, _ => True

theorem chunk_pos {α : Type} {n : Nat} (_hn : 1 ≤ n) {l : List α} (_h0 : 0 < l.length) {x : List α} (hx : x ∈ chunks n l) : ∀ y ∈ x, y ∈ l := by
  obtain ⟨j, hj, rfl⟩ := List.getElem_of_mem hx
  rw [chunks_at hj]
  intro y hy
  exact List.mem_of_mem_drop (List.mem_of_mem_take hy)
theorem chunk_len {α : Type} {n : Nat} {l : List α} {x : List α} (hx : x ∈ chunks n l) : x.length ≤ l.length := by
  obtain ⟨j, hj, rfl⟩ := List.getElem_of_mem hx
  rw [chunks_at hj, List.length_take, List.length_drop]
  omega

set_option maxHeartbeats 16000000 in
set_option maxRecDepth 100000 in
theorem pages_gives1 (C : Nat → Prop) (R : List (Value × Ent)) (g cap lim BL BR : Nat) (w : World) (hBL : Box w BL 3 (.int .i64 (lim : Nat))) (hBR : Box w BR 33 (.slice (some ⟨g, 0, none⟩) R.length cap)) (hCL : C BL) (hCR : C BR) (hCg : C g) (hC : ∀ k, C k → k < w.heap.size) (hraw : RawAt w g 0 R) (hone : OneC R)
    (h0 : 0 < R.length) (hlim : 1 ≤ lim) (hlim2 : lim ≤ 1000) (hn : R.length ≤ 1000) (hcap : R.length ≤ cap) :
    Gives Tryz.prog 18 #[.pointer (some ⟨BL, 0, none⟩), .pointer (some ⟨BR, 0, none⟩)] C encP (chunks lim R) w := by
  intro l J Jx G W hW hCG hJ hJx hY h0J hlive
  have hmx : Tryz.prog.follows .mixedOrders = true := by kernel_rfl
  have hBLW := hBL.keep hW (fun h => h hCL)
  have hBRW := hBR.keep hW (fun h => h hCR)
  have hgW : W.heap[g]? = w.heap[g]? := hW.block g (hC g hCg) (fun h => h hCg)
  have hrawW := hraw.block hgW
  have hCW : ∀ k, C k → k < W.heap.size := fun k hk => Nat.lt_of_lt_of_le (hC k hk) hW.size
  have hGR : ¬ G W.heap.size := fun h => by have := hlive _ h; omega
  have hCR' : ¬ C W.heap.size := fun h => by have := hCW _ h; omega
  obtain ⟨Wa, hWa⟩ : ∃ Wa, Wa = W.alloc (.cells #[.func (.yield l) #[] #[]] 60) := ⟨_, rfl⟩
  have hla : Lay W Wa := by rw [hWa]; exact (Keep.refl _ _).alloc _
  have hsa : Wa.heap.size = W.heap.size + 1 := by rw [hWa]; simp
  have hya : Box Wa W.heap.size 60 (.func (.yield l) #[] #[]) := by rw [hWa]; exact Box.new W 60 _
  have hle : Lay Wa (chunkW Wa (.slice (some ⟨g, 0, none⟩) R.length cap) (lim : Nat)) := ((Keep.refl _ _).alloc _).alloc _
  have hse : (chunkW Wa (.slice (some ⟨g, 0, none⟩) R.length cap) (lim : Nat)).heap.size = W.heap.size + 3 := by unfold chunkW; rw [World.size_alloc, World.size_alloc, hsa]
  have hf1 : Box (chunkW Wa (.slice (some ⟨g, 0, none⟩) R.length cap) (lim : Nat)) (W.heap.size + 1) 33 (.slice (some ⟨g, 0, none⟩) R.length cap) := by
    have h := (Box.new Wa 33 (.slice (some ⟨g, 0, none⟩) R.length cap)).alloc (.cells #[.int .i64 (lim : Nat)] 3)
    rw [hsa] at h
    exact h
  have hf2 : Box (chunkW Wa (.slice (some ⟨g, 0, none⟩) R.length cap) (lim : Nat)) (W.heap.size + 2) 3 (.int .i64 (lim : Nat)) := by
    have h := Box.new (Wa.alloc (.cells #[.slice (some ⟨g, 0, none⟩) R.length cap] 33)) 3 (.int .i64 (lim : Nat))
    rw [World.size_alloc, hsa] at h
    exact h
  have hgl := hC g hCg
  have hraw3 : RawAt (chunkW Wa (.slice (some ⟨g, 0, none⟩) R.length cap) (lim : Nat)) g 0 R := hrawW.block ((hle.block (by rw [hsa]; have := hCW g hCg; omega)).trans (hla.block (hCW g hCg)))
  have HG := chunk_gives (fun k => C k ∨ k = W.heap.size + 1 ∨ k = W.heap.size + 2) R g cap lim (W.heap.size + 1) (W.heap.size + 2) _ hf1 hf2 (.inr (.inl rfl)) (.inr (.inr rfl)) (.inl hCg) (fun k hk => by rw [hse]; rcases hk with h | h | h; (have := hCW k h; omega); omega; omega) hraw3 h0 hlim hlim2 hn hcap
  have HEA := Lib.hid (chunk_any (some ⟨g, 0, none⟩) R.length cap lim hlim Wa)
  obtain ⟨We, hWe⟩ : ∃ We, We = chunkW Wa (.slice (some ⟨g, 0, none⟩) R.length cap) (lim : Nat) := ⟨_, rfl⟩
  rw [← hWe] at HEA HG hse hle
  rw [hsa] at HEA
  have hye := hya.keep hle (fun h => h)
  have HLE : Hid (Lay W We) := Lib.hid (hla.trans hle)
  have x0 := hBLW.cell
  have x1 := hBRW.cell
  have HWA := Lib.hid hWa
  have hBLl := hBLW.lt
  have hBRl := hBRW.lt
  have HONE : Hid (∀ x ∈ chunks lim R, OneC x ∧ x.length ≤ 1000) := Lib.hid fun x hx => ⟨fun y hy => hone y (chunk_pos hlim h0 hx y hy), Nat.le_trans (chunk_len hx) hn⟩
  have l1 : ¬ (lim : Int) < 1 := by omega
  have l2 : ((R.length : Int) == 0) = false := beq_eq_false_iff_ne.2 (by omega)
  clear hBL hBR hBLW hBRW hgW hraw hrawW hraw3 hf1 hf2 hya hle hWe hWa hla hone
  refine (callsIn_wide (n := 9)).1 ?_
  refine callsIn_of_wp_marks Tryz.func18 rfl trivial ?_
  simp only [Tryz.ntmps18, List.size_toArray, List.length_cons, List.length_nil, Nat.reduceAdd, Nat.reduceSub, Array.replicate_succ, Array.replicate_zero, List.push_toArray, List.append_toArray, List.nil_append, List.cons_append]
  gi_wp2_with fail
  rw [← HWA.out]
  gi_wp2_with (gi_at_call 19; refine (callsIn_wide.2 HEA.out).mono ?_; rintro e w' ⟨rfl, rfl⟩)
  have hDJ : ∀ (G' : Nat → Prop), (∀ k, G' k → G k ∨ W.heap.size + 3 ≤ k) → ∀ k, (C k ∨ k = W.heap.size + 1 ∨ k = W.heap.size + 2) → ¬ (G' k ∨ (k ≤ W.heap.size ∧ ¬ C k)) := by
    rintro G' h6 k hc (hg | ⟨h1, h2⟩)
    · rcases h6 k hg with h | h
      · rcases hc with hc | rfl | rfl
        · exact hCG k hc h
        · have := hlive _ h; omega
        · have := hlive _ h; omega
      · rcases hc with hc | rfl | rfl
        · have := hCW k hc; omega
        · omega
        · omega
    · rcases hc with hc | rfl | rfl
      · exact h2 hc
      · omega
      · omega
  have hCe : ∀ k, (C k ∨ k = W.heap.size + 1 ∨ k = W.heap.size + 2) → k < We.heap.size := fun k hk => by
    rw [hse]
    rcases hk with h | h | h
    · have := hCW k h; omega
    · omega
    · omega
  refine wpIn_over (gf := 30) (lb := #[.pointer (some ⟨W.heap.size + 1, 0, none⟩), .pointer (some ⟨W.heap.size + 1 + 1, 0, none⟩)]) rfl (enters_of Tryz.func30 (by kernel_rfl) rfl) HG hCe (fun x args _ _ ⟨_, kv, h, _⟩ => by rw [h]; rfl)
    (fun pre => lift 60 (.func (.yield l) #[] #[]) C G W (J pre)) (fun c pre => lift 60 (.func (.yield l) #[] #[]) C G W (fun G' Wr => c = .ret ∧ Jx pre G' Wr))
    (fun s => lift_stable hCR' (hJ _)) (fun c s => lift_stable hCR' (fun G' W1 W2 h hl hk => ⟨h.1, hJx _ G' W1 W2 h.2 hl hk⟩)) (fun k => G k ∨ (k ≤ W.heap.size ∧ ¬ C k)) (hDJ G fun k h => .inl h)
    ⟨G, hJ _ _ _ _ h0J hlive HLE.out.keep, fun k hk => Nat.lt_of_lt_of_le (hlive k hk) HLE.out.size, rfl, hye, hGR, fun k hk => .inl hk, Nat.le_of_eq hse.symm, HLE.out.keep⟩
    (fun k hk => hk.elim (fun hk => Nat.lt_of_lt_of_le (hlive k hk) HLE.out.size) (fun hk => by rw [hse]; omega))
    (fun x args B' a Wm => ∃ (av : Option Addr) (cv : Nat), args = #[.slice av x.length cv] ∧ a = { tmps := #[.func (.yield l) #[] #[], .pointer (some ⟨BL, 0, none⟩), .pointer (some ⟨BR, 0, none⟩), .pointer (some ⟨W.heap.size, 0, none⟩), .slice av x.length cv, .int .i64 (lim : Nat), .bool false, .bool false, .slice (some ⟨g, 0, none⟩) R.length cap, .int .i64 R.length, .bool false, .bool false, undef, undef, .slice (some ⟨g, 0, none⟩) R.length cap, .int .i64 (lim : Nat), .func (.func 30) #[] #[.pointer (some ⟨W.heap.size + 1, 0, none⟩), .pointer (some ⟨W.heap.size + 1 + 1, 0, none⟩)], .slice av x.length cv, undef, undef, undef, undef, undef], defers := [] }) (fun _ _ _ _ _ _ ⟨av, cv, h0, e⟩ _ => ⟨av, cv, h0, e⟩) ?assign ?body ?done ?stop
  case assign =>
    rintro l2 x args own W2 K ⟨_, v, rfl, av, cv, rfl, _⟩ hK
    have HK := Lib.hid hK
    clear hK
    gi_wp2_with fail
    exact HK.out _ _ (Keep.refl _ _) ⟨av, cv, rfl, by simp⟩
  case body =>
    rintro l2 pre x args G1 own B' a Wz Wr ⟨hown, v0, hargs0, hsl0⟩ _ _ hzr hpx ⟨G', h1, h2, rfl, h4, h5, h6, hsWr, h7⟩ hlt hBle ⟨av, cv, hargs, rfl⟩
    obtain rfl : v0 = .slice av x.length cv := by
      rw [hargs0] at hargs
      simpa using hargs
    have hsl : RawSl (fun k => C k ∨ k = W.heap.size + 1 ∨ k = W.heap.size + 2) Wr (.slice av x.length cv) x := hsl0.keep hzr (fun k hc hn => hn.1 hc)
    have hmem : x ∈ chunks lim R := hpx.subset (by simp)
    obtain ⟨hox, hxn⟩ := HONE.out x hmem
    have HCL := Lib.hid (cloneR_any _ x (.slice av x.length cv) Wr.drew (hsl.keep ((Keep.refl (fun _ => False) Wr).drew) (fun _ _ h => h)) hox (by omega))
    have hyc := h4.cell
    have hylt := h4.lt
    have hCG' : ∀ k, C k → ¬ G' k := fun k hk h => hDJ G' h6 k (.inl hk) (.inl h)
    have HRL := Lib.hid fun (J' : Stance) (W' : World) (h : Next J' G' Wr W') => relift (J := J') hCR' h4 h5 h6 h7 hCG' hsWr (Keep.refl _ Wr) h
    have HY := Lib.hid hY
    have HPX := Lib.hid hpx
    have HJS := Lib.hid hJ
    have HH1 := Lib.hid h1
    have HH2 := Lib.hid h2
    clear hY hpx hsl0 hsl hzr hargs0 hargs h4 h6 h7 hmem HG h1 h2 hox
    gi_wp2_with fail
    refine YtidjodplimkmgaaGreatDoor.wpIn_region_flow (fun _ => trivial) (by kernel_rfl) (YtidjodplimkmgaaGreatDoor.waist2I 2 3 Wr.drew (fun v w' => ∃ a' c', v = .slice a' x.length c' ∧ Rk 3 (fun k => Wr.heap.size ≤ k) w' v x.length (flatR x) ∧ Lay Wr w')
        (fun v w' => (v = .bool true ∧ Next (J (pre ++ [x])) G' Wr w') ∨ (v = .bool false ∧ Next (Jx (pre ++ [x])) G' Wr w'))) (fun _ _ _ _ => True)
      (AV (.func (.yield l) #[] #[]) (.slice av x.length cv)) (fun j => j == 4) (by kernel_rfl) (by kernel_rfl) ?hst ⟨fun _ => rfl, fun h => (by cases h), fun h => (by cases h)⟩ ?step ?fin
    case hst =>
      intro i' j ys v w1' w2' hij hanc _ hV _
      match j, hV with
      | 0, hV => exact (YtidjodplimkmgaaGreatDoor.upd_other ys v (Ne.symm hij)).trans hV
      | 1, hV => exact (YtidjodplimkmgaaGreatDoor.upd_other ys v (Ne.symm hij)).trans hV
      | 2, hV => trivial
      | 3, hV => trivial
      | 4, hV =>
        obtain ⟨c, h5, h6⟩ := hV
        by_cases e : i' = 3
        · subst e; cases hanc.symm.trans (by kernel_rfl : _ = true)
        · exact ⟨c, (YtidjodplimkmgaaGreatDoor.upd_other ys v (Ne.symm e)).trans h5, (YtidjodplimkmgaaGreatDoor.upd_other ys v (Ne.symm hij)).trans h6⟩
      | _ + 5, hV => trivial
    case step =>
      have hlay : ∀ (listed : Array Bool) (ys : Nat → Value) (w' : World), YtidjodplimkmgaaGreatDoor.waist2I 2 3 Wr.drew (fun v w' => ∃ a' c', v = .slice a' x.length c' ∧ Rk 3 (fun k => Wr.heap.size ≤ k) w' v x.length (flatR x) ∧ Lay Wr w')
        (fun v w' => (v = .bool true ∧ Next (J (pre ++ [x])) G' Wr w') ∨ (v = .bool false ∧ Next (Jx (pre ++ [x])) G' Wr w')) listed ys w' → listed.getD 3 false = false → Lay Wr w' := by
        intro listed ys w' hI h6
        cases h4 : listed.getD 2 false with
        | false => rw [hI.1 h4]; exact (Keep.refl _ _).drew
        | true => obtain ⟨_, _, _, _, h⟩ := hI.2.1 h4 h6; exact h
      have HLAY := Lib.hid hlay
      clear hlay
      refine ⟨?_, ?_, ?_, ?_, ?_, trivial⟩
      · intro listed ys A w' hsz hsd hi2 hall hA hI hd K hK
        have e2 : A.tmps.getD 3 undef = .pointer (some ⟨W.heap.size, 0, none⟩) := hA 3 (Nat.le_of_ble_eq_true rfl)
        have hyc' := ((HLAY.out listed ys w' hI (YtidjodplimkmgaaGreatDoor.not_yet hsd hi2 (by kernel_rfl))).cell (b := W.heap.size) (o := 0) hylt).trans hyc
        refine YtidjodplimkmgaaGreatDoor.step_run (.inl rfl) ?_
        clear hA hd
        go_simp
        exact hK _ _ (hI.other (by decide) (by decide) _) trivial (YtidjodplimkmgaaGreatDoor.upd_same _ _ _)
      · intro listed ys A w' hsz hsd hi2 hall hA hI hd K hK
        have e3 : A.tmps.getD 4 undef = .slice av x.length cv := hA 4 (Nat.le_of_ble_eq_true rfl)
        refine YtidjodplimkmgaaGreatDoor.step_run (.inl rfl) ?_
        clear hA hd
        go_simp
        exact hK _ _ (hI.other (by decide) (by decide) _) trivial (YtidjodplimkmgaaGreatDoor.upd_same _ _ _)
      · intro listed ys A w' hsz hsd hi2 hall hA hI hd K hK
        have e19 : A.tmps.getD 19 undef = .slice av x.length cv := (hA 19 (Nat.le_of_ble_eq_true rfl)).trans (hd ⟨1, .data⟩ (by simp) rfl)
        have h6 := YtidjodplimkmgaaGreatDoor.not_yet (c := 3) hsd hi2 (by kernel_rfl)
        obtain rfl := hI.1 hi2
        refine YtidjodplimkmgaaGreatDoor.step_run (.inl rfl) ?_
        clear hA hd
        go_simp
        refine (callsIn_wide.2 HCL.out).mono ?_
        rintro e W4 ⟨v', rfl, hrk, hl4⟩
        obtain ⟨a', c', hv'⟩ := hrk.shape
        exact hK _ _ (YtidjodplimkmgaaGreatDoor.waist2I.call (by rw [hsz]; decide) (by decide) h6 ⟨a', c', hv', hrk.mono fun k hk _ => hk, ((Keep.refl _ Wr).drew).trans hl4⟩) trivial trivial
      · intro listed ys A w' hsz hsd hi2 hall hA hI hd K hK
        have e18 : A.tmps.getD 18 undef = .func (.yield l) #[] #[] := (hA 18 (Nat.le_of_ble_eq_true rfl)).trans (hd ⟨0, .data⟩ (by simp) rfl)
        have h2' : listed.getD 2 false = true := hall ⟨2, .data⟩ (by simp) rfl
        obtain ⟨a', c', hv, hrk, hl4⟩ := hI.2.1 h2' hi2
        have e20 : A.tmps.getD 20 undef = .slice a' x.length c' := (hA 20 (Nat.le_of_ble_eq_true rfl)).trans hv
        rw [hv] at hrk
        obtain ⟨fn, tmps, assign, body, hyy, hR⟩ := HY.out pre x G' (fun k => At (.slice a' x.length c') k) w' #[.slice a' x.length c'] ⟨_, rfl, hrk.rawSl.mono fun k h => h.2.1⟩ (fun k hk hg => by have h1 := (hrk.at hk).1; have h2 := HH2.out k hg; omega) (fun k hk => (hrk.at hk).2) HPX.out
          (HJS.out _ _ _ _ HH1.out HH2.out hl4.keep) (fun k hk => Nat.lt_of_lt_of_le (HH2.out k hk) hl4.size) 3
        have HR := Lib.hid hR
        have HL4 : Hid (∀ (J' : Stance) (W3 : World), Next J' (fun k => G' k ∨ At (.slice a' x.length c') k) w' W3 → Next J' G' Wr W3) := Lib.hid fun J' W3 hn => Next.from (fun k hk => hk.elim .inl fun h => .inr (hrk.at h).1) hl4.keep hn
        refine YtidjodplimkmgaaGreatDoor.step_run (.inl rfl) ?_
        clear hA hd hR hl4 hv hrk
        go_simp
        refine (round_in (round_any HR.out)).mono ?_
        rintro e W3 (⟨rfl, hn⟩ | ⟨rfl, hn⟩)
        · exact hK _ _ (YtidjodplimkmgaaGreatDoor.waist2I.last (by rw [hsz]; decide) (by decide) h2' (.inl ⟨rfl, HL4.out _ _ hn⟩)) trivial trivial
        · exact hK _ _ (YtidjodplimkmgaaGreatDoor.waist2I.last (by rw [hsz]; decide) (by decide) h2' (.inr ⟨rfl, HL4.out _ _ hn⟩)) trivial trivial
      · intro listed ys A w' hsz hsd hi2 hall hA hI hd K hK
        have hn := hI.2.2 (hall ⟨3, .data⟩ (by simp) rfl)
        have e21 : A.tmps.getD 21 undef = ys 3 := hA 21 (Nat.le_of_ble_eq_true rfl)
        rcases hn with ⟨hb, _⟩ | ⟨hb, _⟩
        · rw [hb] at e21
          refine YtidjodplimkmgaaGreatDoor.step_run (.inl rfl) ?_
          clear hA hd
          go_simp
          exact hK _ _ (hI.other (by decide) (by decide) _) trivial ⟨true, (YtidjodplimkmgaaGreatDoor.upd_other _ _ (by decide)).trans hb, YtidjodplimkmgaaGreatDoor.upd_same _ _ _⟩
        · rw [hb] at e21
          refine YtidjodplimkmgaaGreatDoor.step_run (.inl rfl) ?_
          clear hA hd
          go_simp
          exact hK _ _ (hI.other (by decide) (by decide) _) trivial ⟨false, (YtidjodplimkmgaaGreatDoor.upd_other _ _ (by decide)).trans hb, YtidjodplimkmgaaGreatDoor.upd_same _ _ _⟩
    case fin =>
      intro listed ys w' hall hI hV
      have hn := hI.2.2 (hall 3 (by decide))
      obtain ⟨c, hc4, hc5⟩ := hV 4 (by decide) rfl
      clear hI hV hall
      rcases hn with ⟨hb, hn⟩ | ⟨hb, hn⟩
      · rw [hb] at hc4
        obtain rfl : c = true := by injection hc4 with h; exact h.symm
        have HN := Lib.hid (HRL.out _ w' hn)
        clear hn hb hc4
        simp only [YtidjodplimkmgaaGreatDoor.putsFrom]
        simp only [hc5, Bool.not_true, Act.put, List.setIfInBounds_toArray, List.set_cons_succ, List.set_cons_zero]
        gi_wp2_with fail
        exact HN.out
      · rw [hb] at hc4
        obtain rfl : c = false := by injection hc4 with h; exact h.symm
        have HN := Lib.hid hn
        clear hn hb hc4
        simp only [YtidjodplimkmgaaGreatDoor.putsFrom]
        simp only [hc5, Bool.not_false, Act.put, List.setIfInBounds_toArray, List.set_cons_succ, List.set_cons_zero]
        gi_wp2_with fail
        show Next (lift _ _ C G W (fun G' Wr => Code.ret = .ret ∧ Jx (pre ++ [x]) G' Wr)) _ Wr w'
        exact HRL.out _ w' (HN.out.imp fun _ _ h => ⟨rfl, h⟩)
  case done =>
    intro D We' hlf
    have HN := Lib.hid (unlift (hlf.shut (lift_stable hCR' (hJ _))) (fun k hk _ => HLE.out.block hk) HLE.out.size (fun k hk h => hDJ G (fun k h => .inl h) k (.inl hk) h))
    gi_wp2_with fail
    refine ⟨by simp, .inl ⟨_, _, rfl, hlf.takes, ?_⟩⟩
    exact ⟨_, results_none rfl _ _ _, ⟨_, rfl⟩, .inl HN.out⟩
  case stop =>
    intro D c pre We' hpre hlf
    have hc : c = .ret := by obtain ⟨_, ⟨_, ⟨hc, _⟩, _⟩, _⟩ := hlf; exact hc
    subst hc
    have HN := Lib.hid (unlift (hlf.shut (lift_stable hCR' (fun G' W1 W2 h hl hk => ⟨h.1, hJx _ G' W1 W2 h.2 hl hk⟩))) (fun k hk _ => HLE.out.block hk) HLE.out.size (fun k hk h => hDJ G (fun k h => .inl h) k (.inl hk) h))
    gi_wp2_with fail
    refine ⟨by simp, .inl ⟨_, _, rfl, hlf.takes, ?_⟩⟩
    exact ⟨_, results_none rfl _ _ _, ⟨_, rfl⟩, .inr ⟨pre, hpre, HN.out.imp fun _ _ h => h.2⟩⟩

end Go.Proofs.YtidjodplimkmgaaGreatDoor.E4
