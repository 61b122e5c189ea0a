/-
  Ha15.
-/
import Derived.Test.YtoobjjpheegmdaaGreatJ32
import Derived.Test.YtoobjjpheegmdaaGreatJ07
import Derived.Test.YtoobjjpheegmdaaGreatJ11
import Derived.BigRegionIn
namespace Go.Proofs.YtoobjjpheegmdaaGreat.E4
open Go.RowKit Go Go.Shelf
attribute [local go_sem] Oper.semAt_some wide_fn wide_depth
def HZ (B0 : Nat) (l : List UInt8) : Nat → Value → World → Prop
  | 5, v, w => By (fun b => B0 ≤ b) w v l
  | _, _, _ => True
theorem HZ.below {B0 : Nat} {l : List UInt8} {j : Nat} {v : Value} {w w' : World} (h : HZ B0 l j v w) (hb : Below w.heap.size w w') : HZ B0 l j v w' := by
  unfold HZ at h ⊢
  split at h
  · exact h.below1 hb
  · trivial
def HasJ (V : World) (L : Nat → Prop) (EB : Nat) (e : Ent) (lv : Value) (r : Bool) (P : Prop) : IT.Stance := fun G W =>
  (P ∧ ∀ k, L k → W.heap[k]? = V.heap[k]?) ∧ Bx W EB (.int .i64 e.tm) lv (.string e.line) ∧ IT.Box W (EB + 1) 4 (.bool r) ∧ LabsAt L W lv e.labs ∧ (∀ k, L k → k < EB) ∧ G = fun k => L k ∨ k = EB ∨ k = EB + 1
theorem hasE_snoc (pre : List Ent) (x e : Ent) : hasE (pre ++ [x]) e = (hasE pre e || decide (entC x e = 0)) := by simp [hasE]
theorem hasE_pre {pre es : List Ent} {e : Ent} (h : pre <+: es) (hp : hasE pre e = true) : hasE es e = true := hasE_iff.2 (h.subset (hasE_iff.1 hp))
theorem HasJ.turn {V : World} {L : Nat → Prop} {EB : Nat} {e : Ent} {lv : Value} {r r' : Bool} {P Q : Prop} {G own : Nat → Prop} {W W' : World} (h : HasJ V L EB e lv r P G W) (hl : IT.Live G W) (hk : IT.Keep (fun k => k = EB + 1) W W') (hr : IT.Box W' (EB + 1) 4 (.bool r')) (hq : Q) : IT.Next (HasJ V L EB e lv r' Q) (fun k => G k ∨ own k) W W' := by
  obtain ⟨⟨_, h0⟩, h1, h2, h3, h4, rfl⟩ := h
  refine IT.Next.mk _ ⟨⟨hq, fun k hlt => (hk.block k (hl k (.inl hlt)) (fun h => by have := h4 k hlt; omega)).trans (h0 k hlt)⟩, h1.kept hk (fun h => by omega), hr, h3.kept hk (fun b hb _ h => by have := h4 b hb; omega), h4, rfl⟩ (fun k hk' => Nat.lt_of_lt_of_le (hl k hk') hk.size) (fun k hk => .inl (.inl hk)) (hk.into fun k _ h => .inl (.inr (.inr h)))
theorem HasJ.stable (V : World) (L : Nat → Prop) (EB : Nat) (e : Ent) (lv : Value) (r : Bool) (P : Prop) : IT.Stable (HasJ V L EB e lv r P) := by
  rintro G W W' ⟨⟨hp, h0⟩, h1, h2, h3, h4, rfl⟩ hl hk
  exact ⟨⟨hp, fun k hlt => (hk.block k (hl k (.inl hlt)) (fun h => h (.inl hlt))).trans (h0 k hlt)⟩, h1.kept hk (fun h => h (.inr (.inl rfl))), h2.keep hk (fun h => h (.inr (.inr rfl))), h3.kept hk (fun b hb _ h => h (.inl hb)), h4, rfl⟩
def HasX (V : World) (L : Nat → Prop) (EB : Nat) (e : Ent) (lv : Value) (c : Code) (pre : List Ent) : IT.Stance := HasJ V L EB e lv true (c = .ret ∧ hasE pre e = true)
set_option maxHeartbeats 8000000 in
set_option maxRecDepth 100000 in
theorem has_any {H : Nat → Prop} {w : World} {B gb : Nat} {tv : Value} {es : List Ent} {e : Ent} {lv : Value} (hE : EngC5 w B gb tv es) (hl : LabsAt H w lv e.labs) (hH : ∀ b, H b → b < w.heap.size → b ≠ gb ∧ ¬ At tv b) (hok : e.ok = true) (hn : es.length ≤ 1000) :
    Calls Tryz.prog 175 #[.pointer (some ⟨gb, 0, none⟩), e.val lv] w fun x w' => x = .returned (.bool (hasE es e)) ∧ Below w.heap.size w w' := by
  have hmx : Tryz.prog.follows .mixedOrders = true := by kernel_rfl
  have HHT : Hid (∀ b, H b ∧ b < w.heap.size → b ≠ gb ∧ ¬ At tv b) := Lib.hid fun b hb => hH b hb.1 hb.2
  obtain ⟨al, cl, rfl, _⟩ := id hl
  have hBw : B ≤ w.heap.size := Nat.le_trans hE.low (Nat.le_of_lt hE.c.lt)
  obtain ⟨W0, hW0⟩ : ∃ W0, W0 = (w.alloc (.cells #[.int .i64 e.tm, .slice al e.labs.length cl, .string e.line] 32)).alloc (.cells #[.bool false] 4) := ⟨_, rfl⟩
  have hb0 : Below w.heap.size w W0 := by rw [hW0]; exact ((Below.refl _ w).alloc (Nat.le_refl _) _).alloc (by simp) _
  have hs0 : W0.heap.size = w.heap.size + 2 := by rw [hW0]; simp
  have hx0 : Bl W0 w.heap.size 32 #[.int .i64 e.tm, .slice al e.labs.length cl, .string e.line] := by
    have h1 := Bl.new w 32 #[.int .i64 e.tm, .slice al e.labs.length cl, .string e.line]
    have h2 : Below (w.alloc (.cells #[.int .i64 e.tm, .slice al e.labs.length cl, .string e.line] 32)).heap.size (w.alloc (.cells #[.int .i64 e.tm, .slice al e.labs.length cl, .string e.line] 32)) W0 := by rw [hW0]; exact (Below.refl _ _).alloc (Nat.le_refl _) _
    exact h1.below h2
  have hr0 : IT.Box W0 (w.heap.size + 1) 4 (.bool false) := by
    rw [hW0]
    have := IT.Box.new (w.alloc (.cells #[.int .i64 e.tm, .slice al e.labs.length cl, .string e.line] 32)) 4 (.bool false)
    rwa [World.size_alloc] at this
  have hdr : Below W0.heap.size W0 W0.drew := lay_below ((Keep.refl (fun _ => False) W0).drew)
  have HE := Lib.hid ((hE.below hb0).below hdr)
  have HLB : Hid (∀ W1, Below W0.drew.heap.size W0.drew W1 → LabsAt (fun b => H b ∧ b < w.heap.size) W1 (.slice al e.labs.length cl) e.labs) := Lib.hid fun W1 hW => (((hl.mono fun b hb hlt => ⟨hb, hlt⟩).below1 hb0).below1 hdr).below1 hW
  have HEB : Hid (∀ W1, Below W0.drew.heap.size W0.drew W1 → Bl W1 w.heap.size 32 #[.int .i64 e.tm, .slice al e.labs.length cl, .string e.line]) := Lib.hid fun W1 hW => (hx0.below hdr).below hW
  have HRB : Hid (∀ W1, Below W0.drew.heap.size W0.drew W1 → IT.Box W1 (w.heap.size + 1) 4 (.bool false)) := Lib.hid fun W1 hW => (Bl.below (Bl.below hr0 hdr) hW)
  have HBL : Hid ((bytesF es).length ≤ 10000000 ∧ e.bytes.length ≤ 10000000) := Lib.hid ⟨bytesF_small hE.ok hn, by have := ok_len hok; omega⟩
  obtain ⟨cc, hcc⟩ : ∃ cc, cc = Lib.contains (bytesF es) e.bytes := ⟨_, rfl⟩
  have HCC := Lib.hid hcc.symm
  have HOK := Lib.hid hok
  have HW0 := Lib.hid hW0.symm
  have HB0 := Lib.hid (below_mid hb0 hdr)
  have HS0 := Lib.hid hs0
  have HN := Lib.hid hn
  have HGL := Lib.hid hE.c.lt
  have HEN2 : Hid (∀ k, At tv k → k < w.heap.size) := Lib.hid fun k hk => (hE.t.at hk).2
  have HBW := Lib.hid hBw
  clear hE hl hH hok hn hb0 hx0 hr0 hdr hcc hW0 hs0 hBw
  unfold Ent.val
  refine (callsIn_wide (n := 9)).1 ?_
  refine callsIn_of_wp_marks Tryz.func175 rfl trivial ?_
  simp only [Tryz.ntmps175, List.size_toArray, List.length_cons, List.length_nil, Nat.reduceAdd, Nat.reduceSub, Array.replicate_succ, Array.replicate_zero, List.push_toArray, List.append_toArray, List.nil_append, List.cons_append]
  gi_wp2_with fail
  rw [HW0.out]
  refine H3.wpIn_region_flow (fun _ => trivial) (by kernel_rfl) (fun _ _ W => Below W0.drew.heap.size W0.drew W) (fun _ _ W1 W2 => Below W1.heap.size W1 W2) (GV [some (.pointer (some ⟨gb, 0, none⟩)), some (.pointer (some ⟨gb, 0, none⟩)), some (.pointer (some ⟨gb, 0, none⟩)), some (tv), some (.agg #[.int .i64 e.tm, .slice al e.labs.length cl, .string e.line]), none, some (.bool cc), some (.bool (!cc))] [5] (HZ W0.drew.heap.size e.bytes)) (fun j => j == 7) (by kernel_rfl) (by kernel_rfl) ?hst (Below.refl _ _) ?step ?fin
  case hst =>
    intro i j ys v w1 w2 hij hanc hned hV hR
    by_cases hj5 : j = 5
    · subst hj5
      exact GV.keep (sp := HZ W0.drew.heap.size e.bytes) (fun _ _ _ _ h hb => HZ.below h hb) hij hV hR
    exact gvq_keep (by simp; omega) hij hV
  case step =>
    refine ⟨?_, ?_, ?_, ?_, ?_, ?_, ?_, ?_, trivial⟩
    · intro listed ys X W1 hsz hsd hi2 hall hX hI hd K hK
      have e0 : X.tmps.getD 0 undef = .pointer (some ⟨gb, 0, none⟩) := hX 0 (Nat.le_of_ble_eq_true rfl)
      have HI := Lib.hid hI
      refine H3.step_run (.inl rfl) ?_
      clear hX hd hI
      go_simp
      exact hK _ _ HI.out (Below.refl _ _) (GV.of (by decide) (fun u h => by cases h; rfl))
    · intro listed ys X W1 hsz hsd hi2 hall hX hI hd K hK
      have e6 : X.tmps.getD 6 undef = .pointer (some ⟨gb, 0, none⟩) := (hX 6 (Nat.le_of_ble_eq_true rfl)).trans (GV.val (hd ⟨0, .data⟩ (by simp) rfl) (by decide) rfl)
      have HI := Lib.hid hI
      refine H3.step_run (.inl rfl) ?_
      clear hX hd hI
      go_simp
      exact hK _ _ HI.out (Below.refl _ _) (GV.of (by decide) (fun u h => by cases h; rfl))
    · intro listed ys X W1 hsz hsd hi2 hall hX hI hd K hK
      have e7 : X.tmps.getD 7 undef = .pointer (some ⟨gb, 0, none⟩) := (hX 7 (Nat.le_of_ble_eq_true rfl)).trans (GV.val (hd ⟨1, .data⟩ (by simp) rfl) (by decide) rfl)
      have HI := Lib.hid hI
      refine H3.step_run (.inl rfl) ?_
      clear hX hd hI
      go_simp
      exact hK _ _ HI.out (Below.refl _ _) (GV.of (by decide) (fun u h => by cases h; rfl))
    · intro listed ys X W1 hsz hsd hi2 hall hX hI hd K hK
      have e8 : X.tmps.getD 8 undef = .pointer (some ⟨gb, 0, none⟩) := (hX 8 (Nat.le_of_ble_eq_true rfl)).trans (GV.val (hd ⟨2, .data⟩ (by simp) rfl) (by decide) rfl)
      have y0 := (HE.out.below hI).c.cell 0
      simp only [List.getElem?_toArray, List.getElem?_cons_zero] at y0
      have HI := Lib.hid hI
      refine H3.step_run (.inl rfl) ?_
      clear hX hd hI
      go_simp
      exact hK _ _ HI.out (Below.refl _ _) (GV.of (by decide) (fun u h => by cases h; rfl))
    · intro listed ys X W1 hsz hsd hi2 hall hX hI hd K hK
      have e3 : X.tmps.getD 3 undef = .pointer (some ⟨w.heap.size, 0, none⟩) := hX 3 (Nat.le_of_ble_eq_true rfl)
      have hx := HEB.out W1 hI
      have x0 := hx.cell 0
      have x1 := hx.cell 1
      have x2 := hx.cell 2
      simp only [List.getElem?_toArray, List.getElem?_cons_succ, List.getElem?_cons_zero] at x0 x1 x2
      clear hx
      have HI := Lib.hid hI
      refine H3.step_run (.inl rfl) ?_
      clear hX hd hI
      go_simp
      exact hK _ _ HI.out (Below.refl _ _) (GV.of (by decide) (fun u h => by cases h; rfl))
    · intro listed ys X W1 hsz hsd hi2 hall hX hI hd K hK
      have e10 : X.tmps.getD 10 undef = .agg #[.int .i64 e.tm, .slice al e.labs.length cl, .string e.line] := (hX 10 (Nat.le_of_ble_eq_true rfl)).trans (GV.val (hd ⟨4, .data⟩ (by simp) rfl) (by decide) rfl)
      have HI := Lib.hid hI
      have HPU := Lib.hid (put_any (l := []) (Rk.nil 1 (fun _ => True) W1) (HLB.out W1 hI) (fun b _ _ ha => not_at_nil b ha) (ok_mod HOK.out) (by decide))
      rw [List.nil_append] at HPU
      simp only [Ent.val] at HPU
      refine H3.step_run (.inl rfl) ?_
      clear hX hd hI
      go_simp
      refine (callsIn_wide.2 HPU.out).mono ?_
      rintro x w7 ⟨v', rfl, hby, hkp⟩
      have hb : Below W1.heap.size W1 w7 := lay_below (lay_nil hkp)
      exact hK _ _ (HI.out.trans (hb.mono HI.out.size)) hb (GV.ofsp (by decide) (show HZ _ _ 5 v' w7 from hby.mono fun b hb2 _ => Nat.le_trans HI.out.size (hb2.elim (fun h => (not_at_nil b h).elim) id)))
    · intro listed ys X W1 hsz hsd hi2 hall hX hI hd K hK
      have e9 : X.tmps.getD 9 undef = tv := (hX 9 (Nat.le_of_ble_eq_true rfl)).trans (GV.val (hd ⟨3, .data⟩ (by simp) rfl) (by decide) rfl)
      have e11 : X.tmps.getD 11 undef = ys 5 := hX 11 (Nat.le_of_ble_eq_true rfl)
      have hv5 := GV.spv (hd ⟨5, .data⟩ (by simp) rfl) (by decide)
      have HI := Lib.hid hI
      have hE := HE.out.below hI
      have HCN := Lib.hid (contains_any hE.t hv5 (bytes_ne0 e) HBL.out.1 HBL.out.2 hE.mx)
      rw [HCC.out] at HCN
      refine H3.step_run (.inl rfl) ?_
      clear hX hd hI hE hv5
      go_simp
      refine (callsIn_wide.2 HCN.out).mono ?_
      rintro x w7 ⟨rfl, q, rfl⟩
      have hb : Below W1.heap.size W1 (W1.drewN q) := lay_below ((Keep.refl (fun _ => False) W1).drewN q)
      exact hK _ _ (HI.out.trans (hb.mono HI.out.size)) hb (GV.of (by decide) (fun u h => by cases h; rfl))
    · intro listed ys X W1 hsz hsd hi2 hall hX hI hd K hK
      have e12 : X.tmps.getD 12 undef = .bool cc := (hX 12 (Nat.le_of_ble_eq_true rfl)).trans (GV.val (hd ⟨6, .data⟩ (by simp) rfl) (by decide) rfl)
      have HI := Lib.hid hI
      refine H3.step_run (.inl rfl) ?_
      clear hX hd hI
      go_simp
      exact hK _ _ HI.out (Below.refl _ _) (GV.of (by decide) (fun u h => by cases h; rfl))

  case fin =>
    intro listed ys w5 hall hI hV
    have h7 : ys 7 = .bool (!cc) := GV.val (hV 7 (by decide) rfl) (by decide) rfl
    have HB5 : Hid (Below W0.drew.heap.size W0.drew w5) := Lib.hid hI
    clear hI hV hall
    simp only [H3.putsFrom]
    simp only [h7, Act.put, List.setIfInBounds_toArray, List.set_cons_succ, List.set_cons_zero]
    clear h7
    have hr5 := HRB.out w5 HB5.out
    have hx5 := HEB.out w5 HB5.out
    have hE5 := HE.out.below HB5.out
    have hl5 := HLB.out w5 HB5.out
    have hs5 := HB5.out.size
    have hs0 := HS0.out
    have hdz : W0.drew.heap.size = W0.heap.size := rfl
    have hbw5 : Below w.heap.size w w5 := below_mid HB0.out HB5.out
    have c0 := hr5.cell
    have f0 := hr5.frozen
    cases cc with
    | false =>
      have hd : hasE es e = false := by
        rw [Bool.eq_false_iff]
        intro hh
        have := contains_mem (hasE_iff.1 hh)
        rw [HCC.out] at this
        cases this
      have HC := Lib.hid (hr5.set (.bool false)).cell
      have HB := Lib.hid (IT.Keep.below ((IT.Keep.ofBelow hbw5).setCell (p := ⟨w.heap.size + 1, 0, none⟩) (.inl (by show w.heap.size ≤ w.heap.size + 1; omega)) (.bool false)) (fun _ h => h) (Nat.le_refl _))
      have HD := Lib.hid hd
      clear hr5 hx5 hE5 hl5 hbw5 hd
      gi_wp2_with fail
      refine ⟨.bool false, ?_, by rw [HD.out], HB.out⟩
      have hc := HC.out
      simp [results, Tryz.results175, go_sem, hc]
    | true =>
      have HEN := Lib.hid (entries_any (some ⟨gb, 0, none⟩) w5)
      obtain ⟨w6, hw6⟩ : ∃ w6, w6 = w5.alloc (.cells #[.pointer (some ⟨gb, 0, none⟩)] 83) := ⟨_, rfl⟩
      rw [← hw6] at HEN
      have hb6 : Below w5.heap.size w5 w6 := by rw [hw6]; exact (Below.refl _ w5).alloc (Nat.le_refl _) _
      have hp6 : IT.Box w6 w5.heap.size 83 (.pointer (some ⟨gb, 0, none⟩)) := by rw [hw6]; exact IT.Box.new w5 _ _
      have hs6 : w6.heap.size = w5.heap.size + 1 := by rw [hw6]; simp
      have hE6 := hE5.below hb6
      have HG := Lib.hid (entries_gives hE6 w5.heap.size hp6 HN.out)
      have hJ0 : HasJ w6 (fun b => H b ∧ b < w.heap.size) w.heap.size e (.slice al e.labs.length cl) false (hasE [] e = false) (fun k => (H k ∧ k < w.heap.size) ∨ k = w.heap.size ∨ k = w.heap.size + 1) w6 :=
        ⟨⟨rfl, fun _ _ => rfl⟩, ⟨(hx5.below hb6).cell 0, (hx5.below hb6).cell 1, (hx5.below hb6).cell 2, (hx5.below hb6).frozen 0, (hx5.below hb6).frozen 1, (hx5.below hb6).frozen 2⟩, Bl.below hr5 hb6, hl5.below1 hb6, fun _ h => h.2, rfl⟩
      have hbw := HBW.out
      have hlow := hE6.low
      have hat : ∀ k, At tv k → B ≤ k ∧ k ≠ gb := fun k hk => (hE6.t.at hk).1
      have hgl : gb < w.heap.size := HGL.out
      have hC : ∀ k, (k = w5.heap.size ∨ k = gb ∨ At tv k) → k < w6.heap.size := fun k hk => by
        rcases hk with rfl | rfl | hk
        · omega
        · omega
        · exact (hE6.t.at hk).2
      have HJ0 := Lib.hid hJ0
      have HBW6 := Lib.hid (below_mid hbw5 hb6)
      have HE6 := Lib.hid hE6
      clear hr5 hx5 hE5 hl5 hbw5 hw6 hb6 hp6 hE6 hJ0 c0 f0
      gi_wp2_with (gi_at_call 179; refine (callsIn_wide.2 HEN.out).mono ?_; rintro x w' ⟨rfl, rfl⟩)
      refine IT.wpIn_over (gf := 182) (lb := #[.pointer (some ⟨w5.heap.size, 0, none⟩)]) rfl (enters_of Tryz.func182 (by kernel_rfl) rfl) HG.out hC (fun x args _ _ ⟨_, h, _⟩ => by rw [h]; rfl)
        (fun pre => HasJ w6 (fun b => H b ∧ b < w.heap.size) w.heap.size e (.slice al e.labs.length cl) false (hasE pre e = false)) (HasX w6 (fun b => H b ∧ b < w.heap.size) w.heap.size e (.slice al e.labs.length cl)) (fun s => HasJ.stable _ _ _ _ _ _ _) (fun c s => HasJ.stable _ _ _ _ _ _ _) (fun k => (H k ∧ k < w.heap.size) ∨ k = w.heap.size ∨ k = w.heap.size + 1)
        (fun k hk h => by
          rcases hk with rfl | rfl | hk
          · omega
          · rcases h with h | h | h
            · exact (HHT.out _ h).1 rfl
            · omega
            · omega
          · rcases h with h | rfl | rfl
            · exact (HHT.out _ h).2 hk
            · exact absurd hk (by intro hk; have := (HEN2.out w.heap.size hk); omega)
            · exact absurd hk (by intro hk; have := (HEN2.out (w.heap.size + 1) hk); omega))
        HJ0.out (fun k hk => by rcases hk with h | rfl | rfl <;> omega)
        (fun x args B' a Wm => ∃ (av : Option Addr) (cv : Nat), args = #[.agg #[.int .i64 x.tm, .slice av x.labs.length cv, .string x.line]] ∧ a = { tmps := #[.pointer (some ⟨gb, 0, none⟩), .agg #[.int .i64 e.tm, .slice al e.labs.length cl, .string e.line], undef, .pointer (some ⟨w.heap.size, 0, none⟩), .pointer (some ⟨w.heap.size + 1, 0, none⟩), .pointer (some ⟨B', 0, none⟩), ys 0, ys 1, ys 2, ys 3, ys 4, ys 5, ys 6, .bool false, .pointer (some ⟨gb, 0, none⟩), .func (.func 182) #[] #[.pointer (some ⟨w5.heap.size, 0, none⟩)], .agg #[.int .i64 x.tm, .slice av x.labs.length cv, .string x.line], undef, undef, undef, undef], defers := [] } ∧ Bx Wm B' (.int .i64 x.tm) (.slice av x.labs.length cv) (.string x.line))
        (fun x args B' a W1 W2 ⟨av, cv, h0, h1, h2⟩ hk => ⟨av, cv, h0, h1, h2.kept hk (fun h => Nat.lt_irrefl _ h)⟩) ?assign ?body ?done ?stop
      case assign =>
        rintro l2 x args own W2 K ⟨lv, rfl, hlb, _⟩ hK
        obtain ⟨av, cv, rfl, _⟩ := id hlb
        have HK := Lib.hid hK
        clear hK hlb
        simp only [Ent.val]
        gi_wp2_with fail
        exact HK.out _ _ ((IT.Keep.refl _ _).alloc _) ⟨av, cv, rfl, rfl, Bx.new _ _ _ _⟩
      case body =>
        rintro l2 pre x args G1 own B' a Wz W ⟨lv0, hargs0, hlb0, _⟩ hdis hown hzr hpx hJ1 hlt hBle ⟨av, cv, hargs, rfl, hxb⟩
        obtain rfl : lv0 = .slice av x.labs.length cv := by
          rw [hargs0] at hargs
          simpa [Ent.val] using hargs
        obtain ⟨⟨hP, _⟩, hbx, hbr, hlb, hBE, hG1⟩ := id hJ1
        have hlx : LabsAt own W (.slice av x.labs.length cv) x.labs := hlb0.kept hzr (fun b hb _ hn => hn.2 hb)
        have HCM := Lib.hid (compare_any (x := x) (y := e) hlx hlb)
        simp only [Ent.val] at HCM
        obtain ⟨x0, x1, x2, _, _, _⟩ := id hxb
        obtain ⟨y0, y1, y2, _, _, _⟩ := id hbx
        have HJ1 := Lib.hid hJ1
        have HLV : Hid (IT.Live G1 W) := Lib.hid fun k hk => Nat.lt_of_lt_of_le (hlt k hk) hBle
        have HSN := Lib.hid (hasE_snoc pre x e)
        have HBR := Lib.hid hbr
        have HP := Lib.hid hP
        obtain ⟨cm, hcm⟩ : ∃ c, entC x e = c := ⟨_, rfl⟩
        rw [hcm] at HCM HSN
        clear hargs0 hargs hlb0 hdis hown hzr hpx hJ1 hlt hBle hxb hbx hbr hlb hG1 hlx hcm hP
        by_cases h0 : cm = 0
        · subst h0
          gi_wp2_with fail
          refine (callsIn_wide.2 HCM.out).mono ?_
          rintro z w7 ⟨rfl, hl7⟩
          have hb7 := HBR.out.keep (IT.Keep.of hl7) (fun h => h)
          have c7 := hb7.cell
          have f7 := hb7.frozen
          have HN : Hid (IT.Next (HasX w6 (fun b => H b ∧ b < w.heap.size) w.heap.size e (.slice al e.labs.length cl) .ret (pre ++ [x])) (fun k => G1 k ∨ own k) W (w7.setCell ⟨w.heap.size + 1, 0, none⟩ (.bool true))) :=
            Lib.hid (HasJ.turn HJ1.out HLV.out (((IT.Keep.of hl7).into fun _ _ h => h.elim).trans (IT.keep_setCell w7 _ _ rfl)) (hb7.set _) ⟨rfl, by rw [HSN.out]; simp⟩)
          clear x0 x1 x2 y0 y1 y2 hl7 hb7
          gi_wp2_with fail
          exact HN.out
        · have hq : (cm == 0) = false := beq_eq_false_iff_ne.2 h0
          gi_wp2_with fail
          refine (callsIn_wide.2 HCM.out).mono ?_
          rintro z w7 ⟨rfl, hl7⟩
          have HN : Hid (IT.Next (HasJ w6 (fun b => H b ∧ b < w.heap.size) w.heap.size e (.slice al e.labs.length cl) false (hasE (pre ++ [x]) e = false)) (fun k => G1 k ∨ own k) W w7) :=
            Lib.hid (HasJ.turn HJ1.out HLV.out ((IT.Keep.of hl7).into fun _ _ h => h.elim) (HBR.out.keep (IT.Keep.of hl7) (fun h => h)) (by rw [HSN.out, HP.out, decide_eq_false h0]; rfl))
          clear x0 x1 x2 y0 y1 y2 hl7
          gi_wp2_with fail
          exact HN.out
      case done =>
        intro D We hlf
        obtain ⟨G', ⟨⟨hp, hold⟩, hbx, hbr, _, _, hG'⟩, hl, hg, hk, hD1, hD2, hD3⟩ := id hlf
        have hcr := hbr.cell
        have hfr := hbr.frozen
        have hks : IT.Keep (fun k => w.heap.size ≤ k) w (We.setCell ⟨w.heap.size + 1, 0, none⟩ (.bool false)) := by
          have hk6 : IT.Keep (fun k => w.heap.size ≤ k) w We := by
            refine ⟨hk.os.trans HBW6.out.os, hk.tape.trans HBW6.out.tape, hk.output.trans HBW6.out.output, Nat.le_trans HBW6.out.size hk.size, fun k hlt hn => ?_⟩
            by_cases hkB : H k ∧ k < w.heap.size
            · exact (hold k hkB).trans (HBW6.out.block k hlt)
            · exact (hk.block k (Nat.lt_of_lt_of_le hlt HBW6.out.size) (fun h => by simp only [hkB, false_or] at h; omega)).trans (HBW6.out.block k hlt)
          exact hk6.setCell (p := ⟨w.heap.size + 1, 0, none⟩) (.inl (by show w.heap.size ≤ w.heap.size + 1; omega)) (.bool false)
        have hD4 : (We.setCell ⟨w.heap.size + 1, 0, none⟩ (.bool false)).heap[D]? = some (.deferred (some [])) := ((IT.keep_setCell (G := fun k => k = w.heap.size + 1) We _ _ rfl).block D (Array.getElem?_eq_some_iff.1 hD3).1 (fun h => hD2 (by rw [hG', h]; exact .inr (.inr rfl)))).trans hD3
        have hc : ((We.setCell ⟨w.heap.size + 1, 0, none⟩ (.bool false)).putObj D (.deferred none)).cell? ⟨w.heap.size + 1, 0, none⟩ = some (.bool false) :=
          ((hbr.set (.bool false)).keep ((IT.Keep.refl (fun k => k = D) _).put _ (fun _ => rfl)) (fun h => hD2 (by rw [hG']; exact .inr (.inr h.symm)))).cell
        have HC := Lib.hid hc
        have HB : Hid (Below w.heap.size w ((We.setCell ⟨w.heap.size + 1, 0, none⟩ (.bool false)).putObj D (.deferred none))) := Lib.hid (IT.Keep.below (hks.put (r := D) (.deferred none) (fun h => by omega)) (fun _ h => h) (Nat.le_refl _))
        have HD := Lib.hid hD4
        have HDD := Lib.hid hp
        clear hc hp hD4 hks hbx hbr hl hg hk hD1 hD2 hD3 hG'
        gi_wp2_with fail
        refine ⟨by simp, .inl ⟨_, _, rfl, run_takeDeferred HD.out, ?_⟩⟩
        refine ⟨.bool false, ?_, by rw [HDD.out], HB.out⟩
        have hc := HC.out
        simp [results, Tryz.results175, go_sem, hc]
      case stop =>
        intro D c pre We hpre hlf
        obtain ⟨G', ⟨⟨⟨rfl, hp⟩, hold⟩, hbx, hbr, _, _, hG'⟩, hl, hg, hk, hD1, hD2, hD3⟩ := id hlf
        have hd : hasE es e = true := hasE_pre hpre hp
        have hc : (We.putObj D (.deferred none)).cell? ⟨w.heap.size + 1, 0, none⟩ = some (.bool true) :=
          (hbr.keep ((IT.Keep.refl (fun k => k = D) _).put _ (fun _ => rfl)) (fun h => hD2 (by rw [hG']; exact .inr (.inr h.symm)))).cell
        have HC := Lib.hid hc
        have HB : Hid (Below w.heap.size w (We.putObj D (.deferred none))) := Lib.hid (by
          have hk6 : IT.Keep (fun k => w.heap.size ≤ k) w We := by
            refine ⟨hk.os.trans HBW6.out.os, hk.tape.trans HBW6.out.tape, hk.output.trans HBW6.out.output, Nat.le_trans HBW6.out.size hk.size, fun k hlt hn => ?_⟩
            by_cases hkB : H k ∧ k < w.heap.size
            · exact (hold k hkB).trans (HBW6.out.block k hlt)
            · exact (hk.block k (Nat.lt_of_lt_of_le hlt HBW6.out.size) (fun h => by simp only [hkB, false_or] at h; omega)).trans (HBW6.out.block k hlt)
          exact IT.Keep.below (hk6.put (r := D) (.deferred none) (fun h => by omega)) (fun _ h => h) (Nat.le_refl _))
        have HDD := Lib.hid hd
        clear hc hd hbx hbr hp hl hg hk hD1 hD2 hD3 hG'
        gi_wp2_with fail
        refine ⟨by simp, .inl ⟨_, _, rfl, hlf.takes, ?_⟩⟩
        refine ⟨.bool true, ?_, by rw [HDD.out], HB.out⟩
        have hc := HC.out
        simp [results, Tryz.results175, go_sem, hc]
end Go.Proofs.YtoobjjpheegmdaaGreat.E4
