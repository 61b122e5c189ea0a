/-
  dialect.As, Must; DOES Must PANIC? (the law's falls)
-/
import Derived.Test.YtfifjcjicipcmaaGreatDoorCd12
namespace Go.Proofs.YtfifjcjicipcmaaGreatDoor.E4
open Go.RowKit Go

theorem texts_set {G : Nat → Prop} {w W : World} {b : Nat} {v : Value} {ls : List (List ByteArray)} (h : TextsG G w v ls) (hk : Keep (fun k => k = b) w W) (hG : ∀ q, G q → q ≠ b) : TextsAt W v ls :=
  (h.carry hk.size (fun q hq hlt => hk.block q hlt (hG q hq)) (fun _ h _ => h)).at
theorem ms_set {G : Nat → Prop} {w W : World} {b : Nat} {v : Value} {l : List Mt} (h : Rk 3 G w v l.length (flatM l)) (hk : Keep (fun k => k = b) w W) (hG : ∀ q, G q → q ≠ b) (hl : l.length ≤ 1000) : MsAt W v l :=
  ms_of_rk (h.carry hk.size fun q hq _ hlt => hk.block q hlt (hG q hq)) hl
theorem below_set {w w3 W : World} {b : Nat} (h : Below w.heap.size w w3) (hk : Keep (fun k => k = b) w3 W) (hb : w.heap.size ≤ b) : Below w.heap.size w W :=
  ⟨hk.os.trans h.os, hk.tape.trans h.tape, hk.output.trans h.output, Nat.le_trans h.size hk.size, fun q hq => (hk.block q (Nat.lt_of_lt_of_le hq h.size) (by omega)).trans (h.block q hq)⟩
theorem keep_set12 {W W' : World} {b : Nat} (h : Keep (fun k => k = b) W W') (i : Nat) (u : Value) : Keep (fun k => k = b) W (W'.setCell ⟨b, i, none⟩ u) :=
  ⟨h.os, h.tape, h.output, by simpa [World.setCell] using h.size, h.drawn, fun k hk hn => (Below.heap_setCell _ ⟨b, i, none⟩ u k (fun e => hn e)).trans (h.block k hk hn)⟩
theorem fill2 {W : World} {b : Nat} {t : TypeId} {u0 u1 : Value} (h : Bl W b t #[u0, u1]) (v0 v1 : Value) :
    Bl ((W.setCell ⟨b, 0, none⟩ v0).setCell ⟨b, 1, none⟩ v1) b t #[v0, v1] ∧ Keep (fun k => k = b) W ((W.setCell ⟨b, 0, none⟩ v0).setCell ⟨b, 1, none⟩ v1) := by
  refine ⟨?_, keep_set12 (keep_set12 (Keep.refl _ _) _ _) _ _⟩
  have h1 := h.set12 0 v0
  simp only [List.setIfInBounds_toArray, List.set_cons_zero] at h1
  have h2 := h1.set12 1 v1
  simp only [List.setIfInBounds_toArray, List.set_cons_zero, List.set_cons_succ] at h2
  exact h2
theorem fill3 {W : World} {b : Nat} {t : TypeId} {u0 u1 u2 : Value} (h : Bl W b t #[u0, u1, u2]) (v0 v1 v2 : Value) :
    Bl (((W.setCell ⟨b, 0, none⟩ v0).setCell ⟨b, 1, none⟩ v1).setCell ⟨b, 2, none⟩ v2) b t #[v0, v1, v2] ∧ Keep (fun k => k = b) W (((W.setCell ⟨b, 0, none⟩ v0).setCell ⟨b, 1, none⟩ v1).setCell ⟨b, 2, none⟩ v2) := by
  refine ⟨?_, keep_set12 (keep_set12 (keep_set12 (Keep.refl _ _) _ _) _ _) _ _⟩
  have h1 := h.set12 0 v0
  simp only [List.setIfInBounds_toArray, List.set_cons_zero] at h1
  have h2 := h1.set12 1 v1
  simp only [List.setIfInBounds_toArray, List.set_cons_zero, List.set_cons_succ] at h2
  have h3 := h2.set12 2 v2
  simp only [List.setIfInBounds_toArray, List.set_cons_zero, List.set_cons_succ] at h3
  exact h3

set_option maxHeartbeats 1000000 in
set_option maxRecDepth 100000 in
theorem as1_yes (a : Ask) (hk : a.kd = 1) (av mv : Value) (w : World) (h : TextsAt w av a.all) (hn : a.all.length ≤ 1000) (hr : ∀ l ∈ a.all, l.length ≤ 1000) :
    Calls Tryz.prog 23 #[a.dyn av mv] w fun e w' => ∃ v', e = .returned (.tuple #[.agg #[.int .i64 a.src, .int .i64 a.til, v'], .bool true]) ∧ TextsAt w' v' a.all ∧ Below w.heap.size w w' := by
  have q := is54_yes
  obtain ⟨w1, hw1⟩ : ∃ w1, w1 = w.alloc (.cells #[.int .i64 0, .int .i64 0, .slice none 0 0] 54) := ⟨_, rfl⟩
  have hb1 : Below w.heap.size w w1 := by rw [hw1]; exact (Below.refl _ w).alloc (Nat.le_refl _) _
  have hk1 : Bl w1 w.heap.size 54 #[.int .i64 0, .int .i64 0, .slice none 0 0] := by rw [hw1]; exact Bl.new w 54 _
  have HC := Lib.hid (copied1 (G := fun q => q < w.heap.size) a hk av mv w1 ((TextsG.of h).carry hb1.size (fun q hq _ => hb1.block q hq) (fun _ h _ => h)) (fun q hq => Nat.lt_of_lt_of_le hq hb1.size) hn hr)
  have HW1 := Lib.hid hw1.symm
  have HB1 := Lib.hid hb1
  have HK1 := Lib.hid hk1
  have HSZ : Hid (w1.heap.size = w.heap.size + 1) := Lib.hid (by rw [hw1]; simp)
  have HK := Lib.hid hk
  obtain ⟨dv, hdv⟩ : ∃ v, v = a.dyn av mv := ⟨_, rfl⟩
  rw [← hdv] at HC ⊢
  
  clear hw1 hb1 hk1 hdv hk h
  go_enter Tryz.func23, Tryz.ntmps23
  go_upto_region 1 with fail
  rw [HW1.out]
  go_wp2_with fail
  refine HC.out.mono ?_
  rintro e w2 ⟨v2, rfl, hx, hb2⟩
  obtain ⟨xa, xc, rfl, hz1, hz2⟩ := id hx
  clear hz1 hz2
  have hd := dyn1 HK.out (.slice xa a.all.length xc) mv
  have hk2 := HK1.out.below hb2
  obtain ⟨w3, hw3⟩ : ∃ w3, w3 = w2.alloc (.cells #[.int .i64 a.src, .int .i64 a.til, .slice xa a.all.length xc] 54) := ⟨_, rfl⟩
  have hb3 : Below w2.heap.size w2 w3 := by rw [hw3]; exact (Below.refl _ w2).alloc (Nat.le_refl _) _
  have hk3 := hk2.below hb3
  have hn3 : Bl w3 w2.heap.size 54 #[.int .i64 a.src, .int .i64 a.til, .slice xa a.all.length xc] := by rw [hw3]; exact Bl.new w2 54 _
  have hf := fill3 hk3 (.int .i64 a.src) (.int .i64 a.til) (.slice xa a.all.length xc)
  have HF := Lib.hid hf
  have HB3 := Lib.hid (below_mid12 (below_mid12 HB1.out hb2) hb3)
  have HW3 := Lib.hid hw3.symm
  have c0 := hk3.cell 0
  have z0 := hk3.frozen 0
  have d0 := hn3.cell 0
  have c1 := hk3.cell 1
  have z1 := hk3.frozen 1
  have d1 := hn3.cell 1
  have c2 := hk3.cell 2
  have z2 := hk3.frozen 2
  have d2 := hn3.cell 2
  simp only [List.getElem?_toArray, List.getElem?_cons_succ, List.getElem?_cons_zero] at c0 d0 c1 d1 c2 d2
  have HX3 := Lib.hid (hx.carry hb3.size (fun q _ hlt => hb3.block q hlt) (fun _ h _ => h))
  rw [hd]
  clear hd hk2 hb2 hw3 hb3 hk3 hn3 hf hx
  go_upto_region 3 with fail
  rw [HW3.out]
  go_wp2_with fail
  have e0 := HF.out.1.cell 0
  have e1 := HF.out.1.cell 1
  have e2 := HF.out.1.cell 2
  simp only [List.getElem?_toArray, List.getElem?_cons_succ, List.getElem?_cons_zero] at e0 e1 e2
  refine bodyPost_ret (v := .tuple #[.agg #[.int .i64 a.src, .int .i64 a.til, .slice xa a.all.length xc], .bool true]) (by simp [results, Tryz.results23, go_sem, e0, e1, e2]) rfl ⟨_, rfl, texts_set HX3.out HF.out.2 (fun q hq => by have := HSZ.out; omega), below_set HB3.out HF.out.2 (Nat.le_refl _)⟩

set_option maxHeartbeats 1000000 in
set_option maxRecDepth 100000 in
theorem as1_no (a : Ask) (hk : ¬ a.kd = 1) (av mv : Value) (w : World) (h1 : TextsAt w av a.all) (h2 : MsAt w mv a.mat) (hn : a.all.length ≤ 1000) (hr : ∀ l ∈ a.all, l.length ≤ 1000) (hm : a.mat.length ≤ 1000) :
    Calls Tryz.prog 23 #[a.dyn av mv] w fun e w' => e = .returned (.tuple #[.agg #[.int .i64 0, .int .i64 0, .slice none 0 0], .bool false]) ∧ Below w.heap.size w w' := by
  obtain ⟨w1, hw1⟩ : ∃ w1, w1 = w.alloc (.cells #[.int .i64 0, .int .i64 0, .slice none 0 0] 54) := ⟨_, rfl⟩
  have hb1 : Below w.heap.size w w1 := by rw [hw1]; exact (Below.refl _ w).alloc (Nat.le_refl _) _
  have hk1 : Bl w1 w.heap.size 54 #[.int .i64 0, .int .i64 0, .slice none 0 0] := by rw [hw1]; exact Bl.new w 54 _
  have HC := Lib.hid (copied_any a av mv w1 (h1.below hb1) (MsAt.below12 h2 hb1) hn hr hm)
  have HW1 := Lib.hid hw1.symm
  have HB1 := Lib.hid hb1
  have HK1 := Lib.hid hk1
  have HQ : Hid (∀ (x y : Value) (W : World), (Instr.typeAssert (a.dyn x y) 20 54 true).run Tryz.prog W = .ok (.tuple #[.agg #[.int .i64 0, .int .i64 0, .slice none 0 0], .bool false]) W) := Lib.hid (by
    intro x y W
    by_cases g1 : a.kd = 2
    · rw [dyn2 g1]; exact is54_no66 _ W
    by_cases g2 : a.kd = 3
    · rw [dyn3 g2]; exact is54_no68 _ W
    · rw [dyn0 (by omega)]; exact is54_nil W)
  obtain ⟨dv, hdv⟩ : ∃ v, v = a.dyn av mv := ⟨_, rfl⟩
  rw [← hdv] at HC ⊢
  clear hw1 hb1 hk1 hdv hk h1 h2
  go_enter Tryz.func23, Tryz.ntmps23
  go_upto_region 1 with fail
  rw [HW1.out]
  go_wp2_with fail
  refine HC.out.mono ?_
  rintro e w2 ⟨v1, v2, rfl, -, -, hb2⟩
  have hq := HQ.out v1 v2
  have hk2 := HK1.out.below hb2
  generalize a.dyn v1 v2 = dw at hq ⊢
  obtain ⟨w3, hw3⟩ : ∃ w3, w3 = (w2.alloc (.cells #[.int .i64 0, .int .i64 0, .slice none 0 0] 54)).alloc (.cells #[.int .i64 0, .int .i64 0, .slice none 0 0] 54) := ⟨_, rfl⟩
  have hs4 : (w2.alloc (.cells #[.int .i64 0, .int .i64 0, .slice none 0 0] 54)).heap.size = w2.heap.size + 1 := by simp
  have hb3 : Below w2.heap.size w2 w3 := by rw [hw3]; exact ((Below.refl _ w2).alloc (Nat.le_refl _) _).alloc (by simp) _
  have hk3 := hk2.below hb3
  have hn3 : Bl w3 (w2.heap.size + 1) 54 #[.int .i64 0, .int .i64 0, .slice none 0 0] := by rw [hw3, ← hs4]; exact Bl.new _ 54 _
  have hf := fill3 hk3 (.int .i64 0) (.int .i64 0) (.slice none 0 0)
  have HF := Lib.hid hf
  have HB3 := Lib.hid (below_mid12 (below_mid12 HB1.out hb2) hb3)
  have HW3 := Lib.hid hw3.symm
  have c0 := hk3.cell 0
  have z0 := hk3.frozen 0
  have d0 := hn3.cell 0
  have c1 := hk3.cell 1
  have z1 := hk3.frozen 1
  have d1 := hn3.cell 1
  have c2 := hk3.cell 2
  have z2 := hk3.frozen 2
  have d2 := hn3.cell 2
  simp only [List.getElem?_toArray, List.getElem?_cons_succ, List.getElem?_cons_zero] at c0 d0 c1 d1 c2 d2
  clear hk2 hb2 hw3 hb3 hk3 hn3 hf hs4
  go_upto_region 5 with fail
  rw [HW3.out]
  go_wp2_with fail
  have e0 := HF.out.1.cell 0
  have e1 := HF.out.1.cell 1
  have e2 := HF.out.1.cell 2
  simp only [List.getElem?_toArray, List.getElem?_cons_succ, List.getElem?_cons_zero] at e0 e1 e2
  refine bodyPost_ret (v := .tuple #[.agg #[.int .i64 0, .int .i64 0, .slice none 0 0], .bool false]) (by simp [results, Tryz.results23, go_sem, e0, e1, e2]) rfl ⟨rfl, below_set HB3.out HF.out.2 (Nat.le_refl _)⟩

end Go.Proofs.YtfifjcjicipcmaaGreatDoor.E4
