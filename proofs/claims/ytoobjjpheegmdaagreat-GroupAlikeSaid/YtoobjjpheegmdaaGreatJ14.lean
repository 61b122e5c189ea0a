/-
  As12, Nw13, Fs13.
-/
import Derived.Test.YtoobjjpheegmdaaGreatJ12
import Derived.Test.YtoobjjpheegmdaaGreatJ13
import Derived.Test.YtoobjjpheegmdaaGreatJ07
namespace Go.Proofs.YtoobjjpheegmdaaGreat.E4
open Go.RowKit Go
theorem texts_set {G : Nat → Prop} {w W : World} {b : Nat} {v : Value} {ls : List (List ByteArray)} (h : TextsG G w v ls) (hk : Keep (fun k => k = b) w W) (hG : ∀ q, G q → q ≠ b) : TextsAt W v ls :=
  (h.carry hk.size (fun q hq hlt => hk.block q hlt (hG q hq)) (fun _ h _ => h)).at
theorem ms_set {G : Nat → Prop} {w W : World} {b : Nat} {v : Value} {l : List Mt} (h : Rk 3 G w v l.length (flatM l)) (hk : Keep (fun k => k = b) w W) (hG : ∀ q, G q → q ≠ b) (hl : l.length ≤ 1000) : MsAt W v l :=
  ms_of_rk (h.carry hk.size fun q hq _ hlt => hk.block q hlt (hG q hq)) hl
theorem below_set {w w3 W : World} {b : Nat} (h : Below w.heap.size w w3) (hk : Keep (fun k => k = b) w3 W) (hb : w.heap.size ≤ b) : Below w.heap.size w W :=
  ⟨hk.os.trans h.os, hk.tape.trans h.tape, hk.output.trans h.output, Nat.le_trans h.size hk.size, fun q hq => (hk.block q (Nat.lt_of_lt_of_le hq h.size) (by omega)).trans (h.block q hq)⟩
theorem keep_set12 {W W' : World} {b : Nat} (h : Keep (fun k => k = b) W W') (i : Nat) (u : Value) : Keep (fun k => k = b) W (W'.setCell ⟨b, i, none⟩ u) :=
  ⟨h.os, h.tape, h.output, by simpa [World.setCell] using h.size, h.drawn, fun k hk hn => (Below.heap_setCell _ ⟨b, i, none⟩ u k (fun e => hn e)).trans (h.block k hk hn)⟩
theorem fill3 {W : World} {b : Nat} {t : TypeId} {u0 u1 u2 : Value} (h : Bl W b t #[u0, u1, u2]) (v0 v1 v2 : Value) :
    Bl (((W.setCell ⟨b, 0, none⟩ v0).setCell ⟨b, 1, none⟩ v1).setCell ⟨b, 2, none⟩ v2) b t #[v0, v1, v2] ∧ Keep (fun k => k = b) W (((W.setCell ⟨b, 0, none⟩ v0).setCell ⟨b, 1, none⟩ v1).setCell ⟨b, 2, none⟩ v2) := by
  refine ⟨?_, keep_set12 (keep_set12 (keep_set12 (Keep.refl _ _) _ _) _ _) _ _⟩
  have h1 := h.set12 0 v0
  simp only [List.setIfInBounds_toArray, List.set_cons_zero, List.set_cons_succ] at h1
  have h2 := h1.set12 1 v1
  simp only [List.setIfInBounds_toArray, List.set_cons_zero, List.set_cons_succ] at h2
  have h3 := h2.set12 2 v2
  simp only [List.setIfInBounds_toArray, List.set_cons_zero, List.set_cons_succ] at h3
  exact h3
set_option maxHeartbeats 1000000 in
set_option maxRecDepth 100000 in
theorem as1_yes (a : Ask) (hk : a.kd = 1) (av mv : Value) (w : World) (h : TextsAt w av a.all) (hn : a.all.length ≤ 1000) (hr : ∀ l ∈ a.all, l.length ≤ 1000) :
    Calls Tryz.prog 74 #[a.dyn av mv] w fun e w' => ∃ v', e = .returned (.tuple #[.agg #[.int .i64 a.src, .int .i64 a.til, v'], .bool true]) ∧ TextsAt w' v' a.all ∧ Below w.heap.size w w' := by
  have q := is63_yes
  obtain ⟨w1, hw1⟩ : ∃ w1, w1 = w.alloc (.cells #[.int .i64 0, .int .i64 0, .slice none 0 0] 63) := ⟨_, rfl⟩
  have hb1 : Below w.heap.size w w1 := by rw [hw1]; exact (Below.refl _ w).alloc (Nat.le_refl _) _
  have hk1 : Bl w1 w.heap.size 63 #[.int .i64 0, .int .i64 0, .slice none 0 0] := by rw [hw1]; exact Bl.new w 63 _
  have HC := Lib.hid (copied1 (G := fun q => q < w.heap.size) a hk av mv w1 ((TextsG.of h).carry hb1.size (fun q hq _ => hb1.block q hq) (fun _ h _ => h)) (fun q hq => Nat.lt_of_lt_of_le hq hb1.size) hn hr)
  have HW1 := Lib.hid hw1.symm
  have HB1 := Lib.hid hb1
  have HK1 := Lib.hid hk1
  have HSZ : Hid (w1.heap.size = w.heap.size + 1) := Lib.hid (by rw [hw1]; simp)
  have HK := Lib.hid hk
  obtain ⟨dv, hdv⟩ : ∃ v, v = a.dyn av mv := ⟨_, rfl⟩
  rw [← hdv] at HC ⊢
  
  clear hw1 hb1 hk1 hdv hk h
  go_enter Tryz.func74, Tryz.ntmps74
  go_upto_region 1 with fail
  rw [HW1.out]
  go_wp2_with fail
  refine HC.out.mono ?_
  rintro e w2 ⟨v2, rfl, hx, hb2⟩
  obtain ⟨xa, xc, rfl, hz1, hz2⟩ := id hx
  clear hz1 hz2
  have hd := dyn1 HK.out (.slice xa a.all.length xc) mv
  have hk2 := HK1.out.below hb2
  obtain ⟨w3, hw3⟩ : ∃ w3, w3 = w2.alloc (.cells #[.int .i64 a.src, .int .i64 a.til, .slice xa a.all.length xc] 63) := ⟨_, rfl⟩
  have hb3 : Below w2.heap.size w2 w3 := by rw [hw3]; exact (Below.refl _ w2).alloc (Nat.le_refl _) _
  have hk3 := hk2.below hb3
  have hn3 : Bl w3 w2.heap.size 63 #[.int .i64 a.src, .int .i64 a.til, .slice xa a.all.length xc] := by rw [hw3]; exact Bl.new w2 63 _
  have hf := fill3 hk3 (.int .i64 a.src) (.int .i64 a.til) (.slice xa a.all.length xc)
  have HF := Lib.hid hf
  have HB3 := Lib.hid (below_mid12 (below_mid12 HB1.out hb2) hb3)
  have HW3 := Lib.hid hw3.symm
  have c0 := hk3.cell 0
  have z0 := hk3.frozen 0
  have d0 := hn3.cell 0
  have c1 := hk3.cell 1
  have z1 := hk3.frozen 1
  have d1 := hn3.cell 1
  have c2 := hk3.cell 2
  have z2 := hk3.frozen 2
  have d2 := hn3.cell 2
  simp only [List.getElem?_toArray, List.getElem?_cons_succ, List.getElem?_cons_zero] at c0 d0 c1 d1 c2 d2
  have HX3 := Lib.hid (hx.carry hb3.size (fun q _ hlt => hb3.block q hlt) (fun _ h _ => h))
  rw [hd]
  clear hd hk2 hb2 hw3 hb3 hk3 hn3 hf hx
  go_upto_region 3 with fail
  rw [HW3.out]
  go_wp2_with fail
  have e0 := HF.out.1.cell 0
  have e1 := HF.out.1.cell 1
  have e2 := HF.out.1.cell 2
  simp only [List.getElem?_toArray, List.getElem?_cons_succ, List.getElem?_cons_zero] at e0 e1 e2
  refine bodyPost_ret (v := .tuple #[.agg #[.int .i64 a.src, .int .i64 a.til, .slice xa a.all.length xc], .bool true]) (by simp [results, Tryz.results74, go_sem, e0, e1, e2]) rfl ⟨_, rfl, texts_set HX3.out HF.out.2 (fun q hq => by have := HSZ.out; omega), below_set HB3.out HF.out.2 (Nat.le_refl _)⟩
set_option maxHeartbeats 1000000 in
set_option maxRecDepth 100000 in
theorem as1_no (a : Ask) (hk : ¬ a.kd = 1) (av mv : Value) (w : World) (h1 : TextsAt w av a.all) (h2 : MsAt w mv a.mat) (hn : a.all.length ≤ 1000) (hr : ∀ l ∈ a.all, l.length ≤ 1000) (hm : a.mat.length ≤ 1000) :
    Calls Tryz.prog 74 #[a.dyn av mv] w fun e w' => e = .returned (.tuple #[.agg #[.int .i64 0, .int .i64 0, .slice none 0 0], .bool false]) ∧ Below w.heap.size w w' := by
  obtain ⟨w1, hw1⟩ : ∃ w1, w1 = w.alloc (.cells #[.int .i64 0, .int .i64 0, .slice none 0 0] 63) := ⟨_, rfl⟩
  have hb1 : Below w.heap.size w w1 := by rw [hw1]; exact (Below.refl _ w).alloc (Nat.le_refl _) _
  have hk1 : Bl w1 w.heap.size 63 #[.int .i64 0, .int .i64 0, .slice none 0 0] := by rw [hw1]; exact Bl.new w 63 _
  have HC := Lib.hid (copied_any a av mv w1 (h1.below hb1) (MsAt.below12 h2 hb1) hn hr hm)
  have HW1 := Lib.hid hw1.symm
  have HB1 := Lib.hid hb1
  have HK1 := Lib.hid hk1
  have HQ : Hid (∀ (x y : Value) (W : World), (Instr.typeAssert (a.dyn x y) 20 63 true).run Tryz.prog W = .ok (.tuple #[.agg #[.int .i64 0, .int .i64 0, .slice none 0 0], .bool false]) W) := Lib.hid (by
    intro x y W
    by_cases g1 : a.kd = 2
    · rw [dyn2 g1]; exact is63_no76 _ W
    by_cases g2 : a.kd = 3
    · rw [dyn3 g2]; exact is63_no78 _ W
    · rw [dyn0 (by omega)]; exact is63_nil W)
  obtain ⟨dv, hdv⟩ : ∃ v, v = a.dyn av mv := ⟨_, rfl⟩
  rw [← hdv] at HC ⊢
  clear hw1 hb1 hk1 hdv hk h1 h2
  go_enter Tryz.func74, Tryz.ntmps74
  go_upto_region 1 with fail
  rw [HW1.out]
  go_wp2_with fail
  refine HC.out.mono ?_
  rintro e w2 ⟨v1, v2, rfl, -, -, hb2⟩
  have hq := HQ.out v1 v2
  have hk2 := HK1.out.below hb2
  generalize a.dyn v1 v2 = dw at hq ⊢
  obtain ⟨w3, hw3⟩ : ∃ w3, w3 = (w2.alloc (.cells #[.int .i64 0, .int .i64 0, .slice none 0 0] 63)).alloc (.cells #[.int .i64 0, .int .i64 0, .slice none 0 0] 63) := ⟨_, rfl⟩
  have hs4 : (w2.alloc (.cells #[.int .i64 0, .int .i64 0, .slice none 0 0] 63)).heap.size = w2.heap.size + 1 := by simp
  have hb3 : Below w2.heap.size w2 w3 := by rw [hw3]; exact ((Below.refl _ w2).alloc (Nat.le_refl _) _).alloc (by simp) _
  have hk3 := hk2.below hb3
  have hn3 : Bl w3 (w2.heap.size + 1) 63 #[.int .i64 0, .int .i64 0, .slice none 0 0] := by rw [hw3, ← hs4]; exact Bl.new _ 63 _
  have hf := fill3 hk3 (.int .i64 0) (.int .i64 0) (.slice none 0 0)
  have HF := Lib.hid hf
  have HB3 := Lib.hid (below_mid12 (below_mid12 HB1.out hb2) hb3)
  have HW3 := Lib.hid hw3.symm
  have c0 := hk3.cell 0
  have z0 := hk3.frozen 0
  have d0 := hn3.cell 0
  have c1 := hk3.cell 1
  have z1 := hk3.frozen 1
  have d1 := hn3.cell 1
  have c2 := hk3.cell 2
  have z2 := hk3.frozen 2
  have d2 := hn3.cell 2
  simp only [List.getElem?_toArray, List.getElem?_cons_succ, List.getElem?_cons_zero] at c0 d0 c1 d1 c2 d2
  clear hk2 hb2 hw3 hb3 hk3 hn3 hf hs4
  go_upto_region 5 with fail
  rw [HW3.out]
  go_wp2_with fail
  have e0 := HF.out.1.cell 0
  have e1 := HF.out.1.cell 1
  have e2 := HF.out.1.cell 2
  simp only [List.getElem?_toArray, List.getElem?_cons_succ, List.getElem?_cons_zero] at e0 e1 e2
  refine bodyPost_ret (v := .tuple #[.agg #[.int .i64 0, .int .i64 0, .slice none 0 0], .bool false]) (by simp [results, Tryz.results74, go_sem, e0, e1, e2]) rfl ⟨rfl, below_set HB3.out HF.out.2 (Nat.le_refl _)⟩
set_option maxHeartbeats 1000000 in
set_option maxRecDepth 100000 in
theorem as2_yes (a : Ask) (hk : a.kd = 2) (av mv : Value) (w : World) (h : MsAt w mv a.mat) (hn : a.mat.length ≤ 1000) :
    Calls Tryz.prog 148 #[a.dyn av mv] w fun e w' => ∃ v', e = .returned (.tuple #[.agg #[.int .i64 a.src, .int .i64 a.til, v'], .bool true]) ∧ MsAt w' v' a.mat ∧ Below w.heap.size w w' := by
  have q := is76_yes
  obtain ⟨w1, hw1⟩ : ∃ w1, w1 = w.alloc (.cells #[.int .i64 0, .int .i64 0, .slice none 0 0] 76) := ⟨_, rfl⟩
  have hb1 : Below w.heap.size w w1 := by rw [hw1]; exact (Below.refl _ w).alloc (Nat.le_refl _) _
  have hk1 : Bl w1 w.heap.size 76 #[.int .i64 0, .int .i64 0, .slice none 0 0] := by rw [hw1]; exact Bl.new w 76 _
  have HC := Lib.hid (copied2 a hk av mv w1 (MsAt.below12 h hb1) hn)
  have HW1 := Lib.hid hw1.symm
  have HB1 := Lib.hid hb1
  have HK1 := Lib.hid hk1
  have HSZ : Hid (w1.heap.size = w.heap.size + 1) := Lib.hid (by rw [hw1]; simp)
  have HK := Lib.hid hk
  obtain ⟨dv, hdv⟩ : ∃ v, v = a.dyn av mv := ⟨_, rfl⟩
  rw [← hdv] at HC ⊢
  
  clear hw1 hb1 hk1 hdv hk h
  go_enter Tryz.func148, Tryz.ntmps148
  go_upto_region 1 with fail
  rw [HW1.out]
  go_wp2_with fail
  refine HC.out.mono ?_
  rintro e w2 ⟨v2, rfl, hx, hb2⟩
  obtain ⟨xa, xc, rfl⟩ := hx.shape
  have hd := dyn2 HK.out av (.slice xa a.mat.length xc)
  have hk2 := HK1.out.below hb2
  obtain ⟨w3, hw3⟩ : ∃ w3, w3 = w2.alloc (.cells #[.int .i64 a.src, .int .i64 a.til, .slice xa a.mat.length xc] 76) := ⟨_, rfl⟩
  have hb3 : Below w2.heap.size w2 w3 := by rw [hw3]; exact (Below.refl _ w2).alloc (Nat.le_refl _) _
  have hk3 := hk2.below hb3
  have hn3 : Bl w3 w2.heap.size 76 #[.int .i64 a.src, .int .i64 a.til, .slice xa a.mat.length xc] := by rw [hw3]; exact Bl.new w2 76 _
  have hf := fill3 hk3 (.int .i64 a.src) (.int .i64 a.til) (.slice xa a.mat.length xc)
  have HF := Lib.hid hf
  have HB3 := Lib.hid (below_mid12 (below_mid12 HB1.out hb2) hb3)
  have HW3 := Lib.hid hw3.symm
  have c0 := hk3.cell 0
  have z0 := hk3.frozen 0
  have d0 := hn3.cell 0
  have c1 := hk3.cell 1
  have z1 := hk3.frozen 1
  have d1 := hn3.cell 1
  have c2 := hk3.cell 2
  have z2 := hk3.frozen 2
  have d2 := hn3.cell 2
  simp only [List.getElem?_toArray, List.getElem?_cons_succ, List.getElem?_cons_zero] at c0 d0 c1 d1 c2 d2
  have HX3 := Lib.hid (hx.carry hb3.size (fun q _ _ hlt => hb3.block q hlt))
  rw [hd]
  clear hd hk2 hb2 hw3 hb3 hk3 hn3 hf hx
  go_upto_region 3 with fail
  rw [HW3.out]
  go_wp2_with fail
  have e0 := HF.out.1.cell 0
  have e1 := HF.out.1.cell 1
  have e2 := HF.out.1.cell 2
  simp only [List.getElem?_toArray, List.getElem?_cons_succ, List.getElem?_cons_zero] at e0 e1 e2
  refine bodyPost_ret (v := .tuple #[.agg #[.int .i64 a.src, .int .i64 a.til, .slice xa a.mat.length xc], .bool true]) (by simp [results, Tryz.results148, go_sem, e0, e1, e2]) rfl ⟨_, rfl, ms_set HX3.out HF.out.2 (fun q hq => by have := HSZ.out; omega) hn, below_set HB3.out HF.out.2 (Nat.le_refl _)⟩
set_option maxHeartbeats 1000000 in
set_option maxRecDepth 100000 in
theorem as2_no (a : Ask) (hk : ¬ a.kd = 2) (av mv : Value) (w : World) (h1 : TextsAt w av a.all) (h2 : MsAt w mv a.mat) (hn : a.all.length ≤ 1000) (hr : ∀ l ∈ a.all, l.length ≤ 1000) (hm : a.mat.length ≤ 1000) :
    Calls Tryz.prog 148 #[a.dyn av mv] w fun e w' => e = .returned (.tuple #[.agg #[.int .i64 0, .int .i64 0, .slice none 0 0], .bool false]) ∧ Below w.heap.size w w' := by
  obtain ⟨w1, hw1⟩ : ∃ w1, w1 = w.alloc (.cells #[.int .i64 0, .int .i64 0, .slice none 0 0] 76) := ⟨_, rfl⟩
  have hb1 : Below w.heap.size w w1 := by rw [hw1]; exact (Below.refl _ w).alloc (Nat.le_refl _) _
  have hk1 : Bl w1 w.heap.size 76 #[.int .i64 0, .int .i64 0, .slice none 0 0] := by rw [hw1]; exact Bl.new w 76 _
  have HC := Lib.hid (copied_any a av mv w1 (h1.below hb1) (MsAt.below12 h2 hb1) hn hr hm)
  have HW1 := Lib.hid hw1.symm
  have HB1 := Lib.hid hb1
  have HK1 := Lib.hid hk1
  have HQ : Hid (∀ (x y : Value) (W : World), (Instr.typeAssert (a.dyn x y) 20 76 true).run Tryz.prog W = .ok (.tuple #[.agg #[.int .i64 0, .int .i64 0, .slice none 0 0], .bool false]) W) := Lib.hid (by
    intro x y W
    by_cases g1 : a.kd = 1
    · rw [dyn1 g1]; exact is76_no63 _ W
    by_cases g2 : a.kd = 3
    · rw [dyn3 g2]; exact is76_no78 _ W
    · rw [dyn0 (by omega)]; exact is76_nil W)
  obtain ⟨dv, hdv⟩ : ∃ v, v = a.dyn av mv := ⟨_, rfl⟩
  rw [← hdv] at HC ⊢
  clear hw1 hb1 hk1 hdv hk h1 h2
  go_enter Tryz.func148, Tryz.ntmps148
  go_upto_region 1 with fail
  rw [HW1.out]
  go_wp2_with fail
  refine HC.out.mono ?_
  rintro e w2 ⟨v1, v2, rfl, -, -, hb2⟩
  have hq := HQ.out v1 v2
  have hk2 := HK1.out.below hb2
  generalize a.dyn v1 v2 = dw at hq ⊢
  obtain ⟨w3, hw3⟩ : ∃ w3, w3 = (w2.alloc (.cells #[.int .i64 0, .int .i64 0, .slice none 0 0] 76)).alloc (.cells #[.int .i64 0, .int .i64 0, .slice none 0 0] 76) := ⟨_, rfl⟩
  have hs4 : (w2.alloc (.cells #[.int .i64 0, .int .i64 0, .slice none 0 0] 76)).heap.size = w2.heap.size + 1 := by simp
  have hb3 : Below w2.heap.size w2 w3 := by rw [hw3]; exact ((Below.refl _ w2).alloc (Nat.le_refl _) _).alloc (by simp) _
  have hk3 := hk2.below hb3
  have hn3 : Bl w3 (w2.heap.size + 1) 76 #[.int .i64 0, .int .i64 0, .slice none 0 0] := by rw [hw3, ← hs4]; exact Bl.new _ 76 _
  have hf := fill3 hk3 (.int .i64 0) (.int .i64 0) (.slice none 0 0)
  have HF := Lib.hid hf
  have HB3 := Lib.hid (below_mid12 (below_mid12 HB1.out hb2) hb3)
  have HW3 := Lib.hid hw3.symm
  have c0 := hk3.cell 0
  have z0 := hk3.frozen 0
  have d0 := hn3.cell 0
  have c1 := hk3.cell 1
  have z1 := hk3.frozen 1
  have d1 := hn3.cell 1
  have c2 := hk3.cell 2
  have z2 := hk3.frozen 2
  have d2 := hn3.cell 2
  simp only [List.getElem?_toArray, List.getElem?_cons_succ, List.getElem?_cons_zero] at c0 d0 c1 d1 c2 d2
  clear hk2 hb2 hw3 hb3 hk3 hn3 hf hs4
  go_upto_region 5 with fail
  rw [HW3.out]
  go_wp2_with fail
  have e0 := HF.out.1.cell 0
  have e1 := HF.out.1.cell 1
  have e2 := HF.out.1.cell 2
  simp only [List.getElem?_toArray, List.getElem?_cons_succ, List.getElem?_cons_zero] at e0 e1 e2
  refine bodyPost_ret (v := .tuple #[.agg #[.int .i64 0, .int .i64 0, .slice none 0 0], .bool false]) (by simp [results, Tryz.results148, go_sem, e0, e1, e2]) rfl ⟨rfl, below_set HB3.out HF.out.2 (Nat.le_refl _)⟩
end Go.Proofs.YtoobjjpheegmdaaGreat.E4
namespace Go.Proofs.YtoobjjpheegmdaaGreat.E4
open Go.RowKit Go
open Go.Sort (grow)
set_option maxHeartbeats 1000000 in
set_option maxRecDepth 100000 in
theorem own_any {G : Nat → Prop} {w : World} {e : Ent} {lv : Value} (h : LabsAt G w lv e.labs) (hn : e.labs.length ≤ 1000000) :
    Calls Tryz.prog 73 #[e.val lv] w fun x w' => ∃ lv', x = .returned (e.val lv') ∧ LabsAt (fun k => w.heap.size ≤ k) w' lv' e.labs ∧ Lay w w' := by
  obtain ⟨a, ca, rfl, h63, _⟩ := id h
  obtain ⟨w1, hw1⟩ : ∃ w1, w1 = w.alloc (.cells #[.int .i64 e.tm, .slice a e.labs.length ca, .string e.line] 32) := ⟨_, rfl⟩
  have hl1 : Lay w w1 := by rw [hw1]; exact (Keep.refl _ w).alloc _
  have hk1 : Bl w1 w.heap.size 32 #[.int .i64 e.tm, .slice a e.labs.length ca, .string e.line] := by rw [hw1]; exact Bl.new w 32 _
  obtain ⟨w2, hw2⟩ : ∃ w2, w2 = w1.alloc (.cells #[.int .i64 0, .slice none 0 0, .string ⟨#[]⟩] 32) := ⟨_, rfl⟩
  have hl12 : Lay w1 w2 := by rw [hw2]; exact (Keep.refl _ w1).alloc _
  have hs1 : w1.heap.size = w.heap.size + 1 := by rw [hw1]; simp
  have hk2 : Bl w2 (w.heap.size + 1) 32 #[.int .i64 0, .slice none 0 0, .string ⟨#[]⟩] := by rw [hw2, ← hs1]; exact Bl.new w1 32 _
  have hka : Bl w2 w.heap.size 32 #[.int .i64 e.tm, .slice a e.labs.length ca, .string e.line] := hk1.below (lay_below hl12)
  have hl2 : Lay w w2 := Keep.trans hl1 hl12
  have HC := Lib.hid (cloneL_any (h.lay hl2) hn)
  have HL2 := Lib.hid hl2
  have HKA := Lib.hid hka
  have HK2 := Lib.hid hk2
  rw [hw1] at hw2
  have HW2 := Lib.hid hw2.symm
  have HN := Lib.hid hn
  have c0 := hka.cell 0
  have c1 := hka.cell 1
  have c2 := hka.cell 2
  have f1 := hka.frozen 1
  simp only [List.getElem?_toArray, List.getElem?_cons_succ, List.getElem?_cons_zero] at c0 c1 c2
  have hsl : w.heap.size < w2.heap.size := hka.lt
  clear hl1 hk1 hl12 hs1 hka hk2 hl2 hw2 hw1 h
  unfold Ent.val
  go_enter Tryz.func73, Tryz.ntmps73
  go_upto_region 1 with fail
  rw [HW2.out]
  go_wp2_with fail
  refine HC.out.mono ?_
  rintro x w3 ⟨lv', rfl, hlab, hl3⟩
  obtain ⟨b, cb, rfl, _, _⟩ := id hlab
  have hka3 := HKA.out.below (lay_below hl3)
  have hk23 := HK2.out.below (lay_below hl3)
  obtain ⟨w4, hw4⟩ : ∃ w4, w4 = w3.setCell ⟨w.heap.size, 1, none⟩ (.slice b e.labs.length cb) := ⟨_, rfl⟩
  have hka4 : Bl w4 w.heap.size 32 #[.int .i64 e.tm, .slice b e.labs.length cb, .string e.line] := by
    have := hka3.set12 1 (.slice b e.labs.length cb)
    simp only [List.setIfInBounds_toArray, List.set_cons_zero, List.set_cons_succ] at this
    rw [hw4]; exact this
  have hk34 : Keep (fun k => k = w.heap.size) w3 w4 := by rw [hw4]; exact keep_set12 (Keep.refl _ _) _ _
  have hk24 : Bl w4 (w.heap.size + 1) 32 #[.int .i64 0, .slice none 0 0, .string ⟨#[]⟩] := (hk34.block _ hk23.lt (by omega)).trans hk23
  have hf := fill3 hk24 (.int .i64 e.tm) (.slice b e.labs.length cb) (.string e.line)
  have HF := Lib.hid hf
  have d0 := hka4.cell 0
  have d1 := hka4.cell 1
  have d2 := hka4.cell 2
  have y0 := hk24.cell 0
  have y1 := hk24.cell 1
  have y2 := hk24.cell 2
  have z0 := hk24.frozen 0
  have z1 := hk24.frozen 1
  have z2 := hk24.frozen 2
  have b1 := hka3.cell 1
  have g1 := hka3.frozen 1
  simp only [List.getElem?_toArray, List.getElem?_cons_succ, List.getElem?_cons_zero] at d0 d1 d2 y0 y1 y2 b1
  have HLB := Lib.hid hlab
  have HK34 := Lib.hid hk34
  have HL3 := Lib.hid hl3
  have HW4 := Lib.hid hw4.symm
  clear hka3 hk23 hw4 hka4 hk34 hk24 hf hlab hl3 c0 c1 c2 f1
  go_upto_region 2 with fail
  rw [HW4.out]
  go_wp2_with fail
  have e0 := HF.out.1.cell 0
  have e1 := HF.out.1.cell 1
  have e2 := HF.out.1.cell 2
  simp only [List.getElem?_toArray, List.getElem?_cons_succ, List.getElem?_cons_zero] at e0 e1 e2
  have hk35 : Keep (fun k => w.heap.size ≤ k ∧ k < w2.heap.size) w3 (((w4.setCell ⟨w.heap.size + 1, 0, none⟩ (.int .i64 e.tm)).setCell ⟨w.heap.size + 1, 1, none⟩ (.slice b e.labs.length cb)).setCell ⟨w.heap.size + 1, 2, none⟩ (.string e.line)) :=
    Keep.trans (HK34.out.into fun k _ hk => by have := HKA.out.lt; omega) (HF.out.2.into fun k _ hk => by have := HK2.out.lt; omega)
  have hk05 : Lay w (((w4.setCell ⟨w.heap.size + 1, 0, none⟩ (.int .i64 e.tm)).setCell ⟨w.heap.size + 1, 1, none⟩ (.slice b e.labs.length cb)).setCell ⟨w.heap.size + 1, 2, none⟩ (.string e.line)) :=
    Keep.into (Keep.trans ((Keep.trans HL2.out HL3.out).into (H := fun k => w.heap.size ≤ k) (fun _ _ h => h.elim)) (hk35.into fun k _ hk => hk.1)) fun k hlt hk => by omega
  refine bodyPost_ret (v := .agg #[.int .i64 e.tm, .slice b e.labs.length cb, .string e.line]) (by simp [results, Tryz.results73, go_sem, e0, e1, e2]) rfl
    ⟨_, rfl, (HLB.out.keep hk35 fun k hk _ hk2 => by omega).mono fun k hk _ => Nat.le_trans HL2.out.size hk, hk05⟩
theorem len3_any (w : World) (B gb : Nat) (es : List Ent) (h : EngAt3 w B gb es) : Calls Tryz.prog 70 #[.pointer (some ⟨gb, 0, none⟩)] w fun e w' => e = .returned (.int .i64 es.length) ∧ w' = w := by
  obtain ⟨κ, kb, pb, m, n, v, R, h, hR, _⟩ := h
  have c0 := h.c.cell 0
  simp only [List.getElem?_toArray, List.getElem?_cons_succ, List.getElem?_cons_zero] at c0
  obtain ⟨a, c, rfl⟩ := h.e.shape
  have hl : R.length = es.length := by rw [← hR, List.length_map]
  rw [hl] at c0
  clear h hR hl
  go_enter Tryz.func70, Tryz.ntmps70
  go_wp2_with fail
  go_ret
  exact ⟨rfl, rfl⟩
theorem new3_any (w : World) : Calls Tryz.prog 30 #[] w fun e w' => e = .returned (.pointer (some ⟨w.heap.size + 2, 0, none⟩)) ∧ EngAt3 w' w.heap.size (w.heap.size + 2) [] ∧ Lay w w' := by
  have hm := @run_makeMap Tryz.prog
  obtain ⟨w1, hw1⟩ : ∃ w1, w1 = w.alloc (.map #[] 0) := ⟨_, rfl⟩
  obtain ⟨w2, hw2⟩ : ∃ w2, w2 = w1.alloc (.map #[] 0) := ⟨_, rfl⟩
  obtain ⟨w3, hw3⟩ : ∃ w3, w3 = w2.alloc (.cells #[.slice none 0 0, .map (some w.heap.size), .map (some (w.heap.size + 1))] 96) := ⟨_, rfl⟩
  have hs1 : w1.heap.size = w.heap.size + 1 := by rw [hw1]; simp
  have hs2 : w2.heap.size = w.heap.size + 2 := by rw [hw2]; simp; omega
  have hl1 : Lay w w1 := by rw [hw1]; exact (Keep.refl _ w).alloc _
  have hl2 : Lay w1 w2 := by rw [hw2]; exact (Keep.refl _ w1).alloc _
  have hl3 : Lay w2 w3 := by rw [hw3]; exact (Keep.refl _ w2).alloc _
  have hm1 : MapAt Tryz.prog 9 w1 w.heap.size 0 (fun _ => none) := by rw [hw1]; exact MapAt.made _ _ _
  have hm2 : MapAt Tryz.prog 9 w2 (w.heap.size + 1) 0 (fun _ => none) := by rw [hw2, ← hs1]; exact MapAt.made _ _ _
  have hg3 : Bl w3 (w.heap.size + 2) 96 #[.slice none 0 0, .map (some w.heap.size), .map (some (w.heap.size + 1))] := by rw [hw3, ← hs2]; exact Bl.new w2 _ _
  have hm13 : MapAt Tryz.prog 9 w3 w.heap.size 0 (fun _ => none) := hm1.carry ((Lay.block (Keep.trans hl2 hl3) hm1.lt))
  have hm23 : MapAt Tryz.prog 9 w3 (w.heap.size + 1) 0 (fun _ => none) := hm2.carry (Lay.block hl3 hm2.lt)
  have HE : Hid (EngAt3 w3 w.heap.size (w.heap.size + 2) []) := Lib.hid ⟨fun b => if b = w.heap.size then 2 else if b = w.heap.size + 1 then 3 else 1, w.heap.size, w.heap.size + 1, 0, 0, .slice none 0 0, [], ⟨hg3, Rk.nil 3 _ _, fun x hx => by simp at hx, hm13, PlAt.empty hm23,
    ⟨by omega, by simp⟩, ⟨Nat.le_refl _, by simp⟩, ⟨by omega, by simp⟩⟩, rfl, Nat.le_refl _, Nat.le_refl _⟩
  have HL := Lib.hid (Keep.trans (Keep.trans hl1 hl2) hl3)
  rw [hw1] at hw2
  rw [hw2] at hw3
  have HW3 := Lib.hid hw3.symm
  clear hm1 hm2 hg3 hm13 hm23 hl1 hl2 hl3 hs1 hs2 hw1 hw2 hw3
  go_enter Tryz.func30, Tryz.ntmps30
  go_wp2_with fail
  rw [HW3.out]
  go_ret
  exact ⟨rfl, HE.out, HL.out⟩
end Go.Proofs.YtoobjjpheegmdaaGreat.E4
namespace Go.Proofs.YtoobjjpheegmdaaGreat.H3
open Go.RowKit Go
end Go.Proofs.YtoobjjpheegmdaaGreat.H3
namespace Go.Proofs.YtoobjjpheegmdaaGreat.E4
open Go.RowKit Go
structure PS (W0 : World) (pb m : Nat) (f : ByteArray → Option Value) (x : ByteArray) (v : Value) (n : Nat) (xs : List Value) (listed : Array Bool) (ys : Nat → Value) (W : World) : Prop where
  k : Keep (fun q => q = pb ∨ At v q) W0 W
  a : listed.getD 8 false = false → Lay W0 W
  b : listed.getD 8 false = true → Rk 1 (fun q => At v q ∨ W0.heap.size ≤ q) W (ys 8) n xs
  c : listed.getD 9 false = false → MapAt Tryz.prog 9 W pb m f
  d : listed.getD 9 false = true → MapAt Tryz.prog 9 W pb (m + 1) (fun t => if t = x then some (ys 8) else f t)
theorem PS.other {W0 W W' : World} {pb m n : Nat} {f : ByteArray → Option Value} {x : ByteArray} {v : Value} {xs : List Value} {listed : Array Bool} {ys : Nat → Value} (h : PS W0 pb m f x v n xs listed ys W) (hl : Lay W W') {i : Nat} (h8 : i ≠ 8) (h9 : i ≠ 9) (u : Value) :
    PS W0 pb m f x v n xs (listed.setIfInBounds i true) (H3.upd ys i u) W' := by
  have e8 : (listed.setIfInBounds i true).getD 8 false = listed.getD 8 false := getD_set_ne false h8
  have e9 : (listed.setIfInBounds i true).getD 9 false = listed.getD 9 false := getD_set_ne false h9
  have u8 : H3.upd ys i u 8 = ys 8 := H3.upd_other ys u (Ne.symm h8)
  refine ⟨Keep.trans h.k (hl.into fun _ _ h => h.elim), fun q => Keep.trans (h.a (e8 ▸ q)) hl, fun q => ?_, fun q => ?_, fun q => ?_⟩
  · rw [u8]; exact (h.b (e8 ▸ q)).lay hl
  · have := h.c (e9 ▸ q); exact this.carry (Lay.block hl this.lt)
  · rw [u8]; have := h.d (e9 ▸ q); exact this.carry (Lay.block hl this.lt)
def OneAt (n : Nat) (v : Value) (w : World) : Prop := ∃ g, v = .slice (some ⟨g, 0, none⟩) 1 1 ∧ g < w.heap.size ∧ w.cell? ⟨g, 0, none⟩ = some (.int .i64 (n : Int))
theorem OneAt.below {n : Nat} {v : Value} {w w' : World} (h : OneAt n v w) (hb : Below w.heap.size w w') : OneAt n v w' := by
  obtain ⟨g, h1, h2, h3⟩ := h
  exact ⟨g, h1, Nat.lt_of_lt_of_le h2 hb.size, (hb.cell (p := ⟨g, 0, none⟩) h2).trans h3⟩
theorem OneAt.new (n : Nat) (w : World) : OneAt n (.slice (some ⟨w.heap.size, 0, none⟩) 1 1) (w.alloc (.cells #[.int .i64 (n : Int)] 3)) :=
  ⟨w.heap.size, rfl, by simp, Bl.cell (Bl.new w 3 #[.int .i64 (n : Int)]) 0⟩
theorem OneAt.src {n : Nat} {v : Value} {w : World} (h : OneAt n v w) : Src Tryz.prog 1 22 v 1 [.int .i64 (n : Int)] w := by
  obtain ⟨g, rfl, _, h⟩ := h
  refine Src.ofSlice _ Tryz.underlying22 ⟨g, 0, none⟩ 1 1 [.int .i64 (n : Int)] rfl (fun j u hu => ?_) (fun u hu => by rw [List.mem_singleton] at hu; rw [hu]; rfl)
  cases j with
  | zero => rw [add_lit0]; rw [h]; simpa using hu
  | succ j => simp at hu
end Go.Proofs.YtoobjjpheegmdaaGreat.E4
