/-
  Be14.
-/
import Derived.Test.YtoobjjpheegmdaaGreatJ20
import Derived.Test.YtoobjjpheegmdaaGreatJ14
namespace Go.Proofs.YtoobjjpheegmdaaGreat.E4
open Go.RowKit Go
set_option maxHeartbeats 1000000 in
set_option maxRecDepth 100000 in
theorem add1_any {G H : Nat → Prop} {w : World} {e x : Ent} {la lx : Value} {EB : Nat} (hE : Bl w EB 32 #[.int .i64 e.tm, la, .string e.line]) (he : LabsAt G w la e.labs) (hx : LabsAt H w lx x.labs) :
    Calls Tryz.prog 152 (#[x.val lx] ++ #[.pointer (some ⟨EB, 0, none⟩)]) w fun r w' => r = .returned (.bool (decide (entC e x ≤ 0))) ∧ Lay w w' := by
  obtain ⟨al, cl, rfl, _, _⟩ := id he
  obtain ⟨ax, cx, rfl, _, _⟩ := id hx
  have hl1 : Lay w (w.alloc (.cells #[.int .i64 x.tm, .slice ax x.labs.length cx, .string x.line] 32)) := (Keep.refl _ w).alloc _
  have HC := Lib.hid (compare_any (x := e) (y := x) (he.lay hl1) (hx.lay hl1))
  have hE1 := hE.below (lay_below hl1)
  have c0 := hE1.cell 0
  have c1 := hE1.cell 1
  have c2 := hE1.cell 2
  simp only [List.getElem?_toArray, List.getElem?_cons_succ, List.getElem?_cons_zero] at c0 c1 c2
  have HL1 := Lib.hid hl1
  clear hE hE1 he hx hl1
  simp only [Ent.val] at HC ⊢
  generalize entC e x = r at HC ⊢
  go_enter Tryz.func152, Tryz.ntmps152
  go_wp2_with fail
  refine HC.out.mono ?_
  rintro y w2 ⟨rfl, hl2⟩
  have HL2 := Lib.hid (Keep.trans HL1.out hl2)
  clear hl2 HC
  go_wp2_with fail
  go_ret
  exact ⟨rfl, HL2.out⟩
set_option maxHeartbeats 1000000 in
set_option maxRecDepth 100000 in
theorem betw1_any {H : Nat → Prop} {w : World} {x : Ent} {lx : Value} {FB : Nat} {src : Int} (hF : w.cell? ⟨FB, 0, none⟩ = some (.int .i64 src)) (hx : LabsAt H w lx x.labs) :
    Calls Tryz.prog 164 (#[x.val lx] ++ #[.pointer (some ⟨FB, 0, none⟩)]) w fun r w' => r = .returned (.bool (decide (src ≤ x.tm))) ∧ Lay w w' := by
  obtain ⟨ax, cx, rfl, _, _⟩ := id hx
  have hl1 : Lay w (w.alloc (.cells #[.int .i64 x.tm, .slice ax x.labs.length cx, .string x.line] 32)) := (Keep.refl _ w).alloc _
  have hF1 := (hl1.cell (World.block_lt_of_cell? w _ hF)).trans hF
  have HL1 := Lib.hid hl1
  clear hx hl1 hF
  simp only [Ent.val]
  go_enter Tryz.func164, Tryz.ntmps164
  go_wp2_with fail
  go_ret
  exact ⟨rfl, HL1.out⟩
theorem keep_set14 {G : Nat → Prop} {W W' : World} {b : Nat} (h : Keep G W W') (hb : G b) (i : Nat) (u : Value) : Keep G W (W'.setCell ⟨b, i, none⟩ u) :=
  h.trans ((keep_set12 (Keep.refl _ W') i u).into fun _ _ e => e ▸ hb)
set_option maxHeartbeats 4000000 in
set_option maxRecDepth 100000 in
theorem begin_any {H : Nat → Prop} {w : World} {e : Ent} {la u0 u1 : Value} {fb : Nat} (hf : Bl w fb 207 #[u0, u1]) (he : LabsAt H w la e.labs) (hn : e.labs.length ≤ 1000000) :
    Calls Tryz.prog 150 #[.pointer (some ⟨fb, 0, none⟩), e.val la] w fun r w' => r = .returned (.tuple #[]) ∧ ∃ C lv' cv' v, w.heap.size ≤ C ∧ Bl w' fb 207 #[lv', cv'] ∧ FlowAt (fun b => C ≤ b) (fun b => w.heap.size ≤ b ∧ b < C) w' lv' cv' e.labs [(v, [(lv', e)])] ∧ Keep (fun b => b = fb) w w' := by
  obtain ⟨al, cl, rfl, h63, _⟩ := id he
  obtain ⟨w1, hw1⟩ : ∃ w1, w1 = w.alloc (.cells #[.int .i64 e.tm, .slice al e.labs.length cl, .string e.line] 32) := ⟨_, rfl⟩
  have hl1 : Lay w w1 := by rw [hw1]; exact (Keep.refl _ w).alloc _
  have hk1 : Bl w1 w.heap.size 32 #[.int .i64 e.tm, .slice al e.labs.length cl, .string e.line] := by rw [hw1]; exact Bl.new w 32 _
  have HC := Lib.hid (cloneL_any (he.lay hl1) hn)
  have HW1 := Lib.hid hw1.symm
  have HL1 := Lib.hid hl1
  have HK1 := Lib.hid hk1
  have HF := Lib.hid hf
  have c1 := hk1.cell 1
  simp only [List.getElem?_toArray, List.getElem?_cons_succ, List.getElem?_cons_zero] at c1
  have hflt := hf.lt
  clear hk1 hw1 he hl1 hf
  unfold Ent.val
  go_enter Tryz.func150, Tryz.ntmps150
  go_upto_region 1 with fail
  rw [HW1.out]
  go_wp2_with fail
  refine HC.out.mono ?_
  rintro x w2 ⟨v2, rfl, hlab, hl2⟩
  obtain ⟨a2, c2, rfl, _, _⟩ := id hlab
  have hl02 : Lay w w2 := Keep.trans HL1.out hl2
  have hk2 := HK1.out.below (lay_below hl2)
  have hf2 := HF.out.below (lay_below hl02)
  have hk3 : Bl (w2.setCell ⟨w.heap.size, 1, none⟩ (.slice a2 e.labs.length c2)) w.heap.size 32 #[.int .i64 e.tm, .slice a2 e.labs.length c2, .string e.line] := by
    have := hk2.set12 1 (.slice a2 e.labs.length c2)
    simpa only [List.setIfInBounds_toArray, List.set_cons_zero, List.set_cons_succ] using this
  have hne : fb ≠ w.heap.size := by omega
  have hf3 : Bl (w2.setCell ⟨w.heap.size, 1, none⟩ (.slice a2 e.labs.length c2)) fb 207 #[u0, u1] := (Below.heap_setCell _ ⟨w.heap.size, 1, none⟩ _ fb hne).trans hf2
  obtain ⟨w3, hw3⟩ : ∃ w3, w3 = w2.setCell ⟨w.heap.size, 1, none⟩ (.slice a2 e.labs.length c2) := ⟨_, rfl⟩
  rw [← hw3] at hk3 hf3
  have hf4 : Bl (w3.setCell ⟨fb, 0, none⟩ (.slice a2 e.labs.length c2)) fb 207 #[.slice a2 e.labs.length c2, u1] := by
    have := hf3.set12 0 (.slice a2 e.labs.length c2)
    simpa only [List.setIfInBounds_toArray, List.set_cons_zero] using this
  have hk4 : Bl (w3.setCell ⟨fb, 0, none⟩ (.slice a2 e.labs.length c2)) w.heap.size 32 #[.int .i64 e.tm, .slice a2 e.labs.length c2, .string e.line] := (Below.heap_setCell _ ⟨fb, 0, none⟩ _ w.heap.size (Ne.symm hne)).trans hk3
  obtain ⟨w4, hw4⟩ : ∃ w4, w4 = w3.setCell ⟨fb, 0, none⟩ (.slice a2 e.labs.length c2) := ⟨_, rfl⟩
  rw [← hw4] at hf4 hk4
  have hs3 : w3.heap.size = w2.heap.size := by rw [hw3]; simp [World.setCell]
  have hs4 : w4.heap.size = w2.heap.size := by rw [hw4, ← hs3]; simp [World.setCell]
  have hkk4 : Keep (fun b => b = fb ∨ b = w.heap.size) w2 w4 := by
    rw [hw4, hw3]
    exact keep_set14 (keep_set14 (Keep.refl _ w2) (.inr rfl) _ _) (.inl rfl) _ _
  obtain ⟨w5, hw5⟩ : ∃ w5, w5 = w4.setCell ⟨fb, 1, none⟩ (.slice (some ⟨w4.heap.size + 1, 0, none⟩) 1 1) := ⟨_, rfl⟩
  have hf5 : Bl w5 fb 207 #[.slice a2 e.labs.length c2, .slice (some ⟨w4.heap.size + 1, 0, none⟩) 1 1] := by
    have := hf4.set12 1 (.slice (some ⟨w4.heap.size + 1, 0, none⟩) 1 1)
    rw [hw5]
    simpa only [List.setIfInBounds_toArray, List.set_cons_zero, List.set_cons_succ] using this
  have hs5 : w5.heap.size = w4.heap.size := by rw [hw5]; simp [World.setCell]
  have hkk5 : Keep (fun b => b = fb ∨ b = w.heap.size) w2 w5 := by
    rw [hw5]
    exact keep_set14 hkk4 (.inl rfl) _ _
  obtain ⟨w6, hw6⟩ : ∃ w6, w6 = (w5.alloc (.cells #[.int .i64 e.tm, .slice a2 e.labs.length c2, .string e.line] 32)).alloc (.cells #[.slice (some ⟨w4.heap.size, 0, none⟩) 1 1] 43) := ⟨_, rfl⟩
  have hl56 : Lay w5 w6 := by rw [hw6]; exact ((Keep.refl _ w5).alloc _).alloc _
  have hf6 := hf5.below (lay_below hl56)
  have hA6 : Rk 3 (fun b => b = w4.heap.size) w6 (.slice (some ⟨w4.heap.size, 0, none⟩) 1 1) 1 (flatR [((.slice a2 e.labs.length c2 : Value), e)]) := by
    have h0 := rk_new 3 w5 1 (flatR [((.slice a2 e.labs.length c2 : Value), e)]) 32 rfl (by omega)
    rw [hs5] at h0
    rw [hw6]; exact h0.alloc _
  have hB6 : Rk 1 (fun b => b = w4.heap.size + 1) w6 (.slice (some ⟨w4.heap.size + 1, 0, none⟩) 1 1) 1 [.slice (some ⟨w4.heap.size, 0, none⟩) 1 1] := by
    have h0 := rk_new 1 (w5.alloc (.cells #[.int .i64 e.tm, .slice a2 e.labs.length c2, .string e.line] 32)) 1 [.slice (some ⟨w4.heap.size, 0, none⟩) 1 1] 43 rfl (by omega)
    rw [World.size_alloc, hs5] at h0
    rw [hw6]; exact h0
  have b1 := hk2.cell 1
  have g1 := hk2.frozen 1
  have d1 := hk3.cell 1
  have y0 := hf3.cell 0
  have z0 := hf3.frozen 0
  have k0 := hk4.cell 0
  have k1 := hk4.cell 1
  have k2 := hk4.cell 2
  have q1 := hf4.cell 1
  have q2 := hf4.frozen 1
  simp only [List.getElem?_toArray, List.getElem?_cons_succ, List.getElem?_cons_zero] at b1 d1 y0 k0 k1 k2 q1
  have HW3 := Lib.hid hw3.symm
  have HW4 := Lib.hid hw4.symm
  have HW5 := Lib.hid hw5.symm
  have HW6 := Lib.hid hw6.symm
  have HF6 := Lib.hid hf6
  have HA6 := Lib.hid hA6
  have HB6 := Lib.hid hB6
  have HLB := Lib.hid hlab
  have HL02 := Lib.hid hl02
  have HKK := Lib.hid hkk5
  have HL56 := Lib.hid hl56
  have HS4 := Lib.hid hs4
  have HS : Hid (w.heap.size < w2.heap.size) := Lib.hid hk2.lt
  have HH : Hid (w.heap.size ≤ w1.heap.size) := Lib.hid HL1.out.size
  have hfl4 : fb < w4.heap.size := hf4.lt
  clear hk2 hf2 hk3 hf3 hf4 hk4 hf5 hf6 hA6 hB6 hlab hl02 hkk4 hkk5 hl56 hs3 hs4 hs5 hw3 hw4 hw5 hw6 hl2 HC
  go_upto_region 2 with fail
  rw [HW3.out]
  clear b1 g1 c1
  go_upto_region 3 with fail
  rw [HW4.out]
  clear d1 y0 z0
  go_wp2_with fail
  rw [HW5.out, HW6.out]
  have hk06 : Keep (fun b => b = fb) w w6 := by
    have h1 : Keep (fun b => b = fb ∨ b = w.heap.size) w w6 := Keep.trans (Keep.trans (HL02.out.into fun _ _ h => h.elim) HKK.out) (HL56.out.into fun _ _ h => h.elim)
    exact h1.into fun b hlt hb => hb.elim id fun h => absurd hlt (by omega)
  have hs := HS.out
  have hs4 := HS4.out
  have hlw : LabsAt (fun b => w.heap.size ≤ b ∧ b < w2.heap.size ∧ b ≠ w.heap.size) w2 (.slice a2 e.labs.length c2) e.labs := (HLB.out).mono fun b hb hlt => ⟨Nat.le_trans HH.out hb, hlt, fun h => by
    have h1 := HK1.out.lt
    omega⟩
  refine bodyPost_end (results_none rfl _ _ _) rfl ⟨rfl, w2.heap.size, _, _, .slice (some ⟨w4.heap.size, 0, none⟩) 1 1, by omega, HF6.out, ⟨?_, ?_, ?_, ?_, ?_, ?_, ?_, ?_, ?_⟩, hk06⟩
  · exact ((hlw.keep HKK.out fun b hb hlt h => by rcases h with h | h <;> omega).lay HL56.out).mono fun b hb _ => ⟨hb.1, hb.2.1⟩
  · exact HB6.out.mono fun b hb _ => by omega
  · intro x hx
    obtain rfl := List.mem_singleton.1 hx
    exact HA6.out.mono fun b hb _ => by omega
  · intro x hx y hy
    obtain rfl := List.mem_singleton.1 hx
    obtain rfl := List.mem_singleton.1 hy
    exact ((hlw.keep HKK.out fun b hb hlt h => by rcases h with h | h <;> omega).lay HL56.out).mono fun b hb _ => ⟨hb.1, hb.2.1⟩
  · exact List.pairwise_singleton _ _
  · intro x hx k hk hk2
    obtain rfl := List.mem_singleton.1 hx
    obtain ⟨_, _, h1⟩ := hk
    obtain ⟨_, _, h2⟩ := hk2
    simp only [Value.slice.injEq, Option.some.injEq, Addr.mk.injEq, and_true] at h1 h2
    omega
  · intro x hx
    obtain rfl := List.mem_singleton.1 hx
    simp
  · exact List.pairwise_singleton _ _
  · intro y hy
    simp only [flatC, entsC, List.map_cons, List.map_nil, List.flatMap_cons, List.flatMap_nil, List.append_nil, List.mem_singleton] at hy
    rw [hy]
end Go.Proofs.YtoobjjpheegmdaaGreat.E4
