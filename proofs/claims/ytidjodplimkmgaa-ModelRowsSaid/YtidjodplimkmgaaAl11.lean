/-
  WHAT THE DOCUMENT TELLS: the law's alive.
-/
import Derived.Test.YtidjodplimkmgaaPg11
import Derived.Test.YtidjodplimkmgaaGr11
namespace Go.Proofs.Ytidjodplimkmgaa.E4
open Go.RowKit Go
open Go.Sort (grow)

/-- Its entries, its query. -/
def es0 : List Ent := [(⟨3, [], ⟨#[]⟩⟩ : Ent), ⟨1, [], ⟨#[]⟩⟩, ⟨2, [], ⟨#[]⟩⟩, ⟨1, [], ⟨#[]⟩⟩]
def q0 : Qy := ⟨1, 9, [], .mk 1 ⟨#[]⟩ ⟨#[]⟩ [], false, 2, ⟨#[]⟩⟩
theorem kept0 : kept q0 [es0] = es0 := by kernel_rfl
theorem sorts0 : Sorts (ordC false) es0 [⟨1, [], ⟨#[]⟩⟩, ⟨2, [], ⟨#[]⟩⟩, ⟨3, [], ⟨#[]⟩⟩] := by
  have h12 : ordC false ⟨1, [], ⟨#[]⟩⟩ ⟨2, [], ⟨#[]⟩⟩ = -1 := by kernel_rfl
  have h13 : ordC false ⟨1, [], ⟨#[]⟩⟩ ⟨3, [], ⟨#[]⟩⟩ = -1 := by kernel_rfl
  have h23 : ordC false ⟨2, [], ⟨#[]⟩⟩ ⟨3, [], ⟨#[]⟩⟩ = -1 := by kernel_rfl
  refine ⟨?_, fun x => ?_⟩
  · refine List.pairwise_cons.2 ⟨fun y hy => ?_, List.pairwise_cons.2 ⟨fun y hy => ?_, List.pairwise_singleton _ _⟩⟩
    · simp only [List.mem_cons, List.not_mem_nil, or_false] at hy
      rcases hy with rfl | rfl
      · exact h12
      · exact h13
    · simp only [List.mem_cons, List.not_mem_nil, or_false] at hy
      subst hy
      exact h23
  · unfold es0
    simp only [List.mem_cons, List.not_mem_nil, or_false]
    constructor
    · rintro (h | h | h)
      · exact .inr (.inl h)
      · exact .inr (.inr (.inl h))
      · exact .inl h
    · rintro (h | h | h | h)
      · exact .inr (.inr h)
      · exact .inl h
      · exact .inr (.inl h)
      · exact .inl h
theorem out0 {out : List Ent} (h : Sorts (ordC q0.desc) (kept q0 [es0]) out) : out = [⟨1, [], ⟨#[]⟩⟩, ⟨2, [], ⟨#[]⟩⟩, ⟨3, [], ⟨#[]⟩⟩] := by
  rw [kept0] at h
  exact Sorts.unique (ordC_lc false) h sorts0 fun _ => Iff.rfl
theorem cut0 : Md.cut (ordC q0.desc) (mkO true ⟨2, [], ⟨#[]⟩⟩) q0.lim.toNat [⟨1, [], ⟨#[]⟩⟩, ⟨2, [], ⟨#[]⟩⟩, ⟨3, [], ⟨#[]⟩⟩] = ([⟨3, [], ⟨#[]⟩⟩], true) := by kernel_rfl

theorem fine0 : Fine [es0] := fun r hr e he => by
  simp only [List.mem_cons, List.not_mem_nil, or_false] at hr
  subst hr
  unfold es0 at he
  simp only [List.mem_cons, List.not_mem_nil, or_false] at he
  rcases he with rfl | rfl | rfl | rfl <;> decide

theorem ents0 (w : World) : EntsAt (fun _ => True) (fun _ => True) (w.alloc (.cells #[.int .i64 3, .slice none 0 0, .string ⟨#[]⟩, .int .i64 1, .slice none 0 0, .string ⟨#[]⟩, .int .i64 2, .slice none 0 0, .string ⟨#[]⟩, .int .i64 1, .slice none 0 0, .string ⟨#[]⟩] 39)) (.slice (some ⟨w.heap.size, 0, none⟩) 4 4) es0 :=
  ((rk_new 3 w 4 (flatR (es0.map fun e => (.slice none 0 0, e))) 39 rfl (by omega)).ents (L := fun _ => True) (fun x hx => by
    unfold es0 at hx
    simp only [List.map_cons, List.map_nil, List.mem_cons, List.not_mem_nil, or_false] at hx
    rcases hx with rfl | rfl | rfl | rfl <;> exact LabsAt.nil _ _)).any

theorem rows0 {w : World} {v : Value} (h : EntsAt (fun _ => True) (fun _ => True) w v es0) : RowsAt (w.alloc (.cells #[v] 33)) (.slice (some ⟨w.heap.size, 0, none⟩) 1 1) [es0] := by
  refine ⟨_, 1, rfl, by simp, .inr ⟨w.heap.size, 0, rfl, by simp, fun i hi => ?_⟩⟩
  obtain rfl : i = 0 := by simpa using hi
  exact ⟨v, CB.cell (CB.new w 33 #[v]) 0, h.below1 ((Below.refl _ w).alloc (Nat.le_refl _) _)⟩

theorem fit0 : Fit q0.fil := fit_leaf _ _ _ (by decide) fit_nil fit_nil
theorem qat0 (w : World) : QAt w (.agg #[.int .i64 1, .int .i64 9, .slice none 0 0, .int .i64 1, .string ⟨#[]⟩, .string ⟨#[]⟩, .slice none 0 0, .bool false, .int .i64 2, .string ⟨#[]⟩]) q0 := ⟨.slice none 0 0, .slice none 0 0, rfl, ⟨none, 0, rfl, by simp [q0], .inl rfl⟩, by unfold q0; rw [KsAt]; exact ⟨none, 0, rfl, by simp, .inl rfl⟩⟩

set_option maxHeartbeats 4000000 in
set_option maxRecDepth 100000 in
theorem alive_any (w : World) (hSh : w.ShapedOpen Try.prog) : Calls Try.prog 4 #[] w fun e w' => e = .returned (.bool true) ∧ Below w.heap.size w w' := by
  have hmx : Try.prog.follows .mixedOrders = true := by kernel_rfl
  obtain ⟨w2, hw2⟩ : ∃ w2, w2 = (w.alloc (.cells #[.int .i64 3, .slice none 0 0, .string ⟨#[]⟩, .int .i64 1, .slice none 0 0, .string ⟨#[]⟩, .int .i64 2, .slice none 0 0, .string ⟨#[]⟩, .int .i64 1, .slice none 0 0, .string ⟨#[]⟩] 39)).alloc (.cells #[.int .i64 1, .int .i64 9, .slice none 0 0, .int .i64 1, .string ⟨#[]⟩, .string ⟨#[]⟩, .slice none 0 0, .bool false, .int .i64 2, .string ⟨#[]⟩] 31) := ⟨_, rfl⟩
  have hb2 : Below w.heap.size w w2 := by rw [hw2]; exact ((Below.refl _ w).alloc (Nat.le_refl _) _).alloc (by simp) _
  have he2 : EntsAt (fun _ => True) (fun _ => True) w2 (.slice (some ⟨w.heap.size, 0, none⟩) 4 4) es0 := by rw [hw2]; exact (ents0 w).below1 ((Below.refl _ _).alloc (Nat.le_refl _) _)
  have hq2 : CB w2 (w.heap.size + 1) 31 #[.int .i64 1, .int .i64 9, .slice none 0 0, .int .i64 1, .string ⟨#[]⟩, .string ⟨#[]⟩, .slice none 0 0, .bool false, .int .i64 2, .string ⟨#[]⟩] := by
    have h := CB.new (w.alloc (.cells #[.int .i64 3, .slice none 0 0, .string ⟨#[]⟩, .int .i64 1, .slice none 0 0, .string ⟨#[]⟩, .int .i64 2, .slice none 0 0, .string ⟨#[]⟩, .int .i64 1, .slice none 0 0, .string ⟨#[]⟩] 39)) 31 #[.int .i64 1, .int .i64 9, .slice none 0 0, .int .i64 1, .string ⟨#[]⟩, .string ⟨#[]⟩, .slice none 0 0, .bool false, .int .i64 2, .string ⟨#[]⟩]
    rw [World.size_alloc] at h
    rw [hw2]; exact h
  have hs2 : w2.heap.size = w.heap.size + 2 := by rw [hw2]; simp
  have HP := Lib.hid (page_any q0 _ [es0] _ true ⟨2, [], ⟨#[]⟩⟩ (.slice none 0 0) _ (qat0 _) fit0 (rows0 he2) fine0 (by decide) (LabsAt.nil _ _) (shaped_below (shaped_below hSh hb2) ((Below.refl _ w2).alloc (Nat.le_refl _) (.cells #[.slice (some ⟨w.heap.size, 0, none⟩) 4 4] 33))))
  have HA : Hid (∀ W, Below w2.heap.size w2 W → Calls Try.prog 7 #[.agg #[.int .i64 1, .int .i64 9, .slice none 0 0, .int .i64 1, .string ⟨#[]⟩, .string ⟨#[]⟩, .slice none 0 0, .bool false, .int .i64 2, .string ⟨#[]⟩], .slice (some ⟨W.heap.size, 0, none⟩) 1 1] (W.alloc (.cells #[.slice (some ⟨w.heap.size, 0, none⟩) 4 4] 33)) (AnsPost q0 [es0] (W.alloc (.cells #[.slice (some ⟨w.heap.size, 0, none⟩) 4 4] 33)))) := Lib.hid fun W hW =>
    answer_any q0 _ [es0] _ _ (qat0 _) fit0 (rows0 (he2.below1 hW)) fine0 (by decide) (shaped_below (shaped_below hSh (below_mid hb2 hW)) ((Below.refl _ W).alloc (Nat.le_refl _) _))
  have HW2 := Lib.hid hw2.symm
  have HB2 := Lib.hid hb2
  have HQ2 := Lib.hid hq2
  have HS2 := Lib.hid hs2
  clear he2 hb2 hw2 hq2 hs2 hSh
  unfold mkV at HP
  go_enter Try.func4, Try.ntmps4
  go_upto_region 3 with fail
  rw [HW2.out]
  have c0 := HQ2.out.cell 0
  have c1 := HQ2.out.cell 1
  have c2 := HQ2.out.cell 2
  have c3 := HQ2.out.cell 3
  have c4 := HQ2.out.cell 4
  have c5 := HQ2.out.cell 5
  have c6 := HQ2.out.cell 6
  have c7 := HQ2.out.cell 7
  have c8 := HQ2.out.cell 8
  have c9 := HQ2.out.cell 9
  simp only [List.getElem?_toArray, List.getElem?_cons_succ, List.getElem?_cons_zero] at c0 c1 c2 c3 c4 c5 c6 c7 c8 c9
  have hqlt := HQ2.out.lt
  go_wp2_with fail
  refine HP.out.mono ?_
  rintro e w4 ⟨out, v, hso, he, hent, hb4⟩
  obtain rfl := out0 hso
  rw [cut0] at he hent
  subst he
  obtain ⟨av, cv, rfl, _, h0 | ⟨bv, ov, rfl, _, hlv, hcv⟩⟩ := hent
  · cases h0
  obtain ⟨lv, x0, _, _, _⟩ := hcv 0 (by decide)
  have hb24 : Below w2.heap.size w2 w4 := below_mid ((Below.refl _ w2).alloc (Nat.le_refl _) _) hb4
  have hq4 := cb_below HQ2.out hb24
  have d0 := hq4.cell 0
  have d1 := hq4.cell 1
  have d2 := hq4.cell 2
  have d3 := hq4.cell 3
  have d4 := hq4.cell 4
  have d5 := hq4.cell 5
  have d6 := hq4.cell 6
  have d7 := hq4.cell 7
  have d8 := hq4.cell 8
  have d9 := hq4.cell 9
  simp only [List.getElem?_toArray, List.getElem?_cons_succ, List.getElem?_cons_zero] at d0 d1 d2 d3 d4 d5 d6 d7 d8 d9
  have x0' : w4.cell? ⟨bv, ov, none⟩ = some (.int .i64 3) := by simpa using x0
  have hqlt4 := hq4.lt
  have HA4 := Lib.hid (HA.out w4 hb24)
  have HB24 := Lib.hid hb24
  clear c0 c1 c2 c3 c4 c5 c6 c7 c8 c9 hcv hb4 hb24 hq4 x0 hso HP HA hqlt
  go_wp2_with fail
  refine HA4.out.mono ?_
  rintro e w5 ⟨v5, out5, rfl, hent5, hsq5, hso5, hb5⟩
  obtain rfl := out0 hso5
  obtain ⟨a5, c5, rfl, _⟩ := id hent5
  have hb45 : Below w4.heap.size w4 w5 := below_mid ((Below.refl _ w4).alloc (Nat.le_refl _) _) hb5
  have x5 := (hb45.cell hlv).trans x0'
  have HB5 := Lib.hid (below_mid HB2.out (below_mid HB24.out hb45))
  clear hent5 hsq5 hso5 hb5 hb45 HA4 d0 d1 d2 d3 d4 d5 d6 d7 d8 d9 x0'
  go_wp2_with fail
  go_ret
  exact ⟨rfl, HB5.out⟩

end Go.Proofs.Ytidjodplimkmgaa.E4
