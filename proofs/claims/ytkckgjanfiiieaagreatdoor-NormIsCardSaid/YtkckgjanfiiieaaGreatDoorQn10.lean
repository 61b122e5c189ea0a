/-
  A QUERY'S PLAIN FORM: norm.Query.
-/
import Derived.Test.YtkckgjanfiiieaaGreatDoorIn10
import Derived.Test.YtkckgjanfiiieaaGreatDoorPp10
import Derived.Test.YtkckgjanfiiieaaGreatDoorMb7
namespace Go.Proofs.YtkckgjanfiiieaaGreatDoor
open Go.RowKit Go

set_option maxHeartbeats 8000000 in
set_option maxRecDepth 100000 in
theorem ownQ_any (q : Qy) (hg : Nr.Gd q.fil) (hc : q.fil.count ≤ 40000) (hm : q.mat.length ≤ 100000) (w : World) (v : Value) (hq : QAt w v q) :
    Calls Tryz.prog 11 #[v] w fun e w' => ∃ vq, e = .returned vq ∧ QAt w' vq (normQ q) ∧ Lay w w' := by
  obtain ⟨mv, kv, rfl, hmat, hks⟩ := hq
  obtain ⟨am, cm, rfl, hm63, hmc⟩ := id hmat
  obtain ⟨ak, ck, rfl⟩ := hks.shape
  obtain ⟨W0, hW0⟩ : ∃ W0, W0 = ((w.alloc (.cells #[.int .i64 q.src, .int .i64 q.til, .slice am q.mat.length cm, .int .i64 q.fil.op, .string q.fil.name, .string q.fil.text, .slice ak q.fil.kids.length ck, .bool q.desc, .int .i64 q.lim, .string q.page] 30)).alloc (.cells #[.int .i64 0, .int .i64 0, .slice none 0 0, .int .i64 0, .string ⟨#[]⟩, .string ⟨#[]⟩, .slice none 0 0, .bool false, .int .i64 0, .string ⟨#[]⟩] 30)) := ⟨_, rfl⟩
  have hl0 : Lay w W0 := by rw [hW0]; exact ((Keep.refl _ _).alloc _).alloc _
  have hs0 : W0.heap.size = w.heap.size + 2 := by rw [hW0]; simp
  have hcq : CB W0 w.heap.size 30 #[.int .i64 q.src, .int .i64 q.til, .slice am q.mat.length cm, .int .i64 q.fil.op, .string q.fil.name, .string q.fil.text, .slice ak q.fil.kids.length ck, .bool q.desc, .int .i64 q.lim, .string q.page] := by
    rw [hW0]
    exact (Below.heap_alloc _ _ _ (by simp)).trans (CB.new w 30 _)
  have hcr : CB W0 (w.heap.size + 1) 30 #[.int .i64 0, .int .i64 0, .slice none 0 0, .int .i64 0, .string ⟨#[]⟩, .string ⟨#[]⟩, .slice none 0 0, .bool false, .int .i64 0, .string ⟨#[]⟩] := by
    rw [hW0]
    have h := CB.new (w.alloc (.cells #[.int .i64 q.src, .int .i64 q.til, .slice am q.mat.length cm, .int .i64 q.fil.op, .string q.fil.name, .string q.fil.text, .slice ak q.fil.kids.length ck, .bool q.desc, .int .i64 q.lim, .string q.page] 30)) 30 #[.int .i64 0, .int .i64 0, .slice none 0 0, .int .i64 0, .string ⟨#[]⟩, .string ⟨#[]⟩, .slice none 0 0, .bool false, .int .i64 0, .string ⟨#[]⟩]
    rw [World.size_alloc] at h
    exact h
  have HF := Lib.hid (ownNorm_any hg hc W0 _ (KsAt.below hl0.below _ _ hks))
  have HW0 := Lib.hid hW0
  have HL0 := Lib.hid hl0
  have HS0 := Lib.hid hs0
  have HCQ := Lib.hid hcq
  have HCR0 := Lib.hid hcr
  have HM := Lib.hid hmat
  clear hks hW0 hl0 hcq hcr hmat hs0 hmc
  simp only [Ft.val] at HF
  unfold Qy.val
  go_enter Tryz.func11, Tryz.ntmps11
  go_wp2_with fail
  rw [← HW0.out]
  refine HF.out.mono ?_
  rintro e w1 ⟨kv1, rfl, hkb1, hl1⟩
  obtain ⟨ak1, ck1, rfl⟩ := (KsB.at _ _ hkb1).shape
  have HC1 := Lib.hid (HCQ.out.keep hl1 (fun h => h))
  have HR1 := Lib.hid (HCR0.out.keep hl1 (fun h => h))
  have HL1 := Lib.hid (Keep.trans HL0.out hl1)
  have HK1 := Lib.hid hkb1
  have HZ1 := Lib.hid hl1.size
  clear hkb1 hl1 HF
  generalize hF : Nr.norm q.fil = F at HK1
  have HFE := Lib.hid hF
  clear hF
  simp only [Ft.val]
  have c0 := CB.cell HC1.out 0
  have c1 := CB.cell HC1.out 1
  have c2 := CB.cell HC1.out 2
  have c3 := CB.cell HC1.out 3
  have c4 := CB.cell HC1.out 4
  have c5 := CB.cell HC1.out 5
  have c6 := CB.cell HC1.out 6
  have c7 := CB.cell HC1.out 7
  have c8 := CB.cell HC1.out 8
  have c9 := CB.cell HC1.out 9
  have cf0 := CB.frozen HC1.out 0
  have cf1 := CB.frozen HC1.out 1
  have cf2 := CB.frozen HC1.out 2
  have cf3 := CB.frozen HC1.out 3
  have cf4 := CB.frozen HC1.out 4
  have cf5 := CB.frozen HC1.out 5
  have cf6 := CB.frozen HC1.out 6
  have cf7 := CB.frozen HC1.out 7
  have cf8 := CB.frozen HC1.out 8
  have cf9 := CB.frozen HC1.out 9
  simp only [List.getElem?_toArray, List.getElem?_cons_succ, List.getElem?_cons_zero] at c0 c1 c2 c3 c4 c5 c6 c7 c8 c9
  go_wp2_with fail
  obtain ⟨w2, hw2⟩ : ∃ w2, w2 = (((w1.setCell ⟨w.heap.size, 3, none⟩ (.int .i64 F.op)).setCell ⟨w.heap.size, 4, none⟩ (.string F.name)).setCell ⟨w.heap.size, 5, none⟩ (.string F.text)).setCell ⟨w.heap.size, 6, none⟩ (.slice ak1 F.kids.length ck1) := ⟨_, rfl⟩
  have hoth2 : ∀ j, j ≠ w.heap.size → w2.heap[j]? = w1.heap[j]? := fun j hj => by
    rw [hw2]
    exact ((Below.heap_setCell _ ⟨w.heap.size, 6, none⟩ _ j hj).trans (Below.heap_setCell _ ⟨w.heap.size, 5, none⟩ _ j hj)).trans ((Below.heap_setCell _ ⟨w.heap.size, 4, none⟩ _ j hj).trans (Below.heap_setCell _ ⟨w.heap.size, 3, none⟩ _ j hj))
  have hz2 : w2.heap.size = w1.heap.size := by rw [hw2]; simp [World.setCell]
  have HC2 : Hid (CB w2 w.heap.size 30 #[.int .i64 q.src, .int .i64 q.til, .slice am q.mat.length cm, .int .i64 F.op, .string F.name, .string F.text, .slice ak1 F.kids.length ck1, .bool q.desc, .int .i64 q.lim, .string q.page]) := Lib.hid (by rw [hw2]; exact (((HC1.out.set 3 _).set 4 _).set 5 _).set 6 _)
  have HR2 : Hid (CB w2 (w.heap.size + 1) 30 #[.int .i64 0, .int .i64 0, .slice none 0 0, .int .i64 0, .string ⟨#[]⟩, .string ⟨#[]⟩, .slice none 0 0, .bool false, .int .i64 0, .string ⟨#[]⟩]) := Lib.hid ((hoth2 _ (by omega)).trans HR1.out)
  have HL2 : Hid (Lay w w2) := Lib.hid (by rw [hw2]; exact (((HL1.out.setCell (p := ⟨w.heap.size, 3, none⟩) (.inl (Nat.le_refl _)) _).setCell (p := ⟨w.heap.size, 4, none⟩) (.inl (Nat.le_refl _)) _).setCell (p := ⟨w.heap.size, 5, none⟩) (.inl (Nat.le_refl _)) _).setCell (p := ⟨w.heap.size, 6, none⟩) (.inl (Nat.le_refl _)) _)
  have HK2 : Hid (KsB (fun j => w.heap.size + 2 ≤ j) w2 (.slice ak1 F.kids.length ck1) F) := Lib.hid (KsB.keep (Nat.le_of_eq hz2.symm) (fun j hj _ => hoth2 j (by omega)) _ _ (KsB.mono (fun j _ hj => by rw [HS0.out] at hj; exact hj) _ _ HK1.out))
  have HIO := Lib.hid (inOrder_any (HM.out.lay HL2.out) hm)
  have HZ2 : Hid (w.heap.size + 2 ≤ w2.heap.size) := Lib.hid (by rw [hz2]; have := HZ1.out; have := HS0.out; omega)
  rw [← hw2]
  clear hw2 hoth2 hz2 c0 c1 c2 c3 c4 c5 c6 c7 c8 c9 cf0 cf1 cf2 cf3 cf4 cf5 cf6 cf7 cf8 cf9 HC1 HR1 HL1 HK1 HZ1 HCQ HCR0 HL0
  refine HIO.out.mono ?_
  rintro e w3 ⟨mv3, rfl, hrk3, hl3⟩
  have HC3 := Lib.hid (HC2.out.keep hl3 (fun h => h))
  have HR3 := Lib.hid (HR2.out.keep hl3 (fun h => h))
  have HL3 := Lib.hid (Keep.trans HL2.out hl3)
  have HK3 : Hid (KsB (fun j => w.heap.size + 2 ≤ j) w3 (.slice ak1 F.kids.length ck1) F) := Lib.hid (KsB.keep hl3.size (fun j _ hj => hl3.block hj) _ _ HK2.out)
  have HRK3 : Hid (Rk 3 (fun b => w.heap.size + 2 ≤ b) w3 mv3 (normM q.mat).length (flatM (normM q.mat))) := Lib.hid (hrk3.mono fun b hb _ => by have h1 : w2.heap.size ≤ b := hb; have := HZ2.out; omega)
  clear hrk3 hl3 HIO HC2 HR2 HL2 HK2 HZ2
  obtain ⟨am3, cm3, rfl⟩ := HRK3.out.shape
  have c0 := CB.cell HC3.out 0
  have c1 := CB.cell HC3.out 1
  have c2 := CB.cell HC3.out 2
  have c3 := CB.cell HC3.out 3
  have c4 := CB.cell HC3.out 4
  have c5 := CB.cell HC3.out 5
  have c6 := CB.cell HC3.out 6
  have c7 := CB.cell HC3.out 7
  have c8 := CB.cell HC3.out 8
  have c9 := CB.cell HC3.out 9
  have cf0 := CB.frozen HC3.out 0
  have cf1 := CB.frozen HC3.out 1
  have cf2 := CB.frozen HC3.out 2
  have cf3 := CB.frozen HC3.out 3
  have cf4 := CB.frozen HC3.out 4
  have cf5 := CB.frozen HC3.out 5
  have cf6 := CB.frozen HC3.out 6
  have cf7 := CB.frozen HC3.out 7
  have cf8 := CB.frozen HC3.out 8
  have cf9 := CB.frozen HC3.out 9
  simp only [List.getElem?_toArray, List.getElem?_cons_succ, List.getElem?_cons_zero] at c0 c1 c2 c3 c4 c5 c6 c7 c8 c9
  have d0 := CB.cell HR3.out 0
  have d1 := CB.cell HR3.out 1
  have d2 := CB.cell HR3.out 2
  have d3 := CB.cell HR3.out 3
  have d4 := CB.cell HR3.out 4
  have d5 := CB.cell HR3.out 5
  have d6 := CB.cell HR3.out 6
  have d7 := CB.cell HR3.out 7
  have d8 := CB.cell HR3.out 8
  have d9 := CB.cell HR3.out 9
  have df0 := CB.frozen HR3.out 0
  have df1 := CB.frozen HR3.out 1
  have df2 := CB.frozen HR3.out 2
  have df3 := CB.frozen HR3.out 3
  have df4 := CB.frozen HR3.out 4
  have df5 := CB.frozen HR3.out 5
  have df6 := CB.frozen HR3.out 6
  have df7 := CB.frozen HR3.out 7
  have df8 := CB.frozen HR3.out 8
  have df9 := CB.frozen HR3.out 9
  simp only [List.getElem?_toArray, List.getElem?_cons_succ, List.getElem?_cons_zero] at d0 d1 d2 d3 d4 d5 d6 d7 d8 d9
  go_wp2_with fail
  clear c0 c1 c2 c3 c4 c5 c6 c7 c8 c9 cf0 cf1 cf2 cf3 cf4 cf5 cf6 cf7 cf8 cf9 d0 d1 d2 d3 d4 d5 d6 d7 d8 d9 df0 df1 df2 df3 df4 df5 df6 df7 df8 df9
  obtain ⟨w4, hw4⟩ : ∃ w4, w4 = ((((((((((((w3.setCell ⟨w.heap.size, 2, none⟩ (.slice am3 (normM q.mat).length cm3)).setCell ⟨w.heap.size, 9, none⟩ (.string ⟨#[]⟩)).setCell ⟨w.heap.size + 1, 0, none⟩ (.int .i64 q.src)).setCell ⟨w.heap.size + 1, 1, none⟩ (.int .i64 q.til)).setCell ⟨w.heap.size + 1, 2, none⟩ (.slice am3 (normM q.mat).length cm3)).setCell ⟨w.heap.size + 1, 3, none⟩ (.int .i64 F.op)).setCell ⟨w.heap.size + 1, 4, none⟩ (.string F.name)).setCell ⟨w.heap.size + 1, 5, none⟩ (.string F.text)).setCell ⟨w.heap.size + 1, 6, none⟩ (.slice ak1 F.kids.length ck1)).setCell ⟨w.heap.size + 1, 7, none⟩ (.bool q.desc)).setCell ⟨w.heap.size + 1, 8, none⟩ (.int .i64 q.lim)).setCell ⟨w.heap.size + 1, 9, none⟩ (.string ⟨#[]⟩)) := ⟨_, rfl⟩
  have hoth4 : ∀ j, j ≠ w.heap.size → j ≠ w.heap.size + 1 → w4.heap[j]? = w3.heap[j]? := fun j h0 h1 => by
    rw [hw4]
    refine (Below.heap_setCell _ ⟨w.heap.size + 1, 9, none⟩ _ j h1).trans ?_
    refine (Below.heap_setCell _ ⟨w.heap.size + 1, 8, none⟩ _ j h1).trans ?_
    refine (Below.heap_setCell _ ⟨w.heap.size + 1, 7, none⟩ _ j h1).trans ?_
    refine (Below.heap_setCell _ ⟨w.heap.size + 1, 6, none⟩ _ j h1).trans ?_
    refine (Below.heap_setCell _ ⟨w.heap.size + 1, 5, none⟩ _ j h1).trans ?_
    refine (Below.heap_setCell _ ⟨w.heap.size + 1, 4, none⟩ _ j h1).trans ?_
    refine (Below.heap_setCell _ ⟨w.heap.size + 1, 3, none⟩ _ j h1).trans ?_
    refine (Below.heap_setCell _ ⟨w.heap.size + 1, 2, none⟩ _ j h1).trans ?_
    refine (Below.heap_setCell _ ⟨w.heap.size + 1, 1, none⟩ _ j h1).trans ?_
    refine (Below.heap_setCell _ ⟨w.heap.size + 1, 0, none⟩ _ j h1).trans ?_
    exact (Below.heap_setCell _ ⟨w.heap.size, 9, none⟩ _ j h0).trans (Below.heap_setCell _ ⟨w.heap.size, 2, none⟩ _ j h0)
  have hz4 : w4.heap.size = w3.heap.size := by rw [hw4]; simp [World.setCell]
  have HL4 : Hid (Lay w w4) := Lib.hid (by
    rw [hw4]
    exact ((((((((((((HL3.out.setCell (p := ⟨w.heap.size, 2, none⟩) (.inl (Nat.le_refl _)) _).setCell (p := ⟨w.heap.size, 9, none⟩) (.inl (Nat.le_refl _)) _).setCell (p := ⟨w.heap.size + 1, 0, none⟩) (.inl (Nat.le_succ _)) _).setCell (p := ⟨w.heap.size + 1, 1, none⟩) (.inl (Nat.le_succ _)) _).setCell (p := ⟨w.heap.size + 1, 2, none⟩) (.inl (Nat.le_succ _)) _).setCell (p := ⟨w.heap.size + 1, 3, none⟩) (.inl (Nat.le_succ _)) _).setCell (p := ⟨w.heap.size + 1, 4, none⟩) (.inl (Nat.le_succ _)) _).setCell (p := ⟨w.heap.size + 1, 5, none⟩) (.inl (Nat.le_succ _)) _).setCell (p := ⟨w.heap.size + 1, 6, none⟩) (.inl (Nat.le_succ _)) _).setCell (p := ⟨w.heap.size + 1, 7, none⟩) (.inl (Nat.le_succ _)) _).setCell (p := ⟨w.heap.size + 1, 8, none⟩) (.inl (Nat.le_succ _)) _).setCell (p := ⟨w.heap.size + 1, 9, none⟩) (.inl (Nat.le_succ _)) _))
  have hr4 : CB ((w3.setCell ⟨w.heap.size, 2, none⟩ (.slice am3 (normM q.mat).length cm3)).setCell ⟨w.heap.size, 9, none⟩ (.string ⟨#[]⟩)) (w.heap.size + 1) 30 #[.int .i64 0, .int .i64 0, .slice none 0 0, .int .i64 0, .string ⟨#[]⟩, .string ⟨#[]⟩, .slice none 0 0, .bool false, .int .i64 0, .string ⟨#[]⟩] := ((Below.heap_setCell _ ⟨w.heap.size, 9, none⟩ _ _ (Nat.succ_ne_self _)).trans (Below.heap_setCell _ ⟨w.heap.size, 2, none⟩ _ _ (Nat.succ_ne_self _))).trans HR3.out
  have r0 := CB.set hr4 0 (.int .i64 q.src)
  simp only [List.setIfInBounds_toArray, List.set_cons_zero] at r0
  have r1 := CB.set r0 1 (.int .i64 q.til)
  simp only [List.setIfInBounds_toArray, List.set_cons_zero, List.set_cons_succ] at r1
  have r2 := CB.set r1 2 (.slice am3 (normM q.mat).length cm3)
  simp only [List.setIfInBounds_toArray, List.set_cons_zero, List.set_cons_succ] at r2
  have r3 := CB.set r2 3 (.int .i64 F.op)
  simp only [List.setIfInBounds_toArray, List.set_cons_zero, List.set_cons_succ] at r3
  have r4 := CB.set r3 4 (.string F.name)
  simp only [List.setIfInBounds_toArray, List.set_cons_zero, List.set_cons_succ] at r4
  have r5 := CB.set r4 5 (.string F.text)
  simp only [List.setIfInBounds_toArray, List.set_cons_zero, List.set_cons_succ] at r5
  have r6 := CB.set r5 6 (.slice ak1 F.kids.length ck1)
  simp only [List.setIfInBounds_toArray, List.set_cons_zero, List.set_cons_succ] at r6
  have r7 := CB.set r6 7 (.bool q.desc)
  simp only [List.setIfInBounds_toArray, List.set_cons_zero, List.set_cons_succ] at r7
  have r8 := CB.set r7 8 (.int .i64 q.lim)
  simp only [List.setIfInBounds_toArray, List.set_cons_zero, List.set_cons_succ] at r8
  have r9 := CB.set r8 9 (.string ⟨#[]⟩)
  simp only [List.setIfInBounds_toArray, List.set_cons_zero, List.set_cons_succ] at r9
  have HR4 : Hid (CB w4 (w.heap.size + 1) 30 #[.int .i64 q.src, .int .i64 q.til, .slice am3 (normM q.mat).length cm3, .int .i64 F.op, .string F.name, .string F.text, .slice ak1 F.kids.length ck1, .bool q.desc, .int .i64 q.lim, .string ⟨#[]⟩]) := Lib.hid (by rw [hw4]; exact r9)
  have HK4 : Hid (KsB (fun j => w.heap.size + 2 ≤ j) w4 (.slice ak1 F.kids.length ck1) F) := Lib.hid (KsB.keep (Nat.le_of_eq hz4.symm) (fun j hj _ => hoth4 j (by omega) (by omega)) _ _ HK3.out)
  have HM4 : Hid (MsAt w4 (.slice am3 (normM q.mat).length cm3) (normM q.mat)) := Lib.hid (Rk.msAt (HRK3.out.carry (Nat.le_of_eq hz4.symm) fun j hj _ _ => hoth4 j (by have h : w.heap.size + 2 ≤ j := hj; omega) (by have h : w.heap.size + 2 ≤ j := hj; omega)) (Nat.le_trans (Nr.nub_length _) hm))
  rw [← hw4]
  clear hw4 hoth4 hz4 hr4 r0 r1 r2 r3 r4 r5 r6 r7 r8 r9 HC3 HR3 HL3 HK3 HRK3
  have e0 := CB.cell HR4.out 0
  have e1 := CB.cell HR4.out 1
  have e2 := CB.cell HR4.out 2
  have e3 := CB.cell HR4.out 3
  have e4 := CB.cell HR4.out 4
  have e5 := CB.cell HR4.out 5
  have e6 := CB.cell HR4.out 6
  have e7 := CB.cell HR4.out 7
  have e8 := CB.cell HR4.out 8
  have e9 := CB.cell HR4.out 9
  simp only [List.getElem?_toArray, List.getElem?_cons_succ, List.getElem?_cons_zero] at e0 e1 e2 e3 e4 e5 e6 e7 e8 e9
  refine bodyPost_ret (v := .agg #[.int .i64 q.src, .int .i64 q.til, .slice am3 (normM q.mat).length cm3, .int .i64 F.op, .string F.name, .string F.text, .slice ak1 F.kids.length ck1, .bool q.desc, .int .i64 q.lim, .string ⟨#[]⟩]) (by simp [results, Tryz.results11, go_sem, e0, e1, e2, e3, e4, e5, e6, e7, e8, e9]) rfl ?_
  refine ⟨_, rfl, ⟨.slice am3 (normM q.mat).length cm3, .slice ak1 F.kids.length ck1, ?_, HM4.out, ?_⟩, HL4.out⟩
  · show _ = Value.agg #[_, _, _, .int .i64 (Nr.norm q.fil).op, .string (Nr.norm q.fil).name, .string (Nr.norm q.fil).text, _, _, _, _]
    rw [HFE.out]
    rfl
  · show KsAt w4 _ (Nr.norm q.fil)
    rw [HFE.out]
    exact KsB.at _ _ HK4.out

end Go.Proofs.YtkckgjanfiiieaaGreatDoor
