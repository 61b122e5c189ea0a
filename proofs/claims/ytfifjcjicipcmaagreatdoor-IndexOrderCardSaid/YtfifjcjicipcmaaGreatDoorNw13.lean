/-
  index.own (slices.Clone of labels), index.New, (*Engine).Len.
-/
import Derived.Test.YtfifjcjicipcmaaGreatDoorEn13
import Derived.Test.YtfifjcjicipcmaaGreatDoorAs12
namespace Go.Proofs.YtfifjcjicipcmaaGreatDoor.E4
open Go.RowKit Go
open Go.Sort (grow)

theorem infoL : (Tryz.prog.info? 83).map (fun i => (i.zero, i.size, i.bytes)) = some (some (.agg #[.string ⟨#[]⟩, .string ⟨#[]⟩]), 2, 32) := by kernel_rfl
theorem elemL : ∃ i z, Elem Tryz.prog 27 83 i z 2 32 := by
  obtain ⟨i, hi, hz, hs, hb⟩ := info_parts infoL
  exact ⟨i, _, Tryz.underlying27, hi, hz, hs, hb, by kernel_rfl⟩

def flatL : List Lab → List Value
  | [] => []
  | m :: l => .string m.n :: .string m.v :: flatL l
theorem flatL_len : ∀ l : List Lab, (flatL l).length = l.length * 2
  | [] => rfl
  | _ :: l => by simp only [flatL, List.length_cons]; rw [flatL_len l]; omega
theorem flatL_get : ∀ (l : List Lab) (i : Nat) (h : i < l.length), (flatL l)[i * 2]? = some (.string l[i].n) ∧ (flatL l)[i * 2 + 1]? = some (.string l[i].v)
  | x :: l, 0, _ => ⟨rfl, rfl⟩
  | x :: l, i + 1, h => by
    have := flatL_get l i (by simpa using h)
    have e : (i + 1) * 2 = i * 2 + 1 + 1 := by omega
    rw [e]
    exact this
theorem labs_of_rk {G : Nat → Prop} {w : World} {v : Value} {l : List Lab} (h : Rk 2 G w v l.length (flatL l)) (hl : l.length ≤ 1000000) : LabsAt G w v l := by
  obtain ⟨hn, ⟨rfl, h0⟩ | ⟨g, cap, rfl, hg, hlt, _, _, hc, _⟩⟩ := h
  · have : l = [] := List.eq_nil_of_length_eq_zero h0
    subst this
    exact ⟨none, 0, rfl, by simp, .inl rfl⟩
  · refine ⟨_, cap, rfl, by omega, .inr ⟨g, 0, rfl, hg, hlt, fun i hi => ?_⟩⟩
    obtain ⟨e0, e1⟩ := flatL_get l i hi
    have hz := flatL_len l
    refine ⟨?_, ?_⟩
    · rw [Nat.zero_add, hc _ (by omega), e0]
    · rw [Nat.zero_add, hc _ (by omega), e1]
theorem labs_src {G : Nat → Prop} {w : World} {v : Value} {l : List Lab} (h : LabsAt G w v l) : Src Tryz.prog 2 27 v l.length (flatL l) w := by
  obtain ⟨a, cap, rfl, -, hc⟩ := h
  have hone : ∀ u ∈ flatL l, u.oneCell' = true := by
    clear hc
    induction l with
    | nil => intro u hu; cases hu
    | cons m l ih =>
      intro u hu
      simp only [flatL, List.mem_cons] at hu
      rcases hu with rfl | rfl | hu
      · rfl
      · rfl
      · exact ih u hu
  rcases hc with rfl | ⟨b, off, rfl, _, hb, hc⟩
  · cases a with
    | none => exact Src.ofNil _ Tryz.underlying27 cap
    | some p => exact Src.ofSlice _ Tryz.underlying27 p 0 cap [] (by simp) (fun j u hu => by simp at hu) (fun u hu => by simp at hu)
  · refine Src.ofSlice _ Tryz.underlying27 ⟨b, off, none⟩ l.length cap (flatL l) (flatL_len l) (fun j u hu => ?_) hone
    have hj : j < l.length * 2 := by have := (List.getElem?_eq_some_iff.1 hu).1; rwa [flatL_len] at this
    have hi : j / 2 < l.length := by omega
    obtain ⟨g0, g1⟩ := flatL_get l (j / 2) hi
    obtain ⟨h0, h1⟩ := hc (j / 2) hi
    rw [add_lit]
    have hm : j = j / 2 * 2 ∨ j = j / 2 * 2 + 1 := by omega
    rcases hm with e | e
    · rw [e] at hu ⊢; rw [g0] at hu; rw [← hu]; exact h0
    · rw [e] at hu ⊢; rw [g1] at hu; rw [← hu]; exact h1

set_option maxHeartbeats 1000000 in
set_option maxRecDepth 100000 in
theorem cloneL_any {G : Nat → Prop} {w : World} {v : Value} {l : List Lab} (h : LabsAt G w v l) (hn : l.length ≤ 1000000) :
    Calls Tryz.prog 51 #[v] w fun e w' => ∃ v', e = .returned v' ∧ LabsAt (fun k => w.heap.size ≤ k) w' v' l ∧ Lay w w' := by
  obtain ⟨i0, z0, E0⟩ := elemL
  have qs : ∀ (w : World) (a : Option Addr) (n c n' c' : Nat), (binOp .eql 27 (.slice a n c) (.slice none n' c')).run Tryz.prog w = .ok (.bool a.isNone) w := fun w a n c n' c' => Lib.run_eql_slice_nil w _ _ a n c n' c' Tryz.underlying27
  have HSS := Lib.hid (fun w1 (hl : Lay w w1) => labs_src (h.lay hl))
  obtain ⟨a, cap, rfl, hn63, hc⟩ := id h
  clear h
  cases a with
  | none =>
    have h0 : l = [] := by
      rcases hc with h0 | ⟨b, off, h0, _⟩
      · exact h0
      · cases h0
    have HZ := Lib.hid h0
    clear hc h0 HSS
    go_enter Tryz.func51, Tryz.ntmps51
    go_wp2
    go_ret
    refine ⟨.slice none 0 0, rfl, ?_, Keep.refl _ _⟩
    rw [HZ.out]; exact LabsAt.nil _ _
  | some p =>
    clear hc
    have HS2 := Lib.hid (HSS.out (w.alloc (.cells #[] 83)) ((Keep.refl _ _).alloc _))
    clear HSS
    go_enter Tryz.func51, Tryz.ntmps51
    go_wp2_with (at_builtin; refine wpList_append_rk E0 _ rfl _ _ 27 rfl (G := fun k => w.heap.size ≤ k) rfl ((rk_new 2 w 0 [] 83 rfl (by omega)).mono (fun k hk _ => Nat.le_of_eq hk.symm)) ?c1 _ l.length (flatL l) rfl HS2.out ?c2 ?c3 ?_)
    case c1 => intro k hk; simp at hk; omega
    case c2 => omega
    case c3 => omega
    intro v' w1 hrk hk
    have HK := Lib.hid hrk
    have hk2 : Keep (fun k => w.heap.size ≤ k) (w.alloc (.cells #[] 83)) w1 := hk.into (fun b _ hb => by
      obtain ⟨n, c, e⟩ := hb
      simp only [Value.slice.injEq, Option.some.injEq, Addr.mk.injEq, and_true] at e
      omega)
    have hlay : Lay w w1 := Keep.into (Keep.trans ((Keep.refl (fun k => w.heap.size ≤ k) w).alloc _) hk2) (fun k hlt hk => by omega)
    have HLY := Lib.hid hlay
    clear hrk hk hk2 hlay
    go_wp2
    go_ret
    refine ⟨v', rfl, labs_of_rk ?_ hn, HLY.out⟩
    have := HK.out.mono (G' := fun k => w.heap.size ≤ k) (fun k hk _ => hk.1)
    simpa using this

set_option maxHeartbeats 1000000 in
set_option maxRecDepth 100000 in
/-- An entry whose labels are new memory. -/
theorem own_any {G : Nat → Prop} {w : World} {e : Ent} {lv : Value} (h : LabsAt G w lv e.labs) (hn : e.labs.length ≤ 1000000) :
    Calls Tryz.prog 28 #[e.val lv] w fun x w' => ∃ lv', x = .returned (e.val lv') ∧ LabsAt (fun k => w.heap.size ≤ k) w' lv' e.labs ∧ Lay w w' := by
  obtain ⟨a, ca, rfl, h63, _⟩ := id h
  obtain ⟨w1, hw1⟩ : ∃ w1, w1 = w.alloc (.cells #[.int .i64 e.tm, .slice a e.labs.length ca, .string e.line] 29) := ⟨_, rfl⟩
  have hl1 : Lay w w1 := by rw [hw1]; exact (Keep.refl _ w).alloc _
  have hk1 : Bl w1 w.heap.size 29 #[.int .i64 e.tm, .slice a e.labs.length ca, .string e.line] := by rw [hw1]; exact Bl.new w 29 _
  obtain ⟨w2, hw2⟩ : ∃ w2, w2 = w1.alloc (.cells #[.int .i64 0, .slice none 0 0, .string ⟨#[]⟩] 29) := ⟨_, rfl⟩
  have hl12 : Lay w1 w2 := by rw [hw2]; exact (Keep.refl _ w1).alloc _
  have hs1 : w1.heap.size = w.heap.size + 1 := by rw [hw1]; simp
  have hk2 : Bl w2 (w.heap.size + 1) 29 #[.int .i64 0, .slice none 0 0, .string ⟨#[]⟩] := by rw [hw2, ← hs1]; exact Bl.new w1 29 _
  have hka : Bl w2 w.heap.size 29 #[.int .i64 e.tm, .slice a e.labs.length ca, .string e.line] := hk1.below (lay_below hl12)
  have hl2 : Lay w w2 := Keep.trans hl1 hl12
  have HC := Lib.hid (cloneL_any (h.lay hl2) hn)
  have HL2 := Lib.hid hl2
  have HKA := Lib.hid hka
  have HK2 := Lib.hid hk2
  rw [hw1] at hw2
  have HW2 := Lib.hid hw2.symm
  have HN := Lib.hid hn
  have c0 := hka.cell 0
  have c1 := hka.cell 1
  have c2 := hka.cell 2
  have f1 := hka.frozen 1
  simp only [List.getElem?_toArray, List.getElem?_cons_succ, List.getElem?_cons_zero] at c0 c1 c2
  have hsl : w.heap.size < w2.heap.size := hka.lt
  clear hl1 hk1 hl12 hs1 hka hk2 hl2 hw2 hw1 h
  unfold Ent.val
  go_enter Tryz.func28, Tryz.ntmps28
  go_upto_region 1 with fail
  rw [HW2.out]
  go_wp2_with fail
  refine HC.out.mono ?_
  rintro x w3 ⟨lv', rfl, hlab, hl3⟩
  obtain ⟨b, cb, rfl, _, _⟩ := id hlab
  have hka3 := HKA.out.below (lay_below hl3)
  have hk23 := HK2.out.below (lay_below hl3)
  obtain ⟨w4, hw4⟩ : ∃ w4, w4 = w3.setCell ⟨w.heap.size, 1, none⟩ (.slice b e.labs.length cb) := ⟨_, rfl⟩
  have hka4 : Bl w4 w.heap.size 29 #[.int .i64 e.tm, .slice b e.labs.length cb, .string e.line] := by
    have := hka3.set12 1 (.slice b e.labs.length cb)
    simp only [List.setIfInBounds_toArray, List.set_cons_zero, List.set_cons_succ] at this
    rw [hw4]; exact this
  have hk34 : Keep (fun k => k = w.heap.size) w3 w4 := by rw [hw4]; exact keep_set12 (Keep.refl _ _) _ _
  have hk24 : Bl w4 (w.heap.size + 1) 29 #[.int .i64 0, .slice none 0 0, .string ⟨#[]⟩] := (hk34.block _ hk23.lt (by omega)).trans hk23
  have hf := fill3 hk24 (.int .i64 e.tm) (.slice b e.labs.length cb) (.string e.line)
  have HF := Lib.hid hf
  have d0 := hka4.cell 0
  have d1 := hka4.cell 1
  have d2 := hka4.cell 2
  have y0 := hk24.cell 0
  have y1 := hk24.cell 1
  have y2 := hk24.cell 2
  have z0 := hk24.frozen 0
  have z1 := hk24.frozen 1
  have z2 := hk24.frozen 2
  have b1 := hka3.cell 1
  have g1 := hka3.frozen 1
  simp only [List.getElem?_toArray, List.getElem?_cons_succ, List.getElem?_cons_zero] at d0 d1 d2 y0 y1 y2 b1
  have HLB := Lib.hid hlab
  have HK34 := Lib.hid hk34
  have HL3 := Lib.hid hl3
  have HW4 := Lib.hid hw4.symm
  clear hka3 hk23 hw4 hka4 hk34 hk24 hf hlab hl3 c0 c1 c2 f1
  go_upto_region 2 with fail
  rw [HW4.out]
  go_wp2_with fail
  have e0 := HF.out.1.cell 0
  have e1 := HF.out.1.cell 1
  have e2 := HF.out.1.cell 2
  simp only [List.getElem?_toArray, List.getElem?_cons_succ, List.getElem?_cons_zero] at e0 e1 e2
  have hk35 : Keep (fun k => w.heap.size ≤ k ∧ k < w2.heap.size) w3 (((w4.setCell ⟨w.heap.size + 1, 0, none⟩ (.int .i64 e.tm)).setCell ⟨w.heap.size + 1, 1, none⟩ (.slice b e.labs.length cb)).setCell ⟨w.heap.size + 1, 2, none⟩ (.string e.line)) :=
    Keep.trans (HK34.out.into fun k _ hk => by have := HKA.out.lt; omega) (HF.out.2.into fun k _ hk => by have := HK2.out.lt; omega)
  have hk05 : Lay w (((w4.setCell ⟨w.heap.size + 1, 0, none⟩ (.int .i64 e.tm)).setCell ⟨w.heap.size + 1, 1, none⟩ (.slice b e.labs.length cb)).setCell ⟨w.heap.size + 1, 2, none⟩ (.string e.line)) :=
    Keep.into (Keep.trans ((Keep.trans HL2.out HL3.out).into (H := fun k => w.heap.size ≤ k) (fun _ _ h => h.elim)) (hk35.into fun k _ hk => hk.1)) fun k hlt hk => by omega
  refine bodyPost_ret (v := .agg #[.int .i64 e.tm, .slice b e.labs.length cb, .string e.line]) (by simp [results, Tryz.results28, go_sem, e0, e1, e2]) rfl
    ⟨_, rfl, (HLB.out.keep hk35 fun k hk _ hk2 => by omega).mono fun k hk _ => Nat.le_trans HL2.out.size hk, hk05⟩

/-- Len. -/
theorem len_any (w : World) (B gb : Nat) (es : List Ent) (h : EngAt w B gb es) : Calls Tryz.prog 14 #[.pointer (some ⟨gb, 0, none⟩)] w fun e w' => e = .returned (.int .i64 es.length) ∧ w' = w := by
  obtain ⟨κ, kb, pb, m, n, v, R, h, hR, _⟩ := h
  have c0 := h.c.cell 0
  simp only [List.getElem?_toArray, List.getElem?_cons_zero] at c0
  obtain ⟨a, c, rfl⟩ := h.e.shape
  have hl : R.length = es.length := by rw [← hR, List.length_map]
  rw [hl] at c0
  clear h hR hl
  go_enter Tryz.func14, Tryz.ntmps14
  go_wp2_with fail
  go_ret
  exact ⟨rfl, rfl⟩

theorem len_nil (w : World) : Calls Tryz.prog 14 #[.pointer none] w fun e w' => e = .returned (.int .i64 0) ∧ w' = w := by
  go_enter Tryz.func14, Tryz.ntmps14
  go_wp2_with fail
  go_ret
  exact ⟨rfl, rfl⟩

/-- New. -/
theorem new_any (w : World) : Calls Tryz.prog 19 #[] w fun e w' => e = .returned (.pointer (some ⟨w.heap.size + 2, 0, none⟩)) ∧ EngAt w' w.heap.size (w.heap.size + 2) [] ∧ Lay w w' := by
  have hm := @run_makeMap Tryz.prog
  obtain ⟨w1, hw1⟩ : ∃ w1, w1 = w.alloc (.map #[] 0) := ⟨_, rfl⟩
  obtain ⟨w2, hw2⟩ : ∃ w2, w2 = w1.alloc (.map #[] 0) := ⟨_, rfl⟩
  obtain ⟨w3, hw3⟩ : ∃ w3, w3 = w2.alloc (.cells #[.slice none 0 0, .map (some w.heap.size), .map (some (w.heap.size + 1))] 73) := ⟨_, rfl⟩
  have hs1 : w1.heap.size = w.heap.size + 1 := by rw [hw1]; simp
  have hs2 : w2.heap.size = w.heap.size + 2 := by rw [hw2]; simp; omega
  have hl1 : Lay w w1 := by rw [hw1]; exact (Keep.refl _ w).alloc _
  have hl2 : Lay w1 w2 := by rw [hw2]; exact (Keep.refl _ w1).alloc _
  have hl3 : Lay w2 w3 := by rw [hw3]; exact (Keep.refl _ w2).alloc _
  have hm1 : MapAt Tryz.prog 9 w1 w.heap.size 0 (fun _ => none) := by rw [hw1]; exact MapAt.made _ _ _
  have hm2 : MapAt Tryz.prog 9 w2 (w.heap.size + 1) 0 (fun _ => none) := by rw [hw2, ← hs1]; exact MapAt.made _ _ _
  have hg3 : Bl w3 (w.heap.size + 2) 73 #[.slice none 0 0, .map (some w.heap.size), .map (some (w.heap.size + 1))] := by rw [hw3, ← hs2]; exact Bl.new w2 _ _
  have hm13 : MapAt Tryz.prog 9 w3 w.heap.size 0 (fun _ => none) := hm1.carry ((Lay.block (Keep.trans hl2 hl3) hm1.lt))
  have hm23 : MapAt Tryz.prog 9 w3 (w.heap.size + 1) 0 (fun _ => none) := hm2.carry (Lay.block hl3 hm2.lt)
  have HE : Hid (EngAt w3 w.heap.size (w.heap.size + 2) []) := Lib.hid ⟨fun b => if b = w.heap.size then 2 else if b = w.heap.size + 1 then 3 else 1, w.heap.size, w.heap.size + 1, 0, 0, .slice none 0 0, [], ⟨hg3, Rk.nil 3 _ _, fun x hx => by simp at hx, hm13, PlAt.empty hm23,
    ⟨by omega, by simp⟩, ⟨Nat.le_refl _, by simp⟩, ⟨by omega, by simp⟩⟩, rfl, Nat.le_refl _, Nat.le_refl _⟩
  have HL := Lib.hid (Keep.trans (Keep.trans hl1 hl2) hl3)
  rw [hw1] at hw2
  rw [hw2] at hw3
  have HW3 := Lib.hid hw3.symm
  clear hm1 hm2 hg3 hm13 hm23 hl1 hl2 hl3 hs1 hs2 hw1 hw2 hw3
  go_enter Tryz.func19, Tryz.ntmps19
  go_wp2_with fail
  rw [HW3.out]
  go_ret
  exact ⟨rfl, HE.out, HL.out⟩

end Go.Proofs.YtfifjcjicipcmaaGreatDoor.E4
