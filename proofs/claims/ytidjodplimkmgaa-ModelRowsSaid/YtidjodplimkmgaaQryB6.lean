/-
  THE DOCUMENT'S OWN Query: the walk.
-/
import Derived.Test.YtidjodplimkmgaaQryA6
namespace Go.Proofs.Ytidjodplimkmgaa
open Go.RowKit Go

attribute [local go_sem] Oper.semAt_some wide_fn wide_depth

/-- A query that says nothing. -/
def q0C : Array Value := #[.int .i64 0, .int .i64 0, .slice none 0 0, .int .i64 0, .string ⟨#[]⟩, .string ⟨#[]⟩, .slice none 0 0, .bool false, .int .i64 0, .string ⟨#[]⟩]

/-- A query's cells. -/
def qC (f t : Int) (mv : Value) (o : Int) (nm tx : ByteArray) (kv : Value) (d : Bool) (n : Int) : Array Value := #[.int .i64 f, .int .i64 t, mv, .int .i64 o, .string nm, .string tx, kv, .bool d, .int .i64 n, .string ⟨#[]⟩]

/-- What the operations of 'q.To = q.From + s.Next(20)' leave. -/
def TV (Q g : Nat) (f d : Int) : Nat → (Nat → Value) → World → Prop
  | 0, ys, _ => ys 0 = .pointer (some ⟨Q, 0, none⟩)
  | 1, ys, _ => ys 1 = .int .i64 f
  | 2, ys, _ => ys 2 = .pointer (some ⟨g, 0, none⟩)
  | 4, ys, _ => ys 4 = .int .i64 (f + d)
  | 5, ys, _ => ys 5 = .pointer (some ⟨Q, 1, none⟩)
  | _, _, _ => True

/-- A filter that was stored in a query. -/
def stored4 (W : World) (Q : Nat) (u3 u4 u5 u6 : Value) : World := (((W.setCell ⟨Q, 3, none⟩ u3).setCell ⟨Q, 4, none⟩ u4).setCell ⟨Q, 5, none⟩ u5).setCell ⟨Q, 6, none⟩ u6
theorem stored4_keep (W : World) (Q : Nat) (u3 u4 u5 u6 : Value) : Keep (fun b => b = Q) W (stored4 W Q u3 u4 u5 u6) :=
  ((((Keep.refl (fun b => b = Q) W).setCell (p := ⟨Q, 3, none⟩) (.inr rfl) u3).setCell (p := ⟨Q, 4, none⟩) (.inr rfl) u4).setCell (p := ⟨Q, 5, none⟩) (.inr rfl) u5).setCell (p := ⟨Q, 6, none⟩) (.inr rfl) u6

/-- Between two matchers. -/
structure QS (w : World) (Q : Nat) (v : Value) (l : List Int) (F T : Int) (dd : Bool) (nn : Int) (p5 n : Nat) (W : World) : Prop where
  lay : Lay w W
  res : CB W w.heap.size 31 q0C
  srcs : Srcs W (w.heap.size + 1) v l (Qy.mats l n p5).2
  row : ∃ mv, CB W Q 31 (qC F T mv 0 ⟨#[]⟩ ⟨#[]⟩ (.slice none 0 0) dd nn) ∧ Rk 3 (fun b => w.heap.size + 2 ≤ b ∧ b ≠ Q) W mv n (flatM (Qy.mats l n p5).1)

set_option maxHeartbeats 8000000 in
set_option maxRecDepth 100000 in
theorem query_any (l : List Int) (w : World) (v : Value) (h : IntsAt w v l) : Calls Try.prog 6 #[v] w fun e w' => ∃ vq, e = .returned vq ∧ QAt w' vq (Qy.query l) ∧ Lay w w' := by
  have hmx : Try.prog.follows .mixedOrders = true := by kernel_rfl
  obtain ⟨a, cap, rfl, hl63, _⟩ := id h
  obtain ⟨W0, hW0⟩ : ∃ W0, W0 = (w.alloc (.cells q0C 31)).alloc (.cells #[.slice a l.length cap, .int .i64 0] 47) := ⟨_, rfl⟩
  have hl0 : Lay w W0 := by rw [hW0]; exact ((Keep.refl _ _).alloc _).alloc _
  have hs0 : W0.heap.size = w.heap.size + 2 := by rw [hW0]; simp
  have hr0 : CB W0 w.heap.size 31 q0C := by rw [hW0]; exact (Below.heap_alloc _ _ _ (by simp)).trans (CB.new w 31 q0C)
  have hsr : Srcs W0 (w.heap.size + 1) (.slice a l.length cap) l 0 := by
    rw [hW0]
    have := srcs_new h ((Keep.refl (fun _ => False) w).alloc (.cells q0C 31)) (by simp)
    rwa [World.size_alloc] at this
  obtain ⟨A, p1, hA⟩ : ∃ A p1, Ft.next l 20 0 = (A, p1) := ⟨_, _, rfl⟩
  obtain ⟨B, p2, hB⟩ : ∃ B p2, Ft.next l 2 p1 = (B, p2) := ⟨_, _, rfl⟩
  obtain ⟨C, p3, hC⟩ : ∃ C p3, Ft.next l 8 p2 = (C, p3) := ⟨_, _, rfl⟩
  obtain ⟨D, p4, hD⟩ : ∃ D p4, Ft.next l 20 p3 = (D, p4) := ⟨_, _, rfl⟩
  obtain ⟨k, p5, hK⟩ : ∃ k p5, Ft.next l 3 p4 = (k, p5) := ⟨_, _, rfl⟩
  have hAl : A < 20 := by have := Ft.next_lt (l := l) (n := 20) (p := 0) (by decide); rw [hA] at this; exact this
  have hBl : B < 2 := by have := Ft.next_lt (l := l) (n := 2) (p := p1) (by decide); rw [hB] at this; exact this
  have hCl : C < 8 := by have := Ft.next_lt (l := l) (n := 8) (p := p2) (by decide); rw [hC] at this; exact this
  have hDl : D < 20 := by have := Ft.next_lt (l := l) (n := 20) (p := p3) (by decide); rw [hD] at this; exact this
  have hkl : k < 3 := by have := Ft.next_lt (l := l) (n := 3) (p := p4) (by decide); rw [hK] at this; exact this
  have hn := fun (n p : Nat) (h0 : 0 < n) (h1 : n ≤ 1000) (W : World) (h : Srcs W (w.heap.size + 1) (.slice a l.length cap) l p) => next_any (w.heap.size + 1) (.slice a l.length cap) l p n h0 h1 W h
  have hn1 := hn 20 0 (by decide) (by decide) W0 hsr
  have hn2 := hn 2 p1 (by decide) (by decide)
  have hn3 := hn 8 p2 (by decide) (by decide)
  have hn4 := hn 20 p3 (by decide) (by decide)
  have hn5 := hn 3 p4 (by decide) (by decide)
  rw [hA] at hn1
  rw [hB] at hn2
  rw [hC] at hn3
  rw [hD] at hn4
  rw [hK] at hn5
  have HQ : Hid (Qy.query l = ⟨(A : Int) - 5, (A : Int) - 5 + (D : Int), (Qy.mats l k p5).1, if (Ft.next l 4 (Ft.make l 3 (Qy.mats l k p5).2).2).1 = 0 then .mk 1 ⟨#[]⟩ ⟨#[]⟩ [] else (Ft.make l 3 (Qy.mats l k p5).2).1, decide (B = 1), 1 + (C : Int), ⟨#[]⟩⟩) := Lib.hid (by
    unfold Qy.query
    simp only [hA, hB, hC, hD, hK])
  have HSB := Lib.hid (hsr.below)
  have HW0 := Lib.hid hW0
  have HL0 := Lib.hid hl0
  have HS0 := Lib.hid hs0
  have HR0 := Lib.hid hr0
  have HN1 := Lib.hid hn1
  have HN2 := Lib.hid hn2
  have HN3 := Lib.hid hn3
  have HN4 := Lib.hid hn4
  have HN5 := Lib.hid hn5
  unfold q0C at HW0
  clear h hW0 hl0 hs0 hr0 hsr hn hn1 hn2 hn3 hn4 hn5 hA hB hC hD hK
  refine (callsIn_wide (n := 9)).1 ?_
  refine callsIn_of_wp Try.func6 rfl trivial ?_
  simp only [Try.ntmps6, List.size_toArray, List.length_cons, List.length_nil, Nat.reduceAdd, Nat.reduceSub, Array.replicate_succ, Array.replicate_zero, List.push_toArray, List.append_toArray, List.nil_append, List.cons_append]
  gi_wp2_with fail
  rw [← HW0.out]
  refine (callsIn_wide.2 HN1.out).mono ?_
  rintro e w1 ⟨rfl, hs1, hk1⟩
  have HC2 := Lib.hid (HN2.out w1 hs1)
  have HKK1 := Lib.hid hk1
  clear HN1 hs1 hk1
  gi_wp2_with fail
  refine (callsIn_wide.2 HC2.out).mono ?_
  rintro e w2 ⟨rfl, hs2, hk2⟩
  have HC3 := Lib.hid (HN3.out w2 hs2)
  have HKK2 := Lib.hid (HKK1.out.trans hk2)
  have hb1 : ((B : Int) == 1) = decide (B = 1) := by rw [Bool.eq_iff_iff]; simp; omega
  clear HC2 HN2 hs2 hk2
  gi_wp2_with fail
  refine (callsIn_wide.2 HC3.out).mono ?_
  rintro e w3 ⟨rfl, hs3, hk3⟩
  have HKK3 := Lib.hid (HKK2.out.trans hk3)
  have HS3 := Lib.hid hs3
  clear HC3 HN3 hs3 hk3
  gi_wp2_with fail
  obtain ⟨Q, hQ⟩ : ∃ Q, Q = w3.heap.size := ⟨_, rfl⟩
  obtain ⟨W4, hW4⟩ : ∃ W4, W4 = w3.alloc (.cells (qC ((A : Int) - 5) 0 (.slice none 0 0) 0 ⟨#[]⟩ ⟨#[]⟩ (.slice none 0 0) (decide (B = 1)) (1 + (C : Int))) 31) := ⟨_, rfl⟩
  have hk03 : Keep (fun k => k = w.heap.size + 1) W0 w3 := HKK3.out
  have hQ2 : w.heap.size + 2 ≤ Q := by have := hk03.size; rw [HS0.out] at this; rw [hQ]; exact this
  have hl4 : Lay w3 W4 := by rw [hW4]; exact (Keep.refl _ _).alloc _
  have hcb : CB W4 Q 31 (qC ((A : Int) - 5) 0 (.slice none 0 0) 0 ⟨#[]⟩ ⟨#[]⟩ (.slice none 0 0) (decide (B = 1)) (1 + (C : Int))) := by rw [hW4, hQ]; exact CB.new _ _ _
  have hrb : CB W4 w.heap.size 31 q0C := (HR0.out.keep hk03 (by omega)).keep hl4 (fun h => h)
  have hlw4 : Lay w W4 := Keep.after (H := fun _ => False) (fun k hk => .inr (by omega)) HL0.out (hk03.trans hl4.keep)
  have hs4 := HS3.out.lay hl4
  have HCB := Lib.hid hcb
  have HRB := Lib.hid hrb
  have HLW4 := Lib.hid hlw4
  have HS4 := Lib.hid hs4
  have hgl := hs4.lt
  unfold qC at hW4
  rw [← hW4, ← hQ]
  have hwrap : IntKind.i64.wrap ((A : Int) - 5 + (D : Int)) = (A : Int) - 5 + (D : Int) := by rw [IntKind.wrap_i64]; omega
  have HCN := Lib.hid (HN4.out W4.drew (hs4.lay (Keep.refl _ _).drew))
  clear hcb hrb hlw4 hs4 hl4 hk03 hW4 HKK1 HKK2 HKK3 HN4 HS3 hQ
  refine wpIn_region_flow (fun _ => trivial) (by kernel_rfl) (waist2I 3 6 W4.drew (fun v w' => v = .int .i64 (D : Nat) ∧ Srcs w' (w.heap.size + 1) (.slice a l.length cap) l p4 ∧ Keep (fun k => k = w.heap.size + 1) W4 w')
      (fun _ w' => ∃ w5, Srcs w5 (w.heap.size + 1) (.slice a l.length cap) l p4 ∧ Keep (fun k => k = w.heap.size + 1) W4 w5 ∧ w' = w5.setCell ⟨Q, 1, none⟩ (.int .i64 ((A : Int) - 5 + (D : Int))))) (fun _ _ _ _ => True)
    (TV Q (w.heap.size + 1) ((A : Int) - 5) D) (fun _ => false) (by kernel_rfl) (by kernel_rfl) ?hst ⟨fun _ => rfl, fun h => (by cases h), fun h => (by cases h)⟩ ?step ?fin
  case hst =>
    intro i' j ys v w1' w2' hij hanc _ hV _
    match j, hV with
    | 0, hV => exact (upd_other ys v (Ne.symm hij)).trans hV
    | 1, hV => exact (upd_other ys v (Ne.symm hij)).trans hV
    | 2, hV => exact (upd_other ys v (Ne.symm hij)).trans hV
    | 3, hV => trivial
    | 4, hV => exact (upd_other ys v (Ne.symm hij)).trans hV
    | 5, hV => exact (upd_other ys v (Ne.symm hij)).trans hV
    | _ + 6, hV => trivial
  case step =>
    have hkeep : ∀ (listed : Array Bool) (ys : Nat → Value) (w' : World), waist2I 3 6 W4.drew (fun v w' => v = .int .i64 (D : Nat) ∧ Srcs w' (w.heap.size + 1) (.slice a l.length cap) l p4 ∧ Keep (fun k => k = w.heap.size + 1) W4 w')
        (fun _ w' => ∃ w5, Srcs w5 (w.heap.size + 1) (.slice a l.length cap) l p4 ∧ Keep (fun k => k = w.heap.size + 1) W4 w5 ∧ w' = w5.setCell ⟨Q, 1, none⟩ (.int .i64 ((A : Int) - 5 + (D : Int)))) listed ys w' → listed.getD 6 false = false → CB w' Q 31 (qC ((A : Int) - 5) 0 (.slice none 0 0) 0 ⟨#[]⟩ ⟨#[]⟩ (.slice none 0 0) (decide (B = 1)) (1 + (C : Int))) := by
      intro listed ys w' hI h6
      cases h4 : listed.getD 3 false with
      | false => rw [hI.1 h4]; exact HCB.out.keep ((Keep.refl (fun _ => False) _).drew) (fun h => h)
      | true => obtain ⟨_, _, h⟩ := hI.2.1 h4 h6; exact HCB.out.keep h (by omega)
    have HKEEP := Lib.hid hkeep
    clear hkeep
    refine ⟨?_, ?_, ?_, ?_, ?_, ?_, ?_, trivial⟩
    · intro listed ys X w' hsz hsd hi2 hall hX hI hd K hK
      have e4 : X.tmps.getD 4 undef = .pointer (some ⟨Q, 0, none⟩) := hX 4 (Nat.le_of_ble_eq_true rfl)
      have hcb' := HKEEP.out listed ys w' hI (not_yet hsd hi2 (by kernel_rfl))
      have x0 : w'.cell? ⟨Q, 0, none⟩ = some (.int .i64 ((A : Int) - 5)) := hcb'.cell 0
      refine step_run (.inl rfl) ?_
      clear hX hd hcb'
      go_simp
      exact hK _ _ (hI.other (by decide) (by decide) _) trivial (upd_same _ _ _)
    · intro listed ys X w' hsz hsd hi2 hall hX hI hd K hK
      have e19 : X.tmps.getD 19 undef = .pointer (some ⟨Q, 0, none⟩) := (hX 19 (Nat.le_of_ble_eq_true rfl)).trans (hd ⟨0, .data⟩ (by simp) rfl)
      have hcb' := HKEEP.out listed ys w' hI (not_yet hsd hi2 (by kernel_rfl))
      have x0 : w'.cell? ⟨Q, 0, none⟩ = some (.int .i64 ((A : Int) - 5)) := hcb'.cell 0
      refine step_run (.inl rfl) ?_
      clear hX hd hcb'
      go_simp
      exact hK _ _ (hI.other (by decide) (by decide) _) trivial (upd_same _ _ _)
    · intro listed ys X w' hsz hsd hi2 hall hX hI hd K hK
      have e3 : X.tmps.getD 3 undef = .pointer (some ⟨w.heap.size + 1, 0, none⟩) := hX 3 (Nat.le_of_ble_eq_true rfl)
      refine step_run (.inl rfl) ?_
      clear hX hd
      go_simp
      exact hK _ _ (hI.other (by decide) (by decide) _) trivial (upd_same _ _ _)
    · intro listed ys X w' hsz hsd hi2 hall hX hI hd K hK
      have e21 : X.tmps.getD 21 undef = .pointer (some ⟨w.heap.size + 1, 0, none⟩) := (hX 21 (Nat.le_of_ble_eq_true rfl)).trans (hd ⟨2, .data⟩ (by simp) rfl)
      have h6 := not_yet (c := 6) hsd hi2 (by kernel_rfl)
      obtain rfl := hI.1 hi2
      refine step_run (.inl rfl) ?_
      clear hX hd
      go_simp
      refine (callsIn_wide.2 HCN.out).mono ?_
      rintro e w5 ⟨rfl, hs5, hk5⟩
      exact hK _ _ (waist2I.call (by rw [hsz]; decide) (by decide) h6 ⟨rfl, hs5, (Keep.refl _ W4).drew.trans hk5⟩) trivial trivial
    · intro listed ys X w' hsz hsd hi2 hall hX hI hd K hK
      have h3 : listed.getD 3 false = true := hall ⟨3, .data⟩ (by simp) rfl
      obtain ⟨hv, _, _⟩ := hI.2.1 h3 (not_yet hsd hi2 (by kernel_rfl))
      have e20 : X.tmps.getD 20 undef = .int .i64 ((A : Int) - 5) := (hX 20 (Nat.le_of_ble_eq_true rfl)).trans (hd ⟨1, .data⟩ (by simp) rfl)
      have e22 : X.tmps.getD 22 undef = .int .i64 (D : Nat) := (hX 22 (Nat.le_of_ble_eq_true rfl)).trans hv
      refine step_run (.inl rfl) ?_
      clear hX hd
      go_simp
      exact hK _ _ (hI.other (by decide) (by decide) _) trivial (upd_same _ _ _)
    · intro listed ys X w' hsz hsd hi2 hall hX hI hd K hK
      have e4 : X.tmps.getD 4 undef = .pointer (some ⟨Q, 0, none⟩) := hX 4 (Nat.le_of_ble_eq_true rfl)
      have hcb' := HKEEP.out listed ys w' hI (not_yet hsd hi2 (by kernel_rfl))
      have x0 : w'.cell? ⟨Q, 0, none⟩ = some (.int .i64 ((A : Int) - 5)) := hcb'.cell 0
      refine step_run (.inl rfl) ?_
      clear hX hd hcb'
      go_simp
      exact hK _ _ (hI.other (by decide) (by decide) _) trivial (upd_same _ _ _)
    · intro listed ys X w' hsz hsd hi2 hall hX hI hd K hK
      have h3 : listed.getD 3 false = true := hall ⟨3, .chain⟩ (by simp) rfl
      obtain ⟨hv, hs5, hk5⟩ := hI.2.1 h3 hi2
      have e24 : X.tmps.getD 24 undef = .pointer (some ⟨Q, 1, none⟩) := (hX 24 (Nat.le_of_ble_eq_true rfl)).trans (hd ⟨5, .data⟩ (by simp) rfl)
      have e23 : X.tmps.getD 23 undef = .int .i64 ((A : Int) - 5 + (D : Int)) := (hX 23 (Nat.le_of_ble_eq_true rfl)).trans (hd ⟨4, .data⟩ (by simp) rfl)
      have hcb' := HKEEP.out listed ys w' hI hi2
      have x1 : w'.cell? ⟨Q, 1, none⟩ = some (.int .i64 0) := hcb'.cell 1
      have f1 := hcb'.frozen 1
      have HS5 := Lib.hid hs5
      have HK5 := Lib.hid hk5
      refine step_run (.inl rfl) ?_
      clear hX hd hcb' hs5 hk5
      go_simp
      exact hK undef _ (waist2I.last (by rw [hsz]; decide) (by decide) h3 ⟨w', HS5.out, HK5.out, rfl⟩) trivial trivial
  case fin =>
    intro listed ys w' hall hI _
    obtain ⟨w5, hs5, hk5, rfl⟩ := hI.2.2 (hall 6 (by decide))
    have hcs : ∀ (W W' : World) (q : Nat), Srcs W (w.heap.size + 1) (.slice a l.length cap) l q → W.heap.size ≤ W'.heap.size → (∀ b, b < w.heap.size + 2 → W'.heap[b]? = W.heap[b]?) → Srcs W' (w.heap.size + 1) (.slice a l.length cap) l q :=
      fun W W' q h hs hb => h.carry hs (hb _ (by omega)) (fun b off n c hv hl => hb b (by have := HSB.out b off n c hv hl; rw [HS0.out] at this; exact this))
    obtain ⟨W6, hW6⟩ : ∃ W6, W6 = w5.setCell ⟨Q, 1, none⟩ (.int .i64 ((A : Int) - 5 + (D : Int))) := ⟨_, rfl⟩
    have hk6 : Keep (fun k => k = Q) w5 W6 := by rw [hW6]; exact (Keep.refl (fun k => k = Q) w5).setCell (p := ⟨Q, 1, none⟩) (.inr rfl) _
    have hq6 : QS w Q (.slice a l.length cap) l ((A : Int) - 5) ((A : Int) - 5 + (D : Int)) (decide (B = 1)) (1 + (C : Int)) p4 0 W6 := by
      refine ⟨?_, ?_, ?_, ?_⟩
      · exact Keep.after (H := fun _ => False) (fun k hk => .inr (by omega)) (Keep.after (H := fun _ => False) (fun k hk => .inr (by omega)) HLW4.out hk5) hk6
      · exact (HRB.out.keep hk5 (by omega)).keep hk6 (by omega)
      · exact hcs _ _ _ hs5 hk6.size fun b hb => hk6.block b (by have := HLW4.out.size; have := hk5.size; have := HCB.out.lt; omega) (by omega)
      · refine ⟨.slice none 0 0, ?_, Rk.nil 3 _ _⟩
        have := (HCB.out.keep hk5 (by omega)).set 1 (.int .i64 ((A : Int) - 5 + (D : Int)))
        rw [hW6]
        exact this
    have HQS := Lib.hid hq6
    have HCS := Lib.hid hcs
    have HC5 := Lib.hid (HN5.out W6 hq6.srcs)
    have HK6 := Lib.hid hk6
    clear hI hall hs5 hk5 hk6 hcs hq6 HCN HN5 HCB HRB HLW4 HS4
    simp only [putsFrom]
    rw [← hW6]
    clear hW6
    gi_wp2_with fail
    refine (callsIn_wide.2 HC5.out).mono ?_
    rintro e w7 ⟨rfl, hs7, hk7⟩
    have hq7 : QS w Q (.slice a l.length cap) l ((A : Int) - 5) ((A : Int) - 5 + (D : Int)) (decide (B = 1)) (1 + (C : Int)) p5 0 w7 := by
      obtain ⟨h1, h2, h3, mv, h4, h5⟩ := HQS.out
      exact ⟨Keep.after (H := fun _ => False) (fun k hk => .inr (by omega)) h1 hk7, h2.keep hk7 (by omega), hs7, mv, h4.keep hk7 (by omega), h5.keep hk7 (fun k hk _ _ e => by have := hk.1; omega)⟩
    have HQ7 := Lib.hid hq7
    clear HC5 hs7 hk7 hq7
    gi_wp2_with fail
    clear HQS HR0 HK6
    gi_loopw [5] (fun v5 wr => ∃ j n : Nat, v5 = .int .i64 (j : Nat) ∧ j + n = k ∧ QS w Q (.slice a l.length cap) l ((A : Int) - 5) ((A : Int) - 5 + (D : Int)) (decide (B = 1)) (1 + (C : Int)) p5 n wr) (fun v5 _ => (intOf v5).toNat)
    case atStart => exact ⟨k, 0, rfl, rfl, HQ7.out⟩
    case round =>
      obtain ⟨j, n, rfl, hjn, hq⟩ := hrel
      by_cases hj : 0 < j
      · have hjd : decide (0 < (j : Int)) = true := by simp; omega
        obtain ⟨hl, hres, hsr, mv, hcb, hrk⟩ := hq
        obtain ⟨pr, hpr⟩ : ∃ pr, pr = Qy.mats l n p5 := ⟨_, rfl⟩
        rw [← hpr] at hsr hrk
        obtain ⟨ma, q1, hma⟩ : ∃ ma q1, Ft.next l 3 pr.2 = (ma, q1) := ⟨_, _, rfl⟩
        obtain ⟨mb, q2, hmb⟩ : ∃ mb q2, Ft.next l 3 q1 = (mb, q2) := ⟨_, _, rfl⟩
        obtain ⟨mc, q3, hmc⟩ : ∃ mc q3, Ft.next l 4 q2 = (mc, q3) := ⟨_, _, rfl⟩
        have hmal : ma < 3 := by have := Ft.next_lt (l := l) (n := 3) (p := pr.2) (by decide); rw [hma] at this; exact this
        have hmcl : mc < 4 := by have := Ft.next_lt (l := l) (n := 4) (p := q2) (by decide); rw [hmc] at this; exact this
        have hmai : (ma : Int) < 3 := by omega
        have hmci : (mc : Int) < 4 := by omega
        have hnx := fun (n p : Nat) (h0 : 0 < n) (h1 : n ≤ 1000) (W : World) (h : Srcs W (w.heap.size + 1) (.slice a l.length cap) l p) => next_any (w.heap.size + 1) (.slice a l.length cap) l p n h0 h1 W h
        have hn1 := hnx 3 pr.2 (by decide) (by decide)
        have hn2 := hnx 3 q1 (by decide) (by decide)
        have hn3 := hnx 4 q2 (by decide) (by decide)
        rw [hma] at hn1
        rw [hmb] at hn2
        rw [hmc] at hn3
        have HN1 := Lib.hid hn1
        have HN2 := Lib.hid hn2
        have HN3 := Lib.hid hn3
        obtain ⟨m, hm⟩ : ∃ m : Mt, m = ⟨Qy.keys.getD ma ⟨#[]⟩, decide (mb = 1), Qy.vals.getD mc ⟨#[]⟩⟩ := ⟨_, rfl⟩
        have HSN : Hid (Qy.mats l (n + 1) p5 = (pr.1 ++ [m], q3)) := Lib.hid (by
          rw [Qy.mats_snoc, ← hpr]
          unfold Qy.mat1
          simp only [hma, hmb, hmc, hm])
        have hrl : pr.1.length = n := by rw [hpr, Qy.mats_length]
        have hmn : m.name = Qy.keys.getD ma ⟨#[]⟩ := by rw [hm]
        have hmo : m.not = decide (mb = 1) := by rw [hm]
        have hmv : m.value = Qy.vals.getD mc ⟨#[]⟩ := by rw [hm]
        have hgQ : w.heap.size + 1 < wr.heap.size := hsr.lt
        have hQlt := hcb.lt
        have hmvl : ∀ b, At mv b → w.heap.size + 2 ≤ b ∧ b ≠ Q ∧ b < wr.heap.size := fun b hb => by
          have := hrk.at hb
          exact ⟨this.1.1, this.1.2, this.2⟩
        have HMN := Lib.hid hmn
        have HMO := Lib.hid hmo
        have HMV := Lib.hid hmv
        have HCB := Lib.hid hcb
        have HRK := Lib.hid hrk
        have HSR := Lib.hid hsr
        have HL := Lib.hid hl
        have HRES := Lib.hid hres
        clear hn1 hn2 hn3 hnx hma hmb hmc hm hpr hcb hrk hsr hl hres hmn hmo hmv
        gi_wp2_with fail
        refine wpIn_region_flow (fun _ => trivial) (by kernel_rfl) (QI (w.heap.size + 1) Q (w.heap.size + 2) (.slice a l.length cap) l pr.2 q1 q2 q3 n mv pr.1 m wr.drew) (fun _ _ w1 w2 => Keep (fun b => b < wr.heap.size) w1 w2)
          (MV (w.heap.size + 1) Q wr.heap.size mv ma mb mc m) (fun _ => false) (by kernel_rfl) (by kernel_rfl) ?hst2 ?hI2 ?step2 ?fin2
        case hst2 =>
          intro i' j' ys v w1' w2' hij hanc _ hV hR
          match j', hV with
          | 0, hV => exact (upd_other ys v (Ne.symm hij)).trans hV
          | 1, hV => exact (upd_other ys v (Ne.symm hij)).trans hV
          | 2, hV => show Lits _ _ (upd ys i' v 2) _; rw [upd_other ys v (Ne.symm hij)]; exact Lits.keep hV hR
          | 3, hV => exact (upd_other ys v (Ne.symm hij)).trans hV
          | 4, hV => exact (upd_other ys v (Ne.symm hij)).trans hV
          | 5, hV => show LitAt _ _ (upd ys i' v 5) _; rw [upd_other ys v (Ne.symm hij)]; exact LitAt.keep hV hR
          | 6, hV => exact (upd_other ys v (Ne.symm hij)).trans hV
          | 7, hV => exact (upd_other ys v (Ne.symm hij)).trans hV
          | 8, hV => exact (upd_other ys v (Ne.symm hij)).trans hV
          | 9, hV => exact (upd_other ys v (Ne.symm hij)).trans hV
          | 10, hV => show Lits _ _ (upd ys i' v 10) _; rw [upd_other ys v (Ne.symm hij)]; exact Lits.keep hV hR
          | 11, hV => exact (upd_other ys v (Ne.symm hij)).trans hV
          | 12, hV => exact (upd_other ys v (Ne.symm hij)).trans hV
          | 13, hV => show LitAt _ _ (upd ys i' v 13) _; rw [upd_other ys v (Ne.symm hij)]; exact LitAt.keep hV hR
          | 14, hV => exact (upd_other ys v (Ne.symm hij)).trans hV
          | 15, hV => exact (upd_other ys v (Ne.symm hij)).trans hV
          | 16, hV => show Rk _ _ _ (upd ys i' v 16) _ _; rw [upd_other ys v (Ne.symm hij)]; exact Rk.keep hV hR (fun b hb _ _ => by have hb : wr.heap.size ≤ b := hb; omega)
          | 17, hV => trivial
          | 18, hV => exact (upd_other ys v (Ne.symm hij)).trans hV
          | _ + 19, hV => trivial
        case hI2 =>
          exact ⟨fun _ => HSR.out.lay (Keep.refl _ _).drew, fun h => (by cases h), fun h => (by cases h), fun h => (by cases h), fun _ => Keep.refl _ _, fun h => (by cases h), fun h => (by cases h)⟩
        case step2 =>
          have hcbk : ∀ (listed : Array Bool) (ys : Nat → Value) (w' : World), QI (w.heap.size + 1) Q (w.heap.size + 2) (.slice a l.length cap) l pr.2 q1 q2 q3 n mv pr.1 m wr.drew listed ys w' → listed.getD 17 false = false → CB w' Q 31 (qC ((A : Int) - 5) ((A : Int) - 5 + (D : Int)) mv 0 ⟨#[]⟩ ⟨#[]⟩ (.slice none 0 0) (decide (B = 1)) (1 + (C : Int))) :=
            fun listed ys w' hI h17 => (HCB.out.keep (Keep.refl (fun _ => False) wr).drew (fun h => h)).keep (hI.k h17) (by omega)
          refine ⟨?_, ?_, ?_, ?_, ?_, ?_, ?_, ?_, ?_, ?_, ?_, ?_, ?_, ?_, ?_, ?_, ?_, ?_, ?_, ?_, trivial⟩
          · intro listed ys X w' hsz hsd hi2 hall hX hI hd K hK
            have e4 : X.tmps.getD 4 undef = .pointer (some ⟨Q, 0, none⟩) := hX 4 (Nat.le_of_ble_eq_true rfl)
            have hcb' := hcbk _ _ _ hI (not_yet (c := 17) hsd hi2 (by kernel_rfl))
            have x0 : w'.cell? ⟨Q, 0, none⟩ = some (.int .i64 ((A : Int) - 5)) := hcb'.cell 0
            have x2 : w'.cell? ⟨Q, 2, none⟩ = some mv := hcb'.cell 2
            have f2 := hcb'.frozen 2
            refine step_run (.inl rfl) ?_
            clear hX hd hcb'
            go_simp
            exact hK _ _ (hI.pure (by decide) _) (Keep.refl _ _) (upd_same _ _ _)
          · intro listed ys X w' hsz hsd hi2 hall hX hI hd K hK
            have e31 : X.tmps.getD 31 undef = .pointer (some ⟨Q, 2, none⟩) := (hX 31 (Nat.le_of_ble_eq_true rfl)).trans (hd ⟨0, .data⟩ (by simp) rfl)
            have hcb' := hcbk _ _ _ hI (not_yet (c := 17) hsd hi2 (by kernel_rfl))
            have x0 : w'.cell? ⟨Q, 0, none⟩ = some (.int .i64 ((A : Int) - 5)) := hcb'.cell 0
            have x2 : w'.cell? ⟨Q, 2, none⟩ = some mv := hcb'.cell 2
            have f2 := hcb'.frozen 2
            refine step_run (.inl rfl) ?_
            clear hX hd hcb'
            go_simp
            exact hK _ _ (hI.pure (by decide) _) (Keep.refl _ _) (upd_same _ _ _)
          · intro listed ys X w' hsz hsd hi2 hall hX hI hd K hK
            have h17 := not_yet (c := 17) hsd hi2 (by kernel_rfl)
            have h19 := not_yet (c := 19) hsd hi2 (by kernel_rfl)
            have hsz' := (hI.k h17).size
            have HI := Lib.hid hI
            refine step_run (.inl rfl) ?_
            clear hX hd hI
            go_simp
            exact hK _ _ (HI.out.lay (by decide) _ ((Keep.refl _ _).alloc _) (.inr h19)) ((Keep.refl _ _).alloc _) (by show Lits _ _ (upd ys 2 _ 2) _; rw [upd_same]; exact Lits.new w' wr.heap.size hsz' Qy.keys 9)
          · intro listed ys X w' hsz hsd hi2 hall hX hI hd K hK
            have e3 : X.tmps.getD 3 undef = .pointer (some ⟨w.heap.size + 1, 0, none⟩) := hX 3 (Nat.le_of_ble_eq_true rfl)
            refine step_run (.inl rfl) ?_
            clear hX hd
            go_simp
            exact hK _ _ (hI.pure (by decide) _) (Keep.refl _ _) (upd_same _ _ _)
          · intro listed ys X w' hsz hsd hi2 hall hX hI hd K hK
            have e34 : X.tmps.getD 34 undef = .pointer (some ⟨w.heap.size + 1, 0, none⟩) := (hX 34 (Nat.le_of_ble_eq_true rfl)).trans (hd ⟨3, .data⟩ (by simp) rfl)
            have h8 := not_yet (c := 8) hsd hi2 (by kernel_rfl)
            have h12 := not_yet (c := 12) hsd hi2 (by kernel_rfl)
            have h17 := not_yet (c := 17) hsd hi2 (by kernel_rfl)
            have h19 := not_yet (c := 19) hsd hi2 (by kernel_rfl)
            have hs := hI.s0 hi2
            have HC := Lib.hid (HN1.out w' hs)
            have HI := Lib.hid hI
            refine step_run (.inl rfl) ?_
            clear hX hd hI hs
            go_simp
            refine (callsIn_wide.2 HC.out).mono ?_
            rintro e w5 ⟨rfl, hs5, hk5⟩
            exact hK _ _ (HI.out.call1 (by rw [hsz]; decide) h8 h12 h17 h19 _ hs5 hk5) (hk5.into fun b _ hb => by omega) (upd_same _ _ _)
          · intro listed ys X w' hsz hsd hi2 hall hX hI hd K hK
            obtain ⟨b, hx, h1, h2, h3⟩ := (hd ⟨2, .data⟩ (by simp) rfl : Lits wr.heap.size Qy.keys (ys 2) w')
            have e33 : X.tmps.getD 33 undef = .slice (some ⟨b, 0, none⟩) 3 3 := (hX 33 (Nat.le_of_ble_eq_true rfl)).trans hx
            have e35 : X.tmps.getD 35 undef = .int .i64 (ma : Nat) := (hX 35 (Nat.le_of_ble_eq_true rfl)).trans (hd ⟨4, .data⟩ (by simp) rfl)
            have hc := h3 ma (show ma < Qy.keys.length from hmal)
            have HI := Lib.hid hI
            refine step_run (.inl rfl) ?_
            clear hX hd hI h3 hx
            go_simp
            exact hK _ _ (HI.out.pure (by decide) _) (Keep.refl _ _) (by show LitAt _ _ (upd ys 5 _ 5) _; rw [upd_same]; exact ⟨b, ma, rfl, h1, h2, by rw [hc, HMN.out]; simp [List.getD, show ma < Qy.keys.length from hmal]⟩)
          · intro listed ys X w' hsz hsd hi2 hall hX hI hd K hK
            obtain ⟨b, i', hx, h1, h2, h3⟩ := (hd ⟨5, .data⟩ (by simp) rfl : LitAt wr.heap.size m.name (ys 5) w')
            have e36 : X.tmps.getD 36 undef = .pointer (some ⟨b, i', none⟩) := (hX 36 (Nat.le_of_ble_eq_true rfl)).trans hx
            refine step_run (.inl rfl) ?_
            clear hX hd hx
            go_simp
            exact hK _ _ (hI.pure (by decide) _) (Keep.refl _ _) (upd_same _ _ _)
          · intro listed ys X w' hsz hsd hi2 hall hX hI hd K hK
            have e3 : X.tmps.getD 3 undef = .pointer (some ⟨w.heap.size + 1, 0, none⟩) := hX 3 (Nat.le_of_ble_eq_true rfl)
            refine step_run (.inl rfl) ?_
            clear hX hd
            go_simp
            exact hK _ _ (hI.pure (by decide) _) (Keep.refl _ _) (upd_same _ _ _)
          · intro listed ys X w' hsz hsd hi2 hall hX hI hd K hK
            have e38 : X.tmps.getD 38 undef = .pointer (some ⟨w.heap.size + 1, 0, none⟩) := (hX 38 (Nat.le_of_ble_eq_true rfl)).trans (hd ⟨7, .data⟩ (by simp) rfl)
            have h4 : listed.getD 4 false = true := hall ⟨4, .chain⟩ (by simp) rfl
            have h12 := not_yet (c := 12) hsd hi2 (by kernel_rfl)
            have h17 := not_yet (c := 17) hsd hi2 (by kernel_rfl)
            have h19 := not_yet (c := 19) hsd hi2 (by kernel_rfl)
            have hs := hI.s1 h4 hi2
            have HC := Lib.hid (HN2.out w' hs)
            have HI := Lib.hid hI
            refine step_run (.inl rfl) ?_
            clear hX hd hI hs
            go_simp
            refine (callsIn_wide.2 HC.out).mono ?_
            rintro e w5 ⟨rfl, hs5, hk5⟩
            exact hK _ _ (HI.out.call2 (by rw [hsz]; decide) h4 h12 h17 h19 _ hs5 hk5) (hk5.into fun b _ hb => by omega) (upd_same _ _ _)
          · intro listed ys X w' hsz hsd hi2 hall hX hI hd K hK
            have e39 : X.tmps.getD 39 undef = .int .i64 (mb : Nat) := (hX 39 (Nat.le_of_ble_eq_true rfl)).trans (hd ⟨8, .data⟩ (by simp) rfl)
            have hb1 : ((mb : Int) == 1) = m.not := by rw [HMO.out, Bool.eq_iff_iff]; simp; omega
            refine step_run (.inl rfl) ?_
            clear hX hd
            go_simp
            exact hK _ _ (hI.pure (by decide) _) (Keep.refl _ _) (upd_same _ _ _)
          · intro listed ys X w' hsz hsd hi2 hall hX hI hd K hK
            have h17 := not_yet (c := 17) hsd hi2 (by kernel_rfl)
            have h19 := not_yet (c := 19) hsd hi2 (by kernel_rfl)
            have hsz' := (hI.k h17).size
            have HI := Lib.hid hI
            refine step_run (.inl rfl) ?_
            clear hX hd hI
            go_simp
            exact hK _ _ (HI.out.lay (by decide) _ ((Keep.refl _ _).alloc _) (.inr h19)) ((Keep.refl _ _).alloc _) (by show Lits _ _ (upd ys 10 _ 10) _; rw [upd_same]; exact Lits.new w' wr.heap.size hsz' Qy.vals 9)
          · intro listed ys X w' hsz hsd hi2 hall hX hI hd K hK
            have e3 : X.tmps.getD 3 undef = .pointer (some ⟨w.heap.size + 1, 0, none⟩) := hX 3 (Nat.le_of_ble_eq_true rfl)
            refine step_run (.inl rfl) ?_
            clear hX hd
            go_simp
            exact hK _ _ (hI.pure (by decide) _) (Keep.refl _ _) (upd_same _ _ _)
          · intro listed ys X w' hsz hsd hi2 hall hX hI hd K hK
            have e42 : X.tmps.getD 42 undef = .pointer (some ⟨w.heap.size + 1, 0, none⟩) := (hX 42 (Nat.le_of_ble_eq_true rfl)).trans (hd ⟨11, .data⟩ (by simp) rfl)
            have h8 : listed.getD 8 false = true := hall ⟨8, .chain⟩ (by simp) rfl
            have h4 : listed.getD 4 false = true := anc_listed hsd 20 4 8 h8 (by kernel_rfl)
            have h17 := not_yet (c := 17) hsd hi2 (by kernel_rfl)
            have h19 := not_yet (c := 19) hsd hi2 (by kernel_rfl)
            have hs := hI.s2 h8 hi2
            have HC := Lib.hid (HN3.out w' hs)
            have HI := Lib.hid hI
            refine step_run (.inl rfl) ?_
            clear hX hd hI hs
            go_simp
            refine (callsIn_wide.2 HC.out).mono ?_
            rintro e w5 ⟨rfl, hs5, hk5⟩
            exact hK _ _ (HI.out.call3 (by rw [hsz]; decide) h4 h8 h17 h19 _ hs5 hk5) (hk5.into fun b _ hb => by omega) (upd_same _ _ _)
          · intro listed ys X w' hsz hsd hi2 hall hX hI hd K hK
            obtain ⟨b, hx, h1, h2, h3⟩ := (hd ⟨10, .data⟩ (by simp) rfl : Lits wr.heap.size Qy.vals (ys 10) w')
            have e41 : X.tmps.getD 41 undef = .slice (some ⟨b, 0, none⟩) 4 4 := (hX 41 (Nat.le_of_ble_eq_true rfl)).trans hx
            have e43 : X.tmps.getD 43 undef = .int .i64 (mc : Nat) := (hX 43 (Nat.le_of_ble_eq_true rfl)).trans (hd ⟨12, .data⟩ (by simp) rfl)
            have hc := h3 mc (show mc < Qy.vals.length from hmcl)
            have HI := Lib.hid hI
            refine step_run (.inl rfl) ?_
            clear hX hd hI h3 hx
            go_simp
            exact hK _ _ (HI.out.pure (by decide) _) (Keep.refl _ _) (by show LitAt _ _ (upd ys 13 _ 13) _; rw [upd_same]; exact ⟨b, mc, rfl, h1, h2, by rw [hc, HMV.out]; simp [List.getD, show mc < Qy.vals.length from hmcl]⟩)
          · intro listed ys X w' hsz hsd hi2 hall hX hI hd K hK
            obtain ⟨b, i', hx, h1, h2, h3⟩ := (hd ⟨13, .data⟩ (by simp) rfl : LitAt wr.heap.size m.value (ys 13) w')
            have e44 : X.tmps.getD 44 undef = .pointer (some ⟨b, i', none⟩) := (hX 44 (Nat.le_of_ble_eq_true rfl)).trans hx
            refine step_run (.inl rfl) ?_
            clear hX hd hx
            go_simp
            exact hK _ _ (hI.pure (by decide) _) (Keep.refl _ _) (upd_same _ _ _)
          · intro listed ys X w' hsz hsd hi2 hall hX hI hd K hK
            have e37 : X.tmps.getD 37 undef = .string m.name := (hX 37 (Nat.le_of_ble_eq_true rfl)).trans (hd ⟨6, .data⟩ (by simp) rfl)
            have g37 : X.tmps[37]?.getD undef = .string m.name := by rw [← Array.getD_eq_getD_getElem?]; exact e37
            have e40 : X.tmps.getD 40 undef = .bool m.not := (hX 40 (Nat.le_of_ble_eq_true rfl)).trans (hd ⟨9, .data⟩ (by simp) rfl)
            have g40 : X.tmps[40]?.getD undef = .bool m.not := by rw [← Array.getD_eq_getD_getElem?]; exact e40
            have e45 : X.tmps.getD 45 undef = .string m.value := (hX 45 (Nat.le_of_ble_eq_true rfl)).trans (hd ⟨14, .data⟩ (by simp) rfl)
            have g45 : X.tmps[45]?.getD undef = .string m.value := by rw [← Array.getD_eq_getD_getElem?]; exact e45
            refine step_run (.inl rfl) ?_
            clear hX hd
            go_simp
            exact hK _ _ (hI.pure (by decide) _) (Keep.refl _ _) (upd_same _ _ _)
          · intro listed ys X w' hsz hsd hi2 hall hX hI hd K hK
            have e46 : X.tmps.getD 46 undef = .agg #[.string m.name, .bool m.not, .string m.value] := (hX 46 (Nat.le_of_ble_eq_true rfl)).trans (hd ⟨15, .data⟩ (by simp) rfl)
            have g46 : X.tmps[46]?.getD undef = .agg #[.string m.name, .bool m.not, .string m.value] := by rw [← Array.getD_eq_getD_getElem?]; exact e46
            have h17 := not_yet (c := 17) hsd hi2 (by kernel_rfl)
            have h19 := not_yet (c := 19) hsd hi2 (by kernel_rfl)
            have hsz' := (hI.k h17).size
            have HI := Lib.hid hI
            refine step_run (.inl rfl) ?_
            clear hX hd hI
            go_simp
            exact hK _ _ (HI.out.lay (by decide) _ ((Keep.refl _ _).alloc _) (.inr h19)) ((Keep.refl _ _).alloc _) (by show Rk _ _ _ (upd ys 16 _ 16) _ _; rw [upd_same]; exact (rk_new 3 w' 1 (flatM [m]) 51 rfl (by omega)).mono fun k hk _ => by rw [hk]; exact hsz')
          · intro listed ys X w' hsz hsd hi2 hall hX hI hd K hK
            have h12 : listed.getD 12 false = true := hall ⟨12, .chain⟩ (by simp) rfl
            have h8 : listed.getD 8 false = true := anc_listed hsd 20 8 12 h12 (by kernel_rfl)
            have h4 : listed.getD 4 false = true := anc_listed hsd 20 4 12 h12 (by kernel_rfl)
            have h19 := not_yet (c := 19) hsd hi2 (by kernel_rfl)
            have e32 : X.tmps.getD 32 undef = mv := (hX 32 (Nat.le_of_ble_eq_true rfl)).trans (hd ⟨1, .data⟩ (by simp) rfl)
            have e47 : X.tmps.getD 47 undef = ys 16 := hX 47 (Nat.le_of_ble_eq_true rfl)
            have hk := hI.k hi2
            have hrs : Rk 3 (fun k => wr.heap.size ≤ k) w' (ys 16) 1 (flatM [m]) := hd ⟨16, .data⟩ (by simp) rfl
            have hrm := (HRK.out.keep (Keep.refl (fun _ => False) wr).drew (fun _ _ _ _ h => h)).keep hk (fun b hb _ _ e => by have := hb.1; omega)
            obtain ⟨i43, z43, E43⟩ := elem43
            obtain ⟨v', w5, hrun, hr5, hk5⟩ := run_append_rk E43 hrm (fun b hb => ⟨by have := HL.out.size; have := hk.size; have : wr.drew.heap.size = wr.heap.size := rfl; omega, by have := hk.size; have : wr.drew.heap.size = wr.heap.size := rfl; omega⟩) 26 26 _ 1 _ (hrs.src Try.underlying26 (flatM_one _)) (by omega) (by omega)
            refine step_run (.inl rfl) ?_
            refine operIn_append _ _ 26 rfl e32 e47 hrun ?_
            refine hK _ _ (hI.app (by rw [hsz]; decide) h4 h8 h12 hi2 h19 _ ?_ ?_ hk5) (hk5.into fun b _ hb => (hmvl b hb).2.2) trivial
            · refine HCS.out w' w5 q3 (hI.s3 h12) hk5.size fun b hb => hk5.block b ?_ fun hab => by have := hmvl b hab; omega
              have := (hI.s3 h12).lt
              omega
            · rw [flatM_append]
              exact hr5.mono fun b hb _ => hb.1
          · intro listed ys X w' hsz hsd hi2 hall hX hI hd K hK
            have e4 : X.tmps.getD 4 undef = .pointer (some ⟨Q, 0, none⟩) := hX 4 (Nat.le_of_ble_eq_true rfl)
            have h17 : listed.getD 17 false = true := hall ⟨17, .phase⟩ (by simp) rfl
            have hcb' := (HCB.out.keep (Keep.refl (fun _ => False) wr).drew (fun h => h)).keep (hI.a h17 (not_yet (c := 19) hsd hi2 (by kernel_rfl))).2 (fun e => by rcases e with e | e; omega; exact (hmvl Q e).2.1 rfl)
            have x0 : w'.cell? ⟨Q, 0, none⟩ = some (.int .i64 ((A : Int) - 5)) := hcb'.cell 0
            refine step_run (.inl rfl) ?_
            clear hX hd hcb'
            go_simp
            exact hK _ _ (hI.pure (by decide) _) (Keep.refl _ _) (upd_same _ _ _)
          · intro listed ys X w' hsz hsd hi2 hall hX hI hd K hK
            have h17 : listed.getD 17 false = true := hall ⟨17, .chain⟩ (by simp) rfl
            have h12 : listed.getD 12 false = true := hall ⟨12, .phase⟩ (by simp) rfl
            have h8 : listed.getD 8 false = true := hall ⟨8, .phase⟩ (by simp) rfl
            have h4 : listed.getD 4 false = true := hall ⟨4, .phase⟩ (by simp) rfl
            have e49 : X.tmps.getD 49 undef = .pointer (some ⟨Q, 2, none⟩) := (hX 49 (Nat.le_of_ble_eq_true rfl)).trans (hd ⟨18, .data⟩ (by simp) rfl)
            have e48 : X.tmps.getD 48 undef = ys 17 := hX 48 (Nat.le_of_ble_eq_true rfl)
            have hcb' := (HCB.out.keep (Keep.refl (fun _ => False) wr).drew (fun h => h)).keep (hI.a h17 hi2).2 (fun e => by rcases e with e | e; omega; exact (hmvl Q e).2.1 rfl)
            have x2 : w'.cell? ⟨Q, 2, none⟩ = some mv := hcb'.cell 2
            have f2 := hcb'.frozen 2
            obtain ⟨a17, c17, hs17⟩ := (hI.a h17 hi2).1.shape
            have hsr' : Srcs (w'.setCell ⟨Q, 2, none⟩ (ys 17)) (w.heap.size + 1) (.slice a l.length cap) l q3 :=
              HCS.out _ _ q3 (hI.s3 h12) (by simp [World.setCell]) fun b hb => Below.heap_setCell w' ⟨Q, 2, none⟩ (ys 17) b (by show b ≠ Q; omega)
            have HST := Lib.hid (hI.store (by rw [hsz]; decide) h4 h8 h12 h17 hi2 undef hsr')
            refine step_run (.inl rfl) ?_
            rw [hs17] at e48 HST
            clear hX hd hcb' hI hsr'
            go_simp
            exact hK undef _ HST.out ((Keep.refl _ _).setCell (p := ⟨Q, 2, none⟩) (.inr hQlt) _) trivial
        case fin2 =>
          intro listed ys w' hall hI _
          obtain ⟨v', w8, hr8, hk8, hs8, rfl⟩ := hI.f (hall 19 (by decide))
          obtain ⟨W8, hW8⟩ : ∃ W8, W8 = w8.setCell ⟨Q, 2, none⟩ v' := ⟨_, rfl⟩
          have hkq : Keep (fun b => b = Q) w8 W8 := by rw [hW8]; exact (Keep.refl (fun b => b = Q) w8).setCell (p := ⟨Q, 2, none⟩) (.inr rfl) _
          have hd8 : Keep (fun b => b = w.heap.size + 1 ∨ At mv b) wr w8 := (Keep.refl _ wr).drew.trans hk8
          have hq8 : QS w Q (.slice a l.length cap) l ((A : Int) - 5) ((A : Int) - 5 + (D : Int)) (decide (B = 1)) (1 + (C : Int)) p5 (n + 1) W8 := by
            refine ⟨?_, ?_, ?_, ?_⟩
            · exact Keep.after (H := fun _ => False) (fun b hb => .inr (by omega)) (Keep.after (H := fun _ => False) (fun b hb => .inr (by rcases hb with hb | hb; omega; have := (hmvl b hb).1; omega)) HL.out hd8) hkq
            · exact (HRES.out.keep hd8 (fun e => by rcases e with e | e; omega; have := (hmvl _ e).1; omega)).keep hkq (by omega)
            · rw [HSN.out]
              exact HCS.out w8 W8 q3 hs8 hkq.size fun b hb => hkq.block b (by have := hs8.lt; omega) (by omega)
            · refine ⟨v', ?_, ?_⟩
              · have := (HCB.out.keep hd8 (fun e => by rcases e with e | e; omega; exact (hmvl Q e).2.1 rfl)).set 2 v'
                rw [hW8]
                exact this
              · rw [HSN.out]
                exact hr8.keep hkq (fun b hb _ _ e => hb.2 e)
          have HQ8 := Lib.hid hq8
          clear hI hall hr8 hk8 hs8 hkq hd8 hq8
          simp only [putsFrom]
          rw [← hW8]
          clear hW8
          gi_wp2_with fail
          go_roundw
          case rel => exact ⟨j - 1, n + 1, by go_num, by omega, HQ8.out⟩
          case measure => simp [intOf]; omega
      · obtain rfl : j = 0 := by omega
        obtain rfl : n = k := by omega
        obtain ⟨hl, hres, hsr, mv, hcb, hrk⟩ := hq
        obtain ⟨amv, cmv, rfl⟩ := hrk.shape
        obtain ⟨pr, hpr⟩ : ∃ pr, pr = Qy.mats l n p5 := ⟨_, rfl⟩
        rw [← hpr] at hsr hrk HQ
        have hmk := make_any (w.heap.size + 1) (.slice a l.length cap) l 3 (by decide) pr.2 wr hsr
        unfold MakeP at hmk
        obtain ⟨X, q1, hX⟩ : ∃ X q1, Ft.make l 3 pr.2 = (X, q1) := ⟨_, _, rfl⟩
        rw [hX] at hmk HQ
        obtain ⟨z, q2, hz⟩ : ∃ z q2, Ft.next l 4 q1 = (z, q2) := ⟨_, _, rfl⟩
        have hnz := fun (W : World) (h : Srcs W (w.heap.size + 1) (.slice a l.length cap) l q1) => next_any (w.heap.size + 1) (.slice a l.length cap) l q1 4 (by decide) (by decide) W h
        rw [hz] at hnz HQ
        have hzl : z < 4 := by have := Ft.next_lt (l := l) (n := 4) (p := q1) (by decide); rw [hz] at this; exact this
        have HPR := Lib.hid hpr
        have HMK := Lib.hid hmk
        have HNZ := Lib.hid hnz
        have hQlt := hcb.lt
        have HCB := Lib.hid hcb
        have HRK := Lib.hid hrk
        have HL := Lib.hid hl
        have HRES := Lib.hid hres
        have hwl := hl.size
        have hsl := hsr.lt
        clear hmk hnz hpr hX hz hcb hrk hl hres hsr
        gi_wp2_with fail
        refine (callsIn_wide.2 HMK.out).mono ?_
        rintro e w8 ⟨kv, rfl, hkb, hs8, hk8⟩
        have hcb8 := HCB.out.keep hk8 (by omega)
        have y3 : w8.cell? ⟨Q, 3, none⟩ = some (.int .i64 0) := hcb8.cell 3
        have y4 : w8.cell? ⟨Q, 4, none⟩ = some (.string ⟨#[]⟩) := hcb8.cell 4
        have y5 : w8.cell? ⟨Q, 5, none⟩ = some (.string ⟨#[]⟩) := hcb8.cell 5
        have y6 : w8.cell? ⟨Q, 6, none⟩ = some (.slice none 0 0) := hcb8.cell 6
        have f3 := hcb8.frozen 3
        have f4 := hcb8.frozen 4
        have f5 := hcb8.frozen 5
        have f6 := hcb8.frozen 6
        have y0 : w8.cell? ⟨Q, 0, none⟩ = some (.int .i64 ((A : Int) - 5)) := hcb8.cell 0
        obtain ⟨ak, ck, rfl⟩ := hkb.shape
        simp only [Ft.val]
        have HKB := Lib.hid hkb
        have HS8 := Lib.hid hs8
        have HK8 := Lib.hid hk8
        have HCB8 := Lib.hid hcb8
        clear hkb hs8 hk8 hcb8
        obtain ⟨W9, hW9⟩ : ∃ W9, W9 = stored4 w8 Q (.int .i64 X.op) (.string X.name) (.string X.text) (.slice ak X.kids.length ck) := ⟨_, rfl⟩
        have hcb9 : CB W9 Q 31 (qC ((A : Int) - 5) ((A : Int) - 5 + (D : Int)) (.slice amv n cmv) X.op X.name X.text (.slice ak X.kids.length ck) (decide (B = 1)) (1 + (C : Int))) := by
          have := (((HCB8.out.set 3 (.int .i64 X.op)).set 4 (.string X.name)).set 5 (.string X.text)).set 6 (.slice ak X.kids.length ck)
          rw [hW9]
          exact this
        have hk9 : Keep (fun b => b = Q) w8 W9 := by rw [hW9]; exact stored4_keep _ _ _ _ _ _
        have HNZ9 := Lib.hid (HNZ.out W9 (HCS.out w8 W9 q1 HS8.out hk9.size fun b hb => hk9.block b (by have := HK8.out.size; omega) (by omega)))
        have HK9 := Lib.hid hk9
        have HCB9 := Lib.hid hcb9
        clear hk9 hcb9
        unfold stored4 at hW9
        gi_wp2_with fail
        rw [← hW9]
        clear hW9 y0 y3 y4 y5 y6 f3 f4 f5 f6
        refine (callsIn_wide.2 HNZ9.out).mono ?_
        rintro e w10 ⟨rfl, hs10, hk10⟩
        have hcb10 := HCB9.out.keep hk10 (by omega)
        have hres10 := ((HRES.out.keep HK8.out (by omega)).keep HK9.out (by omega)).keep hk10 (by omega)
        have HLW10 : Hid (Lay w w10) := Lib.hid (Keep.after (H := fun _ => False) (fun b hb => .inr (by omega)) (Keep.after (H := fun _ => False) (fun b hb => .inr (by omega)) (Keep.after (H := fun _ => False) (fun b hb => .inr (by omega)) HL.out HK8.out) HK9.out) hk10)
        have hkr : Keep (fun b => b = w.heap.size + 1 ∨ b = Q) wr w10 := ((HK8.out.into fun b _ h => .inl h).trans (HK9.out.into fun b _ h => .inr h)).trans (hk10.into fun b _ h => .inl h)
        have HRK10 := Lib.hid (HRK.out.keep hkr (fun b hb _ _ e => by rcases e with e | e; have := hb.1; omega; exact hb.2 e))
        have HKB10 := Lib.hid (KsB.keep hk10.size (fun b hb hlt => hk10.block b hlt (by have hb : wr.heap.size ≤ b := hb; omega)) _ _ (KsB.keep HK9.out.size (fun b hb hlt => HK9.out.block b hlt (by have hb : wr.heap.size ≤ b := hb; omega)) _ _ HKB.out))
        have hQ10 := hcb10.lt
        have HCB10 := Lib.hid hcb10
        have HRES10 := Lib.hid hres10
        have hpl : pr.1.length = n := by rw [HPR.out, Qy.mats_length]
        have HPL := Lib.hid hpl
        have c0 : w10.cell? ⟨Q, 0, none⟩ = some (.int .i64 ((A : Int) - 5)) := hcb10.cell 0
        have c1 : w10.cell? ⟨Q, 1, none⟩ = some (.int .i64 ((A : Int) - 5 + (D : Int))) := hcb10.cell 1
        have c2 : w10.cell? ⟨Q, 2, none⟩ = some (.slice amv n cmv) := hcb10.cell 2
        have c3 : w10.cell? ⟨Q, 3, none⟩ = some (.int .i64 X.op) := hcb10.cell 3
        have c4 : w10.cell? ⟨Q, 4, none⟩ = some (.string X.name) := hcb10.cell 4
        have c5 : w10.cell? ⟨Q, 5, none⟩ = some (.string X.text) := hcb10.cell 5
        have c6 : w10.cell? ⟨Q, 6, none⟩ = some (.slice ak X.kids.length ck) := hcb10.cell 6
        have c7 : w10.cell? ⟨Q, 7, none⟩ = some (.bool (decide (B = 1))) := hcb10.cell 7
        have c8 : w10.cell? ⟨Q, 8, none⟩ = some (.int .i64 (1 + (C : Int))) := hcb10.cell 8
        have c9 : w10.cell? ⟨Q, 9, none⟩ = some (.string ⟨#[]⟩) := hcb10.cell 9
        have g3 := hcb10.frozen 3
        have g4 := hcb10.frozen 4
        have g5 := hcb10.frozen 5
        have g6 := hcb10.frozen 6
        have r0 : w10.cell? ⟨w.heap.size, 0, none⟩ = some (.int .i64 0) := hres10.cell 0
        have fr0 := hres10.frozen 0
        have r1 : w10.cell? ⟨w.heap.size, 1, none⟩ = some (.int .i64 0) := hres10.cell 1
        have fr1 := hres10.frozen 1
        have r2 : w10.cell? ⟨w.heap.size, 2, none⟩ = some (.slice none 0 0) := hres10.cell 2
        have fr2 := hres10.frozen 2
        have r3 : w10.cell? ⟨w.heap.size, 3, none⟩ = some (.int .i64 0) := hres10.cell 3
        have fr3 := hres10.frozen 3
        have r4 : w10.cell? ⟨w.heap.size, 4, none⟩ = some (.string ⟨#[]⟩) := hres10.cell 4
        have fr4 := hres10.frozen 4
        have r5 : w10.cell? ⟨w.heap.size, 5, none⟩ = some (.string ⟨#[]⟩) := hres10.cell 5
        have fr5 := hres10.frozen 5
        have r6 : w10.cell? ⟨w.heap.size, 6, none⟩ = some (.slice none 0 0) := hres10.cell 6
        have fr6 := hres10.frozen 6
        have r7 : w10.cell? ⟨w.heap.size, 7, none⟩ = some (.bool false) := hres10.cell 7
        have fr7 := hres10.frozen 7
        have r8 : w10.cell? ⟨w.heap.size, 8, none⟩ = some (.int .i64 0) := hres10.cell 8
        have fr8 := hres10.frozen 8
        have r9 : w10.cell? ⟨w.heap.size, 9, none⟩ = some (.string ⟨#[]⟩) := hres10.cell 9
        have fr9 := hres10.frozen 9
        clear hs10 hk10 hcb10 hres10 hkr hpl HMK HNZ HNZ9 HS8 HCS HCB8 HCB
        by_cases hz0 : z = 0
        · subst hz0
          rw [if_pos rfl] at HQ
          have hkz : Keep (fun b => b = Q) w10 (stored4 w10 Q (.int .i64 1) (.string ⟨#[]⟩) (.string ⟨#[]⟩) (.slice none 0 0)) := stored4_keep _ _ _ _ _ _
          have HRESZ := Lib.hid (HRES10.out.keep hkz (by omega))
          have HLZ : Hid (Lay w (stored4 w10 Q (.int .i64 1) (.string ⟨#[]⟩) (.string ⟨#[]⟩) (.slice none 0 0))) := Lib.hid (Keep.after (H := fun _ => False) (fun b hb => .inr (by omega)) HLW10.out hkz)
          have HRKZ := Lib.hid (HRK10.out.keep hkz (fun b hb _ _ e => hb.2 e))
          clear hkz
          gi_wp2_with fail
          show bodyPost Try.prog Try.f6 _ Exit.ret _ (ten (stored4 w10 Q (.int .i64 1) (.string ⟨#[]⟩) (.string ⟨#[]⟩) (.slice none 0 0)) w.heap.size (.int .i64 ((A : Int) - 5)) (.int .i64 ((A : Int) - 5 + (D : Int))) (.slice amv n cmv) (.int .i64 1) (.string ⟨#[]⟩) (.string ⟨#[]⟩) (.slice none 0 0) (.bool (decide (B = 1))) (.int .i64 (1 + (C : Int))) (.string ⟨#[]⟩))
          generalize stored4 w10 Q (.int .i64 1) (.string ⟨#[]⟩) (.string ⟨#[]⟩) (.slice none 0 0) = wz at HRESZ HLZ HRKZ ⊢
          unfold ten
          have hq := ten_cb HRESZ.out (.int .i64 ((A : Int) - 5)) (.int .i64 ((A : Int) - 5 + (D : Int))) (.slice amv n cmv) (.int .i64 1) (.string ⟨#[]⟩) (.string ⟨#[]⟩) (.slice none 0 0) (.bool (decide (B = 1))) (.int .i64 (1 + (C : Int))) (.string ⟨#[]⟩)
          have hkt := ten_keep wz w.heap.size (.int .i64 ((A : Int) - 5)) (.int .i64 ((A : Int) - 5 + (D : Int))) (.slice amv n cmv) (.int .i64 1) (.string ⟨#[]⟩) (.string ⟨#[]⟩) (.slice none 0 0) (.bool (decide (B = 1))) (.int .i64 (1 + (C : Int))) (.string ⟨#[]⟩)
          have hlt : Lay w (ten wz w.heap.size (.int .i64 ((A : Int) - 5)) (.int .i64 ((A : Int) - 5 + (D : Int))) (.slice amv n cmv) (.int .i64 1) (.string ⟨#[]⟩) (.string ⟨#[]⟩) (.slice none 0 0) (.bool (decide (B = 1))) (.int .i64 (1 + (C : Int))) (.string ⟨#[]⟩)) := Keep.after (H := fun _ => False) (fun b hb => .inr (by omega)) HLZ.out hkt
          have hms : MsAt (ten wz w.heap.size (.int .i64 ((A : Int) - 5)) (.int .i64 ((A : Int) - 5 + (D : Int))) (.slice amv n cmv) (.int .i64 1) (.string ⟨#[]⟩) (.string ⟨#[]⟩) (.slice none 0 0) (.bool (decide (B = 1))) (.int .i64 (1 + (C : Int))) (.string ⟨#[]⟩)) (.slice amv n cmv) pr.1 := by
            have h := (HRKZ.out).keep hkt (fun b hb _ _ e => by have := hb.1; omega)
            have hl := HPL.out
            subst hl
            exact MsAt.of_rk h (by omega)
          have hks : KsAt (ten wz w.heap.size (.int .i64 ((A : Int) - 5)) (.int .i64 ((A : Int) - 5 + (D : Int))) (.slice amv n cmv) (.int .i64 1) (.string ⟨#[]⟩) (.string ⟨#[]⟩) (.slice none 0 0) (.bool (decide (B = 1))) (.int .i64 (1 + (C : Int))) (.string ⟨#[]⟩)) (.slice none 0 0) (.mk 1 ⟨#[]⟩ ⟨#[]⟩ []) := by rw [KsAt]; exact ⟨none, 0, rfl, by simp, .inl rfl⟩
          have HMS := Lib.hid hms
          have HKS := Lib.hid hks
          have HLT := Lib.hid hlt
          clear hms hks hlt hkt
          unfold ten at hq HMS HKS HLT
          have q0 := hq.cell 0
          have q1 := hq.cell 1
          have q2 := hq.cell 2
          have q3 := hq.cell 3
          have q4 := hq.cell 4
          have q5 := hq.cell 5
          have q6 := hq.cell 6
          have q7 := hq.cell 7
          have q8 := hq.cell 8
          have q9 := hq.cell 9
          simp only [List.getElem?_toArray, List.getElem?_cons_zero, List.getElem?_cons_succ] at q0 q1 q2 q3 q4 q5 q6 q7 q8 q9
          clear hq
          refine bodyPost_ret (v := .agg #[.int .i64 ((A : Int) - 5), .int .i64 ((A : Int) - 5 + (D : Int)), .slice amv n cmv, .int .i64 1, .string ⟨#[]⟩, .string ⟨#[]⟩, .slice none 0 0, .bool (decide (B = 1)), .int .i64 (1 + (C : Int)), .string ⟨#[]⟩]) (by simp [results, Try.results6, go_sem, q0, q1, q2, q3, q4, q5, q6, q7, q8, q9]) rfl ?_
          rw [HQ.out]
          exact ⟨_, rfl, ⟨.slice amv n cmv, .slice none 0 0, rfl, HMS.out, HKS.out⟩, HLT.out⟩
        · have hz1 : ((z : Int) == 0) = false := by simp; omega
          rw [if_neg hz0] at HQ
          gi_wp2_with fail
          have hq := ten_cb HRES10.out (.int .i64 ((A : Int) - 5)) (.int .i64 ((A : Int) - 5 + (D : Int))) (.slice amv n cmv) (.int .i64 X.op) (.string X.name) (.string X.text) (.slice ak X.kids.length ck) (.bool (decide (B = 1))) (.int .i64 (1 + (C : Int))) (.string ⟨#[]⟩)
          have hkt := ten_keep w10 w.heap.size (.int .i64 ((A : Int) - 5)) (.int .i64 ((A : Int) - 5 + (D : Int))) (.slice amv n cmv) (.int .i64 X.op) (.string X.name) (.string X.text) (.slice ak X.kids.length ck) (.bool (decide (B = 1))) (.int .i64 (1 + (C : Int))) (.string ⟨#[]⟩)
          have hlt : Lay w (ten w10 w.heap.size (.int .i64 ((A : Int) - 5)) (.int .i64 ((A : Int) - 5 + (D : Int))) (.slice amv n cmv) (.int .i64 X.op) (.string X.name) (.string X.text) (.slice ak X.kids.length ck) (.bool (decide (B = 1))) (.int .i64 (1 + (C : Int))) (.string ⟨#[]⟩)) := Keep.after (H := fun _ => False) (fun b hb => .inr (by omega)) HLW10.out hkt
          have hms : MsAt (ten w10 w.heap.size (.int .i64 ((A : Int) - 5)) (.int .i64 ((A : Int) - 5 + (D : Int))) (.slice amv n cmv) (.int .i64 X.op) (.string X.name) (.string X.text) (.slice ak X.kids.length ck) (.bool (decide (B = 1))) (.int .i64 (1 + (C : Int))) (.string ⟨#[]⟩)) (.slice amv n cmv) pr.1 := by
            have h := (HRK10.out).keep hkt (fun b hb _ _ e => by have := hb.1; omega)
            have hl := HPL.out
            subst hl
            exact MsAt.of_rk h (by omega)
          have hks : KsAt (ten w10 w.heap.size (.int .i64 ((A : Int) - 5)) (.int .i64 ((A : Int) - 5 + (D : Int))) (.slice amv n cmv) (.int .i64 X.op) (.string X.name) (.string X.text) (.slice ak X.kids.length ck) (.bool (decide (B = 1))) (.int .i64 (1 + (C : Int))) (.string ⟨#[]⟩)) (.slice ak X.kids.length ck) (X) := KsB.at _ _ (KsB.keep hkt.size (fun b hb hlt => hkt.block b hlt (by have hb : wr.heap.size ≤ b := hb; omega)) _ _ HKB10.out)
          have HMS := Lib.hid hms
          have HKS := Lib.hid hks
          have HLT := Lib.hid hlt
          clear hms hks hlt hkt
          unfold ten at hq HMS HKS HLT
          have q0 := hq.cell 0
          have q1 := hq.cell 1
          have q2 := hq.cell 2
          have q3 := hq.cell 3
          have q4 := hq.cell 4
          have q5 := hq.cell 5
          have q6 := hq.cell 6
          have q7 := hq.cell 7
          have q8 := hq.cell 8
          have q9 := hq.cell 9
          simp only [List.getElem?_toArray, List.getElem?_cons_zero, List.getElem?_cons_succ] at q0 q1 q2 q3 q4 q5 q6 q7 q8 q9
          clear hq
          refine bodyPost_ret (v := .agg #[.int .i64 ((A : Int) - 5), .int .i64 ((A : Int) - 5 + (D : Int)), .slice amv n cmv, .int .i64 X.op, .string X.name, .string X.text, .slice ak X.kids.length ck, .bool (decide (B = 1)), .int .i64 (1 + (C : Int)), .string ⟨#[]⟩]) (by simp [results, Try.results6, go_sem, q0, q1, q2, q3, q4, q5, q6, q7, q8, q9]) rfl ?_
          rw [HQ.out]
          exact ⟨_, rfl, ⟨.slice amv n cmv, .slice ak X.kids.length ck, rfl, HMS.out, HKS.out⟩, HLT.out⟩

end Go.Proofs.Ytidjodplimkmgaa
