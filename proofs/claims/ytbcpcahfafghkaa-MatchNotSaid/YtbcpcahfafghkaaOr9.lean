/-
  IN WHICH ORDER KIDS STAND PLAYS NO PART, nor whether one stands there twice: the law's walk.
-/
import Derived.Test.YtbcpcahfafghkaaAl9
import Derived.Test.YtbcpcahfafghkaaFl9
import Derived.Lib.QuietBelow
namespace Go.Proofs.Ytbcpcahfafghkaa
open Go.RowKit Go
open Go.Sort (grow)

/-- A filter's cells. -/
def cellsF (f : Ft) (kv : Value) : Array Value := #[.int .i64 f.op, .string f.name, .string f.text, kv]

/-- Two filters, each in a box of its own. -/
structure FG (W : World) (A B : Nat) (F G : Ft) (kf kg : Value) : Prop where
  f : CB W A 26 (cellsF F kf)
  g : CB W B 26 (cellsF G kg)
  kf : KsAt W kf F
  kg : KsAt W kg G
  sh : W.ShapedOpen Try.prog

theorem FG.below {W W' : World} {A B : Nat} {F G : Ft} {kf kg : Value} (h : FG W A B F G kf kg) (hb : Below W.heap.size W W') : FG W' A B F G kf kg :=
  ⟨(hb.block _ h.f.lt).trans h.f, (hb.block _ h.g.lt).trans h.g, KsAt.below hb _ _ h.kf, KsAt.below hb _ _ h.kg, shaped_below h.sh hb⟩

/-- Kids that were just laid. -/
theorem kids_at (W : World) (o : Int) (X : List (Ft × Value)) (hX : X.length ≤ 1000) (hk : ∀ x ∈ X, KsAt W x.2 x.1) (arr : Array Value) (ha : arr = (X.flatMap fun x => (cellsF x.1 x.2).toList).toArray) :
    KsAt (W.alloc (.cells arr 26)) (.slice (some ⟨W.heap.size, 0, none⟩) X.length X.length) (.mk o ⟨#[]⟩ ⟨#[]⟩ (X.map (·.1))) := by
  subst ha
  have hb : Below W.heap.size W (W.alloc (.cells (X.flatMap fun x => (cellsF x.1 x.2).toList).toArray 26)) := (Below.refl _ W).alloc (Nat.le_refl _) _
  rw [KsAt]
  refine ⟨_, X.length, by rw [List.length_map], by rw [List.length_map]; omega, .inr ⟨W.heap.size, 0, rfl, by simp, KAt.of fun i hi => ?_⟩⟩
  rw [List.length_map] at hi
  have hget : ∀ (X : List (Ft × Value)) (i : Nat) (h : i < X.length) (c : Nat), c < 4 → (X.flatMap fun x => (cellsF x.1 x.2).toList)[i * 4 + c]? = (cellsF X[i].1 X[i].2).toList[c]? := by
    intro X
    induction X with
    | nil => intro i h; simp at h
    | cons x X ih =>
      intro i h c hc
      rw [List.flatMap_cons]
      have hl : (cellsF x.1 x.2).toList.length = 4 := rfl
      cases i with
      | zero => rw [List.getElem?_append_left (by omega)]; simp
      | succ i =>
        rw [List.getElem?_append_right (by omega), hl, show (i + 1) * 4 + c - 4 = i * 4 + c by omega, ih i (by simpa using h) c hc]
        simp
  have hcell : ∀ c, c < 4 → (W.alloc (.cells (X.flatMap fun x => (cellsF x.1 x.2).toList).toArray 26)).cell? ⟨W.heap.size, 0 + i * 4 + c, none⟩ = (cellsF X[i].1 X[i].2).toList[c]? := fun c hc => by
    rw [World.cell?_alloc_new, List.getElem?_toArray, Nat.zero_add, hget X i hi c hc]
  refine ⟨X[i].2, ?_, ?_, ?_, ?_, ?_⟩
  · rw [List.getElem_map]; exact hcell 0 (by omega)
  · rw [List.getElem_map]; exact hcell 1 (by omega)
  · rw [List.getElem_map]; exact hcell 2 (by omega)
  · exact hcell 3 (by omega)
  · rw [List.getElem_map]; exact KsAt.below hb _ _ (hk _ (List.getElem_mem hi))

/-- Line, of a filter whose kids were just laid. -/
theorem line_of (line : ByteArray) (hs : line.size ≤ 100000) (W : World) (o : Int) (X : List (Ft × Value)) (hX : X.length ≤ 1000) (hk : ∀ x ∈ X, KsAt W x.2 x.1) (hf : ∀ x ∈ X, Fit x.1) (ho : o ≠ 0) (hSh : W.ShapedOpen Try.prog) (arr : Array Value) (ha : arr = (X.flatMap fun x => (cellsF x.1 x.2).toList).toArray) :
    Calls Try.prog 9 #[.agg #[.int .i64 o, .string ⟨#[]⟩, .string ⟨#[]⟩, .slice (some ⟨W.heap.size, 0, none⟩) X.length X.length], .string line] (W.alloc (.cells arr 26)) fun e w' =>
      e = .returned (.bool (keeps line (.mk o ⟨#[]⟩ ⟨#[]⟩ (X.map (·.1))))) ∧ Below W.heap.size W w' := by
  have hb : Below W.heap.size W (W.alloc (.cells arr 26)) := (Below.refl _ W).alloc (Nat.le_refl _) _
  refine (line_any line hs (.mk o ⟨#[]⟩ ⟨#[]⟩ (X.map (·.1))) (.mk _ _ _ _ ho fit_nil fit_nil fun x hx => ?_) _ _ ⟨_, rfl, kids_at W o X hX hk arr ha⟩ (shaped_below hSh hb)).mono fun e w' ⟨he, hb'⟩ => ⟨he, hb.trans (hb'.mono hb.size)⟩
  obtain ⟨y, hy, rfl⟩ := List.mem_map.1 hx
  exact hf y hy

theorem FG.two {W : World} {A B : Nat} {F G : Ft} {kf kg : Value} (h : FG W A B F G kf kg) : ∀ x ∈ [(F, kf), (G, kg)], KsAt W x.2 x.1 := by
  intro x hx
  simp only [List.mem_cons, List.not_mem_nil, or_false] at hx
  rcases hx with rfl | rfl
  · exact h.kf
  · exact h.kg
theorem FG.two' {W : World} {A B : Nat} {F G : Ft} {kf kg : Value} (h : FG W A B F G kf kg) : ∀ x ∈ [(G, kg), (F, kf)], KsAt W x.2 x.1 := by
  intro x hx
  simp only [List.mem_cons, List.not_mem_nil, or_false] at hx
  rcases hx with rfl | rfl
  · exact h.kg
  · exact h.kf
theorem FG.three {W : World} {A B : Nat} {F G : Ft} {kf kg : Value} (h : FG W A B F G kf kg) : ∀ x ∈ [(G, kg), (F, kf), (G, kg)], KsAt W x.2 x.1 := by
  intro x hx
  simp only [List.mem_cons, List.not_mem_nil, or_false] at hx
  rcases hx with rfl | rfl | rfl
  · exact h.kg
  · exact h.kf
  · exact h.kg
theorem fits_two {F G : Ft} {u v : Value} (hf : Fit F) (hg : Fit G) : ∀ x ∈ [(F, u), (G, v)], Fit x.1 := by
  intro x hx
  simp only [List.mem_cons, List.not_mem_nil, or_false] at hx
  rcases hx with rfl | rfl
  · exact hf
  · exact hg
theorem fits_three {F G : Ft} {u v z : Value} (hf : Fit F) (hg : Fit G) : ∀ x ∈ [(F, u), (G, v), (F, z)], Fit x.1 := by
  intro x hx
  simp only [List.mem_cons, List.not_mem_nil, or_false] at hx
  rcases hx with rfl | rfl | rfl
  · exact hf
  · exact hg
  · exact hf

/-- What and, or keep doesn't hang on the kids' order, nor on how often one stands there. -/
theorem order_bits (line : ByteArray) (F G : Ft) (o : Int) (ho : o = 7 ∨ o = 8) : ∃ r, keeps line (.mk o ⟨#[]⟩ ⟨#[]⟩ [F, G]) = r ∧ keeps line (.mk o ⟨#[]⟩ ⟨#[]⟩ [G, F]) = r ∧ keeps line (.mk o ⟨#[]⟩ ⟨#[]⟩ [G, F, G]) = r := by
  refine ⟨_, rfl, ?_, ?_⟩
  all_goals
    rcases ho with rfl | rfl
    · rw [keeps_and, keeps_and]
      cases hF : keeps line F <;> cases hG : keeps line G <;> simp [hF, hG]
    · rw [keeps_or, keeps_or]
      cases hF : keeps line F <;> cases hG : keeps line G <;> simp [hF, hG]

set_option maxHeartbeats 8000000 in
set_option maxRecDepth 100000 in
theorem order_walk (l m : List Int) (u v : Value) (line : ByteArray) (w : World) (hu : IntsAt w u l) (hv : IntsAt w v m) (hSh : w.ShapedOpen Try.prog) :
    Calls Try.prog 5 #[u, v, .string line] w fun e w' => e = .returned (.bool true) ∧ Below w.heap.size w w' := by
  have HA := Lib.hid (alive_any w hSh)
  have HS := Lib.hid hSh
  have HU := Lib.hid hu
  have HV := Lib.hid hv
  obtain ⟨a, cap, rfl, hl63, _⟩ := id hu
  obtain ⟨b, cbp, rfl, hm63, _⟩ := id hv
  clear hSh hu hv
  by_cases hg : 300 < l.length ∨ 300 < m.length ∨ 1000 < line.size
  · have hg' : decide (300 < (l.length : Int)) = true ∨ (decide (300 < (l.length : Int)) = false ∧ decide (300 < (m.length : Int)) = true) ∨ (decide (300 < (l.length : Int)) = false ∧ decide (300 < (m.length : Int)) = false ∧ decide (1000 < (line.size : Int)) = true) := by
      simp
      omega
    rcases hg' with hd | ⟨hd, hd1⟩ | ⟨hd, hd1, hd2⟩
    all_goals
      go_enter Try.func5, Try.ntmps5
      go_wp2_with (go_at_call 6; refine HA.out.mono ?_; rintro e w1 ⟨rfl, hb1⟩)
      go_ret
      exact ⟨rfl, hb1⟩
  have d0 : decide (300 < (l.length : Int)) = false := by simp; omega
  have d1 : decide (300 < (m.length : Int)) = false := by simp; omega
  have d2 : decide (1000 < (line.size : Int)) = false := by simp; omega
  have hline : line.size ≤ 100000 := by omega
  clear hg
  go_enter Try.func5, Try.ntmps5
  go_wp2_with fail
  refine HA.out.mono ?_
  rintro e w1 ⟨rfl, hb1⟩
  have HB1 := Lib.hid hb1
  have HF := Lib.hid (filter_any l w1 _ (HU.out.below9 hb1))
  clear hb1 HA
  go_wp2_with fail
  refine HF.out.mono ?_
  rintro e w2 ⟨kf, rfl, hkf, hb2⟩
  have HB2 := Lib.hid (HB1.out.trans (hb2.mono HB1.out.size))
  have HG := Lib.hid (filter_any m w2 _ (HV.out.below9 HB2.out))
  have HFF := Lib.hid (make_fit l 4 0)
  generalize (Ft.make l 4 0).1 = F at hkf HFF ⊢
  obtain ⟨af, cf, rfl⟩ := id hkf.shape
  have HKF := Lib.hid hkf
  clear hb2 hkf HF
  simp only [Ft.val]
  go_wp2_with fail
  refine HG.out.mono ?_
  rintro e w3 ⟨kg, rfl, hkg, hb3⟩
  have HB3 := Lib.hid (HB2.out.trans (hb3.mono HB2.out.size))
  have HFG := Lib.hid (make_fit m 4 0)
  generalize (Ft.make m 4 0).1 = G at hkg HFG ⊢
  obtain ⟨ag, cg, rfl⟩ := id hkg.shape
  have HKG := Lib.hid hkg
  have HKF3 := Lib.hid (KsAt.below hb3 _ _ HKF.out)
  clear hb3 hkg HG HKF
  simp only [Ft.val]
  go_wp2_with fail
  have hb4 : Below w3.heap.size w3 (((w3.alloc (.cells (cellsF F (.slice af F.kids.length cf)) 26)).alloc (.cells (cellsF G (.slice ag G.kids.length cg)) 26)).alloc (.cells #[.int .i64 7, .int .i64 8] 3)) := (((Below.refl _ w3).alloc (Nat.le_refl _) _).alloc (by simp) _).alloc (by simp; omega) _
  have hf4 : CB (((w3.alloc (.cells (cellsF F (.slice af F.kids.length cf)) 26)).alloc (.cells (cellsF G (.slice ag G.kids.length cg)) 26)).alloc (.cells #[.int .i64 7, .int .i64 8] 3)) w3.heap.size 26 (cellsF F (.slice af F.kids.length cf)) := (Below.heap_alloc _ _ _ (by simp; omega)).trans ((Below.heap_alloc _ _ _ (by simp)).trans (CB.new w3 26 _))
  have hg4 : CB (((w3.alloc (.cells (cellsF F (.slice af F.kids.length cf)) 26)).alloc (.cells (cellsF G (.slice ag G.kids.length cg)) 26)).alloc (.cells #[.int .i64 7, .int .i64 8] 3)) (w3.heap.size + 1) 26 (cellsF G (.slice ag G.kids.length cg)) := by
    have := CB.new (w3.alloc (.cells (cellsF F (.slice af F.kids.length cf)) 26)) 26 (cellsF G (.slice ag G.kids.length cg))
    rw [World.size_alloc] at this
    exact (Below.heap_alloc _ _ _ (by simp)).trans this
  have hl4 : CB (((w3.alloc (.cells (cellsF F (.slice af F.kids.length cf)) 26)).alloc (.cells (cellsF G (.slice ag G.kids.length cg)) 26)).alloc (.cells #[.int .i64 7, .int .i64 8] 3)) (w3.heap.size + 1 + 1) 3 #[.int .i64 7, .int .i64 8] := by
    have := CB.new ((w3.alloc (.cells (cellsF F (.slice af F.kids.length cf)) 26)).alloc (.cells (cellsF G (.slice ag G.kids.length cg)) 26)) 3 #[.int .i64 7, .int .i64 8]
    rw [World.size_alloc, World.size_alloc] at this
    exact this
  have HP : Hid (FG _ w3.heap.size (w3.heap.size + 1) F G (.slice af F.kids.length cf) (.slice ag G.kids.length cg)) := Lib.hid ⟨hf4, hg4, KsAt.below hb4 _ _ HKF3.out, KsAt.below hb4 _ _ HKG.out, shaped_below HS.out (HB3.out.trans (hb4.mono HB3.out.size))⟩
  have HB4 := Lib.hid (HB3.out.trans (hb4.mono HB3.out.size))
  have HL4 := Lib.hid hl4
  clear hb4 hf4 hg4 hl4 HKF3 HKG HS HB1 HB2 HB3 HU HV
  simp only [cellsF] at HP HB4 HL4
  revert HP HB4 HL4
  generalize ((w3.alloc (.cells #[.int .i64 F.op, .string F.name, .string F.text, .slice af F.kids.length cf] 26)).alloc (.cells #[.int .i64 G.op, .string G.name, .string G.text, .slice ag G.kids.length cg] 26)).alloc (.cells #[.int .i64 7, .int .i64 8] 3) = w4
  generalize w3.heap.size + 1 + 1 = C
  generalize w3.heap.size + 1 = B
  generalize w3.heap.size = A
  intro HP HB4 HL4
  go_loopw [33] (fun vi wr => ∃ i : Nat, vi = .int .i64 i ∧ i ≤ 2 ∧ Below w4.heap.size w4 wr) (fun vi _ => 2 - (intOf vi).toNat)
  case atStart => exact ⟨0, rfl, Nat.zero_le _, Below.refl _ _⟩
  case round =>
    obtain ⟨i, rfl, hi, hb⟩ := hrel
    have HBR := Lib.hid hb
    have HQ := Lib.hid (HP.out.below hb)
    have hl5 := (hb.block _ HL4.out.lt).trans HL4.out
    clear hb
    by_cases hlt : i < 2
    case neg =>
      obtain rfl : i = 2 := by omega
      clear hl5
      go_wp2_with fail
      go_ret
      exact ⟨rfl, HB4.out.trans (HBR.out.mono HB4.out.size)⟩
    obtain ⟨o, ho, hcell⟩ : ∃ o : Int, (o = 7 ∨ o = 8) ∧ wr.cell? ⟨C, i, none⟩ = some (.int .i64 o) := by
      rcases (show i = 0 ∨ i = 1 by omega) with rfl | rfl
      · exact ⟨7, .inl rfl, by rw [CB.cell hl5]; rfl⟩
      · exact ⟨8, .inr rfl, by rw [CB.cell hl5]; rfl⟩
    have HCELL := Lib.hid hcell
    have f0 := CB.cell HQ.out.f 0
    have f1 := CB.cell HQ.out.f 1
    have f2 := CB.cell HQ.out.f 2
    have f3 := CB.cell HQ.out.f 3
    have g0 := CB.cell HQ.out.g 0
    have g1 := CB.cell HQ.out.g 1
    have g2 := CB.cell HQ.out.g 2
    have g3 := CB.cell HQ.out.g 3
    simp only [cellsF, List.getElem?_toArray, List.getElem?_cons_succ, List.getElem?_cons_zero] at f0 f1 f2 f3 g0 g1 g2 g3
    clear hl5
    have hilt : i < 2 := hlt
    clear hlt
    obtain ⟨r, h1, h2, h3⟩ := order_bits line F G o ho
    have HK1 := Lib.hid (line_of line hline wr o [(F, .slice af F.kids.length cf), (G, .slice ag G.kids.length cg)] (by simp) HQ.out.two (fits_two HFF.out HFG.out) (by omega) HQ.out.sh _ rfl)
    simp only [List.map_cons, List.map_nil] at HK1
    rw [h1] at HK1
    have H2 := Lib.hid h2
    have H3' := Lib.hid h3
    clear h1 h2 h3
    go_wp2_with fail
    refine HK1.out.mono ?_
    rintro e w5 ⟨rfl, hb5⟩
    have HQ5 := Lib.hid (HQ.out.below hb5)
    have HBR5 := Lib.hid (HBR.out.trans (hb5.mono HBR.out.size))
    have HK2 := Lib.hid (line_of line hline w5 o [(G, .slice ag G.kids.length cg), (F, .slice af F.kids.length cf)] (by simp) HQ5.out.two' (fits_two HFG.out HFF.out) (by omega) HQ5.out.sh _ rfl)
    simp only [List.map_cons, List.map_nil] at HK2
    rw [H2.out] at HK2
    clear hb5 f0 f1 f2 f3 g0 g1 g2 g3 HQ HBR HK1 HCELL
    have f0 := CB.cell HQ5.out.f 0
    have f1 := CB.cell HQ5.out.f 1
    have f2 := CB.cell HQ5.out.f 2
    have f3 := CB.cell HQ5.out.f 3
    have g0 := CB.cell HQ5.out.g 0
    have g1 := CB.cell HQ5.out.g 1
    have g2 := CB.cell HQ5.out.g 2
    have g3 := CB.cell HQ5.out.g 3
    simp only [cellsF, List.getElem?_toArray, List.getElem?_cons_succ, List.getElem?_cons_zero] at f0 f1 f2 f3 g0 g1 g2 g3
    go_wp2_with fail
    refine HK2.out.mono ?_
    rintro e w6 ⟨rfl, hb6⟩
    have HQ6 := Lib.hid (HQ5.out.below hb6)
    have HBR6 := Lib.hid (HBR5.out.trans (hb6.mono HBR5.out.size))
    have HK3 := Lib.hid (line_of line hline w6 o [(G, .slice ag G.kids.length cg), (F, .slice af F.kids.length cf), (G, .slice ag G.kids.length cg)] (by simp) HQ6.out.three (fits_three HFG.out HFF.out) (by omega) HQ6.out.sh _ rfl)
    simp only [List.map_cons, List.map_nil] at HK3
    rw [H3'.out] at HK3
    clear hb6 f0 f1 f2 f3 g0 g1 g2 g3 HQ5 HBR5 HK2
    have f0 := CB.cell HQ6.out.f 0
    have f1 := CB.cell HQ6.out.f 1
    have f2 := CB.cell HQ6.out.f 2
    have f3 := CB.cell HQ6.out.f 3
    have g0 := CB.cell HQ6.out.g 0
    have g1 := CB.cell HQ6.out.g 1
    have g2 := CB.cell HQ6.out.g 2
    have g3 := CB.cell HQ6.out.g 3
    simp only [cellsF, List.getElem?_toArray, List.getElem?_cons_succ, List.getElem?_cons_zero] at f0 f1 f2 f3 g0 g1 g2 g3
    have hrr : (r != r) = false := by cases r <;> rfl
    go_wp2_with fail
    refine HK3.out.mono ?_
    rintro e w7 ⟨rfl, hb7⟩
    have HBR7 := Lib.hid (HBR6.out.trans (hb7.mono HBR6.out.size))
    clear hb7 f0 f1 f2 f3 g0 g1 g2 g3 HQ6 HBR6 HK3
    go_wp2_with fail
    go_roundw
    case rel => exact ⟨i + 1, by go_num, by omega, HBR7.out⟩
    case measure => simp [intOf]; omega
end Go.Proofs.Ytbcpcahfafghkaa
