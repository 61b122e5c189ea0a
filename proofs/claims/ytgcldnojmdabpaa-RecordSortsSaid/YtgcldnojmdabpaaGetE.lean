/-
  record.Get.
-/
import Derived.Test.YtgcldnojmdabpaaGet
namespace Go.Proofs.Ytgcldnojmdabpaa
open Go.RowKit Go

/-- A block of three cells. -/
structure Bx (W : World) (k : Nat) (u0 u1 u2 : Value) : Prop where
  c0 : W.cell? ⟨k, 0, none⟩ = some u0
  c1 : W.cell? ⟨k, 1, none⟩ = some u1
  c2 : W.cell? ⟨k, 2, none⟩ = some u2
  f0 : W.frozen? ⟨k, 0, none⟩ = false
  f1 : W.frozen? ⟨k, 1, none⟩ = false
  f2 : W.frozen? ⟨k, 2, none⟩ = false

theorem Bx.carry {W W' : World} {k : Nat} {u0 u1 u2 : Value} (h : Bx W k u0 u1 u2) (hb : W'.heap[k]? = W.heap[k]?) : Bx W' k u0 u1 u2 :=
  ⟨(World.cell?_of_block (a := ⟨k, 0, none⟩) hb).trans h.c0, (World.cell?_of_block (a := ⟨k, 1, none⟩) hb).trans h.c1, (World.cell?_of_block (a := ⟨k, 2, none⟩) hb).trans h.c2,
   (World.frozen?_of_block (a := ⟨k, 0, none⟩) hb).trans h.f0, (World.frozen?_of_block (a := ⟨k, 1, none⟩) hb).trans h.f1, (World.frozen?_of_block (a := ⟨k, 2, none⟩) hb).trans h.f2⟩

theorem Bx.set0 {W : World} {k : Nat} {u0 u1 u2 : Value} (h : Bx W k u0 u1 u2) (u : Value) : Bx (W.setCell ⟨k, 0, none⟩ u) k u u1 u2 := by
  obtain ⟨c0, c1, c2, f0, f1, f2⟩ := h
  exact ⟨by go_simp, by go_simp, by go_simp, by go_simp, by go_simp, by go_simp⟩
theorem Bx.set1 {W : World} {k : Nat} {u0 u1 u2 : Value} (h : Bx W k u0 u1 u2) (u : Value) : Bx (W.setCell ⟨k, 1, none⟩ u) k u0 u u2 := by
  obtain ⟨c0, c1, c2, f0, f1, f2⟩ := h
  exact ⟨by go_simp, by go_simp, by go_simp, by go_simp, by go_simp, by go_simp⟩
theorem Bx.set2 {W : World} {k : Nat} {u0 u1 u2 : Value} (h : Bx W k u0 u1 u2) (u : Value) : Bx (W.setCell ⟨k, 2, none⟩ u) k u0 u1 u := by
  obtain ⟨c0, c1, c2, f0, f1, f2⟩ := h
  exact ⟨by go_simp, by go_simp, by go_simp, by go_simp, by go_simp, by go_simp⟩

def eZ : Ent := ⟨0, [], ⟨#[]⟩⟩

/-- What reading an entry leaves. -/
def GetPost (g : Nat) (l : List UInt8) (bad : Bool) (w : World) (e : Ending) (w' : World) : Prop :=
  ∃ (x : Ent) (lv : Value) (l' : List UInt8) (bad' : Bool), RE l bad x l' bad' ∧ (-9223372036854775808 ≤ x.tm ∧ x.tm ≤ 9223372036854775807) ∧ Rd w' g l' bad' ∧ Chg g w w' ∧ LabsAt (fun b => w.heap.size ≤ b) w' lv x.labs ∧
    e = .returned (.tuple (if (!bad' && x.ok) = true then #[x.val lv, .bool true] else #[eZ.val (.slice none 0 0), .bool false]))

set_option maxHeartbeats 8000000 in
set_option maxRecDepth 100000 in
theorem get_any (g : Nat) (l : List UInt8) (bad : Bool) (w : World) (h : Rd w g l bad) : Calls Try.prog 31 #[.pointer (some ⟨g, 0, none⟩)] w (GetPost g l bad w) := by
  have hgs : g < w.heap.size := h.lt
  have hc1 : Chg g w ((w.alloc (.cells #[.int .i64 0, .slice none 0 0, .string ⟨#[]⟩] 24)).alloc (.cells #[.int .i64 0, .slice none 0 0, .string ⟨#[]⟩] 24)) := (Chg.alloc g w _).trans (Chg.alloc g _ _)
  have hbr : Bx ((w.alloc (.cells #[.int .i64 0, .slice none 0 0, .string ⟨#[]⟩] 24)).alloc (.cells #[.int .i64 0, .slice none 0 0, .string ⟨#[]⟩] 24)) w.heap.size (.int .i64 0) (.slice none 0 0) (.string ⟨#[]⟩) := ⟨by go_simp, by go_simp, by go_simp, by go_simp, by go_simp, by go_simp⟩
  have hbe : Bx ((w.alloc (.cells #[.int .i64 0, .slice none 0 0, .string ⟨#[]⟩] 24)).alloc (.cells #[.int .i64 0, .slice none 0 0, .string ⟨#[]⟩] 24)) (w.heap.size + 1) (.int .i64 0) (.slice none 0 0) (.string ⟨#[]⟩) := ⟨by go_simp, by go_simp, by go_simp, by go_simp, by go_simp, by go_simp⟩
  have hrd1 : Rd ((w.alloc (.cells #[.int .i64 0, .slice none 0 0, .string ⟨#[]⟩] 24)).alloc (.cells #[.int .i64 0, .slice none 0 0, .string ⟨#[]⟩] 24)) g l bad := (h.alloc _).alloc _
  have hsz : w.heap.size + 2 ≤ ((w.alloc (.cells #[.int .i64 0, .slice none 0 0, .string ⟨#[]⟩] 24)).alloc (.cells #[.int .i64 0, .slice none 0 0, .string ⟨#[]⟩] 24)).heap.size := by simp
  have HBR := Lib.hid hbr
  have HBE := Lib.hid hbe
  have HC1 := Lib.hid hc1
  have HI := Lib.hid (int_rd g l bad _ hrd1)
  have HSZ := Lib.hid hsz
  clear h hc1 hbr hbe hrd1 hsz
  go_enter Try.func31, Try.ntmps31
  go_wp2_with fail
  generalize (w.alloc (.cells #[.int .i64 0, .slice none 0 0, .string ⟨#[]⟩] 24)).alloc (.cells #[.int .i64 0, .slice none 0 0, .string ⟨#[]⟩] 24) = w1 at HBR HBE HC1 HI HSZ ⊢
  refine HI.out.mono ?_
  rintro e w2 ⟨n, l1, b1, rfl, hru, hrd, hon⟩
  have hb2 := HBE.out.carry (hon.block (w.heap.size + 1) (by omega))
  have HBR2 := Lib.hid (HBR.out.carry (hon.block w.heap.size (by omega)))
  have HBE2 := Lib.hid hb2
  obtain ⟨x0, x1, x2, z0, z1, z2⟩ := hb2
  have HRU := Lib.hid hru
  have HC2 := Lib.hid (HC1.out.trans hon.chg)
  have HSZ2 : Hid (w.heap.size + 2 ≤ w2.heap.size) := Lib.hid (by have := HSZ.out; have := hon.size; omega)
  have HRD2 := Lib.hid hrd
  have HG := Lib.hid (getLabels_any g l1 b1 (w2.setCell ⟨w.heap.size + 1, 0, none⟩ (.int .i64 (Lib.unzigzag n))) (hrd.carry (Below.heap_setCell _ _ _ _ (by show g ≠ w.heap.size + 1; omega))))
  clear hru hrd hon HI
  go_wp2_with fail
  have HBR3 := Lib.hid (HBR2.out.carry (W' := w2.setCell ⟨w.heap.size + 1, 0, none⟩ (.int .i64 (Lib.unzigzag n))) (Below.heap_setCell _ _ _ _ (by show w.heap.size ≠ w.heap.size + 1; omega)))
  have HBE3 := Lib.hid (HBE2.out.set0 (.int .i64 (Lib.unzigzag n)))
  have HC3 := Lib.hid (HC2.out.set (p := ⟨w.heap.size + 1, 0, none⟩) (by show w.heap.size ≤ w.heap.size + 1; omega) (.int .i64 (Lib.unzigzag n)))
  have HSZ3 : Hid (w.heap.size + 2 ≤ (w2.setCell ⟨w.heap.size + 1, 0, none⟩ (.int .i64 (Lib.unzigzag n))).heap.size) := Lib.hid (by have := HSZ2.out; simpa [World.setCell] using this)
  generalize w2.setCell ⟨w.heap.size + 1, 0, none⟩ (.int .i64 (Lib.unzigzag n)) = w3 at HBR3 HBE3 HC3 HG HSZ3 ⊢
  clear x0 x1 x2 z0 z1 z2 HBR2 HBE2 HC2 HRD2
  refine HG.out.mono ?_
  rintro e w4 ⟨lv, ls, l2, b2, l3, b3, rfl, hru2, hrls, hrd4, hch4, hlabs⟩
  obtain ⟨a, ca, rfl, _⟩ := id hlabs
  have hsz3 := HSZ3.out
  have hb4 := HBE3.out.carry (hch4.block (w.heap.size + 1) (by omega) (by omega))
  have HBR4 := Lib.hid (HBR3.out.carry (hch4.block w.heap.size (by omega) (by omega)))
  have HBE4 := Lib.hid hb4
  obtain ⟨x0, x1, x2, z0, z1, z2⟩ := hb4
  have HRU2 := Lib.hid hru2
  have HRLS := Lib.hid hrls
  have HC4 := Lib.hid (HC3.out.trans hch4)
  have HSZ4 : Hid (w.heap.size + 2 ≤ w4.heap.size) := Lib.hid (Nat.le_trans hsz3 hch4.size)
  have hlabs4 : LabsAt (fun b => w.heap.size + 2 ≤ b) w4 (.slice a ls.length ca) ls := hlabs.mono fun b hb _ => by omega
  have HLB4 := Lib.hid hlabs4
  have HT := Lib.hid (text_rd 200 g (by omega) l3 b3 (w4.setCell ⟨w.heap.size + 1, 1, none⟩ (.slice a ls.length ca)) (hrd4.carry (Below.heap_setCell _ _ _ _ (by show g ≠ w.heap.size + 1; omega))) 200 rfl)
  clear hru2 hrls hrd4 hch4 hlabs hlabs4 HG hsz3
  go_wp2_with fail
  have HBR5 := Lib.hid (HBR4.out.carry (W' := w4.setCell ⟨w.heap.size + 1, 1, none⟩ (.slice a ls.length ca)) (Below.heap_setCell _ _ _ _ (by show w.heap.size ≠ w.heap.size + 1; omega)))
  have HBE5 := Lib.hid (HBE4.out.set1 (.slice a ls.length ca))
  have HC5 := Lib.hid (HC4.out.set (p := ⟨w.heap.size + 1, 1, none⟩) (by show w.heap.size ≤ w.heap.size + 1; omega) (.slice a ls.length ca))
  have HSZ5 : Hid (w.heap.size + 2 ≤ (w4.setCell ⟨w.heap.size + 1, 1, none⟩ (.slice a ls.length ca)).heap.size) := Lib.hid (by have := HSZ4.out; simpa [World.setCell] using this)
  have HLB5 : Hid (LabsAt (fun b => w.heap.size + 2 ≤ b) (w4.setCell ⟨w.heap.size + 1, 1, none⟩ (.slice a ls.length ca)) (.slice a ls.length ca) ls) := Lib.hid (HLB4.out.carry (by simp [World.setCell]) fun b hb _ => Below.heap_setCell _ _ _ _ (by show b ≠ w.heap.size + 1; omega))
  generalize w4.setCell ⟨w.heap.size + 1, 1, none⟩ (.slice a ls.length ca) = w5 at HBR5 HBE5 HC5 HT HSZ5 HLB5 ⊢
  clear x0 x1 x2 z0 z1 z2 HBR4 HBE4 HC4 HLB4
  refine HT.out.mono ?_
  rintro e w6 ⟨s, l6, b6, rfl, ht, hrd6, hon6⟩
  have hb6 := HBE5.out.carry (hon6.block (w.heap.size + 1) (by omega))
  have HBR6 := Lib.hid (HBR5.out.carry (hon6.block w.heap.size (by omega)))
  have HBE6 := Lib.hid hb6
  obtain ⟨x0, x1, x2, z0, z1, z2⟩ := hb6
  have HRT := Lib.hid ht
  have HC6 := Lib.hid (HC5.out.trans hon6.chg)
  have HSZ6 : Hid (w.heap.size + 2 ≤ w6.heap.size) := Lib.hid (by have := HSZ5.out; have := hon6.size; omega)
  have HLB6 : Hid (LabsAt (fun b => w.heap.size + 2 ≤ b) w6 (.slice a ls.length ca) ls) := Lib.hid (HLB5.out.carry (Nat.le_of_eq hon6.size.symm) fun b hb _ => hon6.block b (by omega))
  have HRD7 : Hid (Rd (w6.setCell ⟨w.heap.size + 1, 2, none⟩ (.string s)) g l6 b6) := Lib.hid (hrd6.carry (Below.heap_setCell _ _ _ _ (by show g ≠ w.heap.size + 1; omega)))
  have HB := Lib.hid (bad_any g l6 b6 _ HRD7.out)
  clear ht hrd6 hon6 HT
  go_wp2_with fail
  have HBR7 := Lib.hid (HBR6.out.carry (W' := w6.setCell ⟨w.heap.size + 1, 2, none⟩ (.string s)) (Below.heap_setCell _ _ _ _ (by show w.heap.size ≠ w.heap.size + 1; omega)))
  have HBE7 := Lib.hid (HBE6.out.set2 (.string s))
  have HC7 := Lib.hid (HC6.out.set (p := ⟨w.heap.size + 1, 2, none⟩) (by show w.heap.size ≤ w.heap.size + 1; omega) (.string s))
  have HSZ7 : Hid (w.heap.size + 2 ≤ (w6.setCell ⟨w.heap.size + 1, 2, none⟩ (.string s)).heap.size) := Lib.hid (by have := HSZ6.out; simpa [World.setCell] using this)
  have HLB7 : Hid (LabsAt (fun b => w.heap.size + 2 ≤ b) (w6.setCell ⟨w.heap.size + 1, 2, none⟩ (.string s)) (.slice a ls.length ca) ls) := Lib.hid (HLB6.out.carry (by simp [World.setCell]) fun b hb _ => Below.heap_setCell _ _ _ _ (by show b ≠ w.heap.size + 1; omega))
  generalize w6.setCell ⟨w.heap.size + 1, 2, none⟩ (.string s) = w7 at HBR7 HBE7 HC7 HB HSZ7 HLB7 HRD7 ⊢
  clear x0 x1 x2 z0 z1 z2 HBR6 HBE6 HC6 HLB6
  have hub := unzig_bounds n HRU.out.lt
  have HRE : Hid (RE l bad ⟨Lib.unzigzag n, ls, s⟩ l6 b6) := Lib.hid ⟨n, l1, b1, l2, b2, l3, b3, HRU.out, rfl, HRU2.out, HRLS.out, HRT.out⟩
  have HUB := Lib.hid hub
  clear hub HRU HRU2 HRLS HRT
  generalize Lib.unzigzag n = tm at HRE HUB HBE7
  obtain ⟨r0, r1, r2, p0, p1, p2⟩ := HBR7.out
  obtain ⟨x0, x1, x2, z0, z1, z2⟩ := HBE7.out
  refine HB.out.mono ?_
  rintro e w8 ⟨rfl, rfl⟩
  have HGD : Hid (Calls Try.prog 14 #[.agg #[.int .i64 tm, .slice a ls.length ca, .string s]] w7 fun e w' => e = .returned (.bool (Ent.ok ⟨tm, ls, s⟩)) ∧ Lay w7 w') := Lib.hid (good_any (e := ⟨tm, ls, s⟩) HLB7.out)
  have HRDL := Lib.hid HRD7.out.lt
  cases b6 with
  | true =>
    go_wp2_with fail
    have hq := ((HBR7.out.set0 (.int .i64 0)).set1 (.slice none 0 0)).set2 (.string ⟨#[]⟩)
    obtain ⟨q0, q1, q2, _, _, _⟩ := hq
    refine bodyPost_ret (v := .tuple #[.agg #[.int .i64 0, .slice none 0 0, .string ⟨#[]⟩], .bool false]) (by simp [results, Try.results31, go_sem, q0, q1, q2]) rfl ?_
    refine ⟨⟨tm, ls, s⟩, .slice a ls.length ca, l6, true, HRE.out, HUB.out, ?_, ?_, ?_, rfl⟩
    · exact ((HRD7.out.carry (Below.heap_setCell _ _ _ _ (by show g ≠ w.heap.size; omega))).carry (Below.heap_setCell _ _ _ _ (by show g ≠ w.heap.size; omega))).carry (Below.heap_setCell _ _ _ _ (by show g ≠ w.heap.size; omega))
    · exact ((HC7.out.set (Nat.le_refl _) _).set (p := ⟨w.heap.size, 1, none⟩) (Nat.le_refl _) _).set (p := ⟨w.heap.size, 2, none⟩) (Nat.le_refl _) _
    · exact (HLB7.out.carry (by simp [World.setCell]) fun b hb _ => ((Below.heap_setCell _ _ _ _ (by show b ≠ w.heap.size; omega)).trans (Below.heap_setCell _ _ _ _ (by show b ≠ w.heap.size; omega))).trans (Below.heap_setCell _ _ _ _ (by show b ≠ w.heap.size; omega))).mono fun b hb _ => by omega
  | false =>
    go_wp2_with fail
    refine HGD.out.mono ?_
    rintro e w9 ⟨rfl, hl9⟩
    have hsz7 := HSZ7.out
    have hb9 := HBR7.out.carry (hl9.block (k := w.heap.size) (by omega))
    have HRD9 := Lib.hid (HRD7.out.carry (hl9.block (k := g) HRDL.out))
    have HC9 : Hid (Chg g w w9) := Lib.hid (HC7.out.trans ⟨hl9.os, hl9.tape, hl9.output, hl9.size, fun k hk _ => hl9.block hk⟩)
    have HLB9 := Lib.hid (HLB7.out.lay hl9)
    have hbe9 := HBE7.out.carry (hl9.block (k := w.heap.size + 1) (by omega))
    clear r0 r1 r2 p0 p1 p2 x0 x1 x2 z0 z1 z2 hl9 hsz7
    have HB9 := Lib.hid hb9
    obtain ⟨r0, r1, r2, p0, p1, p2⟩ := hb9
    obtain ⟨x0, x1, x2, z0, z1, z2⟩ := hbe9
    cases hok : (Ent.ok ⟨tm, ls, s⟩) with
    | true =>
      have HOK := Lib.hid hok
      clear hok
      go_wp2_with fail
      have hq := ((HB9.out.set0 (.int .i64 tm)).set1 (.slice a ls.length ca)).set2 (.string s)
      obtain ⟨q0, q1, q2, _, _, _⟩ := hq
      refine bodyPost_ret (v := .tuple #[.agg #[.int .i64 tm, .slice a ls.length ca, .string s], .bool true]) (by simp [results, Try.results31, go_sem, q0, q1, q2]) rfl ?_
      refine ⟨⟨tm, ls, s⟩, .slice a ls.length ca, l6, false, HRE.out, HUB.out, ?_, ?_, ?_, by rw [HOK.out]; rfl⟩
      · exact ((HRD9.out.carry (Below.heap_setCell _ _ _ _ (by show g ≠ w.heap.size; omega))).carry (Below.heap_setCell _ _ _ _ (by show g ≠ w.heap.size; omega))).carry (Below.heap_setCell _ _ _ _ (by show g ≠ w.heap.size; omega))
      · exact ((HC9.out.set (Nat.le_refl _) _).set (p := ⟨w.heap.size, 1, none⟩) (Nat.le_refl _) _).set (p := ⟨w.heap.size, 2, none⟩) (Nat.le_refl _) _
      · exact (HLB9.out.carry (by simp [World.setCell]) fun b hb _ => ((Below.heap_setCell _ _ _ _ (by show b ≠ w.heap.size; omega)).trans (Below.heap_setCell _ _ _ _ (by show b ≠ w.heap.size; omega))).trans (Below.heap_setCell _ _ _ _ (by show b ≠ w.heap.size; omega))).mono fun b hb _ => by omega
    | false =>
      have HOK := Lib.hid hok
      clear hok
      go_wp2_with fail
      have hq := ((HB9.out.set0 (.int .i64 0)).set1 (.slice none 0 0)).set2 (.string ⟨#[]⟩)
      obtain ⟨q0, q1, q2, _, _, _⟩ := hq
      refine bodyPost_ret (v := .tuple #[.agg #[.int .i64 0, .slice none 0 0, .string ⟨#[]⟩], .bool false]) (by simp [results, Try.results31, go_sem, q0, q1, q2]) rfl ?_
      refine ⟨⟨tm, ls, s⟩, .slice a ls.length ca, l6, false, HRE.out, HUB.out, ?_, ?_, ?_, by rw [HOK.out]; rfl⟩
      · exact ((HRD9.out.carry (Below.heap_setCell _ _ _ _ (by show g ≠ w.heap.size; omega))).carry (Below.heap_setCell _ _ _ _ (by show g ≠ w.heap.size; omega))).carry (Below.heap_setCell _ _ _ _ (by show g ≠ w.heap.size; omega))
      · exact ((HC9.out.set (Nat.le_refl _) _).set (p := ⟨w.heap.size, 1, none⟩) (Nat.le_refl _) _).set (p := ⟨w.heap.size, 2, none⟩) (Nat.le_refl _) _
      · exact (HLB9.out.carry (by simp [World.setCell]) fun b hb _ => ((Below.heap_setCell _ _ _ _ (by show b ≠ w.heap.size; omega)).trans (Below.heap_setCell _ _ _ _ (by show b ≠ w.heap.size; omega))).trans (Below.heap_setCell _ _ _ _ (by show b ≠ w.heap.size; omega))).mono fun b hb _ => by omega

end Go.Proofs.Ytgcldnojmdabpaa
