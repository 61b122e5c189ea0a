/-
  PACKAGE lex: row.
-/
import Derived.Test.YtpchlnikcdhklaaDoorOwnRow
namespace Go.Proofs.YtpchlnikcdhklaaDoor
open Go.RowKit Go

/-- A block of four cells. -/
structure Bx (W : World) (k : Nat) (u0 u1 u2 u3 : Value) : Prop where
  c0 : W.cell? ⟨k, 0, none⟩ = some u0
  c1 : W.cell? ⟨k, 1, none⟩ = some u1
  c2 : W.cell? ⟨k, 2, none⟩ = some u2
  c3 : W.cell? ⟨k, 3, none⟩ = some u3
  f0 : W.frozen? ⟨k, 0, none⟩ = false
  f1 : W.frozen? ⟨k, 1, none⟩ = false
  f2 : W.frozen? ⟨k, 2, none⟩ = false
  f3 : W.frozen? ⟨k, 3, none⟩ = false

theorem Bx.carry {W W' : World} {k : Nat} {u0 u1 u2 u3 : Value} (h : Bx W k u0 u1 u2 u3) (hb : W'.heap[k]? = W.heap[k]?) : Bx W' k u0 u1 u2 u3 :=
  ⟨(World.cell?_of_block (a := ⟨k, 0, none⟩) hb).trans h.c0, (World.cell?_of_block (a := ⟨k, 1, none⟩) hb).trans h.c1, (World.cell?_of_block (a := ⟨k, 2, none⟩) hb).trans h.c2, (World.cell?_of_block (a := ⟨k, 3, none⟩) hb).trans h.c3,
   (World.frozen?_of_block (a := ⟨k, 0, none⟩) hb).trans h.f0, (World.frozen?_of_block (a := ⟨k, 1, none⟩) hb).trans h.f1, (World.frozen?_of_block (a := ⟨k, 2, none⟩) hb).trans h.f2, (World.frozen?_of_block (a := ⟨k, 3, none⟩) hb).trans h.f3⟩

theorem Bx.set0 {W : World} {k : Nat} {u0 u1 u2 u3 : Value} (h : Bx W k u0 u1 u2 u3) (u : Value) : Bx (W.setCell ⟨k, 0, none⟩ u) k u u1 u2 u3 := by
  obtain ⟨c0, c1, c2, c3, f0, f1, f2, f3⟩ := h
  exact ⟨by go_simp, by go_simp, by go_simp, by go_simp, by go_simp, by go_simp, by go_simp, by go_simp⟩
theorem Bx.set1 {W : World} {k : Nat} {u0 u1 u2 u3 : Value} (h : Bx W k u0 u1 u2 u3) (u : Value) : Bx (W.setCell ⟨k, 1, none⟩ u) k u0 u u2 u3 := by
  obtain ⟨c0, c1, c2, c3, f0, f1, f2, f3⟩ := h
  exact ⟨by go_simp, by go_simp, by go_simp, by go_simp, by go_simp, by go_simp, by go_simp, by go_simp⟩
theorem Bx.set2 {W : World} {k : Nat} {u0 u1 u2 u3 : Value} (h : Bx W k u0 u1 u2 u3) (u : Value) : Bx (W.setCell ⟨k, 2, none⟩ u) k u0 u1 u u3 := by
  obtain ⟨c0, c1, c2, c3, f0, f1, f2, f3⟩ := h
  exact ⟨by go_simp, by go_simp, by go_simp, by go_simp, by go_simp, by go_simp, by go_simp, by go_simp⟩
theorem Bx.set3 {W : World} {k : Nat} {u0 u1 u2 u3 : Value} (h : Bx W k u0 u1 u2 u3) (u : Value) : Bx (W.setCell ⟨k, 3, none⟩ u) k u0 u1 u2 u := by
  obtain ⟨c0, c1, c2, c3, f0, f1, f2, f3⟩ := h
  exact ⟨by go_simp, by go_simp, by go_simp, by go_simp, by go_simp, by go_simp, by go_simp, by go_simp⟩

/-- A token that was stored there. -/
def stored (W : World) (k : Nat) (u0 u1 u2 u3 : Value) : World := (((W.setCell ⟨k, 0, none⟩ u0).setCell ⟨k, 1, none⟩ u1).setCell ⟨k, 2, none⟩ u2).setCell ⟨k, 3, none⟩ u3

theorem Bx.all {W : World} {k : Nat} {u0 u1 u2 u3 : Value} (h : Bx W k u0 u1 u2 u3) (v0 v1 v2 v3 : Value) : Bx (stored W k v0 v1 v2 v3) k v0 v1 v2 v3 :=
  (((h.set0 v0).set1 v1).set2 v2).set3 v3

theorem below_stored {n : Nat} {w W : World} {k : Nat} (h : Below n w W) (hk : n ≤ k) (u0 u1 u2 u3 : Value) : Below n w (stored W k u0 u1 u2 u3) :=
  (((h.setCell (p := ⟨k, 0, none⟩) hk u0).setCell (p := ⟨k, 1, none⟩) hk u1).setCell (p := ⟨k, 2, none⟩) hk u2).setCell (p := ⟨k, 3, none⟩) hk u3

/-- A new token. -/
def newTok (w : World) : World := w.alloc (.cells #[.int .i64 0, .string ⟨#[]⟩, .int .i64 0, .int .i64 0] 34)

theorem newTok_bx (w : World) : Bx (newTok w) w.heap.size (.int .i64 0) (.string ⟨#[]⟩) (.int .i64 0) (.int .i64 0) := by
  unfold newTok
  exact ⟨by go_simp, by go_simp, by go_simp, by go_simp, by go_simp, by go_simp, by go_simp, by go_simp⟩
theorem newTok_below (w : World) : Below w.heap.size w (newTok w) := (Below.refl _ _).alloc (Nat.le_refl _) _
theorem newTok_size (w : World) : (newTok w).heap.size = w.heap.size + 1 := by unfold newTok; simp

/-- What row answers. -/
def rowV (s : ByteArray) : Option (Nat × Int) → Value
  | some (k, n) => .tuple #[.agg #[.int .i64 (k : Nat), .string s, .int .i64 n, .int .i64 0], .int .i64 (s.size : Nat)]
  | none => .tuple #[.agg #[.int .i64 0, .string ⟨#[]⟩, .int .i64 0, .int .i64 0], .int .i64 0]

set_option maxHeartbeats 4000000 in
set_option maxRecDepth 100000 in
theorem row_any (s : ByteArray) (hs : s.size ≤ 1048576) (w : World) (hT : Tabs w) :
    Calls Tryd.prog 39 #[.string s] w fun e w' => e = .returned (rowV s (LX.kindOf s.data.toList)) ∧ Below w.heap.size w w' := by
  have HT := Lib.hid hT
  obtain ⟨W, hW⟩ : ∃ W, W = newTok w := ⟨_, rfl⟩
  have hbx := newTok_bx w
  have hbw := newTok_below w
  have hsz := newTok_size w
  rw [← hW] at hbx hbw hsz
  have HBX := Lib.hid hbx
  have HBW := Lib.hid hbw
  have HSZ := Lib.hid hsz
  have hW' : w.alloc (.cells #[.int .i64 0, .string ⟨#[]⟩, .int .i64 0, .int .i64 0] 34) = W := hW.symm
  have HW := Lib.hid hW'
  have HI := Lib.hid (own_isWord_any s W)
  have HN := Lib.hid (own_name_any s W)
  obtain ⟨K, hK⟩ : ∃ K, LX.kindOf s.data.toList = K := ⟨_, rfl⟩
  have hK' : K = if LX.isWord s.data.toList = true then some (2, 0) else if MW.name s.data.toList = true then some (1, 0) else (LX.num s.data.toList).map fun n => (3, n) := by rw [← hK]; rfl
  rw [hK]
  have HK := Lib.hid hK'
  clear hT hbx hbw hsz hW hK hK' hW'
  cases hi : LX.isWord s.data.toList with
  | true =>
    rw [hi] at HI HK
    clear hi
    go_enter Tryd.func39, Tryd.ntmps39
    go_wp2_with fail
    rw [HW.out]
    refine HI.out.mono ?_
    rintro e w1 ⟨rfl, rfl⟩
    obtain ⟨c0, c1, c2, c3, f0, f1, f2, f3⟩ := HBX.out
    go_wp2_with fail
    have hq := HBX.out.all (.int .i64 2) (.string s) (.int .i64 0) (.int .i64 0)
    unfold stored at hq
    obtain ⟨q0, q1, q2, q3, _, _, _, _⟩ := hq
    refine bodyPost_ret (v := .tuple #[.agg #[.int .i64 2, .string s, .int .i64 0, .int .i64 0], .int .i64 (s.size : Nat)]) (by simp [results, Tryd.results39, go_sem, q0, q1, q2, q3]) rfl ?_
    exact ⟨by rw [HK.out]; rfl, below_stored HBW.out (Nat.le_refl _) _ _ _ _⟩
  | false =>
    rw [hi] at HI HK
    clear hi
    cases hn : MW.name s.data.toList with
    | true =>
      rw [hn] at HN HK
      clear hn
      go_enter Tryd.func39, Tryd.ntmps39
      go_wp2_with fail
      rw [HW.out]
      refine HI.out.mono ?_
      rintro e w1 ⟨rfl, rfl⟩
      go_wp2_with fail
      refine HN.out.mono ?_
      rintro e w2 ⟨rfl, hl2⟩
      have HB2 := Lib.hid (HBW.out.trans ((Lay.below hl2).mono HBW.out.size))
      have HX2 := Lib.hid (HBX.out.carry (hl2.block (by have := HSZ.out; omega)))
      clear hl2
      obtain ⟨c0, c1, c2, c3, f0, f1, f2, f3⟩ := HX2.out
      go_wp2_with fail
      have hq := HX2.out.all (.int .i64 1) (.string s) (.int .i64 0) (.int .i64 0)
      unfold stored at hq
      obtain ⟨q0, q1, q2, q3, _, _, _, _⟩ := hq
      refine bodyPost_ret (v := .tuple #[.agg #[.int .i64 1, .string s, .int .i64 0, .int .i64 0], .int .i64 (s.size : Nat)]) (by simp [results, Tryd.results39, go_sem, q0, q1, q2, q3]) rfl ?_
      exact ⟨by rw [HK.out]; rfl, below_stored HB2.out (Nat.le_refl _) _ _ _ _⟩
    | false =>
      rw [hn] at HN HK
      clear hn
      obtain ⟨R, hR⟩ : ∃ R, LX.num s.data.toList = R := ⟨_, rfl⟩
      rw [hR] at HK
      have HR := Lib.hid hR
      clear hR
      go_enter Tryd.func39, Tryd.ntmps39
      go_wp2_with fail
      rw [HW.out]
      refine HI.out.mono ?_
      rintro e w1 ⟨rfl, rfl⟩
      go_wp2_with fail
      refine HN.out.mono ?_
      rintro e w2 ⟨rfl, hl2⟩
      have HB2 := Lib.hid (HBW.out.trans ((Lay.below hl2).mono HBW.out.size))
      have HX2 := Lib.hid (HBX.out.carry (hl2.block (by have := HSZ.out; omega)))
      have HZ2 := Lib.hid (show w.heap.size < w2.heap.size from Nat.lt_of_lt_of_le (by have := HSZ.out; omega) hl2.size)
      have hNU := number_any s hs w2 (HT.out.next HB2.out)
      rw [HR.out] at hNU
      have HNU := Lib.hid hNU
      clear hl2 hNU
      go_wp2_with fail
      refine HNU.out.mono ?_
      rintro e w3 ⟨rfl, hb3⟩
      have HB3 := Lib.hid (HB2.out.trans (hb3.mono HB2.out.size))
      have HX3 := Lib.hid (HX2.out.carry (hb3.block _ HZ2.out))
      clear hb3
      obtain ⟨c0, c1, c2, c3, f0, f1, f2, f3⟩ := HX3.out
      cases R with
      | some n =>
        unfold numV
        go_wp2_with fail
        have hq := HX3.out.all (.int .i64 3) (.string s) (.int .i64 n) (.int .i64 0)
        unfold stored at hq
        obtain ⟨q0, q1, q2, q3, _, _, _, _⟩ := hq
        refine bodyPost_ret (v := .tuple #[.agg #[.int .i64 3, .string s, .int .i64 n, .int .i64 0], .int .i64 (s.size : Nat)]) (by simp [results, Tryd.results39, go_sem, q0, q1, q2, q3]) rfl ?_
        exact ⟨by rw [HK.out]; rfl, below_stored HB3.out (Nat.le_refl _) _ _ _ _⟩
      | none =>
        unfold numV
        go_wp2_with fail
        have hq := HX3.out.all (.int .i64 0) (.string ⟨#[]⟩) (.int .i64 0) (.int .i64 0)
        unfold stored at hq
        obtain ⟨q0, q1, q2, q3, _, _, _, _⟩ := hq
        refine bodyPost_ret (v := .tuple #[.agg #[.int .i64 0, .string ⟨#[]⟩, .int .i64 0, .int .i64 0], .int .i64 0]) (by simp [results, Tryd.results39, go_sem, q0, q1, q2, q3]) rfl ?_
        exact ⟨by rw [HK.out]; rfl, below_stored HB3.out (Nat.le_refl _) _ _ _ _⟩

end Go.Proofs.YtpchlnikcdhklaaDoor
