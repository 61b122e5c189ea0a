/-
  slices.Clone AT WORDS, ROWS, MATCHERS; dialect.copied.
-/
import Derived.Test.YtfifjcjicipcmaaGreatDoorHq12
import Derived.Test.YtfifjcjicipcmaaGreatDoorTy12
import Derived.Test.YtfifjcjicipcmaaGreatDoorLb9
import Derived.Deep.RegionLaw
import Derived.Lib.LazyBuf
namespace Go.Proofs.YtfifjcjicipcmaaGreatDoor.E4
open Go.RowKit Go

theorem StrsAt.lay {w w' : World} {v : Value} {l : List ByteArray} (h : StrsAt w v l) (hl : Lay w w') : StrsAt w' v l := h.below (E4.lay_below hl)
theorem strs_src {w : World} {v : Value} {l : List ByteArray} (h : StrsAt w v l) : Src Tryz.prog 1 52 v l.length (strs l) w := by
  obtain ⟨a, cap, rfl, -, hc⟩ := h
  have hone : ∀ u ∈ strs l, u.oneCell' = true := fun u hu => by
    unfold strs at hu
    obtain ⟨s, _, rfl⟩ := List.mem_map.1 hu
    rfl
  rcases hc with rfl | ⟨b, off, rfl, hb, hc⟩
  · cases a with
    | none => exact Src.ofNil _ Tryz.underlying52 cap
    | some p => exact Src.ofSlice _ Tryz.underlying52 p 0 cap [] (by simp) (fun j u hu => by simp at hu) (fun u hu => by simp at hu)
  · refine Src.ofSlice _ Tryz.underlying52 ⟨b, off, none⟩ l.length cap (strs l) (by rw [strs_len, Nat.mul_one]) (fun j u hu => ?_) hone
    have hj : j < l.length := by have := (List.getElem?_eq_some_iff.1 hu).1; rwa [strs_len] at this
    rw [add_lit, hc j hj]
    unfold strs at hu
    rw [List.getElem?_map, List.getElem?_eq_getElem hj] at hu
    exact hu
theorem ms_src {w : World} {v : Value} {l : List Mt} (h : MsAt w v l) : Src Tryz.prog 3 24 v l.length (flatM l) w := by
  obtain ⟨a, cap, rfl, -, hc⟩ := h
  have hone : ∀ u ∈ flatM l, u.oneCell' = true := by
    clear hc
    induction l with
    | nil => intro u hu; cases hu
    | cons m l ih =>
      intro u hu
      simp only [flatM, List.mem_cons] at hu
      rcases hu with rfl | rfl | rfl | hu
      · rfl
      · rfl
      · rfl
      · exact ih u hu
  rcases hc with rfl | ⟨b, off, rfl, hb, hc⟩
  · cases a with
    | none => exact Src.ofNil _ Tryz.underlying24 cap
    | some p => exact Src.ofSlice _ Tryz.underlying24 p 0 cap [] (by simp) (fun j u hu => by simp at hu) (fun u hu => by simp at hu)
  · refine Src.ofSlice _ Tryz.underlying24 ⟨b, off, none⟩ l.length cap (flatM l) (flatM_len l) (fun j u hu => ?_) hone
    have hj : j < l.length * 3 := by have := (List.getElem?_eq_some_iff.1 hu).1; rwa [flatM_len] at this
    have hi : j / 3 < l.length := by omega
    obtain ⟨g0, g1, g2⟩ := flatM_get l (j / 3) hi
    obtain ⟨h0, h1, h2⟩ := hc (j / 3) hi
    rw [add_lit]
    have hm : j = j / 3 * 3 ∨ j = j / 3 * 3 + 1 ∨ j = j / 3 * 3 + 2 := by omega
    rcases hm with e | e | e
    · rw [e] at hu ⊢; rw [g0] at hu; rw [← hu]; exact h0
    · rw [e] at hu ⊢; rw [g1] at hu; rw [← hu]; exact h1
    · rw [e] at hu ⊢; rw [g2] at hu; rw [← hu]; exact h2
/-- Rows, and the values that they lie in. -/
def RowsV (w : World) (G : Nat → Prop) (rows : List (List ByteArray)) (xs : List Value) : Prop := xs.length = rows.length ∧ ∀ i (h : i < rows.length), ∃ u, xs[i]? = some u ∧ SG G w u rows[i]
theorem SG.one {G : Nat → Prop} {w : World} {v : Value} {l : List ByteArray} (h : SG G w v l) : v.oneCell' = true := by
  obtain ⟨a, c, rfl, _⟩ := h
  rfl
/-- The rows of a slice. -/
theorem rows_src {G : Nat → Prop} {w : World} {v : Value} {ls : List (List ByteArray)} (h : TextsG G w v ls) : ∃ xs, RowsV w G ls xs ∧ ∀ w1, Lay w w1 → Src Tryz.prog 1 23 v ls.length xs w1 := by
  obtain ⟨a, cap, rfl, -, hc⟩ := h
  rcases hc with rfl | ⟨b, off, rfl, _, hb, hc⟩
  · refine ⟨[], ⟨rfl, fun i hi => by simp at hi⟩, fun w1 _ => ?_⟩
    cases a with
    | none => exact Src.ofNil _ Tryz.underlying23 cap
    | some p => exact Src.ofSlice _ Tryz.underlying23 p 0 cap [] (by simp) (fun j u hu => by simp at hu) (fun u hu => by simp at hu)
  · obtain ⟨xs, hxl, hx⟩ := list_of undef (fun i u => ∀ h : i < ls.length, w.cell? ⟨b, off + i, none⟩ = some u ∧ SG G w u ls[i]) ls.length (fun i hi => by
      obtain ⟨rv, h1, h2⟩ := hc i hi
      exact ⟨rv, fun _ => ⟨h1, h2⟩⟩)
    have hget : ∀ i (h : i < ls.length), xs[i]? = some (xs.getD i undef) := fun i h => by
      rw [List.getElem?_eq_getElem (by omega)]
      simp [List.getD, List.getElem?_eq_getElem (show i < xs.length by omega)]
    refine ⟨xs, ⟨hxl, fun i hi => ⟨_, hget i hi, (hx i hi hi).2⟩⟩, fun w1 hl => ?_⟩
    refine Src.ofSlice _ Tryz.underlying23 ⟨b, off, none⟩ ls.length cap xs (by rw [hxl, Nat.mul_one]) (fun j u hu => ?_) (fun u hu => ?_)
    · have hj : j < ls.length := by have := (List.getElem?_eq_some_iff.1 hu).1; omega
      rw [add_lit, World.cell?_of_block (a := ⟨b, off + j, none⟩) (Lay.block hl hb), (hx j hj hj).1, ← hget j hj, hu]
    · obtain ⟨j, hj, rfl⟩ := List.mem_iff_getElem.1 hu
      have h1 := SG.one ((hx j (by omega) (by omega)).2)
      have h2 := hget j (by omega)
      rw [List.getElem?_eq_getElem hj] at h2
      injection h2 with h2
      rw [h2]
      exact h1

set_option maxHeartbeats 1000000 in
set_option maxRecDepth 100000 in
theorem cloneS_any {w : World} {v : Value} {l : List ByteArray} (h : StrsAt w v l) (hn : l.length ≤ 1000000) :
    Calls Tryz.prog 63 #[v] w fun e w' => ∃ v', e = .returned v' ∧ Rk 1 (fun k => w.heap.size ≤ k) w' v' l.length (strs l) ∧ Lay w w' := by
  obtain ⟨i0, z0, E0⟩ := elemS
  have qs : ∀ (w : World) (a : Option Addr) (n c n' c' : Nat), (binOp .eql 52 (.slice a n c) (.slice none n' c')).run Tryz.prog w = .ok (.bool a.isNone) w := fun w a n c n' c' => Lib.run_eql_slice_nil w _ _ a n c n' c' Tryz.underlying52
  have HSS := Lib.hid (fun w1 (hl : Lay w w1) => strs_src (h.lay hl))
  obtain ⟨a, cap, rfl, hn63, hc⟩ := id h
  clear h
  cases a with
  | none =>
    have h0 : l = [] := by
      rcases hc with h0 | ⟨b, off, h0, _⟩
      · exact h0
      · cases h0
    have HZ := Lib.hid h0
    clear hc h0 HSS
    go_enter Tryz.func63, Tryz.ntmps63
    go_wp2
    go_ret
    refine ⟨.slice none 0 0, rfl, ?_, Keep.refl _ _⟩
    rw [HZ.out]; exact Rk.nil _ _ _
  | some p =>
    clear hc
    have HS2 := Lib.hid (HSS.out (w.alloc (.cells #[] 9)) ((Keep.refl _ _).alloc _))
    clear HSS
    go_enter Tryz.func63, Tryz.ntmps63
    go_wp2_with (at_builtin; refine wpList_append_rk E0 _ rfl _ _ 52 rfl (G := fun k => w.heap.size ≤ k) rfl ((rk_new 1 w 0 [] 9 rfl (by omega)).mono (fun k hk _ => Nat.le_of_eq hk.symm)) ?c1 _ l.length (strs l) rfl HS2.out ?c2 ?c3 ?_)
    case c1 => intro k hk; simp at hk; omega
    case c2 => omega
    case c3 => omega
    intro v' w1 hrk hk
    have HK := Lib.hid hrk
    have hk2 : Keep (fun k => w.heap.size ≤ k) (w.alloc (.cells #[] 9)) w1 := hk.into (fun b _ hb => by
      obtain ⟨n, c, e⟩ := hb
      simp only [Value.slice.injEq, Option.some.injEq, Addr.mk.injEq, and_true] at e
      omega)
    have hlay : Lay w w1 := Keep.into (Keep.trans ((Keep.refl (fun k => w.heap.size ≤ k) w).alloc _) hk2) (fun k hlt hk => by omega)
    have HLY := Lib.hid hlay
    clear hrk hk hk2 hlay
    go_wp2
    go_ret
    refine ⟨v', rfl, ?_, HLY.out⟩
    have := HK.out.mono (G' := fun k => w.heap.size ≤ k) (fun k hk _ => hk.1)
    simpa using this

set_option maxHeartbeats 1000000 in
set_option maxRecDepth 100000 in
theorem cloneM12_any {w : World} {v : Value} {l : List Mt} (h : MsAt w v l) (hn : l.length ≤ 1000000) :
    Calls Tryz.prog 64 #[v] w fun e w' => ∃ v', e = .returned v' ∧ Rk 3 (fun k => w.heap.size ≤ k) w' v' l.length (flatM l) ∧ Lay w w' := by
  obtain ⟨i0, z0, E0⟩ := elemM
  have qs : ∀ (w : World) (a : Option Addr) (n c n' c' : Nat), (binOp .eql 24 (.slice a n c) (.slice none n' c')).run Tryz.prog w = .ok (.bool a.isNone) w := fun w a n c n' c' => Lib.run_eql_slice_nil w _ _ a n c n' c' Tryz.underlying24
  have HSS := Lib.hid (fun w1 (hl : Lay w w1) => ms_src (MsAt.below12 h (E4.lay_below hl)))
  obtain ⟨a, cap, rfl, hn63, hc⟩ := id h
  clear h
  cases a with
  | none =>
    have h0 : l = [] := by
      rcases hc with h0 | ⟨b, off, h0, _⟩
      · exact h0
      · cases h0
    have HZ := Lib.hid h0
    clear hc h0 HSS
    go_enter Tryz.func64, Tryz.ntmps64
    go_wp2
    go_ret
    refine ⟨.slice none 0 0, rfl, ?_, Keep.refl _ _⟩
    rw [HZ.out]; exact Rk.nil _ _ _
  | some p =>
    clear hc
    have HS2 := Lib.hid (HSS.out (w.alloc (.cells #[] 80)) ((Keep.refl _ _).alloc _))
    clear HSS
    go_enter Tryz.func64, Tryz.ntmps64
    go_wp2_with (at_builtin; refine wpList_append_rk E0 _ rfl _ _ 24 rfl (G := fun k => w.heap.size ≤ k) rfl ((rk_new 3 w 0 [] 80 rfl (by omega)).mono (fun k hk _ => Nat.le_of_eq hk.symm)) ?c1 _ l.length (flatM l) rfl HS2.out ?c2 ?c3 ?_)
    case c1 => intro k hk; simp at hk; omega
    case c2 => omega
    case c3 => omega
    intro v' w1 hrk hk
    have HK := Lib.hid hrk
    have hk2 : Keep (fun k => w.heap.size ≤ k) (w.alloc (.cells #[] 80)) w1 := hk.into (fun b _ hb => by
      obtain ⟨n, c, e⟩ := hb
      simp only [Value.slice.injEq, Option.some.injEq, Addr.mk.injEq, and_true] at e
      omega)
    have hlay : Lay w w1 := Keep.into (Keep.trans ((Keep.refl (fun k => w.heap.size ≤ k) w).alloc _) hk2) (fun k hlt hk => by omega)
    have HLY := Lib.hid hlay
    clear hrk hk hk2 hlay
    go_wp2
    go_ret
    refine ⟨v', rfl, ?_, HLY.out⟩
    have := HK.out.mono (G' := fun k => w.heap.size ≤ k) (fun k hk _ => hk.1)
    simpa using this

set_option maxHeartbeats 1000000 in
set_option maxRecDepth 100000 in
theorem cloneR_any {w : World} {v : Value} {ls : List (List ByteArray)} {xs : List Value} (h : TextsAt w v ls) (hxl : xs.length = ls.length) (hsr : ∀ w1, Lay w w1 → Src Tryz.prog 1 23 v ls.length xs w1) (hn : ls.length ≤ 1000000) :
    Calls Tryz.prog 62 #[v] w fun e w' => ∃ v', e = .returned v' ∧ Rk 1 (fun k => w.heap.size ≤ k) w' v' ls.length xs ∧ Lay w w' := by
  obtain ⟨i0, z0, E0⟩ := elemR
  have qs : ∀ (w : World) (a : Option Addr) (n c n' c' : Nat), (binOp .eql 23 (.slice a n c) (.slice none n' c')).run Tryz.prog w = .ok (.bool a.isNone) w := fun w a n c n' c' => Lib.run_eql_slice_nil w _ _ a n c n' c' Tryz.underlying23
  have HSS := Lib.hid (fun w1 (hl : Lay w w1) => hsr w1 hl)
  obtain ⟨a, cap, rfl, hn63, hc⟩ := id h
  clear h
  cases a with
  | none =>
    have h0 : ls = [] := by
      rcases hc with h0 | ⟨b, off, h0, _⟩
      · exact h0
      · cases h0
    have HZ := Lib.hid h0
    clear hc h0 HSS
    go_enter Tryz.func62, Tryz.ntmps62
    go_wp2
    go_ret
    refine ⟨.slice none 0 0, rfl, ?_, Keep.refl _ _⟩
    have hx0 : xs = [] := List.eq_nil_of_length_eq_zero (by rw [hxl, HZ.out]; rfl)
    rw [hx0, HZ.out]; exact Rk.nil _ _ _
  | some p =>
    clear hc
    have HS2 := Lib.hid (HSS.out (w.alloc (.cells #[] 52)) ((Keep.refl _ _).alloc _))
    clear HSS
    go_enter Tryz.func62, Tryz.ntmps62
    go_wp2_with (at_builtin; refine wpList_append_rk E0 _ rfl _ _ 23 rfl (G := fun k => w.heap.size ≤ k) rfl ((rk_new 1 w 0 [] 52 rfl (by omega)).mono (fun k hk _ => Nat.le_of_eq hk.symm)) ?c1 _ ls.length xs rfl HS2.out ?c2 ?c3 ?_)
    case c1 => intro k hk; simp at hk; omega
    case c2 => omega
    case c3 => omega
    intro v' w1 hrk hk
    have HK := Lib.hid hrk
    have hk2 : Keep (fun k => w.heap.size ≤ k) (w.alloc (.cells #[] 52)) w1 := hk.into (fun b _ hb => by
      obtain ⟨n, c, e⟩ := hb
      simp only [Value.slice.injEq, Option.some.injEq, Addr.mk.injEq, and_true] at e
      omega)
    have hlay : Lay w w1 := Keep.into (Keep.trans ((Keep.refl (fun k => w.heap.size ≤ k) w).alloc _) hk2) (fun k hlt hk => by omega)
    have HLY := Lib.hid hlay
    clear hrk hk hk2 hlay
    go_wp2
    go_ret
    refine ⟨v', rfl, ?_, HLY.out⟩
    have := HK.out.mono (G' := fun k => w.heap.size ≤ k) (fun k hk _ => hk.1)
    simpa using this

end Go.Proofs.YtfifjcjicipcmaaGreatDoor.E4
