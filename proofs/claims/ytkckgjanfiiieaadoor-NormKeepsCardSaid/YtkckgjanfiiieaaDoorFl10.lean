/-
  THE LAWS' OWN filter.
-/
import Derived.Test.YtkckgjanfiiieaaDoorMakeW6
import Derived.Test.YtkckgjanfiiieaaDoorQryA6
namespace Go.Proofs.YtkckgjanfiiieaaDoor
open Go.RowKit Go



/-- A source that is new. -/
theorem new_source {w : World} {v : Value} {l : List Int} (h : IntsAt w v l) : Srcs ((newF w).alloc (.cells #[v, .int .i64 0] 49)) (w.heap.size + 1) v l 0 := by
  have hs := newF_size w
  have hl : Lay w ((newF w).alloc (.cells #[v, .int .i64 0] 49)) := (newF_lay w).alloc _
  have e : (newF w).heap.size = w.heap.size + 1 := hs
  refine ⟨by simp; omega, ?_, ?_, ?_, h.lay hl, fun h0 b off n c hv => ?_, Nat.zero_le _⟩
  · have := World.cell?_alloc_new (newF w) #[v, .int .i64 0] 49 0
    rw [e] at this
    exact this
  · have := World.cell?_alloc_new (newF w) #[v, .int .i64 0] 49 1
    rw [e] at this
    exact this
  · have := World.frozen?_alloc_new (newF w) #[v, .int .i64 0] 49 1
    rw [e] at this
    exact this
  · obtain ⟨a, cap, hv', _, hn | ⟨b', off', ha, hlt, _⟩⟩ := h
    · exact absurd hn h0
    · rw [hv', ha] at hv
      cases hv
      omega

/-- What the laws' filter leaves. -/
def FilterP (l : List Int) (w : World) (e : Ending) (w' : World) : Prop :=
  ∃ kv, e = .returned ((Ft.make l 4 0).1.val kv) ∧ KsB (fun b => w.heap.size ≤ b) w' kv (Ft.make l 4 0).1 ∧ Lay w w'

set_option maxHeartbeats 4000000 in
set_option maxRecDepth 100000 in
theorem law_filter (l : List Int) (w : World) (v : Value) (h : IntsAt w v l) : Calls Tryd.prog 8 #[v] w (FilterP l w) := by
  obtain ⟨a, cap, rfl, hl63, hint⟩ := id h
  obtain ⟨W, hW⟩ : ∃ W, W = (newF w).alloc (.cells #[.slice a l.length cap, .int .i64 0] 49) := ⟨_, rfl⟩
  have hsz := newF_size w
  have hlay : Lay w W := by rw [hW]; exact (newF_lay w).alloc _
  have hbx : Bx W w.heap.size (.int .i64 0) (.string ⟨#[]⟩) (.string ⟨#[]⟩) (.slice none 0 0) := by rw [hW]; exact (newF_bx w).carry (Below.heap_alloc _ _ _ (by omega))
  have hsz2 : W.heap.size = w.heap.size + 2 := by rw [hW]; simp; omega
  have hm := make_any (w.heap.size + 1) (.slice a l.length cap) l 4 (Nat.le_refl _) 0 W (by rw [hW]; exact new_source h)
  unfold MakeP at hm
  obtain ⟨X, q, hX⟩ : ∃ X q, Ft.make l 4 0 = (X, q) := ⟨_, _, rfl⟩
  unfold FilterP
  rw [hX] at hm ⊢
  have HW : Hid ((w.alloc (.cells #[.int .i64 0, .string ⟨#[]⟩, .string ⟨#[]⟩, .slice none 0 0] 30)).alloc (.cells #[.slice a l.length cap, .int .i64 0] 49) = W) := Lib.hid hW.symm
  have HM := Lib.hid hm
  have HLAY := Lib.hid hlay
  have HBX := Lib.hid hbx
  have HSZ := Lib.hid hsz2
  clear hm hlay hbx hsz2 hW hX h hint hsz
  go_enter Tryd.func8, Tryd.ntmps8
  go_wp2_with fail
  rw [HW.out]
  refine HM.out.mono ?_
  rintro e w2 ⟨kv, rfl, hkb, hsr, hkp⟩
  obtain ⟨ak, ck, rfl⟩ := (KsB.at _ _ hkb).shape
  simp only [Ft.val]
  have HX2 := Lib.hid (HBX.out.carry (hkp.block w.heap.size (by rw [HSZ.out]; omega) (by omega)))
  have HKB := Lib.hid hkb
  have HKP := Lib.hid hkp
  clear hkb hsr hkp
  obtain ⟨c0, c1, c2, c3, f0, f1, f2, f3⟩ := HX2.out
  go_wp2_with fail
  have hq := HX2.out.all (.int .i64 X.op) (.string X.name) (.string X.text) (.slice ak X.kids.length ck)
  unfold stored at hq
  obtain ⟨q0, q1, q2, q3, _, _, _, _⟩ := hq
  refine bodyPost_ret (v := .agg #[.int .i64 X.op, .string X.name, .string X.text, .slice ak X.kids.length ck]) (by simp [results, Tryd.results8, go_sem, q0, q1, q2, q3]) rfl ?_
  refine ⟨.slice ak X.kids.length ck, rfl, ?_, ?_⟩
  · exact KsB.mono (fun b _ hb => by have hb' : W.heap.size ≤ b := hb; rw [HSZ.out] at hb'; omega) _ _ (KsB.keep (G := fun b => W.heap.size ≤ b) (w' := stored w2 w.heap.size (.int .i64 X.op) (.string X.name) (.string X.text) (.slice ak X.kids.length ck)) (Nat.le_of_eq (stored_size _ _ _ _).symm) (fun b hb _ => stored_other (by have hb' : W.heap.size ≤ b := hb; rw [HSZ.out] at hb'; omega) _ _ _ _) _ _ HKB.out)
  · have hk : Lay w w2 := ⟨HKP.out.os.trans HLAY.out.os, HKP.out.tape.trans HLAY.out.tape, HKP.out.output.trans HLAY.out.output, Nat.le_trans HLAY.out.size HKP.out.size, Nat.le_trans HLAY.out.drawn HKP.out.drawn, fun b hb _ => (HKP.out.block b (Nat.lt_of_lt_of_le hb HLAY.out.size) (by omega)).trans (HLAY.out.block hb)⟩
    exact keep_stored hk (Nat.le_refl _) _ _ _ _

end Go.Proofs.YtkckgjanfiiieaaDoor
