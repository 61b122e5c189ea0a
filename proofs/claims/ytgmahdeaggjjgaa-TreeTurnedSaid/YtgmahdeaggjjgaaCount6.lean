/-
  tree.Count: HOW MANY FILTERS THERE ARE.
-/
import Derived.Test.YtgmahdeaggjjgaaEach6
namespace Go.Proofs.Ytgmahdeaggjjgaa
open Go.RowKit Go Go.Shelf

attribute [local go_sem] Oper.semAt_some wide_fn wide_depth

/-- What Count keeps: how many have come. -/
def CountI (N : Nat) (pre : List (Ft × Nat)) : Stance := fun G W => G = (fun k => k = N) ∧ Box W N 3 (.int .i64 (pre.length : Nat))
theorem CountI.stable (N : Nat) (pre : List (Ft × Nat)) : Stable (CountI N pre) := by
  rintro G W W' ⟨rfl, hb⟩ _ hk
  exact ⟨rfl, hb.keep hk (fun h => h rfl)⟩

set_option maxHeartbeats 4000000 in
set_option maxRecDepth 100000 in
theorem count_any (f : Ft) (hcf : f.count ≤ 100000) (w : World) (v : Value) (hf : FAt w v f) :
    Calls Try.prog 13 #[v] w fun e w' => e = .returned (.int .i64 (f.count : Nat)) ∧ Lay w w' := by
  obtain ⟨kv, rfl, hks⟩ := hf
  obtain ⟨ak, ck, rfl⟩ := hks.shape
  simp only [Ft.val]
  obtain ⟨W0, hW0⟩ : ∃ W0, W0 = (w.alloc (.cells #[.int .i64 f.op, .string f.name, .string f.text, .slice ak f.kids.length ck] 26)).alloc (.cells #[.int .i64 0] 3) := ⟨_, rfl⟩
  have hl0 : Lay w W0 := by rw [hW0]; exact ((Keep.refl _ _).alloc _).alloc _
  have hs0 : W0.heap.size = w.heap.size + 2 := by rw [hW0]; simp
  have hb0 : Box W0 (w.heap.size + 1) 3 (.int .i64 0) := by
    rw [hW0]
    have := Box.new (w.alloc (.cells #[.int .i64 f.op, .string f.name, .string f.text, .slice ak f.kids.length ck] 26)) 3 (.int .i64 0)
    rwa [World.size_alloc] at this
  have hl1 : Lay W0 (eachW W0 (.slice ak f.kids.length ck) f) := (Keep.refl _ _).alloc _
  have hs1 : (eachW W0 (.slice ak f.kids.length ck) f).heap.size = w.heap.size + 3 := by unfold eachW; rw [World.size_alloc, hs0]
  have hfb : FBox (eachW W0 (.slice ak f.kids.length ck) f) W0.heap.size (.slice ak f.kids.length ck) f := FBox.new _ _ _
  have hkb : KsB (fun k => k < w.heap.size ∨ k = w.heap.size + 2) (eachW W0 (.slice ak f.kids.length ck) f) (.slice ak f.kids.length ck) f := by
    refine KsB.keep (Nat.le_trans hl0.size hl1.size) (fun b hb hlt => (hl1.block (Nat.lt_of_lt_of_le hlt hl0.size)).trans (hl0.block hlt)) _ _ (KsB.mono (fun b _ hb => .inl hb) _ _ (KsB.of_at _ _ hks))
  rw [hs0] at hfb
  have HG := each_gives (fun k => k < w.heap.size ∨ k = w.heap.size + 2) f hcf _ _ _ hfb (.inr rfl) (fun k hk => by rw [hs1]; omega) hkb
  have HEA := Lib.hid (each_any f ak f.kids.length ck W0)
  have hb1 := hb0.keep hl1 (fun h => h)
  obtain ⟨W1, hW1⟩ : ∃ W1, W1 = eachW W0 (.slice ak f.kids.length ck) f := ⟨_, rfl⟩
  rw [← hW1] at HEA HG hs1 hb1 hl1
  rw [hs0] at HEA
  have HL := Lib.hid (hl0.trans hl1)
  clear hfb hkb hb0 hks hl1 hW1 hl0
  refine (callsIn_wide (n := 9)).1 ?_
  refine callsIn_of_wp_marks Try.func13 rfl trivial ?_
  simp only [Try.ntmps13, List.size_toArray, List.length_cons, List.length_nil, Nat.reduceAdd, Nat.reduceSub, Array.replicate_succ, Array.replicate_zero, List.push_toArray, List.append_toArray, List.nil_append, List.cons_append]
  gi_wp2_with fail
  rw [← hW0]
  clear hW0
  gi_wp2_with (gi_at_call 24; refine (callsIn_wide.2 HEA.out).mono ?_; rintro e w' ⟨rfl, rfl⟩)
  refine wpIn_over (gf := 34) (lb := #[.pointer (some ⟨w.heap.size + 2, 0, none⟩)]) rfl (enters_of Try.func34 (by kernel_rfl) rfl) HG (fun k hk => by rw [hs1]; omega) (fun x args _ ⟨kv, h, _⟩ => by rw [h]; rfl)
    (CountI (w.heap.size + 1)) (fun _ _ _ _ => False) (fun s => CountI.stable _ _) (fun _ _ _ _ _ h _ _ => h.elim) (fun k => k = w.heap.size + 1) (fun k hk h => by omega) ⟨rfl, hb1⟩ (fun k hk => by omega)
    (fun x _ _ a _ => ∃ kv : Value, a = { tmps := #[.agg #[.int .i64 f.op, .string f.name, .string f.text, .slice ak f.kids.length ck], .pointer (some ⟨w.heap.size, 0, none⟩), .int .i64 0, .pointer (some ⟨w.heap.size + 1, 0, none⟩), .agg #[.int .i64 f.op, .string f.name, .string f.text, .slice ak f.kids.length ck], .func (.func 34) #[] #[.pointer (some ⟨w.heap.size + 2, 0, none⟩)], x.1.val kv, .int .i64 (x.2 : Nat), undef, undef, undef], defers := [] })
    (fun _ _ _ _ _ _ h _ => h) ?assign ?body ?done ?stop
  case assign =>
    rintro l2 x args W2 K ⟨kv, rfl, hk⟩ hK
    gi_wp2_with fail
    exact hK _ _ (Keep.refl _ _) ⟨kv, by simp⟩
  case body =>
    rintro l2 pre x args G1 B a W00 W ⟨kv0, hargs, hk⟩ _ hpx ⟨rfl, hbx⟩ hlt hBle ⟨kv, rfl⟩
    have hc := hbx.cell
    have hfz := hbx.frozen
    have hpl : pre.length + 1 ≤ 100000 := by
      have := hpx.length_le
      rw [Ft.nodes_length] at this
      simp at this
      omega
    have HBX := Lib.hid hbx
    clear hbx hargs hk
    gi_wp2_with fail
    refine Next.mk (fun k => k = w.heap.size + 1) ⟨rfl, ?_⟩ (fun k hk => ?_) (fun k hk => .inl hk) (keep_setCell _ _ _ rfl)
    · have := HBX.out.set (.int .i64 ((pre.length : Int) + 1))
      simpa using this
    · have := HBX.out.lt
      simp only [World.setCell, Array.size_modify] 
      omega
  case done =>
    intro D We hlf
    obtain ⟨G', ⟨rfl, hbx⟩, hl, hg, hk, hD1, hD2, hD3⟩ := id hlf
    have hc := hbx.cell
    have HN := Lib.hid (hlf.shut (CountI.stable _ _))
    clear hl hg hk hD1 hD2 hD3
    gi_wp2_with fail
    refine ⟨by simp, .inl ⟨_, _, rfl, hlf.takes, ?_⟩⟩
    refine ⟨_, results_tmp rfl _ _ _, ?_, ?_⟩
    · rw [Ft.nodes_length]; rfl
    · exact Keep.after (H := fun _ => False) (fun k hk => .inr (by omega)) HL.out HN.out.keep
  case stop =>
    intro D c pre We _ hlf
    obtain ⟨G', h, _⟩ := hlf
    exact h.elim

end Go.Proofs.Ytgmahdeaggjjgaa
