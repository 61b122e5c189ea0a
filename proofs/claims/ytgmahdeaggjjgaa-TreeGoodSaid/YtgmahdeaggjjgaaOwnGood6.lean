/-
  tree.Good: CAN A FILTER BE?
-/
import Derived.Test.YtgmahdeaggjjgaaEach6
import Derived.Test.YtgmahdeaggjjgaaWhole6
namespace Go.Proofs.Ytgmahdeaggjjgaa
open Go.RowKit Go Go.Shelf

attribute [local go_sem] Oper.semAt_some wide_fn wide_depth

/-- Can it be, of itself, so deep? -/
def okN (x : Ft × Nat) : Bool := Ft.rowOK (Ft.toRow x)
theorem good_nodes (f : Ft) : Ft.good f = (Ft.nodes 0 f).all okN := by
  unfold Ft.good
  rw [← Ft.nodes_rows, List.all_map]
  rfl

/-- Between two rounds; and where one has left. -/
def GoodI (R : Nat) (pre : List (Ft × Nat)) : Stance := fun G W => G = (fun k => k = R) ∧ Box W R 4 (.bool false) ∧ pre.all okN = true
def GoodX (R : Nat) (c : Code) (pre : List (Ft × Nat)) : Stance := fun G W => c = .ret ∧ G = (fun k => k = R) ∧ Box W R 4 (.bool false) ∧ pre.all okN = false
theorem GoodI.stable (R : Nat) (pre : List (Ft × Nat)) : Stable (GoodI R pre) := by
  rintro G W W' ⟨rfl, hb, h⟩ _ hk
  exact ⟨rfl, hb.keep hk (fun h => h rfl), h⟩
theorem GoodX.stable (R : Nat) (c : Code) (pre : List (Ft × Nat)) : Stable (GoodX R c pre) := by
  rintro G W W' ⟨hc, rfl, hb, h⟩ _ hk
  exact ⟨hc, rfl, hb.keep hk (fun h => h rfl), h⟩

set_option maxHeartbeats 4000000 in
set_option maxRecDepth 100000 in
theorem good_any (f : Ft) (hcf : f.count ≤ 100000) (w : World) (v : Value) (hf : FAt w v f) :
    Calls Try.prog 20 #[v] w fun e w' => e = .returned (.bool (Ft.good f)) ∧ Lay w w' := by
  obtain ⟨kv, rfl, hks⟩ := hf
  obtain ⟨ak, ck, rfl⟩ := hks.shape
  simp only [Ft.val]
  have HGN := Lib.hid (good_nodes f)
  obtain ⟨W0, hW0⟩ : ∃ W0, W0 = (w.alloc (.cells #[.int .i64 f.op, .string f.name, .string f.text, .slice ak f.kids.length ck] 26)).alloc (.cells #[.bool false] 4) := ⟨_, rfl⟩
  have hl0 : Lay w W0 := by rw [hW0]; exact ((Keep.refl _ _).alloc _).alloc _
  have hs0 : W0.heap.size = w.heap.size + 2 := by rw [hW0]; simp
  have hb0 : Box W0 (w.heap.size + 1) 4 (.bool false) := by
    rw [hW0]
    have := Box.new (w.alloc (.cells #[.int .i64 f.op, .string f.name, .string f.text, .slice ak f.kids.length ck] 26)) 4 (.bool false)
    rwa [World.size_alloc] at this
  have hl1 : Lay W0 (eachW W0 (.slice ak f.kids.length ck) f) := (Keep.refl _ _).alloc _
  have hs1 : (eachW W0 (.slice ak f.kids.length ck) f).heap.size = w.heap.size + 3 := by unfold eachW; rw [World.size_alloc, hs0]
  have hfb : FBox (eachW W0 (.slice ak f.kids.length ck) f) W0.heap.size (.slice ak f.kids.length ck) f := FBox.new _ _ _
  have hkb : KsB (fun k => k < w.heap.size ∨ k = w.heap.size + 2) (eachW W0 (.slice ak f.kids.length ck) f) (.slice ak f.kids.length ck) f := by
    refine KsB.keep (Nat.le_trans hl0.size hl1.size) (fun b hb hlt => (hl1.block (Nat.lt_of_lt_of_le hlt hl0.size)).trans (hl0.block hlt)) _ _ (KsB.mono (fun b _ hb => .inl hb) _ _ (KsB.of_at _ _ hks))
  rw [hs0] at hfb
  have HG := each_gives (fun k => k < w.heap.size ∨ k = w.heap.size + 2) f hcf _ _ _ hfb (.inr rfl) (fun k hk => by rw [hs1]; omega) hkb
  have HEA := Lib.hid (each_any f ak f.kids.length ck W0)
  have hb1 := hb0.keep hl1 (fun h => h)
  obtain ⟨W1, hW1⟩ : ∃ W1, W1 = eachW W0 (.slice ak f.kids.length ck) f := ⟨_, rfl⟩
  rw [← hW1] at HEA HG hs1 hb1 hl1
  rw [hs0] at HEA
  have HL := Lib.hid (hl0.trans hl1)
  clear hfb hkb hb0 hks hl1 hW1 hl0
  refine (callsIn_wide (n := 9)).1 ?_
  refine callsIn_of_wp_marks Try.func20 rfl trivial ?_
  simp only [Try.ntmps20, List.size_toArray, List.length_cons, List.length_nil, Nat.reduceAdd, Nat.reduceSub, Array.replicate_succ, Array.replicate_zero, List.push_toArray, List.append_toArray, List.nil_append, List.cons_append]
  gi_wp2_with fail
  rw [← hW0]
  clear hW0
  gi_wp2_with (gi_at_call 24; refine (callsIn_wide.2 HEA.out).mono ?_; rintro e w' ⟨rfl, rfl⟩)
  refine wpIn_over (gf := 34) (lb := #[.pointer (some ⟨w.heap.size + 2, 0, none⟩)]) rfl (enters_of Try.func34 (by kernel_rfl) rfl) HG (fun k hk => by rw [hs1]; omega) (fun x args _ ⟨kv, h, _⟩ => by rw [h]; rfl)
    (GoodI (w.heap.size + 1)) (GoodX (w.heap.size + 1)) (fun s => GoodI.stable _ _) (fun c s => GoodX.stable _ _ _) (fun k => k = w.heap.size + 1) (fun k hk h => by omega) ⟨rfl, hb1, rfl⟩ (fun k hk => by omega)
    (fun x _ B a W => ∃ (av : Option Addr) (cv : Nat), x.1.kids.length ≤ 9223372036854775807 ∧ FBox W B (.slice av x.1.kids.length cv) x.1 ∧ a = { tmps := #[.agg #[.int .i64 f.op, .string f.name, .string f.text, .slice ak f.kids.length ck], .pointer (some ⟨w.heap.size, 0, none⟩), .pointer (some ⟨w.heap.size + 1, 0, none⟩), .pointer (some ⟨B, 0, none⟩), .int .i64 (x.2 : Nat), .agg #[.int .i64 f.op, .string f.name, .string f.text, .slice ak f.kids.length ck], .func (.func 34) #[] #[.pointer (some ⟨w.heap.size + 2, 0, none⟩)], .agg #[.int .i64 x.1.op, .string x.1.name, .string x.1.text, .slice av x.1.kids.length cv], .int .i64 (x.2 : Nat), undef, undef, undef, undef, undef, undef, undef], defers := [] })
    (fun _ _ _ _ _ _ ⟨av, cv, h0, h, e⟩ hk => ⟨av, cv, h0, h.keep hk (Nat.lt_irrefl _), e⟩) ?assign ?body ?done ?stop
  case assign =>
    rintro l2 x args W2 K ⟨kv, rfl, hk⟩ hK
    have h63 : x.1.kids.length ≤ 9223372036854775807 := by
      obtain ⟨⟨o, n, t, k⟩, d⟩ := x
      rw [KsB] at hk
      obtain ⟨_, _, _, h, _⟩ := hk
      exact h
    obtain ⟨av, cv, rfl⟩ := hk.shape
    have HK := Lib.hid hK
    clear hK hk
    simp only [Ft.val]
    gi_wp2_with fail
    exact HK.out _ _ ((Keep.refl _ _).alloc _) ⟨av, cv, h63, FBox.new _ _ _, by simp⟩
  case body =>
    rintro l2 pre x args G1 B a W00 W ⟨kv0, hargs, hk⟩ _ hpx ⟨rfl, hbx, hok⟩ hlt hBle ⟨av, cv, h63, hfx, rfl⟩
    have hc := hbx.cell
    have hfz := hbx.frozen
    have c0 := hfx.c0
    have c1 := hfx.c1
    have c2 := hfx.c2
    have c3 := hfx.c3
    have hbB := hfx.lt
    have HBX := Lib.hid hbx
    have HW := Lib.hid (whole_any x.1.op x.1.name x.1.text av x.1.kids.length cv h63 W)
    have hsn : (pre ++ [x]).all okN = okN x := by rw [List.all_append, hok]; simp
    have hkx : okN x = (decide (x.2 ≤ 18) && Ft.whole x.1.op x.1.name x.1.text x.1.kids.length) := Ft.rowOK_whole _
    rw [hkx] at hsn
    have HSN := Lib.hid hsn
    clear hbx hargs hk hfx hsn hkx hok
    by_cases hd : x.2 ≤ 18
    · have hd' : decide (18 < (x.2 : Int)) = false := by simp; omega
      rw [decide_eq_true hd, Bool.true_and] at HSN
      obtain ⟨b, hb⟩ : ∃ b, Ft.whole x.1.op x.1.name x.1.text x.1.kids.length = b := ⟨_, rfl⟩
      rw [hb] at HSN HW
      clear hb
      cases b
      · gi_wp2_with (gi_at_call 29; refine (callsIn_wide.2 HW.out).mono ?_; rintro e W2 ⟨rfl, hl⟩; have hb2 := HBX.out.keep hl (fun h => h); have hc2 := hb2.cell; have hz2 := hb2.frozen)
        refine Next.mk (fun k => k = w.heap.size + 1) ⟨rfl, rfl, hb2.set _, HSN.out⟩ (fun k hk => ?_) (fun k hk => .inl hk) (hl.keep.trans (keep_setCell _ _ _ rfl))
        have := hb2.lt
        simp only [World.setCell, Array.size_modify]
        omega
      · gi_wp2_with (gi_at_call 29; refine (callsIn_wide.2 HW.out).mono ?_; rintro e W2 ⟨rfl, hl⟩; have hb2 := HBX.out.keep hl (fun h => h); have hc2 := hb2.cell; have hz2 := hb2.frozen)
        exact Next.mk (fun k => k = w.heap.size + 1) ⟨rfl, hb2, HSN.out⟩ (fun k hk => by rw [hk]; exact hb2.lt) (fun k hk => .inl hk) hl.keep
    · have hd' : decide (18 < (x.2 : Int)) = true := by simp; omega
      rw [decide_eq_false hd, Bool.false_and] at HSN
      gi_wp2_with fail
      refine Next.mk (fun k => k = w.heap.size + 1) ⟨rfl, rfl, HBX.out.set _, HSN.out⟩ (fun k hk => ?_) (fun k hk => .inl hk) (keep_setCell _ _ _ rfl)
      have := HBX.out.lt
      simp only [World.setCell, Array.size_modify]
      omega
  case done =>
    intro D We hlf
    obtain ⟨G', ⟨rfl, hbx, hok⟩, hl, hg, hk, hD1, hD2, hD3⟩ := id hlf
    have hc := hbx.cell
    have hfz := hbx.frozen
    have hlf2 : Left (fun G W => G = (fun k => k = w.heap.size + 1) ∧ Box W (w.heap.size + 1) 4 (.bool true)) (fun k => k = w.heap.size + 1) W1 (We.setCell ⟨w.heap.size + 1, 0, none⟩ (.bool true)) D :=
      ⟨_, ⟨rfl, hbx.set _⟩, fun k hk => by have := hbx.lt; simp only [World.setCell, Array.size_modify]; omega, fun k hk => .inl hk, hk.trans (keep_setCell _ _ _ rfl), hD1, hD2, (Below.heap_setCell _ _ _ D (fun e => hD2 e)).trans hD3⟩
    have HT := Lib.hid (fun P => hlf2.takes (P := P))
    obtain ⟨G', ⟨rfl, hbe⟩, _, _, hke⟩ := hlf2.shut (J := fun G W => G = (fun k => k = w.heap.size + 1) ∧ Box W (w.heap.size + 1) 4 (.bool true)) (by
      rintro G W W' ⟨rfl, hb⟩ _ hk
      exact ⟨rfl, hb.keep hk (fun h => h rfl)⟩)
    have hce := hbe.cell
    have HKE := Lib.hid hke
    have HG2 : Hid (Ft.good f = true) := Lib.hid (HGN.out.trans hok)
    clear hl hg hk hD1 hD2 hD3 hke hlf2 hbx hok
    gi_wp2_with fail
    refine ⟨by simp, .inl ⟨_, _, rfl, HT.out _, ?_⟩⟩
    refine ⟨.bool true, by simp [results, Try.results20, go_sem, hce], ?_, ?_⟩
    · rw [HG2.out]
    · exact Keep.after (H := fun _ => False) (fun k hk => .inr (by omega)) HL.out HKE.out
  case stop =>
    intro D c pre We hpre hlf
    obtain ⟨G', ⟨rfl, rfl, hbx, hok⟩, hl, hg, hk, hD1, hD2, hD3⟩ := id hlf
    have hc := hbx.cell
    have hfz := hbx.frozen
    obtain ⟨G', ⟨_, rfl, hbe, _⟩, _, _, hke⟩ := hlf.shut (GoodX.stable _ _ _)
    have hce := hbe.cell
    have HKE := Lib.hid hke
    have HG2 : Hid (Ft.good f = false) := Lib.hid (by
      rw [HGN.out, Bool.eq_false_iff]
      intro h
      obtain ⟨r, hr⟩ := hpre
      rw [← hr, List.all_append, hok] at h
      simp at h)
    clear hl hg hk hD1 hD2 hD3 hke hbx hok
    gi_wp2_with fail
    refine ⟨by simp, .inl ⟨_, _, rfl, hlf.takes, ?_⟩⟩
    refine ⟨.bool false, by simp [results, Try.results20, go_sem, hce], ?_, ?_⟩
    · rw [HG2.out]
    · exact Keep.after (H := fun _ => False) (fun k hk => .inr (by omega)) HL.out HKE.out

end Go.Proofs.Ytgmahdeaggjjgaa
