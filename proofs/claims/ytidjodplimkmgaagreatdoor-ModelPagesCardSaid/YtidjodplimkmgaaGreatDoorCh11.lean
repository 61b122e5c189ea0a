/-
  slices.Chunk: THE ITERATOR OVER THE PIECES OF A LIST.
-/
import Derived.Test.YtidjodplimkmgaaGreatDoorOv11
import Derived.Test.YtidjodplimkmgaaGreatDoorEr
import Derived.Test.YtidjodplimkmgaaGreatDoorMd11
import Derived.OwnWalkIn
import Derived.TacticsInMore
import Derived.LoopNIn
import Derived.LoopIn
import Derived.RangeFuncLeaves
import Derived.RegionIn
namespace Go.Proofs.YtidjodplimkmgaaGreatDoor.E4
open Go.RowKit Go Go.Shelf

attribute [local go_sem] Oper.semAt_some
theorem wide_fn (f : FuncId) : Fence.wide.fn f = True := rfl
theorem wide_depth : Fence.wide.depth = none := rfl
attribute [local go_sem] wide_fn wide_depth

/-- Entries as they lie, in a block of C. -/
def RawSl (C : Nat → Prop) (W : World) (v : Value) (R : List (Value × Ent)) : Prop := ∃ a c, v = .slice a R.length c ∧ (R = [] ∨ ∃ b off, a = some ⟨b, off, none⟩ ∧ C b ∧ b < W.heap.size ∧ RawAt W b off R)

/-- What is handed over: a piece, in blocks of C. -/
def encC (C : Nat → Prop) (R : List (Value × Ent)) (args : Array Value) (own : Nat → Prop) (W : World) : Prop := (∀ k, ¬ own k) ∧ ∃ v, args = #[v] ∧ RawSl C W v R

/-- The pieces of a list. -/
def chunks {α : Type} (n : Nat) (l : List α) : List (List α) := Md.pages n (l.length + 1) l

theorem chunks_at {α : Type} {n : Nat} {l : List α} {j : Nat} (h : j < (chunks n l).length) : (chunks n l)[j] = (l.drop (j * n)).take n := (Md.pages_at _ _ _ h).1

theorem chunks_lt {α : Type} {n : Nat} (hn : 1 ≤ n) {l : List α} (h0 : 0 < l.length) (j : Nat) : j < (chunks n l).length ↔ j * n < l.length := by
  constructor
  · intro h
    rcases Nat.eq_zero_or_pos j with rfl | hj
    · omega
    · exact (Md.pages_at _ _ _ h).2 hj
  · intro h
    unfold chunks
    rw [Md.pages_count hn _ _ (Nat.le_refl _)]
    have h1 : (l.length + n - 1) / n ≥ j + 1 := by
      rw [ge_iff_le, Nat.le_div_iff_mul_le (by omega), Nat.add_mul]
      omega
    omega

theorem take_snoc {α : Type} (l : List α) (j : Nat) (h : j < l.length) : l.take j ++ [l[j]] = l.take (j + 1) := List.take_append_getElem h

set_option maxHeartbeats 8000000 in
set_option maxRecDepth 100000 in
theorem chunk_gives (C : Nat → Prop) (R : List (Value × Ent)) (g cap lim B1 B2 : Nat) (w : World) (hB1 : Box w B1 33 (.slice (some ⟨g, 0, none⟩) R.length cap)) (hB2 : Box w B2 3 (.int .i64 (lim : Nat))) (hC1 : C B1) (hC2 : C B2) (hCg : C g) (hC : ∀ k, C k → k < w.heap.size) (hraw : RawAt w g 0 R)
    (h0 : 0 < R.length) (hlim : 1 ≤ lim) (hlim2 : lim ≤ 1000) (hn : R.length ≤ 1000) (hcap : R.length ≤ cap) :
    Gives Tryz.prog 30 #[.pointer (some ⟨B1, 0, none⟩), .pointer (some ⟨B2, 0, none⟩)] C (encC C) (chunks lim R) w := by
  intro l J Jx G W hW hCG hJ hJx hY h0J hlive
  have hmx : Tryz.prog.follows .mixedOrders = true := by kernel_rfl
  have HB1 := Lib.hid (hB1.keep hW (fun h => h hC1))
  have HB2 := Lib.hid (hB2.keep hW (fun h => h hC2))
  have hgW : W.heap[g]? = w.heap[g]? := hW.block g (hC g hCg) (fun h => h hCg)
  have HRW : Hid (RawAt W g 0 R) := Lib.hid fun i hi => by
    obtain ⟨x0, x1, x2⟩ := hraw i hi
    exact ⟨(World.cell?_of_block (a := ⟨g, 0 + i * 3, none⟩) hgW).trans x0, (World.cell?_of_block (a := ⟨g, 0 + i * 3 + 1, none⟩) hgW).trans x1, (World.cell?_of_block (a := ⟨g, 0 + i * 3 + 2, none⟩) hgW).trans x2⟩
  have HCG := Lib.hid hCG
  have HCL : Hid (∀ k, C k → k < W.heap.size) := Lib.hid fun k hk => Nat.lt_of_lt_of_le (hC k hk) hW.size
  have HY := Lib.hid hY
  have HJ := Lib.hid hJ
  have HLT := Lib.hid (chunks_lt hlim h0)
  have H0 := Lib.hid h0J
  have HLV := Lib.hid hlive
  clear hB1 hB2 hraw hgW hY hJ hJx h0J hlive hW hCG
  refine (callsIn_wide (n := 5)).1 ?_
  refine callsIn_of_wp Tryz.func30 rfl trivial ?_
  simp only [Tryz.ntmps30, List.size_toArray, List.length_cons, List.length_nil, Nat.reduceAdd, Nat.reduceSub, Array.replicate_succ, Array.replicate_zero, List.push_toArray, List.append_toArray, List.nil_append, List.cons_append]
  gi_wp2_with fail
  gi_loopw [4] (fun v wr => ∃ (j : Nat) (G1 : Nat → Prop), v = .int .i64 ((j * lim : Nat) : Int) ∧ j ≤ (chunks lim R).length ∧ J ((chunks lim R).take j) G1 wr ∧ Live G1 wr ∧ (∀ k, G1 k → G k ∨ W.heap.size ≤ k) ∧ Keep G W wr) (fun v _ => R.length - (intOf v).toNat)
  case atStart => exact ⟨0, G, by simp, Nat.zero_le _, by simpa using H0.out, HLV.out, fun k hk => .inl hk, Keep.refl _ _⟩
  case round =>
    obtain ⟨j, G1, rfl, hj, hj1, hlv1, hg1, hk1⟩ := hrel
    have hb1 := HB1.out.keep hk1 (fun h => HCG.out _ hC1 h)
    have hb2 := HB2.out.keep hk1 (fun h => HCG.out _ hC2 h)
    have b1 := hb1.cell
    have b2 := hb2.cell
    have HJ1 := Lib.hid hj1
    have HLV1 := Lib.hid hlv1
    have HG1 := Lib.hid hg1
    have HK1 := Lib.hid hk1
    have hb1l := hb1.lt
    have hb2l := hb2.lt
    clear hj1 hlv1 hg1 hk1 hb1 hb2
    obtain ⟨i, hi⟩ : ∃ i, i = j * lim := ⟨_, rfl⟩
    by_cases hlt : i < R.length
    · have hjl : j < (chunks lim R).length := (HLT.out j).2 (by omega)
      have hat := chunks_at hjl
      rw [← hi] at hat ⊢
      have i0 : ¬ (i : Int) < 0 := by omega
      have i1 : (i : Int) ≤ (R.length : Int) := by omega
      have i2 : (R.length : Int) ≤ (cap : Int) := by omega
      have i3 : (i : Int) < (R.length : Int) := by omega
      have i4 : ¬ cap = i := by omega
      have HI := Lib.hid hi
      have HAT := Lib.hid hat
      have HTS := Lib.hid (take_snoc (chunks lim R) j hjl)
      clear hat hi
      gi_wp2_with fail
      gi_region
      obtain ⟨k, hk⟩ : ∃ k, k = min lim (R.length - i) := ⟨_, rfl⟩
      have e1 : min (lim : Int) ((R.length - i : Nat) : Int) = (k : Int) := by omega
      rw [e1]
      have hk1 : 1 ≤ k := by omega
      have hk2 : i + k ≤ R.length := by omega
      have hlen : ((chunks lim R)[j]).length = k := by rw [HAT.out, List.length_take, List.length_drop]; omega
      obtain ⟨fn, tmps, assign, body, hy, hR⟩ := HY.out ((chunks lim R).take j) (chunks lim R)[j] G1 (fun _ => False) wr.drew #[.slice (some ⟨g, i * 3, none⟩) k k]
        ⟨fun _ h => h, _, rfl, some ⟨g, i * 3, none⟩, k, by rw [hlen], .inr ⟨g, i * 3, rfl, hCg, Nat.lt_of_lt_of_le (HCL.out g hCg) (HK1.out.size), fun t ht => by
          rw [hlen] at ht
          have h := HRW.out (i + t) (by omega)
          have hbk : (wr.drew).heap[g]? = W.heap[g]? := HK1.out.block g (HCL.out g hCg) (fun h => HCG.out _ hCg h)
          have hx : (chunks lim R)[j][t]'(by rw [hlen]; exact ht) = R[i + t]'(by omega) := by
            have h2 := HAT.out
            simp only [h2, List.getElem_take, List.getElem_drop]
          rw [hx, show i * 3 + t * 3 = 0 + (i + t) * 3 by omega]
          exact ⟨(World.cell?_of_block (a := ⟨g, 0 + (i + t) * 3, none⟩) hbk).trans h.1, (World.cell?_of_block (a := ⟨g, 0 + (i + t) * 3 + 1, none⟩) hbk).trans h.2.1, (World.cell?_of_block (a := ⟨g, 0 + (i + t) * 3 + 2, none⟩) hbk).trans h.2.2⟩⟩⟩
        (fun _ h => h.elim) (fun _ h => h.elim) (by rw [HTS.out]; exact List.take_prefix _ _) (HJ.out _ _ _ _ HJ1.out HLV1.out ((Keep.refl (fun k => ¬ G1 k) wr).drew)) (fun k hk => HLV1.out k hk) 4
      have HR := Lib.hid hR
      have HKK := Lib.hid hk
      have j1 : ¬ (i : Int) + (k : Int) < 0 := by omega
      have j2 : (i : Int) + (k : Int) ≤ (R.length : Int) := by omega
      have j3 : (i : Int) + (k : Int) ≤ (cap : Int) := by omega
      have j4 : (i : Int) ≤ (i : Int) + (k : Int) := by omega
      have j5 : ((i : Int) + (k : Int)).toNat = i + k := by omega
      clear hR hk hlen e1
      have hnb : ¬ G1 B2 := fun h => by
        rcases HG1.out B2 h with h | h
        · exact HCG.out _ hC2 h
        · have := HCL.out B2 hC2; omega
      gi_wp2_with fail
      refine (round_any HR.out).mono ?_
      rintro e W2 (⟨rfl, hn2⟩ | ⟨rfl, hn2⟩)
      · obtain ⟨G2, hJ2, hl2, hg2, hk2⟩ := Next.from (H := G1) (fun k hk => .inl (hk.elim id False.elim)) (Keep.refl _ _) hn2
        have b2' := (World.cell?_of_block (a := ⟨B2, 0, none⟩) (hk2.block B2 hb2l hnb)).trans ((World.cell?_of_block (a := ⟨B2, 0, none⟩) (show (wr.drew).heap[B2]? = wr.heap[B2]? from rfl)).trans b2)
        rw [HTS.out] at hJ2
        have HJ2 := Lib.hid hJ2
        have HL2 := Lib.hid hl2
        have HG2 : Hid (∀ k, G2 k → G k ∨ W.heap.size ≤ k) := Lib.hid fun k hk => by
          rcases hg2 k hk with h | h
          · exact HG1.out k h
          · exact .inr (Nat.le_trans HK1.out.size h)
        have HK2 : Hid (Keep G W W2) := Lib.hid (Keep.after HG1.out (HK1.out.drew) hk2)
        clear hJ2 hl2 hg2 hk2 hy hnb b1 b2
        gi_wp2_with fail
        go_roundw
        case rel => exact ⟨j + 1, G2, by rw [HI.out, Nat.add_mul]; go_num, by omega, HJ2.out, HL2.out, HG2.out, HK2.out⟩
        case measure => simp [intOf]; omega
      · rw [HTS.out] at hn2
        have HN := Lib.hid (Next.from HG1.out (HK1.out.drew) (Next.from (H := G1) (fun k hk => .inl (hk.elim id False.elim)) (Keep.refl _ _) hn2))
        clear hn2 hy hnb
        gi_wp2_with fail
        refine bodyPost_ret (results_none rfl _ _ _) rfl ?_
        exact ⟨⟨_, rfl⟩, .inr ⟨_, List.take_prefix _ _, HN.out⟩⟩
    · have hge : ¬ j < (chunks lim R).length := fun h => hlt (by rw [hi]; exact (HLT.out j).1 h)
      obtain rfl : j = (chunks lim R).length := by omega
      have hJ1 := HJ1.out
      rw [List.take_of_length_le (Nat.le_refl _)] at hJ1
      have HN := Lib.hid (Next.mk (J := J (chunks lim R)) (W := W) (W' := wr) G1 hJ1 HLV1.out HG1.out HK1.out)
      have i3 : ¬ (i : Int) < (R.length : Int) := by omega
      rw [← hi]
      clear hJ1 hi
      gi_wp2_with fail
      go_end0
      exact ⟨⟨_, rfl⟩, .inl HN.out⟩

/-- What Chunk makes: two boxes; its iterator. -/
def chunkW (W : World) (v : Value) (n : Int) : World := (W.alloc (.cells #[v] 33)).alloc (.cells #[.int .i64 n] 3)

set_option maxHeartbeats 1000000 in
set_option maxRecDepth 100000 in
theorem chunk_any (a : Option Addr) (n c : Nat) (lim : Nat) (hlim : 1 ≤ lim) (W : World) :
    Calls Tryz.prog 19 #[.slice a n c, .int .i64 (lim : Nat)] W fun e W' => e = .returned (.func (.func 30) #[] #[.pointer (some ⟨W.heap.size, 0, none⟩), .pointer (some ⟨W.heap.size + 1, 0, none⟩)]) ∧ chunkW W (.slice a n c) (lim : Nat) = W' := by
  have h1 : ¬ (lim : Int) < 1 := by omega
  go_enter Tryz.func19, Tryz.ntmps19
  go_wp2_with fail
  go_ret
  exact ⟨rfl, rfl⟩

end Go.Proofs.YtidjodplimkmgaaGreatDoor.E4
