/-
  tree.walk: A FILTER, AND ALL WITHIN IT, told one by one, until a round says 'no more'.
-/
import Derived.Test.YtgmahdeaggjjgaaNodes6
import Derived.Test.YtgmahdeaggjjgaaOver6
import Derived.OwnWalkIn
import Derived.TacticsInMore
import Derived.LoopNIn
import Derived.LoopIn
import Derived.RangeFuncLeaves
namespace Go.Proofs.Ytgmahdeaggjjgaa
open Go.RowKit Go Go.Shelf

attribute [local go_sem] Oper.semAt_some
theorem wide_fn (f : FuncId) : Fence.wide.fn f = True := rfl
theorem wide_depth : Fence.wide.depth = none := rfl
attribute [local go_sem] wide_fn wide_depth

/-- What is told of a filter that lies in the blocks C. -/
def encW (C : Nat → Prop) (x : Ft × Nat) (args : Array Value) (W : World) : Prop := ∃ kv, args = #[x.1.val kv, .int .i64 (x.2 : Nat)] ∧ KsB C W kv x.1

/-- What a round does. -/
def RoundOK {α : Type} (l : Nat) (enc : α → Array Value → World → Prop) (J Jx : List α → Stance) (xs : List α) : Prop :=
  ∀ pre x G1 W1 args, enc x args W1 → pre ++ [x] <+: xs → J pre G1 W1 → Live G1 W1 → ∀ n, YieldAt Fence.wide n Try.prog l args W1 fun e W' =>
    (e = .returned (.bool true) ∧ Next (J (pre ++ [x])) G1 W1 W') ∨ (e = .returned (.bool false) ∧ Next (Jx (pre ++ [x])) G1 W1 W')

/-- How a walk ends. -/
def WalkP (J Jx : List (Ft × Nat) → Stance) (xs now : List (Ft × Nat)) (G : Nat → Prop) (W : World) (e : Ending) (W' : World) : Prop :=
  (e = .returned (.bool true) ∧ Next (J now) G W W') ∨ (e = .returned (.bool false) ∧ ∃ p, p <+: xs ∧ Next (Jx p) G W W')

set_option maxHeartbeats 4000000 in
set_option maxRecDepth 100000 in
theorem walk_any {C : Nat → Prop} {w0 : World} {xs : List (Ft × Nat)} {l : Nat} {J Jx : List (Ft × Nat) → Stance} (hC : ∀ k, C k → k < w0.heap.size) (hJ : ∀ s, Stable (J s)) (_hJx : ∀ s, Stable (Jx s)) (hY : RoundOK l (encW C) J Jx xs) :
    ∀ (m : Nat) (f : Ft) (d : Nat) (kv : Value) (pre suf : List (Ft × Nat)) (G : Nat → Prop) (W : World), f.count ≤ m → m ≤ 100000 → d + f.count ≤ 1000000 → KsB C w0 kv f → Keep (fun k => ¬ C k) w0 W → (∀ k, C k → ¬ G k) → pre ++ Ft.nodes d f ++ suf = xs → J pre G W → Live G W →
      Calls Try.prog 35 #[f.val kv, .int .i64 (d : Nat), .func (.yield l) #[] #[]] W (WalkP J Jx xs (pre ++ Ft.nodes d f) G W) := by
  intro m
  induction m with
  | zero =>
    intro f d kv pre suf G W h
    cases f with
    | mk o n t k => rw [Ft.count] at h; omega
  | succ m ih =>
    intro f d kv pre suf G W hm hm2 hd hks hW hCG hxs h0 hlive
    obtain ⟨o, nm, t, ks⟩ := f
    have HKS := Lib.hid hks
    rw [KsB] at hks
    obtain ⟨a, cap, rfl, hl63, hks⟩ := hks
    rw [Ft.count] at hm hd
    rw [Ft.nodes] at hxs ⊢
    have IH := Lib.hid ih
    have HK := Lib.hid hks
    have HX := Lib.hid hxs
    clear ih hks hxs
    have hGR : ¬ G W.heap.size := fun h => by have := hlive _ h; omega
    simp only [Ft.val, Ft.op, Ft.name, Ft.text] at HKS ⊢
    obtain ⟨W1, hW1⟩ : ∃ W1, W1 = W.alloc (.cells #[.int .i64 o, .string nm, .string t, .slice a ks.length cap] 26) := ⟨_, rfl⟩
    have hl1 : Lay W W1 := by rw [hW1]; exact (Keep.refl _ _).alloc _
    have c0 : W1.cell? ⟨W.heap.size, 0, none⟩ = some (.int .i64 o) := by rw [hW1]; go_simp
    have c1 : W1.cell? ⟨W.heap.size, 1, none⟩ = some (.string nm) := by rw [hW1]; go_simp
    have c2 : W1.cell? ⟨W.heap.size, 2, none⟩ = some (.string t) := by rw [hW1]; go_simp
    have c3 : W1.cell? ⟨W.heap.size, 3, none⟩ = some (.slice a ks.length cap) := by rw [hW1]; go_simp
    have hs1 : W1.heap.size = W.heap.size + 1 := by rw [hW1]; simp
    have hJ1 := hJ _ _ _ _ h0 hlive (hl1.keep (G := fun k => ¬ G k))
    have hL1 : Live G W1 := fun k hk => Nat.lt_of_lt_of_le (hlive k hk) hl1.size
    have hks1 : KsB C W1 (.slice a ks.length cap) (.mk o nm t ks) := KsB.keep (Nat.le_trans hW.size hl1.size) (fun b hb hlt => (hl1.block (Nat.lt_of_lt_of_le hlt hW.size)).trans (hW.block b hlt (fun h => h hb))) _ _ HKS.out
    obtain ⟨fn, tmps, assign, body, hy, hR⟩ := hY pre (.mk o nm t ks, d) G W1 _ ⟨_, rfl, hks1⟩ (by rw [← HX.out]; exact ⟨Ft.nodesOf (d + 1) ks ++ suf, by simp⟩) hJ1 hL1 4
    simp only [Ft.val, Ft.op, Ft.name, Ft.text] at hy
    have HR := Lib.hid hR
    have HL1 := Lib.hid hl1
    have HC3 := Lib.hid c3
    have HS1 := Lib.hid hs1
    have HLV := Lib.hid hL1
    clear hR hJ1 hks1 h0 c0 c1 c2 c3 hl1 hs1 hL1
    subst hW1
    refine (callsIn_wide (n := 5)).1 ?_
    refine callsIn_of_wp Try.func35 rfl trivial ?_
    simp only [Try.ntmps35, List.size_toArray, List.length_cons, List.length_nil, Nat.reduceAdd, Nat.reduceSub, Array.replicate_succ, Array.replicate_zero, List.push_toArray, List.append_toArray, List.nil_append, List.cons_append]
    gi_wp2_with fail
    refine (round_any HR.out).mono ?_
    rintro e W2 (⟨rfl, hn⟩ | ⟨rfl, hn⟩)
    · obtain ⟨G2, hJ2, hl2, hg2, hk2⟩ := hn
      have c3 := (World.cell?_of_block (a := ⟨W.heap.size, 3, none⟩) (hk2.block W.heap.size (by rw [HS1.out]; omega) hGR)).trans HC3.out
      have HJ2 := Lib.hid hJ2
      have HLV2 := Lib.hid hl2
      have hg2' : ∀ k, G2 k → G k ∨ W.heap.size ≤ k := fun k hk => (hg2 k hk).imp id fun h => by rw [HS1.out] at h; omega
      have HG2 := Lib.hid hg2'
      have HK2 := Lib.hid (HL1.out.keep.trans hk2)
      clear hJ2 hl2 hg2 hg2' hk2
      gi_wp2_with fail
      gi_loopw [17] (fun v wr => ∃ (i : Nat) (G1 : Nat → Prop), v = .int .i64 i ∧ i ≤ ks.length ∧ J (pre ++ (.mk o nm t ks, d) :: Ft.nodesOf (d + 1) (ks.take i)) G1 wr ∧ Live G1 wr ∧ (∀ k, G1 k → G k ∨ W.heap.size ≤ k) ∧ Keep G W wr) (fun v _ => ks.length - (intOf v).toNat)
      case atStart => exact ⟨0, G2, rfl, Nat.zero_le _, HJ2.out, HLV2.out, HG2.out, HK2.out⟩
      case round =>
        obtain ⟨i, G1, rfl, hi, hj, hlv, hg, hk⟩ := hrel
        have HJ1 := Lib.hid hj
        have HLV1 := Lib.hid hlv
        have HG1 := Lib.hid hg
        have HK1 := Lib.hid hk
        clear hj hlv hg hk
        by_cases hlt : i < ks.length
        · rcases HK.out with h0 | ⟨b, off, rfl, hCb, hbl, hka⟩
          · exact absurd hlt (by rw [h0]; simp)
          have hWr : Keep (fun k => ¬ C k) w0 wr := hW.trans (HK1.out.mono fun k _ hg hc => hCG k hc hg)
          obtain ⟨kv, y0, y1, y2, y3, y4⟩ := KbAt.get hka i hlt
          have hbe : wr.heap[b]? = w0.heap[b]? := hWr.block b hbl (fun h => h hCb)
          have hblt : b < wr.heap.size := Nat.lt_of_lt_of_le hbl hWr.size
          have x0 := (World.cell?_of_block (a := ⟨b, off + i * 4, none⟩) hbe).trans y0
          have x1 := (World.cell?_of_block (a := ⟨b, off + i * 4 + 1, none⟩) hbe).trans y1
          have x2 := (World.cell?_of_block (a := ⟨b, off + i * 4 + 2, none⟩) hbe).trans y2
          have x3 := (World.cell?_of_block (a := ⟨b, off + i * 4 + 3, none⟩) hbe).trans y3
          have hcm := counts_mem ks i hlt
          have HSN := Lib.hid (Ft.nodesOf_take (d + 1) ks i hlt)
          have hdr : Ft.nodesOf (d + 1) ks = Ft.nodesOf (d + 1) (ks.take i) ++ (Ft.nodes (d + 1) ks[i] ++ Ft.nodesOf (d + 1) (ks.drop (i + 1))) := by
            rw [← Ft.nodesOf_drop, ← Ft.nodesOf_append, List.take_append_drop]
          have HDR := Lib.hid hdr
          generalize ks[i] = x at x0 x1 x2 x3 y4 hcm HSN HDR
          obtain ⟨ak, ck, rfl⟩ := y4.shape
          have hal : Lay wr (wr.alloc (.cells #[.int .i64 x.op, .string x.name, .string x.text, .slice ak x.kids.length ck] 26)) := (Keep.refl _ _).alloc _
          have HAL := Lib.hid hal
          have HCX := Lib.hid (IH.out x (d + 1) (.slice ak x.kids.length ck) (pre ++ (.mk o nm t ks, d) :: Ft.nodesOf (d + 1) (ks.take i)) (Ft.nodesOf (d + 1) (ks.drop (i + 1)) ++ suf) G1 (wr.alloc (.cells #[.int .i64 x.op, .string x.name, .string x.text, .slice ak x.kids.length ck] 26)) (by omega) (by omega) (by omega) y4 (hWr.trans hal.keep)
            (fun k hc hg => (HG1.out k hg).elim (fun h => hCG k hc h) (fun h => by have := hC k hc; have := hW.size; omega)) (by rw [← HX.out, HDR.out]; simp) (hJ _ _ _ _ HJ1.out HLV1.out hal.keep) (fun k hk => Nat.lt_of_lt_of_le (HLV1.out k hk) hal.size))
          clear y0 y1 y2 y3 y4 hka hbe hal hdr
          simp only [Ft.val] at HCX
          gi_wp2_with (gi_at_call 35; refine (callsIn_wide.2 HCX.out).mono ?_)
          rintro e W3 (⟨rfl, hn⟩ | ⟨rfl, p, hp, hn⟩)
          · obtain ⟨G3, hJ3, hl3, hg3, hk3⟩ := Next.from HG1.out HK1.out (Next.from (fun k hk => .inl hk) HAL.out.keep hn)
            have HJ3 := Lib.hid hJ3
            have HL3 := Lib.hid hl3
            have HG3 := Lib.hid hg3
            have HK3 := Lib.hid hk3
            clear hn hJ3 hl3 hg3 hk3
            gi_wp2_with fail
            go_roundw
            case rel => exact ⟨i + 1, G3, by go_num, by omega, by rw [HSN.out]; simpa using HJ3.out, HL3.out, HG3.out, HK3.out⟩
            case measure => simp [intOf]; omega
          · have HN := Lib.hid (Next.from HG1.out HK1.out (Next.from (fun k hk => .inl hk) HAL.out.keep hn))
            clear hn
            gi_wp2_with fail
            refine bodyPost_ret (results_tmp rfl _ _ _) rfl ?_
            exact .inr ⟨rfl, p, hp, HN.out⟩
        · obtain rfl : i = ks.length := by omega
          have HN : Hid (Next (J (pre ++ (.mk o nm t ks, d) :: Ft.nodesOf (d + 1) ks)) G W wr) := Lib.hid ⟨G1, by have := HJ1.out; rwa [List.take_length] at this, HLV1.out, HG1.out, HK1.out⟩
          gi_wp2_with fail
          refine bodyPost_ret (results_tmp rfl _ _ _) rfl ?_
          exact .inl ⟨rfl, HN.out⟩
    · have HN : Hid (Next (Jx (pre ++ [(.mk o nm t ks, d)])) G W W2) := Lib.hid (Next.from (fun k hk => .inl hk) HL1.out.keep hn)
      have HP : Hid (pre ++ [(Ft.mk o nm t ks, d)] <+: xs) := Lib.hid (by rw [← HX.out]; exact ⟨Ft.nodesOf (d + 1) ks ++ suf, by simp⟩)
      clear hn
      gi_wp2_with fail
      refine bodyPost_ret (results_tmp rfl _ _ _) rfl ?_
      exact .inr ⟨rfl, _, HP.out, HN.out⟩

end Go.Proofs.Ytgmahdeaggjjgaa
