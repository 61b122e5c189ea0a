/-
  places: THE ITERATOR OVER WHERE THE WORDS OF A TEXT BEGIN AND END.
-/
import Derived.Test.YtgjlbcmejanfaaaDoorWord
import Derived.OwnWalkIn
import Derived.TacticsInMore
import Derived.LoopNIn
import Derived.LoopIn
import Derived.RangeFuncLeaves
namespace Go.Proofs.YtgjlbcmejanfaaaDoor
open Go.RowKit Go Go.Shelf

attribute [local go_sem] Oper.semAt_some

theorem wide_fn (f : FuncId) : Fence.wide.fn f = True := rfl
theorem wide_depth : Fence.wide.depth = none := rfl
attribute [local go_sem] wide_fn wide_depth

/-- A variable's box. -/
def Box (W : World) (B : Nat) (t : TypeId) (v : Value) : Prop := W.heap[B]? = some (.cells #[v] t (0, 0))
theorem Box.lt {W : World} {B : Nat} {t : TypeId} {v : Value} (h : Box W B t v) : B < W.heap.size := (Array.getElem?_eq_some_iff.1 h).1
theorem Box.cell {W : World} {B : Nat} {t : TypeId} {v : Value} (h : Box W B t v) : W.cell? ⟨B, 0, none⟩ = some v := by simp [World.cell?, show W.heap[B]? = _ from h]
theorem Box.frozen {W : World} {B : Nat} {t : TypeId} {v : Value} (h : Box W B t v) : W.frozen? ⟨B, 0, none⟩ = false := by simp [World.frozen?, show W.heap[B]? = _ from h]
theorem Box.new (W : World) (t : TypeId) (v : Value) : Box (W.alloc (.cells #[v] t)) W.heap.size t v := World.alloc_heap_new W _
theorem Box.keep {G : Nat → Prop} {W W' : World} {B : Nat} {t : TypeId} {v : Value} (h : Box W B t v) (hk : Keep G W W') (hn : ¬ G B) : Box W' B t v := (hk.block B h.lt hn).trans h
theorem Box.alloc {W : World} {B : Nat} {t : TypeId} {v : Value} (h : Box W B t v) (o : Obj) : Box (W.alloc o) B t v := h.keep ((Keep.refl (fun _ => False) W).alloc o) (fun h => h)

def encP (p : Nat × Nat) : Array Value := #[.int .i64 p.1, .int .i64 p.2]
def frI : Option Nat → Int
  | none => -1
  | some k => k

theorem keep_iterAt {G : Nat → Prop} (W : World) (R : Nat) (s : ByteArray) (pos : Nat) (h : G R) : Keep G W (W.iterAt R s pos) :=
  ⟨rfl, rfl, rfl, by rw [Lib.iterAt_size]; exact Nat.le_refl _, fun k _ hn => Lib.iterAt_other W R k s pos (fun e => hn (e ▸ h))⟩

/-- What holds at the head of a round. -/
def PRel (l : List UInt8) (s : ByteArray) (J : List (Nat × Nat) → Stance) (G : Nat → Prop) (W : World) (v : Value) (wr : World) : Prop :=
  ∃ (pos : Nat) (fr : Option Nat) (pre : List (Nat × Nat)) (G1 : Nat → Prop), v = .int .i64 (frI fr) ∧ pos ≤ s.size ∧ (∀ k, fr = some k → k < pos) ∧ wr.heap[W.heap.size]? = some (.stringIter s pos) ∧
    pre ++ M.P l pos fr = M.places l ∧ J pre G1 wr ∧ Live G1 wr ∧ (∀ k, G1 k → G k ∨ W.heap.size ≤ k) ∧ ¬ G1 W.heap.size ∧ Keep G W wr

theorem neg_ne (k : Nat) : ((k : Int) == -1) = false := by
  simp
  try omega
theorem neg_ne' (k : Nat) : ((k : Int) != -1) = true := by
  simp
  try omega

set_option maxHeartbeats 4000000 in
set_option maxRecDepth 100000 in
theorem places_gives (s : ByteArray) (hlen : s.size ≤ 70368744177664) (B : Nat) (w : World) (hB : Box w B 9 (.string s)) :
    Gives Tryd.prog 25 #[.pointer (some ⟨B, 0, none⟩)] (fun k => k = B) encP (M.places s.data.toList) w := by
  intro l J Jx G W hW hCG hJ hJx hY h0 hlive
  have hBW := hB.keep hW (fun h => h rfl)
  have hGB := hCG B rfl
  have hsz : s.data.toList.length = s.size := Array.length_toList
  have HZ := Lib.hid hsz
  clear hsz
  have hcB := hBW.cell
  have hGR : ¬ G W.heap.size := fun h => by have := hlive _ h; omega
  refine (callsIn_wide (n := 5)).1 ?_
  refine callsIn_of_wp Tryd.func25 rfl trivial ?_
  simp only [Tryd.ntmps25, List.size_toArray, List.length_cons, List.length_nil, Nat.reduceAdd, Nat.reduceSub, Array.replicate_succ, Array.replicate_zero, List.push_toArray, List.append_toArray, List.nil_append, List.cons_append]
  gi_wp2
  gi_loopw [3] (fun v wr => PRel s.data.toList s J G W v wr) (fun _ wr => s.size - wr.iterPos W.heap.size)
  case atStart =>
    exact ⟨0, none, [], G, rfl, Nat.zero_le _, (fun k h => by cases h), World.iter_heap W s 0, rfl, hJ _ _ _ _ h0 hlive ((Keep.refl _ _).alloc _), fun k hk => by have := hlive k hk; simp [World.iter]; omega, fun k hk => .inl hk, hGR, (Keep.refl _ _).alloc _⟩
  case round =>
    obtain ⟨pos, fr, pre, G1, rfl, hp, hfr, hit, hP, hj, hlv, hg, hnR, hKp⟩ := hrel
    by_cases hlt : pos < s.size
    · obtain ⟨c, n, hd⟩ : ∃ c n, M.dec (s.data.toList.drop pos) = (c, n) := ⟨_, _, rfl⟩
      have hpl : pos < s.data.toList.length := by rw [HZ.out]; exact hlt
      have hdd := M.dec_drop hpl
      have hPl := M.P_letter fr hpl
      have hPo := M.P_other fr hpl
      rw [hd] at hdd hPl hPo
      rw [HZ.out] at hdd
      have HIT := Lib.hid (Lib.iterAt_heap wr _ s pos (pos + n) hit)
      have hnx := fun ty => next_at wr _ s pos ty hit hlt c n hd
      have HP0 := Lib.hid (iterPos_of hit)
      have HP1 := Lib.hid (iterPos_of HIT.out)
      have HJ1 := Lib.hid (hJ pre G1 wr (wr.iterAt W.heap.size s (pos + n)) hj hlv (keep_iterAt wr _ s _ hnR))
      have HL1 : Hid (Live G1 (wr.iterAt W.heap.size s (pos + n))) := Lib.hid fun k hk => by rw [Lib.iterAt_size]; exact hlv k hk
      have HK1 : Hid (Keep G W (wr.iterAt W.heap.size s (pos + n))) := Lib.hid ⟨hKp.os, hKp.tape, hKp.output, by rw [Lib.iterAt_size]; exact hKp.size, fun k hk hn => (Lib.iterAt_other wr _ k s _ (by omega)).trans (hKp.block k hk hn)⟩
      have HD := Lib.hid hd
      have HPP := Lib.hid hP
      clear hd hit hj hlv hKp hP
      by_cases hl : M.letter c = true
      · have HPL := Lib.hid (hPl hl)
        have HL := Lib.hid (letter_nat c true hl (wr.iterAt W.heap.size s (pos + n)))
        clear hPl hPo hl
        cases fr with
        | none =>
          simp only [frI]
          gi_wp2_with (gi_at_call 21; refine (callsIn_wide.2 HL.out).mono ?_; rintro e w' ⟨rfl, rfl⟩)
          go_roundw
          case rel => exact ⟨pos + n, some pos, pre, G1, rfl, hdd.2, (fun k h => by cases h; omega), HIT.out, by rw [← HPP.out, HPL.out]; rfl, HJ1.out, HL1.out, hg, hnR, HK1.out⟩
          case measure => rw [HP0.out, HP1.out]; omega
        | some k =>
          have hk1 := neg_ne k
          have hkp := hfr k rfl
          simp only [frI]
          gi_wp2_with (gi_at_call 21; refine (callsIn_wide.2 HL.out).mono ?_; rintro e w' ⟨rfl, rfl⟩)
          go_roundw
          case rel => exact ⟨pos + n, some k, pre, G1, rfl, hdd.2, (fun j h => by cases h; omega), HIT.out, by rw [← HPP.out, HPL.out]; rfl, HJ1.out, HL1.out, hg, hnR, HK1.out⟩
          case measure => rw [HP0.out, HP1.out]; omega
      · have hl := Bool.eq_false_iff.2 hl
        have HPL := Lib.hid (hPo hl)
        have HL := Lib.hid (letter_nat c false hl (wr.iterAt W.heap.size s (pos + n)))
        clear hPl hPo hl
        cases fr with
        | none =>
          simp only [frI]
          gi_wp2_with (gi_at_call 21; refine (callsIn_wide.2 HL.out).mono ?_; rintro e w' ⟨rfl, rfl⟩)
          go_roundw
          case rel => exact ⟨pos + n, none, pre, G1, rfl, hdd.2, (fun k h => by cases h), HIT.out, by rw [← HPP.out, HPL.out]; rfl, HJ1.out, HL1.out, hg, hnR, HK1.out⟩
          case measure => rw [HP0.out, HP1.out]; omega
        | some k =>
          have hk1 := neg_ne' k
          have hkp := hfr k rfl
          have hPk : M.places s.data.toList = pre ++ [(k, pos)] ++ M.P s.data.toList (pos + n) none := by rw [← HPP.out, HPL.out, List.append_assoc]; rfl
          have HPK := Lib.hid hPk
          obtain ⟨fn, tmps, assign, body, hy, hR⟩ := hY pre (k, pos) G1 _ (by rw [hPk]; exact ⟨_, rfl⟩) HJ1.out HL1.out 4
          have HR := Lib.hid hR
          clear hPk hR
          simp only [frI]
          dsimp only [encP] at hy
          gi_wp2_with (gi_at_call 21; refine (callsIn_wide.2 HL.out).mono ?_; rintro e w' ⟨rfl, rfl⟩)
          refine (round_any HR.out).mono ?_
          have hRlt : W.heap.size < (wr.iterAt W.heap.size s (pos + n)).heap.size := (Array.getElem?_eq_some_iff.1 HIT.out).1
          rintro e W3 (⟨rfl, hn⟩ | ⟨rfl, hn⟩)
          · obtain ⟨G2, hJ2, hl2, hg2, hk2⟩ := hn
            have HIT3 := Lib.hid ((hk2.block _ hRlt hnR).trans HIT.out)
            have HJ2 := Lib.hid hJ2
            have HL2 := Lib.hid hl2
            have HK2 := Lib.hid (Keep.after hg HK1.out hk2)
            have hn2 : ¬ G2 W.heap.size := fun h => (hg2 _ h).elim hnR (fun h => by omega)
            have hgg : ∀ k, G2 k → G k ∨ W.heap.size ≤ k := fun k h => (hg2 _ h).elim (fun h => hg k h) (fun h => .inr (by omega))
            have HP3 := Lib.hid (iterPos_of HIT3.out)
            clear hk2 hJ2 hl2 hg2
            gi_wp2
            go_roundw
            case rel => exact ⟨pos + n, none, pre ++ [(k, pos)], G2, rfl, hdd.2, (fun j h => by cases h), HIT3.out, HPK.out.symm, HJ2.out, HL2.out, hgg, hn2, HK2.out⟩
            case measure => rw [HP0.out, HP3.out]; omega
          · have HN := Lib.hid (Next.from hg HK1.out hn)
            clear hn
            gi_wp2
            refine bodyPost_ret (results_none rfl _ _ _) rfl ?_
            exact ⟨⟨_, rfl⟩, .inr ⟨_, ⟨_, HPK.out.symm⟩, HN.out⟩⟩
    · obtain rfl : pos = s.size := by omega
      have hnx := fun ty => Lib.run_next_end_at (P := Tryd.prog) wr _ s s.size ty hit hlt
      rw [M.P_end fr (by rw [HZ.out]; exact hlt), HZ.out] at hP
      have HPP := Lib.hid hP
      have HJ1 := Lib.hid hj
      have HL1 := Lib.hid hlv
      have HK1 := Lib.hid hKp
      have hcB := (hBW.keep hKp hGB).cell
      clear hP hit hj hlv hKp
      cases fr with
      | none =>
        simp only [frI]
        gi_wp2
        go_end0
        exact ⟨⟨_, rfl⟩, .inl ⟨G1, by rw [← HPP.out]; simpa [M.finp] using HJ1.out, HL1.out, hg, HK1.out⟩⟩
      | some k =>
        have hk1 := neg_ne' k
        obtain ⟨fn, tmps, assign, body, hy, hR⟩ := hY pre (k, s.size) G1 _ (by rw [← HPP.out]; exact List.prefix_refl _) HJ1.out HL1.out 4
        have HR := Lib.hid hR
        clear hR
        simp only [frI]
        dsimp only [encP] at hy
        gi_wp2
        refine (round_any HR.out).mono ?_
        rintro e W3 (⟨rfl, hn⟩ | ⟨rfl, hn⟩)
        · have HN := Lib.hid (Next.from hg HK1.out hn)
          clear hn
          gi_wp2
          go_end0
          exact ⟨⟨_, rfl⟩, .inl (by rw [← HPP.out]; exact HN.out)⟩
        · have HN := Lib.hid (Next.from hg HK1.out hn)
          clear hn
          gi_wp2
          go_end0
          exact ⟨⟨_, rfl⟩, .inr ⟨_, by rw [← HPP.out]; exact List.prefix_refl _, HN.out⟩⟩

end Go.Proofs.YtgjlbcmejanfaaaDoor
