/-
  MATCHERS IN ORDER, EACH ONCE: norm.inOrder.
-/
import Derived.Test.YtkckgjanfiiieaaGreatDoorCm10
import Derived.Test.YtkckgjanfiiieaaGreatDoorNq10
import Derived.Laws.EntriesVeiled
namespace Go.Proofs.YtkckgjanfiiieaaGreatDoor
open Go.RowKit Go

/-- Does a matcher come ahead of another one? -/
def ltM (a b : Mt) : Bool := decide (mtC a b = -1)

theorem ordM : Nr.Ord Mt ltM where
  irr a := by unfold ltM; rw [mtC_lc.refl]; rfl
  tr a b c h1 h2 := by
    unfold ltM at *
    simp only [decide_eq_true_eq] at *
    exact mtC_lc.tr _ _ _ h1 h2
  tri a b h hne := by
    unfold ltM at *
    simp only [decide_eq_true_eq, decide_eq_false_iff_not] at *
    have h1 := mtC_lc.neg a b
    have h2 := mtC_lc.tri a b
    have h3 : mtC a b ≠ 0 := fun e => hne (mtC_lc.eq _ _ e)
    omega

/-- Matchers in order, each once. -/
def normM (l : List Mt) : List Mt := Nr.nub ltM l

/-- A query's plain form. -/
def normQ (q : Qy) : Qy := ⟨q.src, q.til, normM q.mat, Nr.norm q.fil, q.desc, q.lim, ⟨#[]⟩⟩

theorem normM_of {R C : List Mt} (h : Sorts mtC R C) : C = normM R :=
  Nr.nub_unique ordM (List.Pairwise.imp (fun {a b} hab => by unfold ltM; exact decide_eq_true hab) h.1) h.2

theorem normM_perm {R S : List Mt} (h : S.Perm R) : normM S = normM R := Nr.nub_same ordM fun _a => h.mem_iff

theorem Rk.msAt {G : Nat → Prop} {w : World} {v : Value} {l : List Mt} (h : Rk 3 G w v l.length (flatM l)) (hl : l.length ≤ 100000) : MsAt w v l := MsAt.of_rk h hl

set_option maxHeartbeats 4000000 in
set_option maxRecDepth 100000 in
theorem inOrder_any {w : World} {v : Value} {l : List Mt} (h : MsAt w v l) (hn : l.length ≤ 100000) :
    Calls Tryz.prog 21 #[v] w fun e w' => ∃ v', e = .returned v' ∧ Rk 3 (fun b => w.heap.size ≤ b) w' v' (normM l).length (flatM (normM l)) ∧ Lay w w' := by
  have hL0 : Lay w (w.alloc (.cells #[.func (.func 28) #[] #[]] 55)) := (Keep.refl _ _).alloc _
  have HC := Lib.hid (cloneM_any (h.lay hL0) (by omega))
  have HL0 := Lib.hid hL0
  obtain ⟨a, ca, rfl, _⟩ := id h
  clear h hL0
  go_enter Tryz.func21, Tryz.ntmps21
  go_wp2_with fail
  refine HC.out.mono ?_
  rintro e w2 ⟨v2, rfl, hrk, hl2⟩
  have hsz1 : (w.alloc (.cells #[.func (.func 28) #[] #[]] 55)).heap.size = w.heap.size + 1 := by simp
  rw [hsz1] at hrk
  have hc2 : w2.cell? ⟨w.heap.size, 0, none⟩ = some (.func (.func 28) #[] #[]) := (Lay.cell hl2 (by simp)).trans (by go_simp)
  have hat : ∀ b, At v2 b → w.heap.size + 1 ≤ b := fun b hb => (hrk.at hb).1
  have hlt2 : w.heap.size < w2.heap.size := Nat.lt_of_lt_of_le (by rw [hsz1]; omega) hl2.size
  have HL2 := Lib.hid (Keep.trans HL0.out hl2)
  have HSF := Lib.hid (sortM_any hrk w.heap.size hc2 hlt2 (fun ha => by have := hat _ ha; omega) (by omega))
  have HAT := Lib.hid hat
  clear hrk hl2 hat hsz1 hc2
  go_wp2_with fail
  refine HSF.out.mono ?_
  rintro e w3 ⟨rfl, R2, hrk3, hperm, hweak, hk3⟩
  have hlen : R2.length = l.length := hperm.length_eq
  rw [← hlen] at hrk3
  have HL3 := Lib.hid (Keep.trans (HL2.out.into (H := fun b => w.heap.size ≤ b) (fun _ _ h => h.elim)) (hk3.into (H := fun b => w.heap.size ≤ b) (fun b _ ha => by have := HAT.out b ha; omega)))
  have HCF := Lib.hid (compactM_any hrk3 (by omega) hweak)
  have HP := Lib.hid hperm
  clear hrk3 hperm hweak hk3 HSF hlt2
  go_wp2_with fail
  refine HCF.out.mono ?_
  rintro e w4 ⟨v4, R4, rfl, hrk4, hat4, hs4, hk4⟩
  have e4 : R4 = normM l := (normM_of hs4).trans (normM_perm HP.out)
  subst e4
  have hl4 : (normM l).length ≤ 100000 := Nat.le_trans (Nr.nub_length l) hn
  have HM4 := Lib.hid (hrk4.mono (G' := fun b => w.heap.size ≤ b) (fun b hb _ => by omega))
  have HL4 := Lib.hid (Keep.into (Keep.trans HL3.out (hk4.into (H := fun b => w.heap.size ≤ b) (fun b _ ha => by have := HAT.out b ha; omega))) (H := fun _ => False) (fun k hk hge => by omega))
  clear hrk4 hat4 hs4 hk4 HCF
  go_wp2_with fail
  go_ret
  exact ⟨v4, rfl, HM4.out, HL4.out⟩

end Go.Proofs.YtkckgjanfiiieaaGreatDoor
