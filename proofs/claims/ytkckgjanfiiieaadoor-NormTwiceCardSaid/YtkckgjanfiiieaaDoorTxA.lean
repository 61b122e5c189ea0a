/-
  THE DOCUMENT'S OWN TextFilter: of one that nothing stands within.
  THE DOCUMENT'S OWN TextFilter: of a field.
  A FILTER's TEXT, of its kids' texts: no program in it.
  THE DOCUMENT'S OWN TextFilter, whole.
  THE DOCUMENT'S OWN TextFilter, of whichever filter.
-/
import Derived.Test.YtkckgjanfiiieaaDoorPxB
import Derived.Test.YtkckgjanfiiieaaDoorLxR
import Derived.Deep.QuietTactic
import Derived.BigQuiet
import Derived.BigRegion
import Derived.Test.YtkckgjanfiiieaaDoorPrE
import Derived.Deep.DeepCutAuto
namespace Go.Proofs.YtkckgjanfiiieaaDoor
open Go.RowKit Go

/-- A filter's text. -/
def fText (f : Ft) : List UInt8 := PX.spell (PX.fsp 0 f)

end Go.Proofs.YtkckgjanfiiieaaDoor

namespace Go.Proofs.YtkckgjanfiiieaaDoor
open Go.RowKit Go

end Go.Proofs.YtkckgjanfiiieaaDoor

namespace Go.Proofs.YtkckgjanfiiieaaDoor
open Go.RowKit Go

/-- A kid's text. -/
def kText (k : Ft) : List UInt8 := if 7 ≤ k.op then 40 :: (fText k ++ [41]) else fText k

theorem spell_blank (b : Nat) (x : PX.K) (r : List (Nat × PX.K)) : PX.spell ((b, x) :: r) = List.replicate b 32 ++ PX.spell ((0, x) :: r) := by
  rw [PX.spell, PX.spell]
  rfl

theorem fsp_blank : ∀ (n : Nat) (f : Ft), f.count ≤ n → PX.Can f → ∀ b, ∃ x r, PX.fsp b f = (b, x) :: r ∧ PX.fsp 0 f = (0, x) :: r
  | 0, .mk _ _ _ _, hn, _, _ => by rw [Ft.count] at hn; omega
  | n + 1, .mk op nm t kids, hn, hc, b => by
    rw [Ft.count] at hn
    rw [PX.Can] at hc
    rw [PX.fsp, PX.fsp]
    have row : ∀ w, 2 ≤ kids.length → PX.Cans kids → ∃ x r, PX.rsp b w kids = (b, x) :: r ∧ PX.rsp 0 w kids = (0, x) :: r := fun w hl hcs => by
      cases kids with
      | nil => simp at hl
      | cons k r =>
        rw [PX.rsp_cons, PX.rsp_cons]
        unfold PX.ksp
        split
        · exact ⟨_, _, rfl, rfl⟩
        · rw [Ft.counts] at hn
          obtain ⟨x, y, e, e2⟩ := fsp_blank n k (by omega) (PX.Cans.mem hcs (by simp)) b
          rw [e, e2]
          exact ⟨_, _, rfl, rfl⟩
    rcases hc with ⟨rfl | rfl, _⟩ | ⟨rfl | rfl, _⟩ | ⟨rfl, _⟩ | ⟨rfl, _⟩ | ⟨rfl | rfl, _, _, hl, hcs⟩
    · exact ⟨_, _, rfl, rfl⟩
    · exact ⟨_, _, rfl, rfl⟩
    · exact ⟨_, _, rfl, rfl⟩
    · exact ⟨_, _, rfl, rfl⟩
    · exact ⟨_, _, rfl, rfl⟩
    · exact ⟨_, _, rfl, rfl⟩
    · exact row PX.wAnd hl hcs
    · exact row PX.wOr hl hcs

theorem fsp_spell {f : Ft} (hc : PX.Can f) (b : Nat) : PX.spell (PX.fsp b f) = List.replicate b 32 ++ fText f := by
  obtain ⟨x, r, e, e2⟩ := fsp_blank f.count f (Nat.le_refl _) hc b
  unfold fText
  rw [e, e2]
  exact spell_blank b x r

theorem ksp_spell {k : Ft} (hc : PX.Can k) (b : Nat) : PX.spell (PX.ksp b k) = List.replicate b 32 ++ kText k := by
  unfold PX.ksp kText
  split
  · rw [PX.spell, PX.spell_append]
    rfl
  · exact fsp_spell hc b

/-- The rest of a row. -/
def sText (w : List UInt8) : List Ft → List UInt8
  | [] => []
  | k :: r => 32 :: (w ++ (32 :: kText k)) ++ sText w r
/-- A row. -/
def rText (w : List UInt8) : List Ft → List UInt8
  | [] => []
  | k :: r => kText k ++ sText w r

theorem ssp_spell (w : List UInt8) : ∀ l : List Ft, PX.Cans l → PX.spell (PX.ssp w l) = sText w l
  | [], _ => by rw [PX.ssp]; rfl
  | k :: r, h => by
    rw [PX.Cans] at h
    rw [PX.ssp_cons, PX.spell, PX.spell_append, ksp_spell h.1, ssp_spell w r h.2, sText]
    have e : PX.lts (PX.kW w) = w := by unfold PX.lts; rw [if_neg (by show ¬ 2 = 4; decide)]; rfl
    rw [e]
    simp
theorem rsp_spell (w : List UInt8) : ∀ l : List Ft, PX.Cans l → ∀ b, l ≠ [] → PX.spell (PX.rsp b w l) = List.replicate b 32 ++ rText w l
  | [], _, _, h => absurd rfl h
  | k :: r, h, b, _ => by
    rw [PX.Cans] at h
    rw [PX.rsp_cons, PX.spell_append, ksp_spell h.1, ssp_spell w r h.2, rText, List.append_assoc]

theorem sText_snoc (w : List UInt8) (k : Ft) : ∀ l : List Ft, sText w (l ++ [k]) = sText w l ++ (32 :: (w ++ (32 :: kText k)))
  | [] => by simp [sText]
  | x :: r => by rw [List.cons_append, sText, sText, sText_snoc w k r, List.append_assoc]
theorem rText_snoc (w : List UInt8) (k : Ft) {l : List Ft} (h : l ≠ []) : rText w (l ++ [k]) = rText w l ++ (32 :: (w ++ (32 :: kText k))) := by
  cases l with
  | nil => exact absurd rfl h
  | cons x r => rw [List.cons_append, rText, rText, sText_snoc, List.append_assoc]

theorem fText_not {n t : ByteArray} {k : Ft} (hc : PX.Can k) : fText (.mk 6 n t [k]) = [110, 111, 116, 32] ++ kText k := by
  unfold fText
  rw [PX.fsp]
  show PX.spell ((0, PX.kW PX.wNot) :: PX.rsp 1 PX.wAnd [k]) = _
  rw [PX.spell, PX.rsp_cons, PX.spell_append, ksp_spell hc, PX.ssp]
  simp [PX.spell, PX.lts, PX.kW, PX.wNot]
theorem fText_and {n t : ByteArray} {l : List Ft} (hc : PX.Cans l) (h : l ≠ []) : fText (.mk 7 n t l) = rText PX.wAnd l := by
  unfold fText
  rw [PX.fsp]
  exact rsp_spell _ l hc 0 h
theorem fText_or {n t : ByteArray} {l : List Ft} (hc : PX.Cans l) (h : l ≠ []) : fText (.mk 8 n t l) = rText PX.wOr l := by
  unfold fText
  rw [PX.fsp]
  exact rsp_spell _ l hc 0 h

theorem quote_len (l : List UInt8) : (LX.quote l).length ≤ 10 * l.length + 10 := by
  unfold LX.quote
  split
  · have := (LX.esc_len l).2
    simp only [List.length_cons, List.length_append, List.length_nil]
    omega
  · simp

mutual
/-- Its names and texts are of so many bytes at most. -/
def Sm (m : Nat) : Ft → Prop
  | .mk _ n t kids => n.size ≤ m ∧ t.size ≤ m ∧ Sms m kids
def Sms (m : Nat) : List Ft → Prop
  | [] => True
  | k :: r => Sm m k ∧ Sms m r
end
theorem Sms.mem {m : Nat} : ∀ {l : List Ft} {k : Ft}, Sms m l → k ∈ l → Sm m k
  | q :: r, k, h, hk => by
    rw [Sms] at h
    rcases List.mem_cons.1 hk with rfl | hk
    · exact h.1
    · exact Sms.mem h.2 hk

theorem sText_take (w : List UInt8) : ∀ (l : List Ft) (i : Nat), (sText w (l.take i)).length ≤ (sText w l).length
  | [], i => by simp
  | k :: r, 0 => by simp [sText]
  | k :: r, i + 1 => by
    have := sText_take w r i
    rw [List.take_succ_cons, sText, sText]
    simp only [List.length_append]
    omega
theorem rText_take (w : List UInt8) (l : List Ft) (i : Nat) : (rText w (l.take i)).length ≤ (rText w l).length := by
  cases l with
  | nil => simp
  | cons k r =>
    cases i with
    | zero => simp [rText]
    | succ i =>
      have := sText_take w r i
      rw [List.take_succ_cons, rText, rText]
      simp only [List.length_append]
      omega
theorem rText_next (w : List UInt8) {l : List Ft} {i : Nat} (h : i < l.length) : rText w (l.take (i + 1)) = rText w (l.take i) ++ (if i = 0 then [] else 32 :: (w ++ [32])) ++ kText l[i] := by
  rw [List.take_succ_eq_append_getElem h]
  by_cases hi : i = 0
  · subst hi
    simp [rText, sText]
  · rw [if_neg hi, rText_snoc w _ (by
      intro e
      have := congrArg List.length e
      rw [List.length_take, List.length_nil] at this
      omega)]
    simp
end Go.Proofs.YtkckgjanfiiieaaDoor

namespace Go.Proofs.YtkckgjanfiiieaaDoor
open Go.RowKit Go

/-- What TextFilter answers. -/
def TextR (f : Ft) (w : World) (e : Ending) (w' : World) : Prop := ∃ T : ByteArray, e = .returned (.string T) ∧ T.data.toList = fText f ∧ Below w.heap.size w w'

/-- A filter's text, of its kids'. -/
theorem fText_of {op : Int} {n t : ByteArray} {l : List Ft} (h6 : 6 ≤ op ∧ op ≤ 8) (hc : PX.Can (.mk op n t l)) :
    l ≠ [] ∧ PX.Cans l ∧ (op = 6 → l.length = 1) ∧ fText (.mk op n t l) = (if op = 6 then [110, 111, 116, 32] else []) ++ rText (if op = 8 then PX.wOr else PX.wAnd) l := by
  rw [PX.Can] at hc
  rcases hc with ⟨h | h, _⟩ | ⟨h | h, _⟩ | ⟨h, _⟩ | ⟨rfl, _, _, hl, hcs⟩ | ⟨rfl | rfl, _, _, hl, hcs⟩
  · omega
  · omega
  · omega
  · omega
  · omega
  · cases l with
    | nil => simp at hl
    | cons k r =>
      cases r with
      | cons x y => simp at hl
      | nil =>
        refine ⟨by simp, hcs, fun _ => rfl, ?_⟩
        rw [fText_not (PX.Cans.mem hcs (by simp))]
        simp [rText, sText]
  · have hne : l ≠ [] := fun e => by subst e; simp at hl
    exact ⟨hne, hcs, fun h => absurd h (by decide), by rw [fText_and hcs hne]; rfl⟩
  · have hne : l ≠ [] := fun e => by subst e; simp at hl
    exact ⟨hne, hcs, fun h => absurd h (by decide), by rw [fText_or hcs hne]; rfl⟩

end Go.Proofs.YtkckgjanfiiieaaDoor

namespace Go.Proofs.YtkckgjanfiiieaaDoor
open Go.RowKit Go

end Go.Proofs.YtkckgjanfiiieaaDoor
