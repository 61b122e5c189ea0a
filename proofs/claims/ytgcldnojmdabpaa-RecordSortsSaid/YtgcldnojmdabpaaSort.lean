/-
  record.Sort.
-/
import Derived.Test.YtgcldnojmdabpaaCompact
import Derived.Laws.EntriesVeiled
namespace Go.Proofs.Ytgcldnojmdabpaa
open Go.RowKit Go

/-- What Sort leaves. -/
def SortPost (desc : Bool) (L : Nat → Prop) (es : List Ent) (w : World) (e : Ending) (w' : World) : Prop :=
  ∃ v' R', e = .returned v' ∧ Rk 3 (fun b => w.heap.size ≤ b) w' v' R'.length (flatR R') ∧ RawL (fun b => L b ∧ b < w.heap.size) w' R' ∧ Sorts (ordC desc) es (R'.map Prod.snd) ∧ Lay w w'

theorem SortPost.ents {desc : Bool} {L : Nat → Prop} {es : List Ent} {w : World} {e : Ending} {w' : World} (h : SortPost desc L es w e w') :
    ∃ v' out, e = .returned v' ∧ EntsAt (fun b => w.heap.size ≤ b) (fun b => L b ∧ b < w.heap.size) w' v' out ∧ Sorts (ordC desc) es out ∧ Lay w w' := by
  obtain ⟨v', R', he, h1, h2, h3, h4⟩ := h
  exact ⟨v', _, he, h1.ents h2, h3, h4⟩

set_option maxHeartbeats 4000000 in
set_option maxRecDepth 100000 in
theorem sort_any (desc : Bool) {G L : Nat → Prop} {w : World} {v : Value} {es : List Ent} (h : EntsAt G L w v es) (hn : es.length ≤ 1000000) :
    Calls Try.prog 27 #[.bool desc, v] w (SortPost desc L es w) := by
  have hL0 : Lay w (w.alloc (.cells #[.func (.func (ordF desc)) #[] #[]] 36)) := (Keep.refl _ _).alloc _
  have HE := Lib.hid (((h.mono (fun _ hb _ => hb) (fun b hb hlt => (⟨hb, hlt⟩ : L b ∧ b < w.heap.size))).lay hL0))
  have HL0 := Lib.hid hL0
  obtain ⟨a, ca, rfl, _⟩ := id h
  clear h hL0
  go_enter Try.func27, Try.ntmps27
  have hord : ∀ w, Calls Try.prog 25 #[.bool desc] w fun e w' => e = .returned (.func (.func (ordF desc)) #[] #[]) ∧ w = w' := fun w => (order_any desc w).mono fun _ _ ⟨a, b⟩ => ⟨a, b.symm⟩
  go_wp2_with fail
  refine (hord _).mono ?_
  rintro e w' ⟨rfl, rfl⟩
  clear hord
  go_wp2_with fail
  refine (clone_any HE.out hn).mono ?_
  rintro e w2 ⟨v2, R, rfl, hrk, hR, hRL, hl2⟩
  have hsz1 : (w.alloc (.cells #[.func (.func (ordF desc)) #[] #[]] 36)).heap.size = w.heap.size + 1 := by simp
  rw [hsz1] at hrk
  have hc2 : w2.cell? ⟨w.heap.size, 0, none⟩ = some (.func (.func (ordF desc)) #[] #[]) := (Lay.cell hl2 (by simp)).trans (by go_simp)
  have hat : ∀ b, At v2 b → w.heap.size + 1 ≤ b := fun b hb => (hrk.at hb).1
  have hlt2 : w.heap.size < w2.heap.size := Nat.lt_of_lt_of_le (by rw [hsz1]; omega) hl2.size
  have HL2 := Lib.hid (Keep.trans HL0.out hl2)
  have HSF := Lib.hid (sortFn_any desc hrk (fun b hb ha => by have := hat b ha; omega) hRL hn)
  have HR := Lib.hid hR
  have HRL := Lib.hid hRL
  have HAT := Lib.hid hat
  clear hrk hR hRL hl2 hat hsz1
  go_wp2_with fail
  refine HSF.out.mono ?_
  rintro e w3 ⟨rfl, R2, hrk3, hperm, hweak, hRL3, hk3⟩
  have hc3 : w3.cell? ⟨w.heap.size, 0, none⟩ = some (.func (.func (ordF desc)) #[] #[]) := (World.cell?_of_block (a := ⟨w.heap.size, 0, none⟩) (hk3.block w.heap.size hlt2 (fun ha => by have := HAT.out w.heap.size ha; omega))).trans hc2
  have hlt3 : w.heap.size < w3.heap.size := Nat.lt_of_lt_of_le hlt2 hk3.size
  have HL3 := Lib.hid (Keep.trans (HL2.out.into (H := fun b => w.heap.size ≤ b) (fun _ _ h => h.elim)) (hk3.into (H := fun b => w.heap.size ≤ b) (fun b _ ha => by have := HAT.out b ha; omega)))
  have HCF := Lib.hid (compact_any desc hrk3 (fun b hb ha => by have := HAT.out b ha; omega) hRL3 hn hweak w.heap.size hc3 hlt3 (fun ha => by have := HAT.out _ ha; omega))
  have HP := Lib.hid hperm
  clear hrk3 hperm hweak hRL3 hk3 HSF hc2 hlt2
  go_wp2_with fail
  refine HCF.out.mono ?_
  rintro e w4 ⟨v4, R4, rfl, hrk4, hat4, hRL4, hs4, hk4⟩
  have HRK4 := Lib.hid hrk4
  have HRL4 := Lib.hid hRL4
  have HS4 := Lib.hid hs4
  have HK4 := Lib.hid hk4
  have HAT4 := Lib.hid hat4
  clear hrk4 hRL4 hs4 hk4 hat4 HCF
  go_wp2_with fail
  go_ret
  have hk4' : Keep (fun b => w.heap.size ≤ b) w3 w4 := HK4.out.into fun b _ ha => by have := HAT.out b ha; omega
  refine ⟨v4, R4, rfl, ?_, ?_, ?_, Keep.into (Keep.trans HL3.out hk4') fun k hlt hk => by omega⟩
  · exact HRK4.out.mono fun b _ ha => by have := HAT.out b (HAT4.out b ha); omega
  · exact HRL4.out
  · refine ⟨HS4.out.1, fun x => (HS4.out.2 x).trans ?_⟩
    rw [HP.out.mem_iff, HR.out]

end Go.Proofs.Ytgcldnojmdabpaa
