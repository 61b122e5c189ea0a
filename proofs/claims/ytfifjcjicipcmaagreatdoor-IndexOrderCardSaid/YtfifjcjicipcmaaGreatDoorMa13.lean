/-
  MAPS WHOSE KEYS ARE TEXTS, BY WHAT THEY HOLD AT EACH KEY.
-/
import Derived.Test.YtfifjcjicipcmaaGreatDoorEt
import Derived.Maps.OwnSet
namespace Go.Proofs.YtfifjcjicipcmaaGreatDoor.E4
open Go.RowKit Go Go.Maps

/-- An element, as it is. -/
def heldR (v : Value) : Option (DataW Value × List MemPlace) := some (.held v, [])
/-- A text, as a key. -/
def klit (s : ByteArray) : Lit := .string s.data.toList

theorem klit_ne {s t : ByteArray} (h : t ≠ s) : klit t ≠ klit s := fun e => h (by
  unfold klit at e
  injection e with e
  exact ByteArray.ext (Array.toList_inj.1 e))

/-- Block b is a map that holds f at each key; of at most n keys. -/
def MapAt (P : Program) (k : TypeId) (w : World) (b n : Nat) (f : ByteArray → Option Value) : Prop :=
  ∃ D, w.ownsMap P k heldR b n D ∧ ∀ s, s.size ≤ maxLen → ∀ z, D.atKey (klit s) z = match f s with | some v => .held v | none => z

variable {P : Program} {k t e : TypeId} {w : World} {b n : Nat} {f : ByteArray → Option Value}

theorem MapAt.lt (h : MapAt P k w b n f) : b < w.heap.size := by
  obtain ⟨D, h, _⟩ := h
  exact h.lt

theorem MapAt.mono {m : Nat} (h : MapAt P k w b n f) (hm : n ≤ m) : MapAt P k w b m f := by
  obtain ⟨D, h, h2⟩ := h
  exact ⟨D, h.mono hm, h2⟩

theorem MapAt.carry {w' : World} (h : MapAt P k w b n f) (hb : w'.heap[b]? = w.heap[b]?) : MapAt P k w' b n f := by
  obtain ⟨D, ⟨es, clock, h0, h1⟩, h2⟩ := h
  exact ⟨D, ⟨es, clock, hb.trans h0, h1⟩, h2⟩

theorem MapAt.made (w : World) (P : Program) (k : TypeId) : MapAt P k (w.alloc (.map #[] 0)) w.heap.size 0 (fun _ => none) :=
  ⟨_, World.ownsMap_made w P k heldR, fun _ _ _ => rfl⟩

theorem held_has {D : DataW Value} (hD : ∀ s, s.size ≤ maxLen → ∀ z, D.atKey (klit s) z = match f s with | some v => .held v | none => z) {s : ByteArray} (hs : s.size ≤ maxLen) : Maps.has D (klit s) = (f s).isSome := by
  cases hf : f s with
  | none => exact has_false_of_atKey fun z => by rw [hD s hs z, hf]
  | some v => exact has_true_of_atKey (y := .held v) fun z => by rw [hD s hs z, hf]

/-- m[s]. -/
theorem MapAt.look (h : MapAt P k w b n f) (hk : P.underlying k = some .string) (ht : P.underlying t = some (.map k e)) {z : Value} (hz : (zeroValue e).run P w = .ok z w) {s : ByteArray} (hs : s.size ≤ maxLen) :
    (Instr.lookup t (.map (some b)) (.string s) false).run P w = .ok ((f s).getD z) w := by
  obtain ⟨D, h1, h2⟩ := h
  obtain ⟨v, ps, hr, hv⟩ := h1.lookup (string_keyed hk) ht hz (zd := .held z) (zp := []) rfl (kl := klit s) (WideMaps.keyOf_string_mk hk hs)
  rw [h2 s hs] at hv
  rw [hr]
  unfold heldR at hv
  cases hf : f s with
  | none => rw [hf] at hv; simp at hv; rw [hv.1]; rfl
  | some u => rw [hf] at hv; simp at hv; rw [hv.1]; rfl

/-- v, ok := m[s]. -/
theorem MapAt.look_ok (h : MapAt P k w b n f) (hk : P.underlying k = some .string) (ht : P.underlying t = some (.map k e)) {z : Value} (hz : (zeroValue e).run P w = .ok z w) {s : ByteArray} (hs : s.size ≤ maxLen) :
    (Instr.lookup t (.map (some b)) (.string s) true).run P w = .ok (.tuple #[(f s).getD z, .bool (f s).isSome]) w := by
  obtain ⟨D, h1, h2⟩ := h
  obtain ⟨v, ps, hr, hv⟩ := h1.look_ok (string_keyed hk) ht hz (zd := .held z) (zp := []) rfl (kl := klit s) (WideMaps.keyOf_string_mk hk hs)
  rw [h2 s hs] at hv
  rw [hr, held_has h2 hs]
  unfold heldR at hv
  cases hf : f s with
  | none => rw [hf] at hv; simp at hv; rw [hv.1]; rfl
  | some u => rw [hf] at hv; simp at hv; rw [hv.1]; rfl

theorem keep_setBlock {w : World} {b : Nat} {es : Array MapEntry} {clock : Nat} {o : Obj} (h : w.heap[b]? = some (.map es clock)) : Keep (fun k => k = b) w (ChangeMaps.setBlock w b o) :=
  ⟨rfl, rfl, rfl, by simp [ChangeMaps.setBlock], Nat.le_refl _, fun _ _ hi => ChangeMaps.heap_setBlock_other h _ hi⟩

/-- m[s] = v. -/
theorem MapAt.store (h : MapAt P k w b n f) (hk : P.underlying k = some .string) (ht : P.underlying t = some (.map k e)) (hn : n < maxLen) {s : ByteArray} (hs : s.size ≤ maxLen) (v : Value) :
    ∃ w', (Instr.mapUpdate t (.map (some b)) (.string s) v).run P w = .ok () w' ∧ MapAt P k w' b (n + 1) (fun x => if x = s then some v else f x) ∧ Keep (fun k => k = b) w w' := by
  obtain ⟨D, h1, h2⟩ := h
  obtain ⟨w', hr, h3, es, clock, es', clock', hb, rfl⟩ := h1.store (string_keyed hk) ht hn (kl := klit s) (WideMaps.keyOf_string_mk hk hs) (val := v) (d := .held v) (ps := []) rfl
  refine ⟨_, hr, ⟨_, h3, fun x hx z => ?_⟩, keep_setBlock hb⟩
  by_cases hxs : x = s
  · subst hxs
    show _ = match (if x = x then some v else f x) with | some v => DataW.held v | none => z
    rw [if_pos rfl, atKey_put_same h1.isMap (by unfold klit WideAt.IsKeyLit; trivial)]
  · show _ = match (if x = s then some v else f x) with | some v => DataW.held v | none => z
    rw [if_neg hxs, atKey_put_other (klit_ne hxs)]
    exact h2 x hx z

end Go.Proofs.YtfifjcjicipcmaaGreatDoor.E4
