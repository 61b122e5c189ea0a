/-
  HOW LABELS AND ENTRIES LIE: a slice of labels ('LabsAt'), an entry ('EntV'), a slice of entries ('EntsAt').
-/
import Derived.Test.YtgcldnojmdabpaaOrd
import Derived.Test.YtgcldnojmdabpaaRow
namespace Go.Proofs.Ytgcldnojmdabpaa
open Go.RowKit Go

/-- A label, as a value. -/
def Lab.val (x : Lab) : Value := .agg #[.string x.n, .string x.v]

/-- A slice of labels; where there are some, they lie in a block of G. -/
def LabsAt (G : Nat → Prop) (w : World) (v : Value) (ls : List Lab) : Prop :=
  ∃ a cap, v = .slice a ls.length cap ∧ ls.length ≤ 9223372036854775807 ∧ (ls = [] ∨ ∃ b off, a = some ⟨b, off, none⟩ ∧ G b ∧ b < w.heap.size ∧
    ∀ i (h : i < ls.length), w.cell? ⟨b, off + i * 2, none⟩ = some (.string ls[i].n) ∧ w.cell? ⟨b, off + i * 2 + 1, none⟩ = some (.string ls[i].v))

theorem LabsAt.carry {G : Nat → Prop} {w w' : World} {v : Value} {ls : List Lab} (h : LabsAt G w v ls) (hs : w.heap.size ≤ w'.heap.size) (hb : ∀ b, G b → b < w.heap.size → w'.heap[b]? = w.heap[b]?) : LabsAt G w' v ls := by
  obtain ⟨a, cap, hv, hn, h | ⟨b, off, ha, hg, hlt, hc⟩⟩ := h
  · exact ⟨a, cap, hv, hn, .inl h⟩
  · refine ⟨a, cap, hv, hn, .inr ⟨b, off, ha, hg, Nat.lt_of_lt_of_le hlt hs, fun i hi => ?_⟩⟩
    rw [World.cell?_of_block (a := ⟨b, off + i * 2, none⟩) (hb b hg hlt), World.cell?_of_block (a := ⟨b, off + i * 2 + 1, none⟩) (hb b hg hlt)]
    exact hc i hi

theorem LabsAt.mono {G H : Nat → Prop} {w : World} {v : Value} {ls : List Lab} (h : LabsAt G w v ls) (hG : ∀ b, G b → b < w.heap.size → H b) : LabsAt H w v ls := by
  obtain ⟨a, cap, hv, hn, h | ⟨b, off, ha, hg, hlt, hc⟩⟩ := h
  · exact ⟨a, cap, hv, hn, .inl h⟩
  · exact ⟨a, cap, hv, hn, .inr ⟨b, off, ha, hG b hg hlt, hlt, hc⟩⟩

theorem LabsAt.lay {G : Nat → Prop} {w w' : World} {v : Value} {ls : List Lab} (h : LabsAt G w v ls) (hl : Lay w w') : LabsAt G w' v ls := h.carry hl.size (fun _ _ hb => hl.block hb)
theorem LabsAt.keep {G H : Nat → Prop} {w w' : World} {v : Value} {ls : List Lab} (h : LabsAt G w v ls) (hk : Keep H w w') (hd : ∀ b, G b → b < w.heap.size → ¬ H b) : LabsAt G w' v ls := h.carry hk.size (fun b hg hb => hk.block b hb (hd b hg hb))
theorem LabsAt.alloc {G : Nat → Prop} {w : World} {v : Value} {ls : List Lab} (h : LabsAt G w v ls) (o : Obj) : LabsAt G (w.alloc o) v ls := h.lay ((Keep.refl _ _).alloc o)
theorem LabsAt.below {G : Nat → Prop} {B : Nat} {w w' : World} {v : Value} {ls : List Lab} (h : LabsAt G w v ls) (hb : Below B w w') (hG : ∀ b, G b → b < w.heap.size → b < B) : LabsAt G w' v ls := h.carry hb.size (fun b hg hlt => hb.block b (hG b hg hlt))

theorem LabsAt.nil (G : Nat → Prop) (w : World) : LabsAt G w (.slice none 0 0) [] := ⟨none, 0, rfl, by simp, .inl rfl⟩

/-- An entry, as a value, of its labels' slice. -/
def Ent.val (e : Ent) (lv : Value) : Value := .agg #[.int .i64 e.tm, lv, .string e.line]

/-- A value that is an entry. -/
def EntV (G : Nat → Prop) (w : World) (v : Value) (e : Ent) : Prop := ∃ lv, v = e.val lv ∧ LabsAt G w lv e.labs

/-- A slice of entries; where there are some, they lie in a block of G, and their labels in blocks of L. -/
def EntsAt (G L : Nat → Prop) (w : World) (v : Value) (es : List Ent) : Prop :=
  ∃ a cap, v = .slice a es.length cap ∧ es.length ≤ 9223372036854775807 ∧ (es = [] ∨ ∃ b off, a = some ⟨b, off, none⟩ ∧ G b ∧ b < w.heap.size ∧
    ∀ i (h : i < es.length), ∃ lv, w.cell? ⟨b, off + i * 3, none⟩ = some (.int .i64 es[i].tm) ∧ w.cell? ⟨b, off + i * 3 + 1, none⟩ = some lv ∧ w.cell? ⟨b, off + i * 3 + 2, none⟩ = some (.string es[i].line) ∧ LabsAt L w lv es[i].labs)

theorem EntsAt.carry {G L : Nat → Prop} {w w' : World} {v : Value} {es : List Ent} (h : EntsAt G L w v es) (hs : w.heap.size ≤ w'.heap.size) (hb : ∀ b, G b ∨ L b → b < w.heap.size → w'.heap[b]? = w.heap[b]?) : EntsAt G L w' v es := by
  obtain ⟨a, cap, hv, hn, h | ⟨b, off, ha, hg, hlt, hc⟩⟩ := h
  · exact ⟨a, cap, hv, hn, .inl h⟩
  · refine ⟨a, cap, hv, hn, .inr ⟨b, off, ha, hg, Nat.lt_of_lt_of_le hlt hs, fun i hi => ?_⟩⟩
    obtain ⟨lv, h0, h1, h2, h3⟩ := hc i hi
    have e := hb b (.inl hg) hlt
    refine ⟨lv, ?_, ?_, ?_, h3.carry hs (fun b hl => hb b (.inr hl))⟩
    · rw [World.cell?_of_block (a := ⟨b, off + i * 3, none⟩) e]; exact h0
    · rw [World.cell?_of_block (a := ⟨b, off + i * 3 + 1, none⟩) e]; exact h1
    · rw [World.cell?_of_block (a := ⟨b, off + i * 3 + 2, none⟩) e]; exact h2

theorem EntsAt.lay {G L : Nat → Prop} {w w' : World} {v : Value} {es : List Ent} (h : EntsAt G L w v es) (hl : Lay w w') : EntsAt G L w' v es := h.carry hl.size (fun _ _ hb => hl.block hb)
theorem EntsAt.keep {G L H : Nat → Prop} {w w' : World} {v : Value} {es : List Ent} (h : EntsAt G L w v es) (hk : Keep H w w') (hd : ∀ b, G b ∨ L b → b < w.heap.size → ¬ H b) : EntsAt G L w' v es := h.carry hk.size (fun b hg hb => hk.block b hb (hd b hg hb))
theorem EntsAt.mono {G H L M : Nat → Prop} {w : World} {v : Value} {es : List Ent} (h : EntsAt G L w v es) (hG : ∀ b, G b → b < w.heap.size → H b) (hL : ∀ b, L b → b < w.heap.size → M b) : EntsAt H M w v es := by
  obtain ⟨a, cap, hv, hn, h | ⟨b, off, ha, hg, hlt, hc⟩⟩ := h
  · exact ⟨a, cap, hv, hn, .inl h⟩
  · refine ⟨a, cap, hv, hn, .inr ⟨b, off, ha, hG b hg hlt, hlt, fun i hi => ?_⟩⟩
    obtain ⟨lv, h0, h1, h2, h3⟩ := hc i hi
    exact ⟨lv, h0, h1, h2, h3.mono hL⟩

end Go.Proofs.Ytgcldnojmdabpaa
