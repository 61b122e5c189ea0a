/-
  TEXTS, MATCHERS in blocks of their own.
-/
import Derived.Test.YtfifjcjicipcmaaGreatDoorAk12
namespace Go.Proofs.YtfifjcjicipcmaaGreatDoor.E4
open Go.RowKit Go

theorem infoS : (Tryz.prog.info? 9).map (fun i => (i.zero, i.size, i.bytes)) = some (some (.string ⟨#[]⟩), 1, 16) := by kernel_rfl
theorem elemS : ∃ i z, Elem Tryz.prog 52 9 i z 1 16 := by
  obtain ⟨i, hi, hz, hs, hb⟩ := info_parts infoS
  exact ⟨i, _, Tryz.underlying52, hi, hz, hs, hb, by kernel_rfl⟩
theorem infoR : (Tryz.prog.info? 52).map (fun i => (i.zero, i.size, i.bytes)) = some (some (.slice none 0 0), 1, 24) := by kernel_rfl
theorem elemR : ∃ i z, Elem Tryz.prog 23 52 i z 1 24 := by
  obtain ⟨i, hi, hz, hs, hb⟩ := info_parts infoR
  exact ⟨i, _, Tryz.underlying23, hi, hz, hs, hb, by kernel_rfl⟩
theorem infoM : (Tryz.prog.info? 80).map (fun i => (i.zero, i.size, i.bytes)) = some (some (.agg #[.string ⟨#[]⟩, .bool false, .string ⟨#[]⟩]), 3, 40) := by kernel_rfl
theorem elemM : ∃ i z, Elem Tryz.prog 24 80 i z 3 40 := by
  obtain ⟨i, hi, hz, hs, hb⟩ := info_parts infoM
  exact ⟨i, _, Tryz.underlying24, hi, hz, hs, hb, by kernel_rfl⟩

def strs (l : List ByteArray) : List Value := l.map Value.string
theorem strs_len (l : List ByteArray) : (strs l).length = l.length := List.length_map ..
theorem strs_snoc (l : List ByteArray) (s : ByteArray) : strs (l ++ [s]) = strs l ++ [.string s] := by simp [strs]

/-- A slice of texts in a block of G. -/
def SG (G : Nat → Prop) (w : World) (v : Value) (l : List ByteArray) : Prop := ∃ a cap, v = .slice a l.length cap ∧ l.length ≤ 9223372036854775807 ∧ (l = [] ∨ ∃ b off, a = some ⟨b, off, none⟩ ∧ G b ∧ b < w.heap.size ∧ ∀ i (h : i < l.length), w.cell? ⟨b, off + i, none⟩ = some (.string l[i]))
theorem SG.at {G : Nat → Prop} {w : World} {v : Value} {l : List ByteArray} (h : SG G w v l) : StrsAt w v l := by
  obtain ⟨a, c, hv, hn, h | ⟨b, off, ha, _, hlt, hc⟩⟩ := h
  · exact ⟨a, c, hv, hn, .inl h⟩
  · exact ⟨a, c, hv, hn, .inr ⟨b, off, ha, hlt, hc⟩⟩
theorem SG.carry {G H : Nat → Prop} {w w' : World} {v : Value} {l : List ByteArray} (h : SG G w v l) (hs : w.heap.size ≤ w'.heap.size) (hb : ∀ b, G b → b < w.heap.size → w'.heap[b]? = w.heap[b]?) (hG : ∀ b, G b → b < w.heap.size → H b) : SG H w' v l := by
  obtain ⟨a, c, hv, hn, h | ⟨b, off, ha, hg, hlt, hc⟩⟩ := h
  · exact ⟨a, c, hv, hn, .inl h⟩
  · exact ⟨a, c, hv, hn, .inr ⟨b, off, ha, hG b hg hlt, Nat.lt_of_lt_of_le hlt hs, fun i hi => (World.cell?_of_block (a := ⟨b, off + i, none⟩) (hb b hg hlt)).trans (hc i hi)⟩⟩
theorem sg_of_rk {G : Nat → Prop} {w : World} {v : Value} {l : List ByteArray} (h : Rk 1 G w v l.length (strs l)) (hl : l.length ≤ 1000) : SG G w v l := by
  obtain ⟨hn, ⟨rfl, h0⟩ | ⟨g, cap, rfl, hg, hlt, _, _, hc, _⟩⟩ := h
  · have : l = [] := List.eq_nil_of_length_eq_zero h0
    subst this
    exact ⟨none, 0, rfl, by simp, .inl rfl⟩
  · refine ⟨_, cap, rfl, by omega, .inr ⟨g, 0, rfl, hg, hlt, fun i hi => ?_⟩⟩
    rw [Nat.zero_add, hc i (by unfold strs; rw [List.length_map]; exact hi)]
    simp [strs, hi]

/-- Rows of texts, in blocks of G. -/
def TextsG (G : Nat → Prop) (w : World) (v : Value) (ls : List (List ByteArray)) : Prop := ∃ a cap, v = .slice a ls.length cap ∧ ls.length ≤ 9223372036854775807 ∧ (ls = [] ∨ ∃ b off, a = some ⟨b, off, none⟩ ∧ G b ∧ b < w.heap.size ∧ ∀ i (h : i < ls.length), ∃ rv, w.cell? ⟨b, off + i, none⟩ = some rv ∧ SG G w rv ls[i])
theorem TextsG.at {G : Nat → Prop} {w : World} {v : Value} {ls : List (List ByteArray)} (h : TextsG G w v ls) : TextsAt w v ls := by
  obtain ⟨a, c, hv, hn, h | ⟨b, off, ha, _, hlt, hc⟩⟩ := h
  · exact ⟨a, c, hv, hn, .inl h⟩
  · refine ⟨a, c, hv, hn, .inr ⟨b, off, ha, hlt, fun i hi => ?_⟩⟩
    obtain ⟨rv, h0, h1⟩ := hc i hi
    exact ⟨rv, h0, h1.at⟩
theorem TextsG.carry {G H : Nat → Prop} {w w' : World} {v : Value} {ls : List (List ByteArray)} (h : TextsG G w v ls) (hs : w.heap.size ≤ w'.heap.size) (hb : ∀ b, G b → b < w.heap.size → w'.heap[b]? = w.heap[b]?) (hG : ∀ b, G b → b < w.heap.size → H b) : TextsG H w' v ls := by
  obtain ⟨a, c, hv, hn, h | ⟨b, off, ha, hg, hlt, hc⟩⟩ := h
  · exact ⟨a, c, hv, hn, .inl h⟩
  · refine ⟨a, c, hv, hn, .inr ⟨b, off, ha, hG b hg hlt, Nat.lt_of_lt_of_le hlt hs, fun i hi => ?_⟩⟩
    obtain ⟨rv, h0, h1⟩ := hc i hi
    exact ⟨rv, (World.cell?_of_block (a := ⟨b, off + i, none⟩) (hb b hg hlt)).trans h0, h1.carry hs hb hG⟩
theorem SG.of {w : World} {v : Value} {l : List ByteArray} (h : StrsAt w v l) : SG (fun k => k < w.heap.size) w v l := by
  obtain ⟨a, c, hv, hn, h | ⟨b, off, ha, hlt, hc⟩⟩ := h
  · exact ⟨a, c, hv, hn, .inl h⟩
  · exact ⟨a, c, hv, hn, .inr ⟨b, off, ha, hlt, hlt, hc⟩⟩
theorem TextsG.of {w : World} {v : Value} {ls : List (List ByteArray)} (h : TextsAt w v ls) : TextsG (fun k => k < w.heap.size) w v ls := by
  obtain ⟨a, c, hv, hn, h | ⟨b, off, ha, hlt, hc⟩⟩ := h
  · exact ⟨a, c, hv, hn, .inl h⟩
  · refine ⟨a, c, hv, hn, .inr ⟨b, off, ha, hlt, hlt, fun i hi => ?_⟩⟩
    obtain ⟨rv, h0, h1⟩ := hc i hi
    exact ⟨rv, h0, SG.of h1⟩

/-- Matchers' cells. -/
def flatM : List Mt → List Value
  | [] => []
  | m :: l => .string m.name :: .bool m.not :: .string m.value :: flatM l
theorem flatM_len : ∀ l : List Mt, (flatM l).length = l.length * 3
  | [] => rfl
  | _ :: l => by simp only [flatM, List.length_cons]; rw [flatM_len l]; omega
theorem flatM_snoc : ∀ (l : List Mt) (m : Mt), flatM (l ++ [m]) = flatM l ++ [.string m.name, .bool m.not, .string m.value]
  | [], _ => rfl
  | x :: l, m => by show _ :: _ :: _ :: flatM (l ++ [m]) = _; rw [flatM_snoc l m]; rfl
theorem flatM_get : ∀ (l : List Mt) (i : Nat) (h : i < l.length), (flatM l)[i * 3]? = some (.string l[i].name) ∧ (flatM l)[i * 3 + 1]? = some (.bool l[i].not) ∧ (flatM l)[i * 3 + 2]? = some (.string l[i].value)
  | x :: l, 0, _ => ⟨rfl, rfl, rfl⟩
  | x :: l, i + 1, h => by
    have := flatM_get l i (by simpa using h)
    have e : (i + 1) * 3 = i * 3 + 1 + 1 + 1 := by omega
    rw [e]
    exact this
theorem ms_of_rk {G : Nat → Prop} {w : World} {v : Value} {l : List Mt} (h : Rk 3 G w v l.length (flatM l)) (hl : l.length ≤ 1000) : MsAt w v l := by
  obtain ⟨hn, ⟨rfl, h0⟩ | ⟨g, cap, rfl, hg, hlt, _, _, hc, _⟩⟩ := h
  · have : l = [] := List.eq_nil_of_length_eq_zero h0
    subst this
    exact ⟨none, 0, rfl, by simp, .inl rfl⟩
  · refine ⟨_, cap, rfl, by omega, .inr ⟨g, 0, rfl, hlt, fun i hi => ?_⟩⟩
    obtain ⟨e0, e1, e2⟩ := flatM_get l i hi
    have hz := flatM_len l
    refine ⟨?_, ?_, ?_⟩
    · rw [Nat.zero_add, hc _ (by omega), e0]
    · rw [Nat.zero_add, hc _ (by omega), e1]
    · rw [Nat.zero_add, hc _ (by omega), e2]

/-- The sources of the appends: new blocks. -/
theorem src_str (w : World) (s : ByteArray) : Src Tryz.prog 1 52 (.slice (some ⟨w.heap.size, 0, none⟩) 1 1) 1 [.string s] (w.alloc (.cells #[.string s] 9)) := by
  refine Src.ofSlice _ Tryz.underlying52 ⟨w.heap.size, 0, none⟩ 1 1 [.string s] (by simp) (fun j u hu => ?_) (fun u hu => ?_)
  · match j, hu with
    | 0, hu => simp at hu; subst hu; simp [Addr.add]
  · simp at hu; subst hu; rfl
theorem src_row (w : World) (rv : Value) (h : rv.oneCell' = true) : Src Tryz.prog 1 23 (.slice (some ⟨w.heap.size, 0, none⟩) 1 1) 1 [rv] (w.alloc (.cells #[rv] 52)) := by
  refine Src.ofSlice _ Tryz.underlying23 ⟨w.heap.size, 0, none⟩ 1 1 [rv] (by simp) (fun j u hu => ?_) (fun u hu => ?_)
  · match j, hu with
    | 0, hu => simp at hu; subst hu; simp [Addr.add]
  · simp at hu; subst hu; exact h
theorem src_mat (w : World) (m : Mt) : Src Tryz.prog 3 24 (.slice (some ⟨w.heap.size, 0, none⟩) 1 1) 1 [.string m.name, .bool m.not, .string m.value] (w.alloc (.cells #[.string m.name, .bool m.not, .string m.value] 80)) := by
  refine Src.ofSlice _ Tryz.underlying24 ⟨w.heap.size, 0, none⟩ 1 1 [.string m.name, .bool m.not, .string m.value] (by simp) (fun j u hu => ?_) (fun u hu => ?_)
  · match j, hu with
    | 0, hu => simp at hu; subst hu; simp [Addr.add]
    | 1, hu => simp at hu; subst hu; simp [Addr.add]
    | 2, hu => simp at hu; subst hu; simp [Addr.add]
  · simp at hu; rcases hu with rfl | rfl | rfl <;> rfl

end Go.Proofs.YtfifjcjicipcmaaGreatDoor.E4
