/-
  dialect.As, Must; DOES Must PANIC? (the law's falls)
-/
import Derived.Test.YtgfjbboeappemaaGreatDoorTy12
import Derived.Test.YtgfjbboeappemaaGreatDoorLb9
import Derived.Deep.RegionLaw
import Derived.Lib.LazyBuf
namespace Go.Proofs.YtgfjbboeappemaaGreatDoor.E4
open Go.RowKit Go

theorem infoS : (Tryz.prog.info? 9).map (fun i => (i.zero, i.size, i.bytes)) = some (some (.string ⟨#[]⟩), 1, 16) := by kernel_rfl
theorem elemS : ∃ i z, Elem Tryz.prog 82 9 i z 1 16 := by
  obtain ⟨i, hi, hz, hs, hb⟩ := info_parts infoS
  exact ⟨i, _, Tryz.underlying82, hi, hz, hs, hb, by kernel_rfl⟩
theorem infoR : (Tryz.prog.info? 82).map (fun i => (i.zero, i.size, i.bytes)) = some (some (.slice none 0 0), 1, 24) := by kernel_rfl
theorem elemR : ∃ i z, Elem Tryz.prog 23 82 i z 1 24 := by
  obtain ⟨i, hi, hz, hs, hb⟩ := info_parts infoR
  exact ⟨i, _, Tryz.underlying23, hi, hz, hs, hb, by kernel_rfl⟩
theorem infoM : (Tryz.prog.info? 59).map (fun i => (i.zero, i.size, i.bytes)) = some (some (.agg #[.string ⟨#[]⟩, .bool false, .string ⟨#[]⟩]), 3, 40) := by kernel_rfl
theorem elemM : ∃ i z, Elem Tryz.prog 24 59 i z 3 40 := by
  obtain ⟨i, hi, hz, hs, hb⟩ := info_parts infoM
  exact ⟨i, _, Tryz.underlying24, hi, hz, hs, hb, by kernel_rfl⟩

def strs (l : List ByteArray) : List Value := l.map Value.string
theorem strs_len (l : List ByteArray) : (strs l).length = l.length := List.length_map ..
theorem strs_snoc (l : List ByteArray) (s : ByteArray) : strs (l ++ [s]) = strs l ++ [.string s] := by simp [strs]

/-- A slice of texts in a block of G. -/
def SG (G : Nat → Prop) (w : World) (v : Value) (l : List ByteArray) : Prop := ∃ a cap, v = .slice a l.length cap ∧ l.length ≤ 9223372036854775807 ∧ (l = [] ∨ ∃ b off, a = some ⟨b, off, none⟩ ∧ G b ∧ b < w.heap.size ∧ ∀ i (h : i < l.length), w.cell? ⟨b, off + i, none⟩ = some (.string l[i]))
theorem SG.at {G : Nat → Prop} {w : World} {v : Value} {l : List ByteArray} (h : SG G w v l) : StrsAt w v l := by
  obtain ⟨a, c, hv, hn, h | ⟨b, off, ha, _, hlt, hc⟩⟩ := h
  · exact ⟨a, c, hv, hn, .inl h⟩
  · exact ⟨a, c, hv, hn, .inr ⟨b, off, ha, hlt, hc⟩⟩
theorem SG.carry {G H : Nat → Prop} {w w' : World} {v : Value} {l : List ByteArray} (h : SG G w v l) (hs : w.heap.size ≤ w'.heap.size) (hb : ∀ b, G b → b < w.heap.size → w'.heap[b]? = w.heap[b]?) (hG : ∀ b, G b → b < w.heap.size → H b) : SG H w' v l := by
  obtain ⟨a, c, hv, hn, h | ⟨b, off, ha, hg, hlt, hc⟩⟩ := h
  · exact ⟨a, c, hv, hn, .inl h⟩
  · exact ⟨a, c, hv, hn, .inr ⟨b, off, ha, hG b hg hlt, Nat.lt_of_lt_of_le hlt hs, fun i hi => (World.cell?_of_block (a := ⟨b, off + i, none⟩) (hb b hg hlt)).trans (hc i hi)⟩⟩
theorem sg_of_rk {G : Nat → Prop} {w : World} {v : Value} {l : List ByteArray} (h : Rk 1 G w v l.length (strs l)) (hl : l.length ≤ 1000) : SG G w v l := by
  obtain ⟨hn, ⟨rfl, h0⟩ | ⟨g, cap, rfl, hg, hlt, _, _, hc, _⟩⟩ := h
  · have : l = [] := List.eq_nil_of_length_eq_zero h0
    subst this
    exact ⟨none, 0, rfl, by simp, .inl rfl⟩
  · refine ⟨_, cap, rfl, by omega, .inr ⟨g, 0, rfl, hg, hlt, fun i hi => ?_⟩⟩
    rw [Nat.zero_add, hc i (by unfold strs; rw [List.length_map]; exact hi)]
    simp [strs, hi]

/-- Rows of texts, in blocks of G. -/
def TextsG (G : Nat → Prop) (w : World) (v : Value) (ls : List (List ByteArray)) : Prop := ∃ a cap, v = .slice a ls.length cap ∧ ls.length ≤ 9223372036854775807 ∧ (ls = [] ∨ ∃ b off, a = some ⟨b, off, none⟩ ∧ G b ∧ b < w.heap.size ∧ ∀ i (h : i < ls.length), ∃ rv, w.cell? ⟨b, off + i, none⟩ = some rv ∧ SG G w rv ls[i])
theorem TextsG.at {G : Nat → Prop} {w : World} {v : Value} {ls : List (List ByteArray)} (h : TextsG G w v ls) : TextsAt w v ls := by
  obtain ⟨a, c, hv, hn, h | ⟨b, off, ha, _, hlt, hc⟩⟩ := h
  · exact ⟨a, c, hv, hn, .inl h⟩
  · refine ⟨a, c, hv, hn, .inr ⟨b, off, ha, hlt, fun i hi => ?_⟩⟩
    obtain ⟨rv, h0, h1⟩ := hc i hi
    exact ⟨rv, h0, h1.at⟩
theorem TextsG.carry {G H : Nat → Prop} {w w' : World} {v : Value} {ls : List (List ByteArray)} (h : TextsG G w v ls) (hs : w.heap.size ≤ w'.heap.size) (hb : ∀ b, G b → b < w.heap.size → w'.heap[b]? = w.heap[b]?) (hG : ∀ b, G b → b < w.heap.size → H b) : TextsG H w' v ls := by
  obtain ⟨a, c, hv, hn, h | ⟨b, off, ha, hg, hlt, hc⟩⟩ := h
  · exact ⟨a, c, hv, hn, .inl h⟩
  · refine ⟨a, c, hv, hn, .inr ⟨b, off, ha, hG b hg hlt, Nat.lt_of_lt_of_le hlt hs, fun i hi => ?_⟩⟩
    obtain ⟨rv, h0, h1⟩ := hc i hi
    exact ⟨rv, (World.cell?_of_block (a := ⟨b, off + i, none⟩) (hb b hg hlt)).trans h0, h1.carry hs hb hG⟩
theorem SG.of {w : World} {v : Value} {l : List ByteArray} (h : StrsAt w v l) : SG (fun k => k < w.heap.size) w v l := by
  obtain ⟨a, c, hv, hn, h | ⟨b, off, ha, hlt, hc⟩⟩ := h
  · exact ⟨a, c, hv, hn, .inl h⟩
  · exact ⟨a, c, hv, hn, .inr ⟨b, off, ha, hlt, hlt, hc⟩⟩
theorem TextsG.of {w : World} {v : Value} {ls : List (List ByteArray)} (h : TextsAt w v ls) : TextsG (fun k => k < w.heap.size) w v ls := by
  obtain ⟨a, c, hv, hn, h | ⟨b, off, ha, hlt, hc⟩⟩ := h
  · exact ⟨a, c, hv, hn, .inl h⟩
  · refine ⟨a, c, hv, hn, .inr ⟨b, off, ha, hlt, hlt, fun i hi => ?_⟩⟩
    obtain ⟨rv, h0, h1⟩ := hc i hi
    exact ⟨rv, h0, SG.of h1⟩

/-- Matchers' cells. -/
def flatM : List Mt → List Value
  | [] => []
  | m :: l => .string m.name :: .bool m.not :: .string m.value :: flatM l
theorem flatM_len : ∀ l : List Mt, (flatM l).length = l.length * 3
  | [] => rfl
  | _ :: l => by simp only [flatM, List.length_cons]; rw [flatM_len l]; omega
theorem flatM_snoc : ∀ (l : List Mt) (m : Mt), flatM (l ++ [m]) = flatM l ++ [.string m.name, .bool m.not, .string m.value]
  | [], _ => rfl
  | x :: l, m => by show _ :: _ :: _ :: flatM (l ++ [m]) = _; rw [flatM_snoc l m]; rfl
theorem flatM_get : ∀ (l : List Mt) (i : Nat) (h : i < l.length), (flatM l)[i * 3]? = some (.string l[i].name) ∧ (flatM l)[i * 3 + 1]? = some (.bool l[i].not) ∧ (flatM l)[i * 3 + 2]? = some (.string l[i].value)
  | x :: l, 0, _ => ⟨rfl, rfl, rfl⟩
  | x :: l, i + 1, h => by
    have := flatM_get l i (by simpa using h)
    have e : (i + 1) * 3 = i * 3 + 1 + 1 + 1 := by omega
    rw [e]
    exact this
theorem ms_of_rk {G : Nat → Prop} {w : World} {v : Value} {l : List Mt} (h : Rk 3 G w v l.length (flatM l)) (hl : l.length ≤ 1000) : MsAt w v l := by
  obtain ⟨hn, ⟨rfl, h0⟩ | ⟨g, cap, rfl, hg, hlt, _, _, hc, _⟩⟩ := h
  · have : l = [] := List.eq_nil_of_length_eq_zero h0
    subst this
    exact ⟨none, 0, rfl, by simp, .inl rfl⟩
  · refine ⟨_, cap, rfl, by omega, .inr ⟨g, 0, rfl, hlt, fun i hi => ?_⟩⟩
    obtain ⟨e0, e1, e2⟩ := flatM_get l i hi
    have hz := flatM_len l
    refine ⟨?_, ?_, ?_⟩
    · rw [Nat.zero_add, hc _ (by omega), e0]
    · rw [Nat.zero_add, hc _ (by omega), e1]
    · rw [Nat.zero_add, hc _ (by omega), e2]

/-- The sources of the appends: new blocks. -/
theorem src_str (w : World) (s : ByteArray) : Src Tryz.prog 1 82 (.slice (some ⟨w.heap.size, 0, none⟩) 1 1) 1 [.string s] (w.alloc (.cells #[.string s] 9)) := by
  refine Src.ofSlice _ Tryz.underlying82 ⟨w.heap.size, 0, none⟩ 1 1 [.string s] (by simp) (fun j u hu => ?_) (fun u hu => ?_)
  · match j, hu with
    | 0, hu => simp at hu; subst hu; simp [Addr.add]
  · simp at hu; subst hu; rfl
theorem src_row (w : World) (rv : Value) (h : rv.oneCell' = true) : Src Tryz.prog 1 23 (.slice (some ⟨w.heap.size, 0, none⟩) 1 1) 1 [rv] (w.alloc (.cells #[rv] 82)) := by
  refine Src.ofSlice _ Tryz.underlying23 ⟨w.heap.size, 0, none⟩ 1 1 [rv] (by simp) (fun j u hu => ?_) (fun u hu => ?_)
  · match j, hu with
    | 0, hu => simp at hu; subst hu; simp [Addr.add]
  · simp at hu; subst hu; exact h
theorem src_mat (w : World) (m : Mt) : Src Tryz.prog 3 24 (.slice (some ⟨w.heap.size, 0, none⟩) 1 1) 1 [.string m.name, .bool m.not, .string m.value] (w.alloc (.cells #[.string m.name, .bool m.not, .string m.value] 59)) := by
  refine Src.ofSlice _ Tryz.underlying24 ⟨w.heap.size, 0, none⟩ 1 1 [.string m.name, .bool m.not, .string m.value] (by simp) (fun j u hu => ?_) (fun u hu => ?_)
  · match j, hu with
    | 0, hu => simp at hu; subst hu; simp [Addr.add]
    | 1, hu => simp at hu; subst hu; simp [Addr.add]
    | 2, hu => simp at hu; subst hu; simp [Addr.add]
  · simp at hu; rcases hu with rfl | rfl | rfl <;> rfl

end Go.Proofs.YtgfjbboeappemaaGreatDoor.E4

namespace Go.Proofs.YtgfjbboeappemaaGreatDoor.E4
open Go.RowKit Go

theorem StrsAt.lay {w w' : World} {v : Value} {l : List ByteArray} (h : StrsAt w v l) (hl : Lay w w') : StrsAt w' v l := h.below (E4.lay_below hl)
theorem strs_src {w : World} {v : Value} {l : List ByteArray} (h : StrsAt w v l) : Src Tryz.prog 1 82 v l.length (strs l) w := by
  obtain ⟨a, cap, rfl, -, hc⟩ := h
  have hone : ∀ u ∈ strs l, u.oneCell' = true := fun u hu => by
    unfold strs at hu
    obtain ⟨s, _, rfl⟩ := List.mem_map.1 hu
    rfl
  rcases hc with rfl | ⟨b, off, rfl, hb, hc⟩
  · cases a with
    | none => exact Src.ofNil _ Tryz.underlying82 cap
    | some p => exact Src.ofSlice _ Tryz.underlying82 p 0 cap [] (by simp) (fun j u hu => by simp at hu) (fun u hu => by simp at hu)
  · refine Src.ofSlice _ Tryz.underlying82 ⟨b, off, none⟩ l.length cap (strs l) (by rw [strs_len, Nat.mul_one]) (fun j u hu => ?_) hone
    have hj : j < l.length := by have := (List.getElem?_eq_some_iff.1 hu).1; rwa [strs_len] at this
    rw [add_lit, hc j hj]
    unfold strs at hu
    rw [List.getElem?_map, List.getElem?_eq_getElem hj] at hu
    exact hu
theorem ms_src {w : World} {v : Value} {l : List Mt} (h : MsAt w v l) : Src Tryz.prog 3 24 v l.length (flatM l) w := by
  obtain ⟨a, cap, rfl, -, hc⟩ := h
  have hone : ∀ u ∈ flatM l, u.oneCell' = true := by
    clear hc
    induction l with
    | nil => intro u hu; cases hu
    | cons m l ih =>
      intro u hu
      simp only [flatM, List.mem_cons] at hu
      rcases hu with rfl | rfl | rfl | hu
      · rfl
      · rfl
      · rfl
      · exact ih u hu
  rcases hc with rfl | ⟨b, off, rfl, hb, hc⟩
  · cases a with
    | none => exact Src.ofNil _ Tryz.underlying24 cap
    | some p => exact Src.ofSlice _ Tryz.underlying24 p 0 cap [] (by simp) (fun j u hu => by simp at hu) (fun u hu => by simp at hu)
  · refine Src.ofSlice _ Tryz.underlying24 ⟨b, off, none⟩ l.length cap (flatM l) (flatM_len l) (fun j u hu => ?_) hone
    have hj : j < l.length * 3 := by have := (List.getElem?_eq_some_iff.1 hu).1; rwa [flatM_len] at this
    have hi : j / 3 < l.length := by omega
    obtain ⟨g0, g1, g2⟩ := flatM_get l (j / 3) hi
    obtain ⟨h0, h1, h2⟩ := hc (j / 3) hi
    rw [add_lit]
    have hm : j = j / 3 * 3 ∨ j = j / 3 * 3 + 1 ∨ j = j / 3 * 3 + 2 := by omega
    rcases hm with e | e | e
    · rw [e] at hu ⊢; rw [g0] at hu; rw [← hu]; exact h0
    · rw [e] at hu ⊢; rw [g1] at hu; rw [← hu]; exact h1
    · rw [e] at hu ⊢; rw [g2] at hu; rw [← hu]; exact h2
/-- Rows, and the values that they lie in. -/
def RowsV (w : World) (G : Nat → Prop) (rows : List (List ByteArray)) (xs : List Value) : Prop := xs.length = rows.length ∧ ∀ i (h : i < rows.length), ∃ u, xs[i]? = some u ∧ SG G w u rows[i]
theorem SG.one {G : Nat → Prop} {w : World} {v : Value} {l : List ByteArray} (h : SG G w v l) : v.oneCell' = true := by
  obtain ⟨a, c, rfl, _⟩ := h
  rfl
/-- The rows of a slice. -/
theorem rows_src {G : Nat → Prop} {w : World} {v : Value} {ls : List (List ByteArray)} (h : TextsG G w v ls) : ∃ xs, RowsV w G ls xs ∧ ∀ w1, Lay w w1 → Src Tryz.prog 1 23 v ls.length xs w1 := by
  obtain ⟨a, cap, rfl, -, hc⟩ := h
  rcases hc with rfl | ⟨b, off, rfl, _, hb, hc⟩
  · refine ⟨[], ⟨rfl, fun i hi => by simp at hi⟩, fun w1 _ => ?_⟩
    cases a with
    | none => exact Src.ofNil _ Tryz.underlying23 cap
    | some p => exact Src.ofSlice _ Tryz.underlying23 p 0 cap [] (by simp) (fun j u hu => by simp at hu) (fun u hu => by simp at hu)
  · obtain ⟨xs, hxl, hx⟩ := list_of undef (fun i u => ∀ h : i < ls.length, w.cell? ⟨b, off + i, none⟩ = some u ∧ SG G w u ls[i]) ls.length (fun i hi => by
      obtain ⟨rv, h1, h2⟩ := hc i hi
      exact ⟨rv, fun _ => ⟨h1, h2⟩⟩)
    have hget : ∀ i (h : i < ls.length), xs[i]? = some (xs.getD i undef) := fun i h => by
      rw [List.getElem?_eq_getElem (by omega)]
      simp [List.getD, List.getElem?_eq_getElem (show i < xs.length by omega)]
    refine ⟨xs, ⟨hxl, fun i hi => ⟨_, hget i hi, (hx i hi hi).2⟩⟩, fun w1 hl => ?_⟩
    refine Src.ofSlice _ Tryz.underlying23 ⟨b, off, none⟩ ls.length cap xs (by rw [hxl, Nat.mul_one]) (fun j u hu => ?_) (fun u hu => ?_)
    · have hj : j < ls.length := by have := (List.getElem?_eq_some_iff.1 hu).1; omega
      rw [add_lit, World.cell?_of_block (a := ⟨b, off + j, none⟩) (Lay.block hl hb), (hx j hj hj).1, ← hget j hj, hu]
    · obtain ⟨j, hj, rfl⟩ := List.mem_iff_getElem.1 hu
      have h1 := SG.one ((hx j (by omega) (by omega)).2)
      have h2 := hget j (by omega)
      rw [List.getElem?_eq_getElem hj] at h2
      injection h2 with h2
      rw [h2]
      exact h1

set_option maxHeartbeats 1000000 in
set_option maxRecDepth 100000 in
theorem cloneS_any {w : World} {v : Value} {l : List ByteArray} (h : StrsAt w v l) (hn : l.length ≤ 1000000) :
    Calls Tryz.prog 68 #[v] w fun e w' => ∃ v', e = .returned v' ∧ Rk 1 (fun k => w.heap.size ≤ k) w' v' l.length (strs l) ∧ Lay w w' := by
  obtain ⟨i0, z0, E0⟩ := elemS
  have qs : ∀ (w : World) (a : Option Addr) (n c n' c' : Nat), (binOp .eql 82 (.slice a n c) (.slice none n' c')).run Tryz.prog w = .ok (.bool a.isNone) w := fun w a n c n' c' => Lib.run_eql_slice_nil w _ _ a n c n' c' Tryz.underlying82
  have HSS := Lib.hid (fun w1 (hl : Lay w w1) => strs_src (h.lay hl))
  obtain ⟨a, cap, rfl, hn63, hc⟩ := id h
  clear h
  cases a with
  | none =>
    have h0 : l = [] := by
      rcases hc with h0 | ⟨b, off, h0, _⟩
      · exact h0
      · cases h0
    have HZ := Lib.hid h0
    clear hc h0 HSS
    go_enter Tryz.func68, Tryz.ntmps68
    go_wp2
    go_ret
    refine ⟨.slice none 0 0, rfl, ?_, Keep.refl _ _⟩
    rw [HZ.out]; exact Rk.nil _ _ _
  | some p =>
    clear hc
    have HS2 := Lib.hid (HSS.out (w.alloc (.cells #[] 9)) ((Keep.refl _ _).alloc _))
    clear HSS
    go_enter Tryz.func68, Tryz.ntmps68
    go_wp2_with (at_builtin; refine wpList_append_rk E0 _ rfl _ _ 82 rfl (G := fun k => w.heap.size ≤ k) rfl ((rk_new 1 w 0 [] 9 rfl (by omega)).mono (fun k hk _ => Nat.le_of_eq hk.symm)) ?c1 _ l.length (strs l) rfl HS2.out ?c2 ?c3 ?_)
    case c1 => intro k hk; simp at hk; omega
    case c2 => omega
    case c3 => omega
    intro v' w1 hrk hk
    have HK := Lib.hid hrk
    have hk2 : Keep (fun k => w.heap.size ≤ k) (w.alloc (.cells #[] 9)) w1 := hk.into (fun b _ hb => by
      obtain ⟨n, c, e⟩ := hb
      simp only [Value.slice.injEq, Option.some.injEq, Addr.mk.injEq, and_true] at e
      omega)
    have hlay : Lay w w1 := Keep.into (Keep.trans ((Keep.refl (fun k => w.heap.size ≤ k) w).alloc _) hk2) (fun k hlt hk => by omega)
    have HLY := Lib.hid hlay
    clear hrk hk hk2 hlay
    go_wp2
    go_ret
    refine ⟨v', rfl, ?_, HLY.out⟩
    have := HK.out.mono (G' := fun k => w.heap.size ≤ k) (fun k hk _ => hk.1)
    simpa using this

set_option maxHeartbeats 1000000 in
set_option maxRecDepth 100000 in
theorem cloneM12_any {w : World} {v : Value} {l : List Mt} (h : MsAt w v l) (hn : l.length ≤ 1000000) :
    Calls Tryz.prog 69 #[v] w fun e w' => ∃ v', e = .returned v' ∧ Rk 3 (fun k => w.heap.size ≤ k) w' v' l.length (flatM l) ∧ Lay w w' := by
  obtain ⟨i0, z0, E0⟩ := elemM
  have qs : ∀ (w : World) (a : Option Addr) (n c n' c' : Nat), (binOp .eql 24 (.slice a n c) (.slice none n' c')).run Tryz.prog w = .ok (.bool a.isNone) w := fun w a n c n' c' => Lib.run_eql_slice_nil w _ _ a n c n' c' Tryz.underlying24
  have HSS := Lib.hid (fun w1 (hl : Lay w w1) => ms_src (MsAt.below12 h (E4.lay_below hl)))
  obtain ⟨a, cap, rfl, hn63, hc⟩ := id h
  clear h
  cases a with
  | none =>
    have h0 : l = [] := by
      rcases hc with h0 | ⟨b, off, h0, _⟩
      · exact h0
      · cases h0
    have HZ := Lib.hid h0
    clear hc h0 HSS
    go_enter Tryz.func69, Tryz.ntmps69
    go_wp2
    go_ret
    refine ⟨.slice none 0 0, rfl, ?_, Keep.refl _ _⟩
    rw [HZ.out]; exact Rk.nil _ _ _
  | some p =>
    clear hc
    have HS2 := Lib.hid (HSS.out (w.alloc (.cells #[] 59)) ((Keep.refl _ _).alloc _))
    clear HSS
    go_enter Tryz.func69, Tryz.ntmps69
    go_wp2_with (at_builtin; refine wpList_append_rk E0 _ rfl _ _ 24 rfl (G := fun k => w.heap.size ≤ k) rfl ((rk_new 3 w 0 [] 59 rfl (by omega)).mono (fun k hk _ => Nat.le_of_eq hk.symm)) ?c1 _ l.length (flatM l) rfl HS2.out ?c2 ?c3 ?_)
    case c1 => intro k hk; simp at hk; omega
    case c2 => omega
    case c3 => omega
    intro v' w1 hrk hk
    have HK := Lib.hid hrk
    have hk2 : Keep (fun k => w.heap.size ≤ k) (w.alloc (.cells #[] 59)) w1 := hk.into (fun b _ hb => by
      obtain ⟨n, c, e⟩ := hb
      simp only [Value.slice.injEq, Option.some.injEq, Addr.mk.injEq, and_true] at e
      omega)
    have hlay : Lay w w1 := Keep.into (Keep.trans ((Keep.refl (fun k => w.heap.size ≤ k) w).alloc _) hk2) (fun k hlt hk => by omega)
    have HLY := Lib.hid hlay
    clear hrk hk hk2 hlay
    go_wp2
    go_ret
    refine ⟨v', rfl, ?_, HLY.out⟩
    have := HK.out.mono (G' := fun k => w.heap.size ≤ k) (fun k hk _ => hk.1)
    simpa using this

set_option maxHeartbeats 1000000 in
set_option maxRecDepth 100000 in
theorem cloneR_any {w : World} {v : Value} {ls : List (List ByteArray)} {xs : List Value} (h : TextsAt w v ls) (hxl : xs.length = ls.length) (hsr : ∀ w1, Lay w w1 → Src Tryz.prog 1 23 v ls.length xs w1) (hn : ls.length ≤ 1000000) :
    Calls Tryz.prog 67 #[v] w fun e w' => ∃ v', e = .returned v' ∧ Rk 1 (fun k => w.heap.size ≤ k) w' v' ls.length xs ∧ Lay w w' := by
  obtain ⟨i0, z0, E0⟩ := elemR
  have qs : ∀ (w : World) (a : Option Addr) (n c n' c' : Nat), (binOp .eql 23 (.slice a n c) (.slice none n' c')).run Tryz.prog w = .ok (.bool a.isNone) w := fun w a n c n' c' => Lib.run_eql_slice_nil w _ _ a n c n' c' Tryz.underlying23
  have HSS := Lib.hid (fun w1 (hl : Lay w w1) => hsr w1 hl)
  obtain ⟨a, cap, rfl, hn63, hc⟩ := id h
  clear h
  cases a with
  | none =>
    have h0 : ls = [] := by
      rcases hc with h0 | ⟨b, off, h0, _⟩
      · exact h0
      · cases h0
    have HZ := Lib.hid h0
    clear hc h0 HSS
    go_enter Tryz.func67, Tryz.ntmps67
    go_wp2
    go_ret
    refine ⟨.slice none 0 0, rfl, ?_, Keep.refl _ _⟩
    have hx0 : xs = [] := List.eq_nil_of_length_eq_zero (by rw [hxl, HZ.out]; rfl)
    rw [hx0, HZ.out]; exact Rk.nil _ _ _
  | some p =>
    clear hc
    have HS2 := Lib.hid (HSS.out (w.alloc (.cells #[] 82)) ((Keep.refl _ _).alloc _))
    clear HSS
    go_enter Tryz.func67, Tryz.ntmps67
    go_wp2_with (at_builtin; refine wpList_append_rk E0 _ rfl _ _ 23 rfl (G := fun k => w.heap.size ≤ k) rfl ((rk_new 1 w 0 [] 82 rfl (by omega)).mono (fun k hk _ => Nat.le_of_eq hk.symm)) ?c1 _ ls.length xs rfl HS2.out ?c2 ?c3 ?_)
    case c1 => intro k hk; simp at hk; omega
    case c2 => omega
    case c3 => omega
    intro v' w1 hrk hk
    have HK := Lib.hid hrk
    have hk2 : Keep (fun k => w.heap.size ≤ k) (w.alloc (.cells #[] 82)) w1 := hk.into (fun b _ hb => by
      obtain ⟨n, c, e⟩ := hb
      simp only [Value.slice.injEq, Option.some.injEq, Addr.mk.injEq, and_true] at e
      omega)
    have hlay : Lay w w1 := Keep.into (Keep.trans ((Keep.refl (fun k => w.heap.size ≤ k) w).alloc _) hk2) (fun k hlt hk => by omega)
    have HLY := Lib.hid hlay
    clear hrk hk hk2 hlay
    go_wp2
    go_ret
    refine ⟨v', rfl, ?_, HLY.out⟩
    have := HK.out.mono (G' := fun k => w.heap.size ≤ k) (fun k hk _ => hk.1)
    simpa using this

end Go.Proofs.YtgfjbboeappemaaGreatDoor.E4

namespace Go.Proofs.YtgfjbboeappemaaGreatDoor.E4
open Go.RowKit Go

theorem texts_of {G H I : Nat → Prop} {w : World} {v : Value} {rows : List (List ByteArray)} {xs : List Value} (h : Rk 1 G w v rows.length xs) (hr : RowsV w H rows xs) (hl : rows.length ≤ 1000) (hG : ∀ q, G q → I q) (hH : ∀ q, H q → I q) : TextsG I w v rows := by
  obtain ⟨hn, ⟨rfl, h0⟩ | ⟨g, cap, rfl, hg, hlt, _, _, hc, _⟩⟩ := h
  · have : rows = [] := List.eq_nil_of_length_eq_zero h0
    subst this
    exact ⟨none, 0, rfl, by simp, .inl rfl⟩
  · refine ⟨_, cap, rfl, by omega, .inr ⟨g, 0, rfl, hG g hg, hlt, fun i hi => ?_⟩⟩
    obtain ⟨u, hu, hs⟩ := hr.2 i hi
    refine ⟨u, ?_, hs.carry (Nat.le_refl _) (fun _ _ _ => rfl) fun q hq _ => hH q hq⟩
    rw [Nat.zero_add, hc i (by omega), hu]
theorem Bl.set12 {W : World} {B : Nat} {t : TypeId} {arr : Array Value} (h : Bl W B t arr) (i : Nat) (u : Value) : Bl (W.setCell ⟨B, i, none⟩ u) B t (arr.setIfInBounds i u) := by
  obtain ⟨hlt, hk⟩ := Array.getElem?_eq_some_iff.1 h
  show (W.heap.modify B _)[B]? = _
  rw [Array.getElem?_eq_getElem (by rw [Array.size_modify]; exact hlt), Array.getElem_modify_self, hk]
  rfl
theorem RowsV.carry {w w' : World} {G H : Nat → Prop} {rows : List (List ByteArray)} {xs : List Value} (h : RowsV w G rows xs) (hs : w.heap.size ≤ w'.heap.size) (hb : ∀ b, G b → b < w.heap.size → w'.heap[b]? = w.heap[b]?) (hG : ∀ b, G b → b < w.heap.size → H b) : RowsV w' H rows xs :=
  ⟨h.1, fun i hi => by
    obtain ⟨u, hu, hs'⟩ := h.2 i hi
    exact ⟨u, hu, hs'.carry hs hb hG⟩⟩
theorem RowsV.set {w : World} {G : Nat → Prop} {rows : List (List ByteArray)} {xs : List Value} (h : RowsV w G rows xs) (k : Nat) (hk : k < rows.length) {u : Value} (hu : SG G w u rows[k]) : RowsV w G rows (xs.set k u) := by
  refine ⟨by rw [List.length_set]; exact h.1, fun i hi => ?_⟩
  by_cases e : k = i
  · subst e
    exact ⟨u, List.getElem?_set_self (by rw [h.1]; exact hk), hu⟩
  · obtain ⟨v, hv, hs⟩ := h.2 i hi
    exact ⟨v, by rw [List.getElem?_set_ne e]; exact hv, hs⟩
theorem Rk.setC {G : Nat → Prop} {w : World} {g n cap : Nat} {xs : List Value} (h : Rk 1 G w (.slice (some ⟨g, 0, none⟩) n cap) n xs) (k : Nat) (hk : k < n) (u : Value) : Rk 1 G (w.setCell ⟨g, k, none⟩ u) (.slice (some ⟨g, 0, none⟩) n cap) n (xs.set k u) := by
  obtain ⟨h0, ⟨h, _⟩ | ⟨g', cap', he, hG, hlt, hn, hm, hc, hf⟩⟩ := h
  · cases h
  · obtain ⟨rfl, rfl⟩ : g' = g ∧ cap' = cap := by simpa [eq_comm] using he
    have hsome := hf k (by omega)
    refine ⟨by rw [List.length_set]; exact h0, .inr ⟨g', cap', rfl, hG, by simpa [World.setCell] using hlt, hn, hm, fun j hj => ?_, fun j hj => ?_⟩⟩
    · rw [List.length_set] at hj
      by_cases e : k = j
      · subst e
        rw [List.getElem?_set_self hj]
        have hs := hsome.1
        go_simp
      · rw [List.getElem?_set_ne e, ← hc j hj]
        go_simp
    · have := hf j hj
      refine ⟨?_, (World.frozen?_setCell _ _ _ _).trans this.2⟩
      by_cases e : k = j
      · subst e
        have hs := this.1
        go_simp
      · have hs := this.1
        go_simp

set_option maxHeartbeats 2000000 in
set_option maxRecDepth 100000 in
theorem copied1 {G : Nat → Prop} (a : Ask) (k1 : a.kd = 1) (av mv : Value) (w : World) (h1 : TextsG G w av a.all) (_hGw : ∀ q, G q → q < w.heap.size) (hn : a.all.length ≤ 1000) (hr : ∀ l ∈ a.all, l.length ≤ 1000) :
    Calls Tryz.prog 40 #[a.dyn av mv] w fun e w' => ∃ av', e = .returned (a.dyn av' mv) ∧ TextsG (fun q => G q ∨ w.heap.size ≤ q) w' av' a.all ∧ Below w.heap.size w w' := by
  have q1 := is71_yes
  have q2 := is71_nil
  have q3 := is71_no51
  have q4 := is71_no73
  have r1 := is51_yes
  have r2 := is51_nil
  have r3 := is51_no73
  obtain ⟨xs, hxs, hsr⟩ := rows_src h1
  obtain ⟨aa, ca, rfl, hz1, hz2⟩ := id h1
  clear hz1 hz2
  obtain ⟨w1, hw1⟩ : ∃ w1, w1 = w.alloc (.cells #[.int .i64 a.src, .int .i64 a.til, .slice aa a.all.length ca] 71) := ⟨_, rfl⟩
  have hl1 : Lay w w1 := by rw [hw1]; exact (Keep.refl _ w).alloc _
  have hk1 : Bl w1 w.heap.size 71 #[.int .i64 a.src, .int .i64 a.til, .slice aa a.all.length ca] := by rw [hw1]; exact Bl.new w 71 _
  have hb1 := E4.lay_below hl1
  have HCL := Lib.hid (cloneR_any (h1.at.below hb1) hxs.1 (fun w2 hl2 => hsr w2 (hl1.trans hl2)) (by omega))
  have HD := Lib.hid (fun v => dyn1 k1 v mv)
  have hd0 := dyn1 k1 (.slice aa a.all.length ca) mv
  have HW1 := Lib.hid hw1.symm
  have HB1 := Lib.hid hb1
  have HK1 := Lib.hid hk1
  have HXS := Lib.hid hxs
  have HR := Lib.hid hr
  have c2 := hk1.cell 2
  have z2 := hk1.frozen 2
  simp only [List.getElem?_toArray, List.getElem?_cons_succ, List.getElem?_cons_zero] at c2
  rw [hd0]
  clear hd0 k1 h1 hxs hsr hw1 hl1 hk1 hb1 hr
  go_enter Tryz.func40, Tryz.ntmps40
  go_upto_region 4 with fail
  rw [HW1.out]
  go_wp2_with fail
  refine HCL.out.mono ?_
  rintro e w2 ⟨v', rfl, hrk, hl2⟩
  obtain ⟨sa, sc, rfl⟩ := hrk.shape
  have hB : w.heap.size < w1.heap.size := HK1.out.lt
  have hk2 := HK1.out.below (E4.lay_below hl2)
  have hk3 := hk2.set12 2 (.slice sa a.all.length sc)
  simp only [List.setIfInBounds_toArray, List.set_cons_succ, List.set_cons_zero] at hk3
  have hb3 : Below w.heap.size w (w2.setCell ⟨w.heap.size, 2, none⟩ (.slice sa a.all.length sc)) := by
    have h := below_mid12 HB1.out (E4.lay_below hl2)
    exact ⟨h.os, h.tape, h.output, by simpa [World.setCell] using h.size, fun b hb => (Below.heap_setCell _ ⟨w.heap.size, 2, none⟩ _ b (Nat.ne_of_lt hb)).trans (h.block b hb)⟩
  have hrk3 : Rk 1 (fun k => w1.heap.size ≤ k) (w2.setCell ⟨w.heap.size, 2, none⟩ (.slice sa a.all.length sc)) (.slice sa a.all.length sc) a.all.length xs := hrk.carry (by simp [World.setCell]) fun q hq _ _ => Below.heap_setCell _ ⟨w.heap.size, 2, none⟩ _ q (by show q ≠ w.heap.size; omega)
  have hrv3 : RowsV (w2.setCell ⟨w.heap.size, 2, none⟩ (.slice sa a.all.length sc)) (fun q => (G q ∨ w.heap.size ≤ q) ∧ ¬ At (.slice sa a.all.length sc) q) a.all xs :=
    HXS.out.carry hb3.size (fun b _ hb => hb3.block b hb) fun b hb hlt => ⟨.inl hb, fun ha => by have := (hrk.at ha).1; omega⟩
  have c2 := hk2.cell 2
  have z2 := hk2.frozen 2
  simp only [List.getElem?_toArray, List.getElem?_cons_succ, List.getElem?_cons_zero] at c2
  have HK3 := Lib.hid hk3
  have HB3 := Lib.hid hb3
  have HRK3 := Lib.hid hrk3
  have HRV3 := Lib.hid hrv3
  have HBB := Lib.hid hB
  clear hrk hl2 hk2 hk3 hb3 hrk3 hrv3 hB HCL HB1 HK1 HXS
  go_upto_region 5 with fail
  generalize w2.setCell ⟨w.heap.size, 2, none⟩ (.slice sa a.all.length sc) = w3 at HK3 HB3 HRK3 HRV3 ⊢
  have d2 := HK3.out.cell 2
  simp only [List.getElem?_toArray, List.getElem?_cons_succ, List.getElem?_cons_zero] at d2
  clear c2 z2
  go_wp2_with fail
  clear d2
  go_loopw [18] (fun vi wr => ∃ (k : Nat) (ys : List Value), vi = .int .i64 k ∧ k ≤ a.all.length ∧ Rk 1 (fun k => w1.heap.size ≤ k) wr (.slice sa a.all.length sc) a.all.length ys ∧ RowsV wr (fun q => (G q ∨ w.heap.size ≤ q) ∧ ¬ At (.slice sa a.all.length sc) q) a.all ys ∧ Bl wr w.heap.size 71 #[.int .i64 a.src, .int .i64 a.til, .slice sa a.all.length sc] ∧ Below w.heap.size w wr) (fun vi _ => a.all.length - (intOf vi).toNat)
  case atStart => exact ⟨0, xs, rfl, Nat.zero_le _, HRK3.out, HRV3.out, HK3.out, HB3.out⟩
  case round =>
    obtain ⟨k, ys, rfl, hk, hrk, hrv, hbl, hbw⟩ := hrel
    have HRK := Lib.hid hrk
    have HRV := Lib.hid hrv
    have HBL := Lib.hid hbl
    have HBW := Lib.hid hbw
    by_cases hlt : k < a.all.length
    · obtain ⟨hy0, ⟨_, h0⟩ | ⟨g, cap, he, hG, hg, hnc, hmx, hcell, hfz⟩⟩ := hrk
      · omega
      obtain ⟨rfl, rfl⟩ : sa = some ⟨g, 0, none⟩ ∧ sc = cap := by simpa using he
      obtain ⟨u, hu, hsg⟩ := hrv.2 k hlt
      have hx : wr.cell? ⟨g, k, none⟩ = some u := (hcell k (by omega)).trans hu
      have hz : wr.frozen? ⟨g, k, none⟩ = false := (hfz k (by omega)).2
      have hcl := fun W hW => cloneS_any (w := W) (StrsAt.below hsg.at hW) (by have := HR.out _ (List.getElem_mem hlt); omega)
      have hug : u.oneCell' = true := hsg.one
      have c2 := hbl.cell 2
      have hBg : w.heap.size ≠ g := by have := HBB.out; omega
      simp only [List.getElem?_toArray, List.getElem?_cons_succ, List.getElem?_cons_zero] at c2
      have HCL := Lib.hid hcl
      have HDR : Hid (Below wr.heap.size wr wr.drew) := Lib.hid ⟨rfl, rfl, rfl, Nat.le_refl _, fun _ _ => rfl⟩
      clear hy0 he hnc hmx hcell hfz hrv hsg hbl hbw hcl hu
      go_upto_region 8 with fail
      go_region_law (go_simp; (go_at_call 68; refine (HCL.out _ HDR.out).mono ?_; rintro e w4 ⟨v4, rfl, hrk4, hl4⟩; have x4 := (Lay.block hl4 hg); have y2 := (World.cell?_of_block (a := ⟨w.heap.size, 2, none⟩) (Lay.block hl4 HBL.out.lt)).trans c2; have y4 := (World.cell?_of_block (a := ⟨g, k, none⟩) x4).trans hx; have y5 := (World.frozen?_of_block (a := ⟨g, k, none⟩) x4).trans hz; obtain ⟨sb, sd, rfl⟩ := hrk4.shape; have HRK4 := Lib.hid hrk4; have HL4 := Lib.hid hl4; clear hrk4 hl4 x4))
      all_goals
        have hlay : Lay wr w4 := Keep.trans (Keep.drew (Keep.refl _ wr)) HL4.out
        have hg4 : g < w4.heap.size := Nat.lt_of_lt_of_le hg hlay.size
        have hrk5 := Rk.setC (HRK.out.carry hlay.size fun q _ _ hq => Lay.block hlay hq) k hlt (.slice sb (a.all[k]).length sd)
        have hsg5 : SG (fun q => (G q ∨ w.heap.size ≤ q) ∧ ¬ At (.slice (some ⟨g, 0, none⟩) a.all.length sc) q) (w4.setCell ⟨g, k, none⟩ (.slice sb (a.all[k]).length sd)) (.slice sb (a.all[k]).length sd) a.all[k] :=
          (sg_of_rk HRK4.out (HR.out _ (List.getElem_mem hlt))).carry (by simp [World.setCell]) (fun q hq _ => Below.heap_setCell _ ⟨g, k, none⟩ _ q (by have h2 : wr.heap.size ≤ q := hq; show q ≠ g; omega)) fun q hq _ => ⟨.inr (by have h2 : wr.heap.size ≤ q := hq; have := HBW.out.size; omega), fun ha => by
            obtain ⟨n, c, e⟩ := ha
            have h2 : wr.heap.size ≤ q := hq
            simp only [Value.slice.injEq, Option.some.injEq, Addr.mk.injEq, and_true] at e
            omega⟩
        have hrv5 : RowsV (w4.setCell ⟨g, k, none⟩ (.slice sb (a.all[k]).length sd)) (fun q => (G q ∨ w.heap.size ≤ q) ∧ ¬ At (.slice (some ⟨g, 0, none⟩) a.all.length sc) q) a.all (ys.set k (.slice sb (a.all[k]).length sd)) :=
          ((HRV.out.carry hlay.size (fun q _ hq => Lay.block hlay hq) fun _ h _ => h).carry (w' := w4.setCell ⟨g, k, none⟩ (.slice sb (a.all[k]).length sd)) (by simp [World.setCell]) (fun q hq _ => Below.heap_setCell _ ⟨g, k, none⟩ _ q (fun e => hq.2 (by show At _ q; rw [show q = g from e]; exact ⟨_, _, rfl⟩))) fun _ h _ => h).set k hlt hsg5
        have hbl5 : Bl (w4.setCell ⟨g, k, none⟩ (.slice sb (a.all[k]).length sd)) w.heap.size 71 #[.int .i64 a.src, .int .i64 a.til, .slice (some ⟨g, 0, none⟩) a.all.length sc] :=
          (Below.heap_setCell _ ⟨g, k, none⟩ _ w.heap.size hBg).trans ((Lay.block hlay HBL.out.lt).trans HBL.out)
        have hbw5 : Below w.heap.size w (w4.setCell ⟨g, k, none⟩ (.slice sb (a.all[k]).length sd)) := by
          have h := below_mid12 HBW.out (E4.lay_below hlay)
          have hgg := HBB.out
          exact ⟨h.os, h.tape, h.output, by simpa [World.setCell] using h.size, fun b hb => (Below.heap_setCell _ ⟨g, k, none⟩ _ b (by show b ≠ g; omega)).trans (h.block b hb)⟩
        have HRK5 := Lib.hid hrk5
        have HRV5 := Lib.hid hrv5
        have HBL5 := Lib.hid hbl5
        have HBW5 := Lib.hid hbw5
        clear hlay hrk5 hsg5 hrv5 hbl5 hbw5 y2 y4 y5 hx hz c2 hug
        go_wp2_with fail
        go_roundw
        case rel => exact ⟨k + 1, _, by go_num, by omega, HRK5.out, HRV5.out, HBL5.out, HBW5.out⟩
        case measure => simp [intOf]; omega
    · obtain rfl : k = a.all.length := by omega
      have HTX := Lib.hid (texts_of (I := fun q => G q ∨ w.heap.size ≤ q) hrk hrv hn (fun q hq => .inr (by have := HBB.out; have h2 : w1.heap.size ≤ q := hq; omega)) fun q hq => hq.1)
      have c0 := hbl.cell 0
      have c1 := hbl.cell 1
      have c2 := hbl.cell 2
      simp only [List.getElem?_toArray, List.getElem?_cons_succ, List.getElem?_cons_zero] at c0 c1 c2
      clear hrk hrv hbl hbw
      go_wp2_with fail
      go_ret
      exact ⟨.slice sa a.all.length sc, by rw [HD.out]; rfl, HTX.out, HBW.out⟩

set_option maxHeartbeats 2000000 in
set_option maxRecDepth 100000 in
theorem copied2 (a : Ask) (k2 : a.kd = 2) (av mv : Value) (w : World) (h2 : MsAt w mv a.mat) (hn : a.mat.length ≤ 1000) :
    Calls Tryz.prog 40 #[a.dyn av mv] w fun e w' => ∃ mv', e = .returned (a.dyn av mv') ∧ Rk 3 (fun q => w.heap.size ≤ q) w' mv' a.mat.length (flatM a.mat) ∧ Below w.heap.size w w' := by
  have q1 := is71_yes
  have q2 := is71_nil
  have q3 := is71_no51
  have q4 := is71_no73
  have r1 := is51_yes
  have r2 := is51_nil
  have r3 := is51_no73
  obtain ⟨aa, ca, rfl, hz1, hz2⟩ := id h2
  clear hz1 hz2
  obtain ⟨w1, hw1⟩ : ∃ w1, w1 = w.alloc (.cells #[.int .i64 a.src, .int .i64 a.til, .slice aa a.mat.length ca] 51) := ⟨_, rfl⟩
  have hl1 : Lay w w1 := by rw [hw1]; exact (Keep.refl _ w).alloc _
  have hk1 : Bl w1 w.heap.size 51 #[.int .i64 a.src, .int .i64 a.til, .slice aa a.mat.length ca] := by rw [hw1]; exact Bl.new w 51 _
  have hb1 := E4.lay_below hl1
  have HCL := Lib.hid (cloneM12_any (MsAt.below12 h2 hb1) (by omega))
  have HD := Lib.hid (fun v => dyn2 k2 av v)
  have hd0 := dyn2 k2 av (.slice aa a.mat.length ca)
  have HW1 := Lib.hid hw1.symm
  have HB1 := Lib.hid hb1
  have HK1 := Lib.hid hk1
  have c2 := hk1.cell 2
  simp only [List.getElem?_toArray, List.getElem?_cons_succ, List.getElem?_cons_zero] at c2
  rw [hd0]
  clear hd0 k2 h2 hw1 hl1 hk1 hb1
  go_enter Tryz.func40, Tryz.ntmps40
  go_upto_region 13 with fail
  rw [HW1.out]
  go_wp2_with fail
  refine HCL.out.mono ?_
  rintro e w2 ⟨v', rfl, hrk, hl2⟩
  obtain ⟨sa, sc, rfl⟩ := hrk.shape
  have hB : w.heap.size < w1.heap.size := HK1.out.lt
  have hk2 := HK1.out.below (E4.lay_below hl2)
  have hk3 := hk2.set12 2 (.slice sa a.mat.length sc)
  simp only [List.setIfInBounds_toArray, List.set_cons_succ, List.set_cons_zero] at hk3
  have hb3 : Below w.heap.size w (w2.setCell ⟨w.heap.size, 2, none⟩ (.slice sa a.mat.length sc)) := by
    have h := below_mid12 HB1.out (E4.lay_below hl2)
    exact ⟨h.os, h.tape, h.output, by simpa [World.setCell] using h.size, fun b hb => (Below.heap_setCell _ ⟨w.heap.size, 2, none⟩ _ b (Nat.ne_of_lt hb)).trans (h.block b hb)⟩
  have hrk3 : Rk 3 (fun k => w1.heap.size ≤ k) (w2.setCell ⟨w.heap.size, 2, none⟩ (.slice sa a.mat.length sc)) (.slice sa a.mat.length sc) a.mat.length (flatM a.mat) := hrk.carry (by simp [World.setCell]) fun q hq _ _ => Below.heap_setCell _ ⟨w.heap.size, 2, none⟩ _ q (by show q ≠ w.heap.size; omega)
  have HMS := Lib.hid (hrk3.mono (G' := fun q => w.heap.size ≤ q) fun q hq _ => by have h2 : w1.heap.size ≤ q := hq; omega)
  have c2 := hk2.cell 2
  have z2 := hk2.frozen 2
  simp only [List.getElem?_toArray, List.getElem?_cons_succ, List.getElem?_cons_zero] at c2
  have HK3 := Lib.hid hk3
  have HB3 := Lib.hid hb3
  clear hrk hl2 hk2 hk3 hb3 hrk3 hB HCL HB1 HK1
  go_upto_region 14 with fail
  generalize w2.setCell ⟨w.heap.size, 2, none⟩ (.slice sa a.mat.length sc) = w3 at HK3 HB3 HMS ⊢
  have d0 := HK3.out.cell 0
  have d1 := HK3.out.cell 1
  have d2 := HK3.out.cell 2
  simp only [List.getElem?_toArray, List.getElem?_cons_succ, List.getElem?_cons_zero] at d0 d1 d2
  clear c2 z2
  go_wp2_with fail
  go_ret
  exact ⟨.slice sa a.mat.length sc, by rw [HD.out]; rfl, HMS.out, HB3.out⟩

set_option maxRecDepth 100000 in
theorem copied3 (a : Ask) (h1 : ¬ a.kd = 1) (h2 : ¬ a.kd = 2) (av mv : Value) (w : World) :
    Calls Tryz.prog 40 #[a.dyn av mv] w fun e w' => e = .returned (a.dyn av mv) ∧ w' = w := by
  have q1 := is71_yes
  have q2 := is71_nil
  have q3 := is71_no51
  have q4 := is71_no73
  have r1 := is51_yes
  have r2 := is51_nil
  have r3 := is51_no73
  by_cases h3 : a.kd = 3
  · rw [dyn3 h3]
    clear h1 h2 h3
    go_enter Tryz.func40, Tryz.ntmps40
    go_wp2_with fail
    go_ret
    exact ⟨rfl, rfl⟩
  · rw [dyn0 (by omega)]
    clear h1 h2 h3
    go_enter Tryz.func40, Tryz.ntmps40
    go_wp2_with fail
    go_ret
    exact ⟨rfl, rfl⟩

/-- A question in memory of its own. -/
theorem copied_any (a : Ask) (av mv : Value) (w : World) (h1 : TextsAt w av a.all) (h2 : MsAt w mv a.mat) (hn : a.all.length ≤ 1000) (hr : ∀ l ∈ a.all, l.length ≤ 1000) (hm : a.mat.length ≤ 1000) :
    Calls Tryz.prog 40 #[a.dyn av mv] w fun e w' => ∃ av' mv', e = .returned (a.dyn av' mv') ∧ TextsAt w' av' a.all ∧ MsAt w' mv' a.mat ∧ Below w.heap.size w w' := by
  by_cases k1 : a.kd = 1
  · exact (copied1 a k1 av mv w (TextsG.of h1) (fun _ h => h) hn hr).mono fun e w' ⟨v, he, ht, hb⟩ => ⟨v, mv, he, ht.at, MsAt.below12 h2 hb, hb⟩
  by_cases k2 : a.kd = 2
  · exact (copied2 a k2 av mv w h2 hm).mono fun e w' ⟨v, he, ht, hb⟩ => ⟨av, v, he, h1.below hb, ms_of_rk ht hm, hb⟩
  · exact (copied3 a k1 k2 av mv w).mono fun e w' ⟨he, hw⟩ => ⟨av, mv, he, by rw [hw]; exact h1, by rw [hw]; exact h2, by rw [hw]; exact Below.refl _ _⟩

end Go.Proofs.YtgfjbboeappemaaGreatDoor.E4

namespace Go.Proofs.YtgfjbboeappemaaGreatDoor.E4
open Go.RowKit Go

theorem texts_set {G : Nat → Prop} {w W : World} {b : Nat} {v : Value} {ls : List (List ByteArray)} (h : TextsG G w v ls) (hk : Keep (fun k => k = b) w W) (hG : ∀ q, G q → q ≠ b) : TextsAt W v ls :=
  (h.carry hk.size (fun q hq hlt => hk.block q hlt (hG q hq)) (fun _ h _ => h)).at
theorem ms_set {G : Nat → Prop} {w W : World} {b : Nat} {v : Value} {l : List Mt} (h : Rk 3 G w v l.length (flatM l)) (hk : Keep (fun k => k = b) w W) (hG : ∀ q, G q → q ≠ b) (hl : l.length ≤ 1000) : MsAt W v l :=
  ms_of_rk (h.carry hk.size fun q hq _ hlt => hk.block q hlt (hG q hq)) hl
theorem below_set {w w3 W : World} {b : Nat} (h : Below w.heap.size w w3) (hk : Keep (fun k => k = b) w3 W) (hb : w.heap.size ≤ b) : Below w.heap.size w W :=
  ⟨hk.os.trans h.os, hk.tape.trans h.tape, hk.output.trans h.output, Nat.le_trans h.size hk.size, fun q hq => (hk.block q (Nat.lt_of_lt_of_le hq h.size) (by omega)).trans (h.block q hq)⟩
theorem keep_set12 {W W' : World} {b : Nat} (h : Keep (fun k => k = b) W W') (i : Nat) (u : Value) : Keep (fun k => k = b) W (W'.setCell ⟨b, i, none⟩ u) :=
  ⟨h.os, h.tape, h.output, by simpa [World.setCell] using h.size, h.drawn, fun k hk hn => (Below.heap_setCell _ ⟨b, i, none⟩ u k (fun e => hn e)).trans (h.block k hk hn)⟩
theorem fill2 {W : World} {b : Nat} {t : TypeId} {u0 u1 : Value} (h : Bl W b t #[u0, u1]) (v0 v1 : Value) :
    Bl ((W.setCell ⟨b, 0, none⟩ v0).setCell ⟨b, 1, none⟩ v1) b t #[v0, v1] ∧ Keep (fun k => k = b) W ((W.setCell ⟨b, 0, none⟩ v0).setCell ⟨b, 1, none⟩ v1) := by
  refine ⟨?_, keep_set12 (keep_set12 (Keep.refl _ _) _ _) _ _⟩
  have h1 := h.set12 0 v0
  simp only [List.setIfInBounds_toArray, List.set_cons_zero] at h1
  have h2 := h1.set12 1 v1
  simp only [List.setIfInBounds_toArray, List.set_cons_zero, List.set_cons_succ] at h2
  exact h2
theorem fill3 {W : World} {b : Nat} {t : TypeId} {u0 u1 u2 : Value} (h : Bl W b t #[u0, u1, u2]) (v0 v1 v2 : Value) :
    Bl (((W.setCell ⟨b, 0, none⟩ v0).setCell ⟨b, 1, none⟩ v1).setCell ⟨b, 2, none⟩ v2) b t #[v0, v1, v2] ∧ Keep (fun k => k = b) W (((W.setCell ⟨b, 0, none⟩ v0).setCell ⟨b, 1, none⟩ v1).setCell ⟨b, 2, none⟩ v2) := by
  refine ⟨?_, keep_set12 (keep_set12 (keep_set12 (Keep.refl _ _) _ _) _ _) _ _⟩
  have h1 := h.set12 0 v0
  simp only [List.setIfInBounds_toArray, List.set_cons_zero] at h1
  have h2 := h1.set12 1 v1
  simp only [List.setIfInBounds_toArray, List.set_cons_zero, List.set_cons_succ] at h2
  have h3 := h2.set12 2 v2
  simp only [List.setIfInBounds_toArray, List.set_cons_zero, List.set_cons_succ] at h3
  exact h3

set_option maxHeartbeats 1000000 in
set_option maxRecDepth 100000 in
theorem as2_yes (a : Ask) (hk : a.kd = 2) (av mv : Value) (w : World) (h : MsAt w mv a.mat) (hn : a.mat.length ≤ 1000) :
    Calls Tryz.prog 24 #[a.dyn av mv] w fun e w' => ∃ v', e = .returned (.tuple #[.agg #[.int .i64 a.src, .int .i64 a.til, v'], .bool true]) ∧ MsAt w' v' a.mat ∧ Below w.heap.size w w' := by
  have q := is51_yes
  obtain ⟨w1, hw1⟩ : ∃ w1, w1 = w.alloc (.cells #[.int .i64 0, .int .i64 0, .slice none 0 0] 51) := ⟨_, rfl⟩
  have hb1 : Below w.heap.size w w1 := by rw [hw1]; exact (Below.refl _ w).alloc (Nat.le_refl _) _
  have hk1 : Bl w1 w.heap.size 51 #[.int .i64 0, .int .i64 0, .slice none 0 0] := by rw [hw1]; exact Bl.new w 51 _
  have HC := Lib.hid (copied2 a hk av mv w1 (MsAt.below12 h hb1) hn)
  have HW1 := Lib.hid hw1.symm
  have HB1 := Lib.hid hb1
  have HK1 := Lib.hid hk1
  have HSZ : Hid (w1.heap.size = w.heap.size + 1) := Lib.hid (by rw [hw1]; simp)
  have HK := Lib.hid hk
  obtain ⟨dv, hdv⟩ : ∃ v, v = a.dyn av mv := ⟨_, rfl⟩
  rw [← hdv] at HC ⊢
  
  clear hw1 hb1 hk1 hdv hk h
  go_enter Tryz.func24, Tryz.ntmps24
  go_upto_region 1 with fail
  rw [HW1.out]
  go_wp2_with fail
  refine HC.out.mono ?_
  rintro e w2 ⟨v2, rfl, hx, hb2⟩
  obtain ⟨xa, xc, rfl⟩ := hx.shape
  have hd := dyn2 HK.out av (.slice xa a.mat.length xc)
  have hk2 := HK1.out.below hb2
  obtain ⟨w3, hw3⟩ : ∃ w3, w3 = w2.alloc (.cells #[.int .i64 a.src, .int .i64 a.til, .slice xa a.mat.length xc] 51) := ⟨_, rfl⟩
  have hb3 : Below w2.heap.size w2 w3 := by rw [hw3]; exact (Below.refl _ w2).alloc (Nat.le_refl _) _
  have hk3 := hk2.below hb3
  have hn3 : Bl w3 w2.heap.size 51 #[.int .i64 a.src, .int .i64 a.til, .slice xa a.mat.length xc] := by rw [hw3]; exact Bl.new w2 51 _
  have hf := fill3 hk3 (.int .i64 a.src) (.int .i64 a.til) (.slice xa a.mat.length xc)
  have HF := Lib.hid hf
  have HB3 := Lib.hid (below_mid12 (below_mid12 HB1.out hb2) hb3)
  have HW3 := Lib.hid hw3.symm
  have c0 := hk3.cell 0
  have z0 := hk3.frozen 0
  have d0 := hn3.cell 0
  have c1 := hk3.cell 1
  have z1 := hk3.frozen 1
  have d1 := hn3.cell 1
  have c2 := hk3.cell 2
  have z2 := hk3.frozen 2
  have d2 := hn3.cell 2
  simp only [List.getElem?_toArray, List.getElem?_cons_succ, List.getElem?_cons_zero] at c0 d0 c1 d1 c2 d2
  have HX3 := Lib.hid (hx.carry hb3.size (fun q _ _ hlt => hb3.block q hlt))
  rw [hd]
  clear hd hk2 hb2 hw3 hb3 hk3 hn3 hf hx
  go_upto_region 3 with fail
  rw [HW3.out]
  go_wp2_with fail
  have e0 := HF.out.1.cell 0
  have e1 := HF.out.1.cell 1
  have e2 := HF.out.1.cell 2
  simp only [List.getElem?_toArray, List.getElem?_cons_succ, List.getElem?_cons_zero] at e0 e1 e2
  refine bodyPost_ret (v := .tuple #[.agg #[.int .i64 a.src, .int .i64 a.til, .slice xa a.mat.length xc], .bool true]) (by simp [results, Tryz.results24, go_sem, e0, e1, e2]) rfl ⟨_, rfl, ms_set HX3.out HF.out.2 (fun q hq => by have := HSZ.out; omega) hn, below_set HB3.out HF.out.2 (Nat.le_refl _)⟩

set_option maxHeartbeats 1000000 in
set_option maxRecDepth 100000 in
theorem as2_no (a : Ask) (hk : ¬ a.kd = 2) (av mv : Value) (w : World) (h1 : TextsAt w av a.all) (h2 : MsAt w mv a.mat) (hn : a.all.length ≤ 1000) (hr : ∀ l ∈ a.all, l.length ≤ 1000) (hm : a.mat.length ≤ 1000) :
    Calls Tryz.prog 24 #[a.dyn av mv] w fun e w' => e = .returned (.tuple #[.agg #[.int .i64 0, .int .i64 0, .slice none 0 0], .bool false]) ∧ Below w.heap.size w w' := by
  obtain ⟨w1, hw1⟩ : ∃ w1, w1 = w.alloc (.cells #[.int .i64 0, .int .i64 0, .slice none 0 0] 51) := ⟨_, rfl⟩
  have hb1 : Below w.heap.size w w1 := by rw [hw1]; exact (Below.refl _ w).alloc (Nat.le_refl _) _
  have hk1 : Bl w1 w.heap.size 51 #[.int .i64 0, .int .i64 0, .slice none 0 0] := by rw [hw1]; exact Bl.new w 51 _
  have HC := Lib.hid (copied_any a av mv w1 (h1.below hb1) (MsAt.below12 h2 hb1) hn hr hm)
  have HW1 := Lib.hid hw1.symm
  have HB1 := Lib.hid hb1
  have HK1 := Lib.hid hk1
  have HQ : Hid (∀ (x y : Value) (W : World), (Instr.typeAssert (a.dyn x y) 20 51 true).run Tryz.prog W = .ok (.tuple #[.agg #[.int .i64 0, .int .i64 0, .slice none 0 0], .bool false]) W) := Lib.hid (by
    intro x y W
    by_cases g1 : a.kd = 1
    · rw [dyn1 g1]; exact is51_no71 _ W
    by_cases g2 : a.kd = 3
    · rw [dyn3 g2]; exact is51_no73 _ W
    · rw [dyn0 (by omega)]; exact is51_nil W)
  obtain ⟨dv, hdv⟩ : ∃ v, v = a.dyn av mv := ⟨_, rfl⟩
  rw [← hdv] at HC ⊢
  clear hw1 hb1 hk1 hdv hk h1 h2
  go_enter Tryz.func24, Tryz.ntmps24
  go_upto_region 1 with fail
  rw [HW1.out]
  go_wp2_with fail
  refine HC.out.mono ?_
  rintro e w2 ⟨v1, v2, rfl, -, -, hb2⟩
  have hq := HQ.out v1 v2
  have hk2 := HK1.out.below hb2
  generalize a.dyn v1 v2 = dw at hq ⊢
  obtain ⟨w3, hw3⟩ : ∃ w3, w3 = (w2.alloc (.cells #[.int .i64 0, .int .i64 0, .slice none 0 0] 51)).alloc (.cells #[.int .i64 0, .int .i64 0, .slice none 0 0] 51) := ⟨_, rfl⟩
  have hs4 : (w2.alloc (.cells #[.int .i64 0, .int .i64 0, .slice none 0 0] 51)).heap.size = w2.heap.size + 1 := by simp
  have hb3 : Below w2.heap.size w2 w3 := by rw [hw3]; exact ((Below.refl _ w2).alloc (Nat.le_refl _) _).alloc (by simp) _
  have hk3 := hk2.below hb3
  have hn3 : Bl w3 (w2.heap.size + 1) 51 #[.int .i64 0, .int .i64 0, .slice none 0 0] := by rw [hw3, ← hs4]; exact Bl.new _ 51 _
  have hf := fill3 hk3 (.int .i64 0) (.int .i64 0) (.slice none 0 0)
  have HF := Lib.hid hf
  have HB3 := Lib.hid (below_mid12 (below_mid12 HB1.out hb2) hb3)
  have HW3 := Lib.hid hw3.symm
  have c0 := hk3.cell 0
  have z0 := hk3.frozen 0
  have d0 := hn3.cell 0
  have c1 := hk3.cell 1
  have z1 := hk3.frozen 1
  have d1 := hn3.cell 1
  have c2 := hk3.cell 2
  have z2 := hk3.frozen 2
  have d2 := hn3.cell 2
  simp only [List.getElem?_toArray, List.getElem?_cons_succ, List.getElem?_cons_zero] at c0 d0 c1 d1 c2 d2
  clear hk2 hb2 hw3 hb3 hk3 hn3 hf hs4
  go_upto_region 5 with fail
  rw [HW3.out]
  go_wp2_with fail
  have e0 := HF.out.1.cell 0
  have e1 := HF.out.1.cell 1
  have e2 := HF.out.1.cell 2
  simp only [List.getElem?_toArray, List.getElem?_cons_succ, List.getElem?_cons_zero] at e0 e1 e2
  refine bodyPost_ret (v := .tuple #[.agg #[.int .i64 0, .int .i64 0, .slice none 0 0], .bool false]) (by simp [results, Tryz.results24, go_sem, e0, e1, e2]) rfl ⟨rfl, below_set HB3.out HF.out.2 (Nat.le_refl _)⟩

end Go.Proofs.YtgfjbboeappemaaGreatDoor.E4
