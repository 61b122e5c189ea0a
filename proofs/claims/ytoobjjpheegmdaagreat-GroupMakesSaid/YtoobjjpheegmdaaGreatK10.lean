/-
  Ma13, Ak12, Hq12, Gk12, Fa12.
-/
import Derived.Test.YtoobjjpheegmdaaGreatK01
import Derived.Maps.OwnSet
import Derived.Test.YtoobjjpheegmdaaGreatK09
import Derived.Test.YtoobjjpheegmdaaGreatK06
import Derived.Deep.DeepCutAuto
import Derived.Deep.CutBlock
import Derived.Laws.Pointers
namespace Go.Proofs.YtoobjjpheegmdaaGreat.E4
open Go.RowKit Go Go.Maps
def heldR (v : Value) : Option (DataW Value × List MemPlace) := some (.held v, [])
def klit (s : ByteArray) : Lit := .string s.data.toList
theorem klit_ne {s t : ByteArray} (h : t ≠ s) : klit t ≠ klit s := fun e => h (by
  unfold klit at e
  injection e with e
  exact ByteArray.ext (Array.toList_inj.1 e))
def MapAt (P : Program) (k : TypeId) (w : World) (b n : Nat) (f : ByteArray → Option Value) : Prop :=
  ∃ D, w.ownsMap P k heldR b n D ∧ ∀ s, s.size ≤ maxLen → ∀ z, D.atKey (klit s) z = match f s with | some v => .held v | none => z
variable {P : Program} {k t e : TypeId} {w : World} {b n : Nat} {f : ByteArray → Option Value}
theorem MapAt.lt (h : MapAt P k w b n f) : b < w.heap.size := by
  obtain ⟨D, h, _⟩ := h
  exact h.lt
theorem MapAt.mono {m : Nat} (h : MapAt P k w b n f) (hm : n ≤ m) : MapAt P k w b m f := by
  obtain ⟨D, h, h2⟩ := h
  exact ⟨D, h.mono hm, h2⟩
theorem MapAt.carry {w' : World} (h : MapAt P k w b n f) (hb : w'.heap[b]? = w.heap[b]?) : MapAt P k w' b n f := by
  obtain ⟨D, ⟨es, clock, h0, h1⟩, h2⟩ := h
  exact ⟨D, ⟨es, clock, hb.trans h0, h1⟩, h2⟩
theorem MapAt.made (w : World) (P : Program) (k : TypeId) : MapAt P k (w.alloc (.map #[] 0)) w.heap.size 0 (fun _ => none) :=
  ⟨_, World.ownsMap_made w P k heldR, fun _ _ _ => rfl⟩
theorem held_has {D : DataW Value} (hD : ∀ s, s.size ≤ maxLen → ∀ z, D.atKey (klit s) z = match f s with | some v => .held v | none => z) {s : ByteArray} (hs : s.size ≤ maxLen) : Maps.has D (klit s) = (f s).isSome := by
  cases hf : f s with
  | none => exact has_false_of_atKey fun z => by rw [hD s hs z, hf]
  | some v => exact has_true_of_atKey (y := .held v) fun z => by rw [hD s hs z, hf]
theorem MapAt.look (h : MapAt P k w b n f) (hk : P.underlying k = some .string) (ht : P.underlying t = some (.map k e)) {z : Value} (hz : (zeroValue e).run P w = .ok z w) {s : ByteArray} (hs : s.size ≤ maxLen) :
    (Instr.lookup t (.map (some b)) (.string s) false).run P w = .ok ((f s).getD z) w := by
  obtain ⟨D, h1, h2⟩ := h
  obtain ⟨v, ps, hr, hv⟩ := h1.lookup (string_keyed hk) ht hz (zd := .held z) (zp := []) rfl (kl := klit s) (WideMaps.keyOf_string_mk hk hs)
  rw [h2 s hs] at hv
  rw [hr]
  unfold heldR at hv
  cases hf : f s with
  | none => rw [hf] at hv; simp at hv; rw [hv.1]; rfl
  | some u => rw [hf] at hv; simp at hv; rw [hv.1]; rfl
theorem MapAt.look_ok (h : MapAt P k w b n f) (hk : P.underlying k = some .string) (ht : P.underlying t = some (.map k e)) {z : Value} (hz : (zeroValue e).run P w = .ok z w) {s : ByteArray} (hs : s.size ≤ maxLen) :
    (Instr.lookup t (.map (some b)) (.string s) true).run P w = .ok (.tuple #[(f s).getD z, .bool (f s).isSome]) w := by
  obtain ⟨D, h1, h2⟩ := h
  obtain ⟨v, ps, hr, hv⟩ := h1.look_ok (string_keyed hk) ht hz (zd := .held z) (zp := []) rfl (kl := klit s) (WideMaps.keyOf_string_mk hk hs)
  rw [h2 s hs] at hv
  rw [hr, held_has h2 hs]
  unfold heldR at hv
  cases hf : f s with
  | none => rw [hf] at hv; simp at hv; rw [hv.1]; rfl
  | some u => rw [hf] at hv; simp at hv; rw [hv.1]; rfl
theorem keep_setBlock {w : World} {b : Nat} {es : Array MapEntry} {clock : Nat} {o : Obj} (h : w.heap[b]? = some (.map es clock)) : Keep (fun k => k = b) w (ChangeMaps.setBlock w b o) :=
  ⟨rfl, rfl, rfl, by simp [ChangeMaps.setBlock], Nat.le_refl _, fun _ _ hi => ChangeMaps.heap_setBlock_other h _ hi⟩
theorem MapAt.store (h : MapAt P k w b n f) (hk : P.underlying k = some .string) (ht : P.underlying t = some (.map k e)) (hn : n < maxLen) {s : ByteArray} (hs : s.size ≤ maxLen) (v : Value) :
    ∃ w', (Instr.mapUpdate t (.map (some b)) (.string s) v).run P w = .ok () w' ∧ MapAt P k w' b (n + 1) (fun x => if x = s then some v else f x) ∧ Keep (fun k => k = b) w w' := by
  obtain ⟨D, h1, h2⟩ := h
  obtain ⟨w', hr, h3, es, clock, es', clock', hb, rfl⟩ := h1.store (string_keyed hk) ht hn (kl := klit s) (WideMaps.keyOf_string_mk hk hs) (val := v) (d := .held v) (ps := []) rfl
  refine ⟨_, hr, ⟨_, h3, fun x hx z => ?_⟩, keep_setBlock hb⟩
  by_cases hxs : x = s
  · subst hxs
    show _ = match (if x = x then some v else f x) with | some v => DataW.held v | none => z
    rw [if_pos rfl, atKey_put_same h1.isMap (by unfold klit WideAt.IsKeyLit; trivial)]
  · show _ = match (if x = s then some v else f x) with | some v => DataW.held v | none => z
    rw [if_neg hxs, atKey_put_other (klit_ne hxs)]
    exact h2 x hx z
end Go.Proofs.YtoobjjpheegmdaaGreat.E4
namespace Go.Proofs.YtoobjjpheegmdaaGreat.E4
open Go.RowKit Go
def StrsAt (w : World) (v : Value) (l : List ByteArray) : Prop :=
  ∃ a cap, v = .slice a l.length cap ∧ l.length ≤ 9223372036854775807 ∧ (l = [] ∨ ∃ b off, a = some ⟨b, off, none⟩ ∧ b < w.heap.size ∧
    ∀ i (h : i < l.length), w.cell? ⟨b, off + i, none⟩ = some (.string l[i]))
def TextsAt (w : World) (v : Value) (ls : List (List ByteArray)) : Prop :=
  ∃ a cap, v = .slice a ls.length cap ∧ ls.length ≤ 9223372036854775807 ∧ (ls = [] ∨ ∃ b off, a = some ⟨b, off, none⟩ ∧ b < w.heap.size ∧
    ∀ i (h : i < ls.length), ∃ rv, w.cell? ⟨b, off + i, none⟩ = some rv ∧ StrsAt w rv ls[i])
theorem StrsAt.below {w w' : World} {v : Value} {l : List ByteArray} (h : StrsAt w v l) (hb : Below w.heap.size w w') : StrsAt w' v l := by
  obtain ⟨a, cap, hv, hn, h | ⟨b, off, ha, hlt, hc⟩⟩ := h
  · exact ⟨a, cap, hv, hn, .inl h⟩
  · exact ⟨a, cap, hv, hn, .inr ⟨b, off, ha, Nat.lt_of_lt_of_le hlt hb.size, fun i hi => (hb.cell hlt).trans (hc i hi)⟩⟩
theorem TextsAt.below {w w' : World} {v : Value} {ls : List (List ByteArray)} (h : TextsAt w v ls) (hb : Below w.heap.size w w') : TextsAt w' v ls := by
  obtain ⟨a, cap, hv, hn, h | ⟨b, off, ha, hlt, hc⟩⟩ := h
  · exact ⟨a, cap, hv, hn, .inl h⟩
  · refine ⟨a, cap, hv, hn, .inr ⟨b, off, ha, Nat.lt_of_lt_of_le hlt hb.size, fun i hi => ?_⟩⟩
    obtain ⟨rv, h0, h1⟩ := hc i hi
    exact ⟨rv, (hb.cell hlt).trans h0, h1.below hb⟩
theorem MsAt.below12 {w w' : World} {v : Value} {l : List Mt} (h : MsAt w v l) (hb : Below w.heap.size w w') : MsAt w' v l := by
  obtain ⟨a, cap, hv, hn, h | ⟨b, off, ha, hlt, hc⟩⟩ := h
  · exact ⟨a, cap, hv, hn, .inl h⟩
  · refine ⟨a, cap, hv, hn, .inr ⟨b, off, ha, Nat.lt_of_lt_of_le hlt hb.size, fun i hi => ?_⟩⟩
    obtain ⟨h0, h1, h2⟩ := hc i hi
    exact ⟨(hb.cell hlt).trans h0, (hb.cell hlt).trans h1, (hb.cell hlt).trans h2⟩
structure Ask where
  kd : Int
  src : Int
  til : Int
  all : List (List ByteArray)
  mat : List Mt
def Ask.cells (a : Ask) (av mv : Value) : Array Value := #[.int .i64 a.kd, .int .i64 a.src, .int .i64 a.til, av, mv]
def Bl (W : World) (B : Nat) (t : TypeId) (arr : Array Value) : Prop := W.heap[B]? = some (.cells arr t (0, 0))
theorem Bl.lt {W : World} {B : Nat} {t : TypeId} {arr : Array Value} (h : Bl W B t arr) : B < W.heap.size := (Array.getElem?_eq_some_iff.1 h).1
theorem Bl.cell {W : World} {B : Nat} {t : TypeId} {arr : Array Value} (h : Bl W B t arr) (i : Nat) : W.cell? ⟨B, i, none⟩ = arr[i]? := by simp [World.cell?, show W.heap[B]? = _ from h]
theorem Bl.new (W : World) (t : TypeId) (arr : Array Value) : Bl (W.alloc (.cells arr t)) W.heap.size t arr := by
  show (W.heap.push _)[W.heap.size]? = _
  simp
theorem Bl.below {W W' : World} {B : Nat} {t : TypeId} {arr : Array Value} (h : Bl W B t arr) (hb : Below W.heap.size W W') : Bl W' B t arr := (hb.block B h.lt).trans h
theorem below_mid12 {a b c : World} (h : Below a.heap.size a b) (k : Below b.heap.size b c) : Below a.heap.size a c := h.trans (k.mono h.size)
end Go.Proofs.YtoobjjpheegmdaaGreat.E4
namespace Go.Proofs.YtoobjjpheegmdaaGreat.E4
open Go.RowKit Go
theorem infoS : (Tryz.prog.info? 9).map (fun i => (i.zero, i.size, i.bytes)) = some (some (.string ⟨#[]⟩), 1, 16) := by kernel_rfl
theorem elemS : ∃ i z, Elem Tryz.prog 87 9 i z 1 16 := by
  obtain ⟨i, hi, hz, hs, hb⟩ := info_parts infoS
  exact ⟨i, _, Tryz.underlying87, hi, hz, hs, hb, by kernel_rfl⟩
theorem infoR : (Tryz.prog.info? 87).map (fun i => (i.zero, i.size, i.bytes)) = some (some (.slice none 0 0), 1, 24) := by kernel_rfl
theorem elemR : ∃ i z, Elem Tryz.prog 33 87 i z 1 24 := by
  obtain ⟨i, hi, hz, hs, hb⟩ := info_parts infoR
  exact ⟨i, _, Tryz.underlying33, hi, hz, hs, hb, by kernel_rfl⟩
theorem infoM : (Tryz.prog.info? 89).map (fun i => (i.zero, i.size, i.bytes)) = some (some (.agg #[.string ⟨#[]⟩, .bool false, .string ⟨#[]⟩]), 3, 40) := by kernel_rfl
theorem elemM : ∃ i z, Elem Tryz.prog 34 89 i z 3 40 := by
  obtain ⟨i, hi, hz, hs, hb⟩ := info_parts infoM
  exact ⟨i, _, Tryz.underlying34, hi, hz, hs, hb, by kernel_rfl⟩
def strs (l : List ByteArray) : List Value := l.map Value.string
theorem strs_len (l : List ByteArray) : (strs l).length = l.length := List.length_map ..
def SG (G : Nat → Prop) (w : World) (v : Value) (l : List ByteArray) : Prop := ∃ a cap, v = .slice a l.length cap ∧ l.length ≤ 9223372036854775807 ∧ (l = [] ∨ ∃ b off, a = some ⟨b, off, none⟩ ∧ G b ∧ b < w.heap.size ∧ ∀ i (h : i < l.length), w.cell? ⟨b, off + i, none⟩ = some (.string l[i]))
theorem SG.at {G : Nat → Prop} {w : World} {v : Value} {l : List ByteArray} (h : SG G w v l) : StrsAt w v l := by
  obtain ⟨a, c, hv, hn, h | ⟨b, off, ha, _, hlt, hc⟩⟩ := h
  · exact ⟨a, c, hv, hn, .inl h⟩
  · exact ⟨a, c, hv, hn, .inr ⟨b, off, ha, hlt, hc⟩⟩
theorem SG.carry {G H : Nat → Prop} {w w' : World} {v : Value} {l : List ByteArray} (h : SG G w v l) (hs : w.heap.size ≤ w'.heap.size) (hb : ∀ b, G b → b < w.heap.size → w'.heap[b]? = w.heap[b]?) (hG : ∀ b, G b → b < w.heap.size → H b) : SG H w' v l := by
  obtain ⟨a, c, hv, hn, h | ⟨b, off, ha, hg, hlt, hc⟩⟩ := h
  · exact ⟨a, c, hv, hn, .inl h⟩
  · exact ⟨a, c, hv, hn, .inr ⟨b, off, ha, hG b hg hlt, Nat.lt_of_lt_of_le hlt hs, fun i hi => (World.cell?_of_block (a := ⟨b, off + i, none⟩) (hb b hg hlt)).trans (hc i hi)⟩⟩
theorem sg_of_rk {G : Nat → Prop} {w : World} {v : Value} {l : List ByteArray} (h : Rk 1 G w v l.length (strs l)) (hl : l.length ≤ 1000) : SG G w v l := by
  obtain ⟨hn, ⟨rfl, h0⟩ | ⟨g, cap, rfl, hg, hlt, _, _, hc, _⟩⟩ := h
  · have : l = [] := List.eq_nil_of_length_eq_zero h0
    subst this
    exact ⟨none, 0, rfl, by simp, .inl rfl⟩
  · refine ⟨_, cap, rfl, by omega, .inr ⟨g, 0, rfl, hg, hlt, fun i hi => ?_⟩⟩
    rw [Nat.zero_add, hc i (by unfold strs; rw [List.length_map]; exact hi)]
    simp [strs, hi]
def TextsG (G : Nat → Prop) (w : World) (v : Value) (ls : List (List ByteArray)) : Prop := ∃ a cap, v = .slice a ls.length cap ∧ ls.length ≤ 9223372036854775807 ∧ (ls = [] ∨ ∃ b off, a = some ⟨b, off, none⟩ ∧ G b ∧ b < w.heap.size ∧ ∀ i (h : i < ls.length), ∃ rv, w.cell? ⟨b, off + i, none⟩ = some rv ∧ SG G w rv ls[i])
theorem TextsG.at {G : Nat → Prop} {w : World} {v : Value} {ls : List (List ByteArray)} (h : TextsG G w v ls) : TextsAt w v ls := by
  obtain ⟨a, c, hv, hn, h | ⟨b, off, ha, _, hlt, hc⟩⟩ := h
  · exact ⟨a, c, hv, hn, .inl h⟩
  · refine ⟨a, c, hv, hn, .inr ⟨b, off, ha, hlt, fun i hi => ?_⟩⟩
    obtain ⟨rv, h0, h1⟩ := hc i hi
    exact ⟨rv, h0, h1.at⟩
theorem TextsG.carry {G H : Nat → Prop} {w w' : World} {v : Value} {ls : List (List ByteArray)} (h : TextsG G w v ls) (hs : w.heap.size ≤ w'.heap.size) (hb : ∀ b, G b → b < w.heap.size → w'.heap[b]? = w.heap[b]?) (hG : ∀ b, G b → b < w.heap.size → H b) : TextsG H w' v ls := by
  obtain ⟨a, c, hv, hn, h | ⟨b, off, ha, hg, hlt, hc⟩⟩ := h
  · exact ⟨a, c, hv, hn, .inl h⟩
  · refine ⟨a, c, hv, hn, .inr ⟨b, off, ha, hG b hg hlt, Nat.lt_of_lt_of_le hlt hs, fun i hi => ?_⟩⟩
    obtain ⟨rv, h0, h1⟩ := hc i hi
    exact ⟨rv, (World.cell?_of_block (a := ⟨b, off + i, none⟩) (hb b hg hlt)).trans h0, h1.carry hs hb hG⟩
theorem SG.of {w : World} {v : Value} {l : List ByteArray} (h : StrsAt w v l) : SG (fun k => k < w.heap.size) w v l := by
  obtain ⟨a, c, hv, hn, h | ⟨b, off, ha, hlt, hc⟩⟩ := h
  · exact ⟨a, c, hv, hn, .inl h⟩
  · exact ⟨a, c, hv, hn, .inr ⟨b, off, ha, hlt, hlt, hc⟩⟩
theorem TextsG.of {w : World} {v : Value} {ls : List (List ByteArray)} (h : TextsAt w v ls) : TextsG (fun k => k < w.heap.size) w v ls := by
  obtain ⟨a, c, hv, hn, h | ⟨b, off, ha, hlt, hc⟩⟩ := h
  · exact ⟨a, c, hv, hn, .inl h⟩
  · refine ⟨a, c, hv, hn, .inr ⟨b, off, ha, hlt, hlt, fun i hi => ?_⟩⟩
    obtain ⟨rv, h0, h1⟩ := hc i hi
    exact ⟨rv, h0, SG.of h1⟩
def flatM : List Mt → List Value
  | [] => []
  | m :: l => .string m.name :: .bool m.not :: .string m.value :: flatM l
theorem flatM_len : ∀ l : List Mt, (flatM l).length = l.length * 3
  | [] => rfl
  | _ :: l => by simp only [flatM, List.length_cons]; rw [flatM_len l]; omega
theorem flatM_get : ∀ (l : List Mt) (i : Nat) (h : i < l.length), (flatM l)[i * 3]? = some (.string l[i].name) ∧ (flatM l)[i * 3 + 1]? = some (.bool l[i].not) ∧ (flatM l)[i * 3 + 2]? = some (.string l[i].value)
  | x :: l, 0, _ => ⟨rfl, rfl, rfl⟩
  | x :: l, i + 1, h => by
    have := flatM_get l i (by simpa using h)
    have e : (i + 1) * 3 = i * 3 + 1 + 1 + 1 := by omega
    rw [e]
    exact this
theorem ms_of_rk {G : Nat → Prop} {w : World} {v : Value} {l : List Mt} (h : Rk 3 G w v l.length (flatM l)) (hl : l.length ≤ 1000) : MsAt w v l := by
  obtain ⟨hn, ⟨rfl, h0⟩ | ⟨g, cap, rfl, hg, hlt, _, _, hc, _⟩⟩ := h
  · have : l = [] := List.eq_nil_of_length_eq_zero h0
    subst this
    exact ⟨none, 0, rfl, by simp, .inl rfl⟩
  · refine ⟨_, cap, rfl, by omega, .inr ⟨g, 0, rfl, hlt, fun i hi => ?_⟩⟩
    obtain ⟨e0, e1, e2⟩ := flatM_get l i hi
    have hz := flatM_len l
    refine ⟨?_, ?_, ?_⟩
    · rw [Nat.zero_add, hc _ (by omega), e0]
    · rw [Nat.zero_add, hc _ (by omega), e1]
    · rw [Nat.zero_add, hc _ (by omega), e2]
end Go.Proofs.YtoobjjpheegmdaaGreat.E4
namespace Go.Proofs.YtoobjjpheegmdaaGreat.E4
open Go.RowKit Go
def bigW (l : List ByteArray) : Bool := l.any fun w => decide (2000 < w.size)
def bigL (l : List ByteArray) : Bool := decide (100 < l.length) || bigW l
def bigM (m : Mt) : Bool := decide (200 < m.name.size) || decide (2000 < m.value.size)
def Ask.great (a : Ask) : Bool := decide (100 < a.all.length) || decide (20 < a.mat.length) || a.all.any bigL || a.mat.any bigM
end Go.Proofs.YtoobjjpheegmdaaGreat.E4
namespace Go.Proofs.YtoobjjpheegmdaaGreat.E4
open Go.RowKit Go
def Ask.dyn (a : Ask) (av mv : Value) : Value :=
  if a.kd = 1 then .iface 63 (.agg #[.int .i64 a.src, .int .i64 a.til, av]) else if a.kd = 2 then .iface 76 (.agg #[.int .i64 a.src, .int .i64 a.til, mv]) else if a.kd = 3 then .iface 78 (.agg #[.int .i64 a.src, .int .i64 a.til]) else .nilIface
set_option maxRecDepth 100000 in
theorem anyOf_any (a : Ask) (av mv : Value) (w : World) (h1 : ∃ x n c, av = .slice x n c) (h2 : ∃ x n c, mv = .slice x n c) :
    Calls Tryz.prog 15 #[.agg (a.cells av mv)] w fun e w' => e = .returned (a.dyn av mv) ∧ Below w.heap.size w w' := by
  obtain ⟨x1, n1, r1, rfl⟩ := h1
  obtain ⟨x2, n2, r2, rfl⟩ := h2
  unfold Ask.cells
  obtain ⟨w1, hw1⟩ : ∃ w1, w1 = w.alloc (.cells #[.int .i64 a.kd, .int .i64 a.src, .int .i64 a.til, .slice x1 n1 r1, .slice x2 n2 r2] 36) := ⟨_, rfl⟩
  have hb1 : Below w.heap.size w w1 := by rw [hw1]; exact (Below.refl _ w).alloc (Nat.le_refl _) _
  have hk1 : Bl w1 w.heap.size 36 #[.int .i64 a.kd, .int .i64 a.src, .int .i64 a.til, .slice x1 n1 r1, .slice x2 n2 r2] := by rw [hw1]; exact Bl.new w 36 _
  have HW1 := Lib.hid hw1.symm
  have HB1 := Lib.hid hb1
  have c0 := hk1.cell 0
  have c1 := hk1.cell 1
  have c2 := hk1.cell 2
  have c3 := hk1.cell 3
  have c4 := hk1.cell 4
  simp only [List.getElem?_toArray, List.getElem?_cons_succ, List.getElem?_cons_zero] at c0 c1 c2 c3 c4
  clear hw1 hb1 hk1
  go_enter Tryz.func15, Tryz.ntmps15
  go_upto_region 1 with fail
  rw [HW1.out]
  by_cases k1 : a.kd = 1
  · have HD : Hid (a.dyn (.slice x1 n1 r1) (.slice x2 n2 r2) = .iface 63 (.agg #[.int .i64 a.src, .int .i64 a.til, .slice x1 n1 r1])) := Lib.hid (by unfold Ask.dyn; rw [if_pos k1])
    have e1 : (a.kd == 1) = true := by simp [k1]
    clear k1
    go_wp2_with fail
    go_ret
    exact ⟨by rw [HD.out]; rfl, HB1.out⟩
  by_cases k2 : a.kd = 2
  · have HD : Hid (a.dyn (.slice x1 n1 r1) (.slice x2 n2 r2) = .iface 76 (.agg #[.int .i64 a.src, .int .i64 a.til, .slice x2 n2 r2])) := Lib.hid (by unfold Ask.dyn; rw [if_neg k1, if_pos k2])
    have e1 : (a.kd == 1) = false := by simp [k1]
    have e2 : (a.kd == 2) = true := by simp [k2]
    clear k1 k2
    go_wp2_with fail
    go_ret
    exact ⟨by rw [HD.out]; rfl, HB1.out⟩
  have e1 : (a.kd == 1) = false := by simp [k1]
  have e2 : (a.kd == 2) = false := by simp [k2]
  by_cases k3 : a.kd = 3
  · have HD : Hid (a.dyn (.slice x1 n1 r1) (.slice x2 n2 r2) = .iface 78 (.agg #[.int .i64 a.src, .int .i64 a.til])) := Lib.hid (by unfold Ask.dyn; rw [if_neg k1, if_neg k2, if_pos k3])
    have e3 : (a.kd == 3) = true := by simp [k3]
    clear k1 k2 k3
    go_wp2_with fail
    go_ret
    exact ⟨by rw [HD.out]; rfl, HB1.out⟩
  · have HD : Hid (a.dyn (.slice x1 n1 r1) (.slice x2 n2 r2) = .nilIface) := Lib.hid (by unfold Ask.dyn; rw [if_neg k1, if_neg k2, if_neg k3])
    have e3 : (a.kd == 3) = false := by simp [k3]
    clear k1 k2 k3
    go_wp2_with fail
    go_ret
    exact ⟨by rw [HD.out]; rfl, HB1.out⟩
theorem Bl.frozen {W : World} {B : Nat} {t : TypeId} {arr : Array Value} (h : Bl W B t arr) (i : Nat) : W.frozen? ⟨B, i, none⟩ = false := by simp [World.frozen?, show W.heap[B]? = _ from h]
end Go.Proofs.YtoobjjpheegmdaaGreat.E4
