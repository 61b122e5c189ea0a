/-
  A SLICE OF BYTES OF THE CALL'S OWN ('Bs'), told by its cells; what append and the conversions between it and a string make of it.
-/
import Derived.Test.YtacekhjmfjcppaaRows
import Derived.Test.YtacekhjmfjcppaaMath
import Derived.WalkKit
import Derived.WalkSpells
import Derived.WalkLawsBesides
import Derived.Deep.Upon
import Derived.Lib.ConvBytes
import Derived.Lib.Hide
namespace Go.Proofs.Ytacekhjmfjcppaa
open Go.RowKit Go

theorem info5 : (Try.prog.info? 5).map (fun i => (i.zero, i.size, i.bytes)) = some (some (.int .u8 0), 1, 1) := by kernel_rfl

/-- Bytes, as cells. -/
def cellsOf (l : List UInt8) : List Value := l.map fun b => Value.int .u8 b.toNat

theorem cellsOf_length (l : List UInt8) : (cellsOf l).length = l.length := by simp [cellsOf]

/-- v is the nil slice, and l is empty; or v holds the bytes l, in a block of G, of which no cell is frozen. -/
def Bs (G : Nat → Prop) (w : World) (v : Value) (l : List UInt8) : Prop :=
  (v = .slice none 0 0 ∧ l = []) ∨
  ∃ g cap, v = .slice (some ⟨g, 0, none⟩) l.length cap ∧ G g ∧ g < w.heap.size ∧ l.length ≤ cap ∧ cap ≤ maxLen ∧
    (∀ j, j < l.length → w.cell? ⟨g, j, none⟩ = (cellsOf l)[j]?) ∧
    (∀ j, j < cap → (w.cell? ⟨g, j, none⟩).isSome = true ∧ w.frozen? ⟨g, j, none⟩ = false)

/-- The blocks from B on. -/
def From (B : Nat) : Nat → Prop := fun k => B ≤ k

/-- Of the old blocks only those of G have turned. -/
structure Keep (G : Nat → Prop) (w w' : World) : Prop where
  os : w'.os = w.os
  tape : w'.tape = w.tape
  output : w'.output = w.output
  size : w.heap.size ≤ w'.heap.size
  block : ∀ k, k < w.heap.size → ¬ G k → w'.heap[k]? = w.heap[k]?

theorem Keep.refl (G : Nat → Prop) (w : World) : Keep G w w := ⟨rfl, rfl, rfl, Nat.le_refl _, fun _ _ _ => rfl⟩
theorem Keep.trans {G : Nat → Prop} {a b c : World} (h : Keep G a b) (k : Keep G b c) : Keep G a c :=
  ⟨k.os.trans h.os, k.tape.trans h.tape, k.output.trans h.output, Nat.le_trans h.size k.size, fun i hi hn => (k.block i (Nat.lt_of_lt_of_le hi h.size) hn).trans (h.block i hi hn)⟩
theorem Keep.alloc {G : Nat → Prop} {a w : World} (h : Keep G a w) (o : Obj) : Keep G a (w.alloc o) :=
  h.trans ⟨rfl, rfl, rfl, by simp, fun k hk _ => Below.heap_alloc _ _ _ hk⟩
/-- Nothing below B has turned. -/
theorem Keep.below {G : Nat → Prop} {B : Nat} {w w' : World} (h : Keep G w w') (hG : ∀ k, G k → B ≤ k) (hB : B ≤ w.heap.size) : Below B w w' :=
  ⟨h.os, h.tape, h.output, h.size, fun k hk => h.block k (by omega) (fun hg => by have := hG k hg; omega)⟩
theorem Below.keep {G : Nat → Prop} {B : Nat} {w w' : World} (h : Below B w w') (hG : ∀ k, B ≤ k → G k) : Keep G w w' :=
  ⟨h.os, h.tape, h.output, h.size, fun k _ hn => h.block k (Nat.lt_of_not_le fun hk => hn (hG k hk))⟩
theorem Keep.from {B : Nat} {w w' : World} (h : Keep (From B) w w') (hB : B ≤ w.heap.size) : Below B w w' := h.below (fun _ h => h) hB

theorem Bs.nil (G : Nat → Prop) (w : World) : Bs G w (.slice none 0 0) [] := .inl ⟨rfl, rfl⟩

/-- Only the blocks of G matter. -/
theorem Bs.carry {G : Nat → Prop} {w w' : World} {v : Value} {l : List UInt8} (h : Bs G w v l) (hs : w.heap.size ≤ w'.heap.size) (hb : ∀ k, G k → k < w.heap.size → w'.heap[k]? = w.heap[k]?) : Bs G w' v l := by
  rcases h with h | ⟨g, cap, hv, hB, hg, hl, hm, hc, hf⟩
  · exact .inl h
  · refine .inr ⟨g, cap, hv, hB, Nat.lt_of_lt_of_le hg hs, hl, hm, fun j hj => ?_, fun j hj => ?_⟩
    · rw [World.cell?_of_block (a := ⟨g, j, none⟩) (hb g hB hg)]; exact hc j hj
    · rw [World.cell?_of_block (a := ⟨g, j, none⟩) (hb g hB hg), World.frozen?_of_block (a := ⟨g, j, none⟩) (hb g hB hg)]; exact hf j hj

theorem Bs.alloc {G : Nat → Prop} {w : World} {v : Value} {l : List UInt8} (h : Bs G w v l) (o : Obj) : Bs G (w.alloc o) v l :=
  h.carry (by simp) (fun k _ hk => Below.heap_alloc w o k hk)

theorem Bs.mono {G G' : Nat → Prop} {w : World} {v : Value} {l : List UInt8} (h : Bs G w v l) (hG : ∀ k, G k → G' k) : Bs G' w v l := by
  rcases h with h | ⟨g, cap, hv, h1, hr⟩
  · exact .inl h
  · exact .inr ⟨g, cap, hv, hG g h1, hr⟩

/-- What turns no block of G leaves the slice. -/
theorem Bs.keep {G H : Nat → Prop} {w w' : World} {v : Value} {l : List UInt8} (h : Bs G w v l) (hk : Keep H w w') (hd : ∀ k, G k → k < w.heap.size → ¬ H k) : Bs G w' v l :=
  h.carry hk.size (fun k hg hs => hk.block k hs (hd k hg hs))

/-- What lies below another block is as it was: a slice that lies there, too. -/
theorem Bs.below {G : Nat → Prop} {C : Nat} {w w' : World} {v : Value} {l : List UInt8} (h : Bs G w v l) (hC : w.heap.size ≤ C) (hb : Below C w w') : Bs G w' v l :=
  h.carry hb.size (fun k _ hk => hb.block k (Nat.lt_of_lt_of_le hk hC))

/-- The slice lies in block k. -/
def At (v : Value) (k : Nat) : Prop := ∃ n c, v = .slice (some ⟨k, 0, none⟩) n c

/-- A slice's own block alone matters. -/
theorem Bs.own {G : Nat → Prop} {w : World} {v : Value} {l : List UInt8} (h : Bs G w v l) : Bs (At v) w v l := by
  rcases h with h | ⟨g, cap, hv, h1, hr⟩
  · exact .inl h
  · exact .inr ⟨g, cap, hv, ⟨_, _, hv⟩, hr⟩

theorem Bs.at {G : Nat → Prop} {w : World} {v : Value} {l : List UInt8} (h : Bs G w v l) {k : Nat} (hk : At v k) : G k ∧ k < w.heap.size := by
  obtain ⟨n, c, e⟩ := hk
  rcases h with ⟨h, _⟩ | ⟨g, cap, hv, h1, h2, _⟩
  · rw [h] at e; cases e
  · rw [hv] at e
    obtain rfl : g = k := by
      have : (some (⟨g, 0, none⟩ : Addr)) = some ⟨k, 0, none⟩ := by injection e
      simpa using this
    exact ⟨h1, h2⟩

theorem Bs.shape {G : Nat → Prop} {w : World} {v : Value} {l : List UInt8} (h : Bs G w v l) : ∃ a c, v = .slice a l.length c := by
  rcases h with ⟨rfl, rfl⟩ | ⟨g, cap, hv, _⟩
  · exact ⟨none, 0, rfl⟩
  · exact ⟨_, _, hv⟩

theorem heap_size_setCells (b : Nat) : ∀ (vs : List Value) (o : Nat) (w : World), (w.setCells b o vs).heap.size = w.heap.size
  | [], _, _ => rfl
  | v :: r, o, w => by rw [World.setCells, heap_size_setCells b r]; simp

theorem tape_setCells (b : Nat) : ∀ (vs : List Value) (o : Nat) (w : World), (w.setCells b o vs).tape = w.tape
  | [], _, _ => rfl
  | v :: r, o, w => by rw [World.setCells, tape_setCells b r]; rfl

theorem keep_setCells (G : Nat → Prop) (b : Nat) (vs : List Value) (o : Nat) (w : World) (h : G b) : Keep G w (w.setCells b o vs) :=
  ⟨World.os_setCells w b o vs, tape_setCells b vs o w, World.output_setCells w b o vs, Nat.le_of_eq (heap_size_setCells b vs o w).symm, fun _ hk hn =>
    World.heap_setCells_other w b o vs hk (fun e => hn (e ▸ h))⟩

/-- append, of whatever source. -/
theorem run_append_bs {G : Nat → Prop} {w : World} {v : Value} {l : List UInt8} (h : Bs G w v l) (hG : ∀ k, w.heap.size ≤ k → G k) (tx ty : TypeId) (x : Value) (m : List UInt8) (hs : Src Try.prog 1 tx x m.length (cellsOf m) w)
    (hl : l.length + m.length ≤ 140737488355328) :
    ∃ v' w', (Builtin.append_ #[27, tx] ty #[v, x]).run Try.prog w = .ok v' w' ∧ Bs G w' v' (l ++ m) ∧ Keep G w w' := by
  obtain ⟨i, hi, hz, hsz, hby⟩ := info_parts info5
  have ht := Try.underlying27
  have hml : l.length + m.length ≤ maxLen := by unfold maxLen; omega
  have hcm : (cellsOf (l ++ m)).length = l.length + m.length := by rw [cellsOf_length, List.length_append]
  have hca : cellsOf (l ++ m) = cellsOf l ++ cellsOf m := by simp [cellsOf]
  rw [← hsz] at hs
  -- a new row
  have grow : ∀ (base : Option Addr) (sc : Nat), v = .slice base l.length sc → sc < l.length + m.length →
      (Builtin.firstCells i.size l.length (.slice base l.length sc)).run Try.prog w.drew = .ok (cellsOf l).toArray w.drew →
      ∃ v' w', (Builtin.append_ #[27, tx] ty #[v, x]).run Try.prog w = .ok v' w' ∧ Bs G w' v' (l ++ m) ∧ Keep G w w' := by
    rintro base sc rfl hg hold
    have hrun := run_append_grow_src (P := Try.prog) w 27 tx ty 5 i _ ht hi hz base l.length sc (cellsOf l) hold x m.length (cellsOf m) hs hg (by omega) (growslice_fits hg (by rw [hby]; omega))
    have hge := grownCap_ge w (l.length + m.length) sc 5
    have hcl := grownCap_le_maxLen w (l.length + m.length) sc 5 hml
    refine ⟨_, _, hrun, .inr ⟨w.heap.size, _, by rw [List.length_append], hG _ (Nat.le_refl _), by simp, by rw [List.length_append]; exact hge, hcl, fun j hj => ?_, fun j hj => ⟨?_, ?_⟩⟩,
      ⟨rfl, rfl, rfl, by simp, fun k hk _ => Below.heap_alloc w.drew _ k (by simpa using hk)⟩⟩
    · have e1 : (w.drew.alloc (.cells ((cellsOf l ++ cellsOf m).toArray ++ Builtin.zeroCells (Value.cells (.int .u8 0)) (grownCap w (l.length + m.length) sc 5 - (l.length + m.length))) 5)).cell? ⟨w.heap.size, j, none⟩ = _ := World.cell?_alloc_new w.drew _ _ j
      rw [e1, Array.getElem?_append_left (by simp only [List.size_toArray, List.length_append, cellsOf_length]; simpa using hj), List.getElem?_toArray, hca]
    · have e1 : (w.drew.alloc (.cells ((cellsOf l ++ cellsOf m).toArray ++ Builtin.zeroCells (Value.cells (.int .u8 0)) (grownCap w (l.length + m.length) sc 5 - (l.length + m.length))) 5)).cell? ⟨w.heap.size, j, none⟩ = _ := World.cell?_alloc_new w.drew _ _ j
      rw [e1]
      have hsz : ((cellsOf l ++ cellsOf m).toArray ++ Builtin.zeroCells (Value.cells (.int .u8 0)) (grownCap w (l.length + m.length) sc 5 - (l.length + m.length))).size = grownCap w (l.length + m.length) sc 5 := by
        simp only [Array.size_append, List.size_toArray, List.length_append, cellsOf_length, size_zeroCells, Value.cells, List.size_toArray, List.length_singleton]
        simp
        omega
      rw [Array.getElem?_eq_getElem (by rw [hsz]; exact hj)]
      rfl
    · exact World.frozen?_alloc_new w.drew _ _ j
  rcases h with ⟨rfl, rfl⟩ | ⟨g, cap, rfl, hBg, hg, hlc, hm, hc, hf⟩
  · by_cases hm0 : m = []
    · subst hm0
      refine ⟨_, _, run_append_nothing (P := Try.prog) w 27 tx ty 5 i ht hi none 0 0 (Nat.le_refl _) x (by simpa [cellsOf] using hs), Bs.nil G w, Keep.refl _ _⟩
    · have hp : 0 < m.length := List.length_pos_iff.2 hm0
      exact grow none 0 rfl (by simpa using hp) (run_firstCells_none w.drew i.size 0 0 0)
  · by_cases hfit : l.length + m.length ≤ cap
    · have hj1 : ∀ j, j < (cellsOf m).length → 0 + l.length * i.size + j < cap := fun j hj => by rw [cellsOf_length] at hj; rw [hsz]; omega
      have hrun := run_append_room_src (P := Try.prog) w 27 tx ty 5 i ht hi g 0 l.length cap x m.length (cellsOf m) hs hfit (fun j hj => (hf _ (hj1 j hj)).1) (fun j hj => (hf _ (hj1 j hj)).2)
      have eoff : 0 + l.length * i.size = l.length := by rw [hsz]; omega
      rw [eoff] at hrun
      refine ⟨_, _, hrun, .inr ⟨g, cap, by rw [List.length_append], hBg, by rw [heap_size_setCells]; exact hg, by rw [List.length_append]; exact hfit, hm, fun j hj => ?_, fun j hj => ⟨?_, ?_⟩⟩, keep_setCells _ _ _ _ _ hBg⟩
      · rw [List.length_append] at hj
        rw [hca]
        by_cases hjl : j < l.length
        · rw [World.cell?_setCells_out g _ _ _ _ (fun _ _ => .inl hjl), hc j hjl, List.getElem?_append_left (by rw [cellsOf_length]; exact hjl)]
        · have ht' : j - l.length < (cellsOf m).length := by rw [cellsOf_length]; omega
          have hin := World.cell?_setCells_in g (cellsOf m) l.length w (fun j hj => (hf _ (by rw [cellsOf_length] at hj; omega)).1) (j - l.length) ht'
          rw [show l.length + (j - l.length) = j by omega] at hin
          rw [hin, List.getElem?_append_right (by rw [cellsOf_length]; omega), cellsOf_length, List.getElem?_eq_getElem ht']
      · by_cases hin : l.length ≤ j ∧ j < l.length + m.length
        · have ht' : j - l.length < (cellsOf m).length := by rw [cellsOf_length]; omega
          have hin := World.cell?_setCells_in g (cellsOf m) l.length w (fun j hj => (hf _ (by rw [cellsOf_length] at hj; omega)).1) (j - l.length) ht'
          rw [show l.length + (j - l.length) = j by omega] at hin
          rw [hin]; rfl
        · rw [World.cell?_setCells_out g _ _ _ _ (fun _ _ => by rw [cellsOf_length]; show j < l.length ∨ l.length + m.length ≤ j; omega)]
          exact (hf j hj).1
      · rw [World.frozen?_setCells]
        exact (hf j hj).2
    · exact grow _ cap rfl (by omega) (run_firstCells_some w.drew i.size l.length ⟨g, 0, none⟩ l.length cap (cellsOf l) (by rw [cellsOf_length, hsz]; omega) (fun j u hu => by
        have hj : j < l.length := by
          have := (List.getElem?_eq_some_iff.1 hu).1
          rwa [cellsOf_length] at this
        have e : (⟨g, 0, none⟩ : Addr).add j = ⟨g, j, none⟩ := by unfold Addr.add; split <;> simp_all
        rw [e]
        show w.drew.cell? ⟨g, j, none⟩ = some u
        rw [World.cell?_drew, hc j hj, hu]))

/-- append at the walk. -/
theorem wpList_append_bs (w : World) {ops : Array Oper} {rest : List Oper} {o : Oper} {a : Act} {Q : Exit → Act → World → Prop} (hgd : o.guard = none) (s x : Operand) (tx : TypeId)
    (ho : o.op = .call { callee := .builtin .append, args := #[s, x], argTypes := #[27, tx] })
    {G : Nat → Prop} {v : Value} {l : List UInt8} (hv : a.eval s = v) (h : Bs G w v l) (hG : ∀ k, w.heap.size ≤ k → G k)
    (xv : Value) (m : List UInt8) (hx : a.eval x = xv) (hs : Src Try.prog 1 tx xv m.length (cellsOf m) w) (hl : l.length + m.length ≤ 140737488355328)
    (hK : ∀ v' w', Bs G w' v' (l ++ m) → Keep G w w' → wpList Try.prog ops Q rest (a.put o.dst v') w') : wpList Try.prog ops Q (o :: rest) a w := by
  refine wpList_plain hgd fun K hK' => ?_
  obtain ⟨v', w', hrun, h1, h2⟩ := run_append_bs h hG tx o.type xv m hs hl
  unfold Oper.wp
  simp [execOp, ho, resolve, invoke, builtin, hv, hx, hrun, Result.andThen]
  exact hK' _ _ (hK v' w' h1 h2)

/-- The source of 'append(b, x)': a new block of one cell. -/
theorem src_one (w : World) (c : UInt8) (n : Int) (hn : n = (c.toNat : Int)) : Src Try.prog 1 27 (.slice (some ⟨w.heap.size, 0, none⟩) 1 1) [c].length (cellsOf [c]) (w.alloc (.cells #[.int .u8 n] 5)) := by
  subst hn
  refine Src.ofSlice _ Try.underlying27 ⟨w.heap.size, 0, none⟩ 1 1 (cellsOf [c]) (by simp [cellsOf]) (fun j u hu => ?_) (fun u hu => ?_)
  · match j, hu with
    | 0, hu => simp [cellsOf] at hu; subst hu; simp [Addr.add]
  · simp [cellsOf] at hu; subst hu; rfl

/-- The source of 'append(b, s...)'. -/
theorem src_string (w : World) (s : ByteArray) : Src Try.prog 1 9 (.string s) s.data.toList.length (cellsOf s.data.toList) w := by
  have h := Src.ofString (P := Try.prog) w (tx := 9) Try.underlying9 s
  have e : s.data.toList.length = s.size := Array.length_toList
  rw [e]
  exact h

theorem foldl_bytes (ns : List UInt8) : (ns.map fun b => (b.toNat : Int)).foldl (fun (r : ByteArray) n => r.push (UInt8.ofNat n.toNat)) ByteArray.empty = ⟨ns.toArray⟩ := by
  rw [foldl_push_bytes]
  simp [Function.comp_def]

/-- string(b). -/
theorem bs_string {G : Nat → Prop} {w : World} {v : Value} {l : List UInt8} (h : Bs G w v l) : (convert 27 9 v).run Try.prog w = .ok (.string ⟨l.toArray⟩) w := by
  rcases h with ⟨rfl, rfl⟩ | ⟨g, cap, rfl, hBg, hg, hlc, hm, hc, hf⟩
  · rw [run_convert_bytes_string (P := Try.prog) w 27 9 5 none 0 0 Try.underlying27 Try.underlying5 Try.underlying9]
    rfl
  · rw [run_convert_bytes_string (P := Try.prog) w 27 9 5 _ _ _ Try.underlying27 Try.underlying5 Try.underlying9, run_bytesToString (P := Try.prog) w ⟨g, 0, none⟩ l.length cap (l.map fun b => (b.toNat : Int)), foldl_bytes]
    have e : ((l.map fun b => (b.toNat : Int)).map (Value.int .u8)) = cellsOf l := by simp [cellsOf]
    rw [e]
    have := run_firstCells_some (P := Try.prog) w 1 l.length ⟨g, 0, none⟩ l.length cap (cellsOf l) (by rw [cellsOf_length]; omega) (fun j u hu => by
      have hj : j < l.length := by
        have := (List.getElem?_eq_some_iff.1 hu).1
        rwa [cellsOf_length] at this
      have e : (⟨g, 0, none⟩ : Addr).add j = ⟨g, j, none⟩ := by unfold Addr.add; split <;> simp_all
      rw [e, hc j hj, hu])
    simpa [Builtin.firstCells] using this

/-- []byte(s). -/
theorem bytes_bs (w : World) (s : ByteArray) (hs : s.size ≤ 140737488355328) :
    ∃ v w', (convert 9 27 (.string s)).run Try.prog w = .ok v w' ∧ Bs (fun k => k = w.heap.size) w' v s.data.toList ∧ Below w.heap.size w w' := by
  have hrun := Lib.run_convert_string_bytes (P := Try.prog) w 9 27 5 s Try.underlying9 Try.underlying27 Try.underlying5
  have hge := grownCap_ge w s.size 0 5
  have hcl := grownCap_le_maxLen w s.size 0 5 (by unfold maxLen; omega)
  have e : s.data.toList.length = s.size := Array.length_toList
  have hcs : (Lib.bytesCells w 5 s).size = grownCap w s.size 0 5 := by
    have : s.data.size = s.size := rfl
    simp only [Lib.bytesCells, Array.size_append, Array.size_map, Array.size_replicate]
    omega
  have hat := Lib.bytesWorld_at_new w 5 s
  refine ⟨_, _, hrun, .inr ⟨w.heap.size, _, by rw [e], rfl, by rw [Lib.bytesWorld_size]; omega, by rw [e]; exact hge, hcl, fun j hj => ?_, fun j hj => ⟨?_, ?_⟩⟩, ⟨rfl, rfl, rfl, by rw [Lib.bytesWorld_size]; omega, fun k hk => Lib.bytesWorld_at_old w 5 s k hk⟩⟩
  · rw [Lib.bytesWorld_cell w 5 s j (by rw [← e]; exact hj)]
    simp only [cellsOf, List.getElem?_map, List.getElem?_eq_getElem hj, Option.map_some, List.getD, Option.getD_some]
  · simp only [World.cell?, hat]
    rw [if_neg (by simp), Array.getElem?_eq_getElem (by rw [hcs]; exact hj)]
    rfl
  · simp only [World.frozen?, hat, hcs]
    simp
    omega

end Go.Proofs.Ytacekhjmfjcppaa
