/-
  A SLICE OF BYTES OF THE CALL'S OWN ('Bs'), told by its cells; what append and the conversions between it and a string make of it.
-/
import Derived.Test.YtgcldnojmdabpaaRows
import Derived.Test.YtgcldnojmdabpaaMath
import Derived.WalkKit
import Derived.WalkSpells
import Derived.WalkLawsBesides
import Derived.Deep.Upon
import Derived.Lib.ConvBytes
import Derived.Lib.Hide
namespace Go.Proofs.Ytgcldnojmdabpaa
open Go.RowKit Go

theorem info5 : (Try.prog.info? 5).map (fun i => (i.zero, i.size, i.bytes)) = some (some (.int .u8 0), 1, 1) := by kernel_rfl

/-- Bytes, as cells. -/
def cellsOf (l : List UInt8) : List Value := l.map fun b => Value.int .u8 b.toNat

theorem cellsOf_length (l : List UInt8) : (cellsOf l).length = l.length := by simp [cellsOf]

/-- v is the nil slice, and l is empty; or v holds the bytes l, in a block from B on, of which no cell is frozen. -/
def Bs (B : Nat) (w : World) (v : Value) (l : List UInt8) : Prop :=
  (v = .slice none 0 0 ∧ l = []) ∨
  ∃ g cap, v = .slice (some ⟨g, 0, none⟩) l.length cap ∧ B ≤ g ∧ g < w.heap.size ∧ l.length ≤ cap ∧ cap ≤ maxLen ∧
    (∀ j, j < l.length → w.cell? ⟨g, j, none⟩ = (cellsOf l)[j]?) ∧
    (∀ j, j < cap → (w.cell? ⟨g, j, none⟩).isSome = true ∧ w.frozen? ⟨g, j, none⟩ = false)

theorem Bs.nil (B : Nat) (w : World) : Bs B w (.slice none 0 0) [] := .inl ⟨rfl, rfl⟩

/-- Only the blocks from B on matter. -/
theorem Bs.carry {B : Nat} {w w' : World} {v : Value} {l : List UInt8} (h : Bs B w v l) (hs : w.heap.size ≤ w'.heap.size) (hb : ∀ k, B ≤ k → k < w.heap.size → w'.heap[k]? = w.heap[k]?) : Bs B w' v l := by
  rcases h with h | ⟨g, cap, hv, hB, hg, hl, hm, hc, hf⟩
  · exact .inl h
  · refine .inr ⟨g, cap, hv, hB, Nat.lt_of_lt_of_le hg hs, hl, hm, fun j hj => ?_, fun j hj => ?_⟩
    · rw [World.cell?_of_block (a := ⟨g, j, none⟩) (hb g hB hg)]; exact hc j hj
    · rw [World.cell?_of_block (a := ⟨g, j, none⟩) (hb g hB hg), World.frozen?_of_block (a := ⟨g, j, none⟩) (hb g hB hg)]; exact hf j hj

theorem Bs.alloc {B : Nat} {w : World} {v : Value} {l : List UInt8} (h : Bs B w v l) (o : Obj) : Bs B (w.alloc o) v l :=
  h.carry (by simp) (fun k _ hk => Below.heap_alloc w o k hk)

theorem Bs.mono {B B' : Nat} {w : World} {v : Value} {l : List UInt8} (h : Bs B w v l) (hB : B' ≤ B) : Bs B' w v l := by
  rcases h with h | ⟨g, cap, hv, h1, hr⟩
  · exact .inl h
  · exact .inr ⟨g, cap, hv, Nat.le_trans hB h1, hr⟩

/-- What lies below another block is as it was: a slice that lies there, too. -/
theorem Bs.below {B C : Nat} {w w' : World} {v : Value} {l : List UInt8} (h : Bs B w v l) (hC : w.heap.size ≤ C) (hb : Below C w w') : Bs B w' v l :=
  h.carry hb.size (fun k _ hk => hb.block k (Nat.lt_of_lt_of_le hk hC))

theorem Bs.shape {B : Nat} {w : World} {v : Value} {l : List UInt8} (h : Bs B w v l) : ∃ a c, v = .slice a l.length c := by
  rcases h with ⟨rfl, rfl⟩ | ⟨g, cap, hv, _⟩
  · exact ⟨none, 0, rfl⟩
  · exact ⟨_, _, hv⟩

theorem heap_size_setCells (b : Nat) : ∀ (vs : List Value) (o : Nat) (w : World), (w.setCells b o vs).heap.size = w.heap.size
  | [], _, _ => rfl
  | v :: r, o, w => by rw [World.setCells, heap_size_setCells b r]; simp

theorem tape_setCells (b : Nat) : ∀ (vs : List Value) (o : Nat) (w : World), (w.setCells b o vs).tape = w.tape
  | [], _, _ => rfl
  | v :: r, o, w => by rw [World.setCells, tape_setCells b r]; rfl

theorem below_setCells (B b : Nat) (vs : List Value) (o : Nat) (w : World) (h : B ≤ b) : Below B w (w.setCells b o vs) :=
  ⟨World.os_setCells w b o vs, tape_setCells b vs o w, World.output_setCells w b o vs, Nat.le_of_eq (heap_size_setCells b vs o w).symm, fun k hk => by
    by_cases hw : k < w.heap.size
    · exact World.heap_setCells_other w b o vs hw (by omega)
    · rw [Array.getElem?_eq_none (by rw [heap_size_setCells]; omega), Array.getElem?_eq_none (by omega)]⟩

/-- append, of whatever source. -/
theorem run_append_bs {B : Nat} {w : World} {v : Value} {l : List UInt8} (h : Bs B w v l) (hB : B ≤ w.heap.size) (tx ty : TypeId) (x : Value) (m : List UInt8) (hs : Src Try.prog 1 tx x m.length (cellsOf m) w)
    (hl : l.length + m.length ≤ 140737488355328) :
    ∃ v' w', (Builtin.append_ #[32, tx] ty #[v, x]).run Try.prog w = .ok v' w' ∧ Bs B w' v' (l ++ m) ∧ Below B w w' := by
  obtain ⟨i, hi, hz, hsz, hby⟩ := info_parts info5
  have ht := Try.underlying32
  have hml : l.length + m.length ≤ maxLen := by unfold maxLen; omega
  have hcm : (cellsOf (l ++ m)).length = l.length + m.length := by rw [cellsOf_length, List.length_append]
  have hca : cellsOf (l ++ m) = cellsOf l ++ cellsOf m := by simp [cellsOf]
  rw [← hsz] at hs
  -- a new row
  have grow : ∀ (base : Option Addr) (sc : Nat), v = .slice base l.length sc → sc < l.length + m.length →
      (Builtin.firstCells i.size l.length (.slice base l.length sc)).run Try.prog w.drew = .ok (cellsOf l).toArray w.drew →
      ∃ v' w', (Builtin.append_ #[32, tx] ty #[v, x]).run Try.prog w = .ok v' w' ∧ Bs B w' v' (l ++ m) ∧ Below B w w' := by
    rintro base sc rfl hg hold
    have hrun := run_append_grow_src (P := Try.prog) w 32 tx ty 5 i _ ht hi hz base l.length sc (cellsOf l) hold x m.length (cellsOf m) hs hg (by omega) (growslice_fits hg (by rw [hby]; omega))
    have hge := grownCap_ge w (l.length + m.length) sc 5
    have hcl := grownCap_le_maxLen w (l.length + m.length) sc 5 hml
    refine ⟨_, _, hrun, .inr ⟨w.heap.size, _, by rw [List.length_append], hB, by simp, by rw [List.length_append]; exact hge, hcl, fun j hj => ?_, fun j hj => ⟨?_, ?_⟩⟩,
      ⟨rfl, rfl, rfl, by simp, fun k hk => Below.heap_alloc w.drew _ k (by simp; omega)⟩⟩
    · have e1 : (w.drew.alloc (.cells ((cellsOf l ++ cellsOf m).toArray ++ Builtin.zeroCells (Value.cells (.int .u8 0)) (grownCap w (l.length + m.length) sc 5 - (l.length + m.length))) 5)).cell? ⟨w.heap.size, j, none⟩ = _ := World.cell?_alloc_new w.drew _ _ j
      rw [e1, Array.getElem?_append_left (by simp only [List.size_toArray, List.length_append, cellsOf_length]; simpa using hj), List.getElem?_toArray, hca]
    · have e1 : (w.drew.alloc (.cells ((cellsOf l ++ cellsOf m).toArray ++ Builtin.zeroCells (Value.cells (.int .u8 0)) (grownCap w (l.length + m.length) sc 5 - (l.length + m.length))) 5)).cell? ⟨w.heap.size, j, none⟩ = _ := World.cell?_alloc_new w.drew _ _ j
      rw [e1]
      have hsz : ((cellsOf l ++ cellsOf m).toArray ++ Builtin.zeroCells (Value.cells (.int .u8 0)) (grownCap w (l.length + m.length) sc 5 - (l.length + m.length))).size = grownCap w (l.length + m.length) sc 5 := by
        simp only [Array.size_append, List.size_toArray, List.length_append, cellsOf_length, size_zeroCells, Value.cells, List.size_toArray, List.length_singleton]
        simp
        omega
      rw [Array.getElem?_eq_getElem (by rw [hsz]; exact hj)]
      rfl
    · exact World.frozen?_alloc_new w.drew _ _ j
  rcases h with ⟨rfl, rfl⟩ | ⟨g, cap, rfl, hBg, hg, hlc, hm, hc, hf⟩
  · by_cases hm0 : m = []
    · subst hm0
      refine ⟨_, _, run_append_nothing (P := Try.prog) w 32 tx ty 5 i ht hi none 0 0 (Nat.le_refl _) x (by simpa [cellsOf] using hs), Bs.nil B w, Below.refl _ _⟩
    · have hp : 0 < m.length := List.length_pos_iff.2 hm0
      exact grow none 0 rfl (by simpa using hp) (run_firstCells_none w.drew i.size 0 0 0)
  · by_cases hfit : l.length + m.length ≤ cap
    · have hj1 : ∀ j, j < (cellsOf m).length → 0 + l.length * i.size + j < cap := fun j hj => by rw [cellsOf_length] at hj; rw [hsz]; omega
      have hrun := run_append_room_src (P := Try.prog) w 32 tx ty 5 i ht hi g 0 l.length cap x m.length (cellsOf m) hs hfit (fun j hj => (hf _ (hj1 j hj)).1) (fun j hj => (hf _ (hj1 j hj)).2)
      have eoff : 0 + l.length * i.size = l.length := by rw [hsz]; omega
      rw [eoff] at hrun
      refine ⟨_, _, hrun, .inr ⟨g, cap, by rw [List.length_append], hBg, by rw [heap_size_setCells]; exact hg, by rw [List.length_append]; exact hfit, hm, fun j hj => ?_, fun j hj => ⟨?_, ?_⟩⟩, below_setCells _ _ _ _ _ hBg⟩
      · rw [List.length_append] at hj
        rw [hca]
        by_cases hjl : j < l.length
        · rw [World.cell?_setCells_out g _ _ _ _ (fun _ _ => .inl hjl), hc j hjl, List.getElem?_append_left (by rw [cellsOf_length]; exact hjl)]
        · have ht' : j - l.length < (cellsOf m).length := by rw [cellsOf_length]; omega
          have hin := World.cell?_setCells_in g (cellsOf m) l.length w (fun j hj => (hf _ (by rw [cellsOf_length] at hj; omega)).1) (j - l.length) ht'
          rw [show l.length + (j - l.length) = j by omega] at hin
          rw [hin, List.getElem?_append_right (by rw [cellsOf_length]; omega), cellsOf_length, List.getElem?_eq_getElem ht']
      · by_cases hin : l.length ≤ j ∧ j < l.length + m.length
        · have ht' : j - l.length < (cellsOf m).length := by rw [cellsOf_length]; omega
          have hin := World.cell?_setCells_in g (cellsOf m) l.length w (fun j hj => (hf _ (by rw [cellsOf_length] at hj; omega)).1) (j - l.length) ht'
          rw [show l.length + (j - l.length) = j by omega] at hin
          rw [hin]; rfl
        · rw [World.cell?_setCells_out g _ _ _ _ (fun _ _ => by rw [cellsOf_length]; show j < l.length ∨ l.length + m.length ≤ j; omega)]
          exact (hf j hj).1
      · rw [World.frozen?_setCells]
        exact (hf j hj).2
    · exact grow _ cap rfl (by omega) (run_firstCells_some w.drew i.size l.length ⟨g, 0, none⟩ l.length cap (cellsOf l) (by rw [cellsOf_length, hsz]; omega) (fun j u hu => by
        have hj : j < l.length := by
          have := (List.getElem?_eq_some_iff.1 hu).1
          rwa [cellsOf_length] at this
        have e : (⟨g, 0, none⟩ : Addr).add j = ⟨g, j, none⟩ := by unfold Addr.add; split <;> simp_all
        rw [e]
        show w.drew.cell? ⟨g, j, none⟩ = some u
        rw [World.cell?_drew, hc j hj, hu]))

/-- append at the walk. -/
theorem wpList_append_bs (w : World) {ops : Array Oper} {rest : List Oper} {o : Oper} {a : Act} {Q : Exit → Act → World → Prop} (hgd : o.guard = none) (s x : Operand) (tx : TypeId)
    (ho : o.op = .call { callee := .builtin .append, args := #[s, x], argTypes := #[32, tx] })
    {B : Nat} {v : Value} {l : List UInt8} (hv : a.eval s = v) (h : Bs B w v l) (hB : B ≤ w.heap.size)
    (xv : Value) (m : List UInt8) (hx : a.eval x = xv) (hs : Src Try.prog 1 tx xv m.length (cellsOf m) w) (hl : l.length + m.length ≤ 140737488355328)
    (hK : ∀ v' w', Bs B w' v' (l ++ m) → Below B w w' → wpList Try.prog ops Q rest (a.put o.dst v') w') : wpList Try.prog ops Q (o :: rest) a w := by
  refine wpList_plain hgd fun K hK' => ?_
  obtain ⟨v', w', hrun, h1, h2⟩ := run_append_bs h hB tx o.type xv m hs hl
  unfold Oper.wp
  simp [execOp, ho, resolve, invoke, builtin, hv, hx, hrun, Result.andThen]
  exact hK' _ _ (hK v' w' h1 h2)

/-- The source of 'append(b, x)': a new block of one cell. -/
theorem src_one (w : World) (c : UInt8) (n : Int) (hn : n = (c.toNat : Int)) : Src Try.prog 1 32 (.slice (some ⟨w.heap.size, 0, none⟩) 1 1) [c].length (cellsOf [c]) (w.alloc (.cells #[.int .u8 n] 5)) := by
  subst hn
  refine Src.ofSlice _ Try.underlying32 ⟨w.heap.size, 0, none⟩ 1 1 (cellsOf [c]) (by simp [cellsOf]) (fun j u hu => ?_) (fun u hu => ?_)
  · match j, hu with
    | 0, hu => simp [cellsOf] at hu; subst hu; simp [Addr.add]
  · simp [cellsOf] at hu; subst hu; rfl

/-- The source of 'append(b, s...)'. -/
theorem src_string (w : World) (s : ByteArray) : Src Try.prog 1 9 (.string s) s.data.toList.length (cellsOf s.data.toList) w := by
  have h := Src.ofString (P := Try.prog) w (tx := 9) Try.underlying9 s
  have e : s.data.toList.length = s.size := Array.length_toList
  rw [e]
  exact h

theorem foldl_bytes (ns : List UInt8) : (ns.map fun b => (b.toNat : Int)).foldl (fun (r : ByteArray) n => r.push (UInt8.ofNat n.toNat)) ByteArray.empty = ⟨ns.toArray⟩ := by
  rw [foldl_push_bytes]
  simp [Function.comp_def]

/-- string(b). -/
theorem bs_string {B : Nat} {w : World} {v : Value} {l : List UInt8} (h : Bs B w v l) : (convert 32 9 v).run Try.prog w = .ok (.string ⟨l.toArray⟩) w := by
  rcases h with ⟨rfl, rfl⟩ | ⟨g, cap, rfl, hBg, hg, hlc, hm, hc, hf⟩
  · rw [run_convert_bytes_string (P := Try.prog) w 32 9 5 none 0 0 Try.underlying32 Try.underlying5 Try.underlying9]
    rfl
  · rw [run_convert_bytes_string (P := Try.prog) w 32 9 5 _ _ _ Try.underlying32 Try.underlying5 Try.underlying9, run_bytesToString (P := Try.prog) w ⟨g, 0, none⟩ l.length cap (l.map fun b => (b.toNat : Int)), foldl_bytes]
    have e : ((l.map fun b => (b.toNat : Int)).map (Value.int .u8)) = cellsOf l := by simp [cellsOf]
    rw [e]
    have := run_firstCells_some (P := Try.prog) w 1 l.length ⟨g, 0, none⟩ l.length cap (cellsOf l) (by rw [cellsOf_length]; omega) (fun j u hu => by
      have hj : j < l.length := by
        have := (List.getElem?_eq_some_iff.1 hu).1
        rwa [cellsOf_length] at this
      have e : (⟨g, 0, none⟩ : Addr).add j = ⟨g, j, none⟩ := by unfold Addr.add; split <;> simp_all
      rw [e, hc j hj, hu])
    simpa [Builtin.firstCells] using this

/-- []byte(s). -/
theorem bytes_bs (w : World) (s : ByteArray) (hs : s.size ≤ 140737488355328) :
    ∃ v w', (convert 9 32 (.string s)).run Try.prog w = .ok v w' ∧ Bs w.heap.size w' v s.data.toList ∧ Below w.heap.size w w' := by
  have hrun := Lib.run_convert_string_bytes (P := Try.prog) w 9 32 5 s Try.underlying9 Try.underlying32 Try.underlying5
  have hge := grownCap_ge w s.size 0 5
  have hcl := grownCap_le_maxLen w s.size 0 5 (by unfold maxLen; omega)
  have e : s.data.toList.length = s.size := Array.length_toList
  have hcs : (Lib.bytesCells w 5 s).size = grownCap w s.size 0 5 := by
    have : s.data.size = s.size := rfl
    simp only [Lib.bytesCells, Array.size_append, Array.size_map, Array.size_replicate]
    omega
  have hat := Lib.bytesWorld_at_new w 5 s
  refine ⟨_, _, hrun, .inr ⟨w.heap.size, _, by rw [e], Nat.le_refl _, by rw [Lib.bytesWorld_size]; omega, by rw [e]; exact hge, hcl, fun j hj => ?_, fun j hj => ⟨?_, ?_⟩⟩, ⟨rfl, rfl, rfl, by rw [Lib.bytesWorld_size]; omega, fun k hk => Lib.bytesWorld_at_old w 5 s k hk⟩⟩
  · rw [Lib.bytesWorld_cell w 5 s j (by rw [← e]; exact hj)]
    simp only [cellsOf, List.getElem?_map, List.getElem?_eq_getElem hj, Option.map_some, List.getD, Option.getD_some]
  · simp only [World.cell?, hat]
    rw [if_neg (by simp), Array.getElem?_eq_getElem (by rw [hcs]; exact hj)]
    rfl
  · simp only [World.frozen?, hat, hcs]
    simp
    omega

end Go.Proofs.Ytgcldnojmdabpaa
