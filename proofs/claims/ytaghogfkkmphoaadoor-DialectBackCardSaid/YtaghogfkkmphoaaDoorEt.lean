/-
  ENTRIES: as data, and as they lie; bytes; names (the texts of stage 4, joined).
-/
import Derived.Lib.Varint
import Derived.Lib.VarintBits
import Derived.Lib.VarintMem
import Derived.Lib.Zigzag
import Derived.Test.YtaghogfkkmphoaaDoorRows
import Derived.WalkKit
import Derived.WalkSpells
import Derived.WalkLawsBesides
import Derived.Deep.Upon
import Derived.Lib.ConvBytes
import Derived.Lib.Hide
import Derived.Lib.Small
import Derived.Lib.Bytes
import Derived.Sort.Grow
import Derived.WalkSmall
import Derived.Lib.DecodeN
import Derived.Lib.Strings
import Derived.Deep.QuietTactic
import Derived.BigQuiet
import Derived.Lib.OthersKept
import Derived.Lib.Walk
import Derived.Outline
namespace Go.Proofs.YtaghogfkkmphoaaDoor.E4.M
open Go

/-- The number that bytes make, seven bits a byte, the lowest first. -/
def low : List UInt8 → Nat
  | [] => 0
  | c :: r => c.toNat % 128 + 128 * low r

/-- All of them say that the number goes on. -/
def Cont (l : List UInt8) : Prop := ∀ c ∈ l, 128 ≤ c.toNat

theorem low_append (l m : List UInt8) : low (l ++ m) = low l + 128 ^ l.length * low m := by
  induction l with
  | nil => simp [low]
  | cons c r ih =>
    simp only [List.cons_append, low, List.length_cons, Nat.pow_succ, ih, Nat.mul_add]
    rw [Nat.mul_comm (128 ^ r.length) 128, Nat.mul_assoc]
    omega

theorem low_lt (l : List UInt8) : low l < 128 ^ l.length := by
  induction l with
  | nil => simp [low]
  | cons c r ih =>
    simp only [low, List.length_cons, Nat.pow_succ]
    have : c.toNat % 128 < 128 := Nat.mod_lt _ (by decide)
    omega

theorem low_one (c : UInt8) (h : c.toNat < 128) : low [c] = c.toNat := by
  simp [low, Nat.mod_eq_of_lt h]

theorem pow9 : (128 : Nat) ^ 9 = 9223372036854775808 := by decide

theorem eq_u8 {a b : UInt8} (h : a.toNat = b.toNat) : a = b := UInt8.toNat_inj.1 h

theorem put_of (l0 : List UInt8) (c : UInt8) (h0 : Cont l0) (hc : c.toNat < 128) (hz : c.toNat ≠ 0 ∨ l0 = []) : Lib.uvarint (low (l0 ++ [c])) = l0 ++ [c] := by
  induction l0 with
  | nil =>
    rw [List.nil_append, low_one c hc, Lib.uvarint_small hc]
    congr 1
    apply eq_u8
    rw [Lib.toUInt8_toNat (by omega)]
  | cons d r ih =>
    have hz' : c.toNat ≠ 0 := by simpa using hz
    have hd : 128 ≤ d.toNat := h0 d (by simp)
    have hd2 : d.toNat < 256 := d.toNat_lt
    have hr : Cont r := fun x hx => h0 x (by simp [hx])
    have ih' := ih hr (.inl hz')
    have hpos : 0 < low (r ++ [c]) := by
      rw [low_append, low_one c hc]
      have : 0 < 128 ^ r.length * c.toNat := Nat.mul_pos (Nat.pow_pos (by decide)) (by omega)
      omega
    have e : low (d :: r ++ [c]) = d.toNat % 128 + 128 * low (r ++ [c]) := rfl
    rw [e, Lib.uvarint_big (by omega)]
    have e1 : (d.toNat % 128 + 128 * low (r ++ [c])) / 128 = low (r ++ [c]) := by omega
    have e2 : (d.toNat % 128 + 128 * low (r ++ [c])) % 128 + 128 = d.toNat := by omega
    rw [e1, e2, ih', List.cons_append]
    congr 1
    apply eq_u8
    rw [Lib.toUInt8_toNat hd2]

theorem of_put : ∀ (x : Nat), ∃ l0 c, Lib.uvarint x = l0 ++ [c] ∧ Cont l0 ∧ c.toNat < 128 ∧ (c.toNat ≠ 0 ∨ l0 = []) ∧ low (l0 ++ [c]) = x ∧ (l0 = [] ∨ 128 ≤ x) := by
  intro x
  induction x using Nat.strongRecOn with
  | _ x ih =>
    by_cases hx : x < 128
    · have hn : x.toUInt8.toNat = x := Lib.toUInt8_toNat (by omega)
      exact ⟨[], x.toUInt8, Lib.uvarint_small hx, (fun _ h => by cases h), by omega, .inr rfl, by rw [List.nil_append, low_one _ (by omega), hn], .inl rfl⟩
    · obtain ⟨l0, c, e, h0, hc, hz, hl, hb⟩ := ih (x / 128) (by omega)
      have hn : (x % 128 + 128).toUInt8.toNat = x % 128 + 128 := Lib.toUInt8_toNat (by omega)
      refine ⟨(x % 128 + 128).toUInt8 :: l0, c, by rw [Lib.uvarint_big (by omega), e, List.cons_append], ?_, hc, .inl ?_, ?_, .inr (by omega)⟩
      · intro d hd
        rcases List.mem_cons.1 hd with rfl | hd
        · omega
        · exact h0 d hd
      · rcases hz with hz | rfl
        · exact hz
        · rw [List.nil_append, low_one c hc] at hl
          omega
      · have e2 : low ((x % 128 + 128).toUInt8 :: l0 ++ [c]) = (x % 128 + 128).toUInt8.toNat % 128 + 128 * low (l0 ++ [c]) := rfl
        rw [e2, hl, hn]
        omega

/-- Ten bytes at most, and the tenth at most 1: just what fits 64 bits. -/
theorem fits (l0 : List UInt8) (c : UInt8) (hc : c.toNat < 128) (h9 : l0.length ≤ 9) (h1 : l0.length = 9 → c.toNat ≤ 1) : low (l0 ++ [c]) < 18446744073709551616 := by
  rcases Nat.lt_or_ge l0.length 9 with h | h
  · have a := low_lt (l0 ++ [c])
    have b : 128 ^ (l0 ++ [c]).length ≤ 128 ^ 9 := Nat.pow_le_pow_right (by decide) (by simp; omega)
    have := pow9
    omega
  · have e : l0.length = 9 := by omega
    have a := low_lt l0
    rw [low_append, low_one c hc, e, pow9]
    rw [e, pow9] at a
    have := h1 e
    omega

theorem fits_of (l0 : List UInt8) (c : UInt8) (hc : c.toNat < 128) (hz : c.toNat ≠ 0 ∨ l0 = []) (hx : low (l0 ++ [c]) < 18446744073709551616) : l0.length ≤ 9 ∧ (l0.length = 9 → c.toNat ≤ 1) := by
  rw [low_append, low_one c hc] at hx
  have p9 := pow9
  refine ⟨?_, ?_⟩
  · rcases Nat.lt_or_ge 9 l0.length with h | h
    · exfalso
      have hc1 : 1 ≤ c.toNat := by
        rcases hz with hz | rfl
        · omega
        · simp at h
      have hp : 128 ^ 10 ≤ 128 ^ l0.length := Nat.pow_le_pow_right (by decide) h
      have p10 : (128 : Nat) ^ 10 = 1180591620717411303424 := by decide
      have : 128 ^ l0.length * 1 ≤ 128 ^ l0.length * c.toNat := Nat.mul_le_mul_left _ hc1
      omega
    · exact h
  · intro e
    rw [e, p9] at hx
    omega

/-- WHAT A NUMBER'S BYTES ARE: some that go on, and one that does not. -/
structure IsNum (l0 : List UInt8) (c : UInt8) : Prop where
  cont : Cont l0
  last : c.toNat < 128
  short : c.toNat ≠ 0 ∨ l0 = []
  nine : l0.length ≤ 9
  one : l0.length = 9 → c.toNat ≤ 1

theorem IsNum.put {l0 : List UInt8} {c : UInt8} (h : IsNum l0 c) : Lib.uvarint (low (l0 ++ [c])) = l0 ++ [c] := put_of l0 c h.cont h.last h.short
theorem IsNum.lt {l0 : List UInt8} {c : UInt8} (h : IsNum l0 c) : low (l0 ++ [c]) < 18446744073709551616 := fits l0 c h.last h.nine h.one

theorem isNum_of (x : Nat) (hx : x < 18446744073709551616) : ∃ l0 c, Lib.uvarint x = l0 ++ [c] ∧ IsNum l0 c ∧ low (l0 ++ [c]) = x := by
  obtain ⟨l0, c, e, h0, hc, hz, hl, _⟩ := of_put x
  have hf := fits_of l0 c hc hz (by rw [hl]; exact hx)
  exact ⟨l0, c, e, ⟨h0, hc, hz, hf.1, hf.2⟩, hl⟩

/-- A text begins with bytes that go on; behind them it ends, or one stands that does not. -/
theorem parts (l : List UInt8) : Cont l ∨ ∃ l0 c r, l = l0 ++ c :: r ∧ Cont l0 ∧ c.toNat < 128 := by
  induction l with
  | nil => exact .inl (fun _ h => by cases h)
  | cons d t ih =>
    by_cases hd : d.toNat < 128
    · exact .inr ⟨[], d, t, rfl, (fun _ h => by cases h), hd⟩
    · rcases ih with ih | ⟨l0, c, r, rfl, h0, hc⟩
      · refine .inl fun x hx => ?_
        rcases List.mem_cons.1 hx with rfl | hx
        · omega
        · exact ih x hx
      · refine .inr ⟨d :: l0, c, r, rfl, fun x hx => ?_, hc⟩
        rcases List.mem_cons.1 hx with rfl | hx
        · omega
        · exact h0 x hx

/-- No number stands at a text's beginning. -/
def NoNum (l : List UInt8) : Prop := ∀ l0 c r, IsNum l0 c → l ≠ l0 ++ c :: r

theorem parts_unique {l0 m0 : List UInt8} {c d : UInt8} {r t : List UInt8} (h0 : Cont l0) (hc : c.toNat < 128) (k0 : Cont m0) (kd : d.toNat < 128) (e : l0 ++ c :: r = m0 ++ d :: t) : l0 = m0 ∧ c = d ∧ r = t := by
  induction l0 generalizing m0 with
  | nil =>
    cases m0 with
    | nil => simpa using e
    | cons b m =>
      simp at e
      have := k0 b (by simp)
      rw [← e.1] at this
      omega
  | cons a l ih =>
    cases m0 with
    | nil =>
      simp at e
      have := h0 a (by simp)
      rw [e.1] at this
      omega
    | cons b m =>
      simp only [List.cons_append, List.cons.injEq] at e
      obtain ⟨rfl, e⟩ := e
      have := ih (fun x hx => h0 x (by simp [hx])) (fun x hx => k0 x (by simp [hx])) e
      exact ⟨by rw [this.1], this.2⟩

/-- Either a number stands there, just one; or none, and then we know why. -/
theorem num_or (l : List UInt8) : (∃ l0 c r, l = l0 ++ c :: r ∧ IsNum l0 c) ∨ NoNum l := by
  rcases parts l with h | ⟨l0, c, r, rfl, h0, hc⟩
  · refine .inr fun l0 c r hn e => ?_
    have := h c (by rw [e]; simp)
    have := hn.last
    omega
  · by_cases hn : IsNum l0 c
    · exact .inl ⟨l0, c, r, rfl, hn⟩
    · refine .inr fun m0 d t hm e => hn ?_
      obtain ⟨rfl, rfl, rfl⟩ := parts_unique h0 hc hm.cont hm.last e
      exact hm

end Go.Proofs.YtaghogfkkmphoaaDoor.E4.M

namespace Go.Proofs.YtaghogfkkmphoaaDoor.E4
open Go.RowKit Go

theorem info5 : (Tryd.prog.info? 5).map (fun i => (i.zero, i.size, i.bytes)) = some (some (.int .u8 0), 1, 1) := by kernel_rfl

/-- Bytes, as cells. -/
def cellsOf (l : List UInt8) : List Value := l.map fun b => Value.int .u8 b.toNat

theorem cellsOf_length (l : List UInt8) : (cellsOf l).length = l.length := by simp [cellsOf]

/-- v is the nil slice, and l is empty; or v holds the bytes l, in a block from B on, of which no cell is frozen. -/
def Bs (B : Nat) (w : World) (v : Value) (l : List UInt8) : Prop :=
  (v = .slice none 0 0 ∧ l = []) ∨
  ∃ g cap, v = .slice (some ⟨g, 0, none⟩) l.length cap ∧ B ≤ g ∧ g < w.heap.size ∧ l.length ≤ cap ∧ cap ≤ maxLen ∧
    (∀ j, j < l.length → w.cell? ⟨g, j, none⟩ = (cellsOf l)[j]?) ∧
    (∀ j, j < cap → (w.cell? ⟨g, j, none⟩).isSome = true ∧ w.frozen? ⟨g, j, none⟩ = false)

theorem Bs.nil (B : Nat) (w : World) : Bs B w (.slice none 0 0) [] := .inl ⟨rfl, rfl⟩

/-- Only the blocks from B on matter. -/
theorem Bs.carry {B : Nat} {w w' : World} {v : Value} {l : List UInt8} (h : Bs B w v l) (hs : w.heap.size ≤ w'.heap.size) (hb : ∀ k, B ≤ k → k < w.heap.size → w'.heap[k]? = w.heap[k]?) : Bs B w' v l := by
  rcases h with h | ⟨g, cap, hv, hB, hg, hl, hm, hc, hf⟩
  · exact .inl h
  · refine .inr ⟨g, cap, hv, hB, Nat.lt_of_lt_of_le hg hs, hl, hm, fun j hj => ?_, fun j hj => ?_⟩
    · rw [World.cell?_of_block (a := ⟨g, j, none⟩) (hb g hB hg)]; exact hc j hj
    · rw [World.cell?_of_block (a := ⟨g, j, none⟩) (hb g hB hg), World.frozen?_of_block (a := ⟨g, j, none⟩) (hb g hB hg)]; exact hf j hj

theorem Bs.alloc {B : Nat} {w : World} {v : Value} {l : List UInt8} (h : Bs B w v l) (o : Obj) : Bs B (w.alloc o) v l :=
  h.carry (by simp) (fun k _ hk => Below.heap_alloc w o k hk)

theorem Bs.mono {B B' : Nat} {w : World} {v : Value} {l : List UInt8} (h : Bs B w v l) (hB : B' ≤ B) : Bs B' w v l := by
  rcases h with h | ⟨g, cap, hv, h1, hr⟩
  · exact .inl h
  · exact .inr ⟨g, cap, hv, Nat.le_trans hB h1, hr⟩

/-- What lies below another block is as it was: a slice that lies there, too. -/
theorem Bs.below {B C : Nat} {w w' : World} {v : Value} {l : List UInt8} (h : Bs B w v l) (hC : w.heap.size ≤ C) (hb : Below C w w') : Bs B w' v l :=
  h.carry hb.size (fun k _ hk => hb.block k (Nat.lt_of_lt_of_le hk hC))

theorem Bs.shape {B : Nat} {w : World} {v : Value} {l : List UInt8} (h : Bs B w v l) : ∃ a c, v = .slice a l.length c := by
  rcases h with ⟨rfl, rfl⟩ | ⟨g, cap, hv, _⟩
  · exact ⟨none, 0, rfl⟩
  · exact ⟨_, _, hv⟩

theorem heap_size_setCells (b : Nat) : ∀ (vs : List Value) (o : Nat) (w : World), (w.setCells b o vs).heap.size = w.heap.size
  | [], _, _ => rfl
  | v :: r, o, w => by rw [World.setCells, heap_size_setCells b r]; simp

theorem tape_setCells (b : Nat) : ∀ (vs : List Value) (o : Nat) (w : World), (w.setCells b o vs).tape = w.tape
  | [], _, _ => rfl
  | v :: r, o, w => by rw [World.setCells, tape_setCells b r]; rfl

theorem below_setCells (B b : Nat) (vs : List Value) (o : Nat) (w : World) (h : B ≤ b) : Below B w (w.setCells b o vs) :=
  ⟨World.os_setCells w b o vs, tape_setCells b vs o w, World.output_setCells w b o vs, Nat.le_of_eq (heap_size_setCells b vs o w).symm, fun k hk => by
    by_cases hw : k < w.heap.size
    · exact World.heap_setCells_other w b o vs hw (by omega)
    · rw [Array.getElem?_eq_none (by rw [heap_size_setCells]; omega), Array.getElem?_eq_none (by omega)]⟩

/-- append, of whatever source. -/
theorem run_append_bs {B : Nat} {w : World} {v : Value} {l : List UInt8} (h : Bs B w v l) (hB : B ≤ w.heap.size) (tx ty : TypeId) (x : Value) (m : List UInt8) (hs : Src Tryd.prog 1 tx x m.length (cellsOf m) w)
    (hl : l.length + m.length ≤ 140737488355328) :
    ∃ v' w', (Builtin.append_ #[37, tx] ty #[v, x]).run Tryd.prog w = .ok v' w' ∧ Bs B w' v' (l ++ m) ∧ Below B w w' := by
  obtain ⟨i, hi, hz, hsz, hby⟩ := info_parts info5
  have ht := Tryd.underlying37
  have hml : l.length + m.length ≤ maxLen := by unfold maxLen; omega
  have hcm : (cellsOf (l ++ m)).length = l.length + m.length := by rw [cellsOf_length, List.length_append]
  have hca : cellsOf (l ++ m) = cellsOf l ++ cellsOf m := by simp [cellsOf]
  rw [← hsz] at hs
  -- a new row
  have grow : ∀ (base : Option Addr) (sc : Nat), v = .slice base l.length sc → sc < l.length + m.length →
      (Builtin.firstCells i.size l.length (.slice base l.length sc)).run Tryd.prog w.drew = .ok (cellsOf l).toArray w.drew →
      ∃ v' w', (Builtin.append_ #[37, tx] ty #[v, x]).run Tryd.prog w = .ok v' w' ∧ Bs B w' v' (l ++ m) ∧ Below B w w' := by
    rintro base sc rfl hg hold
    have hrun := run_append_grow_src (P := Tryd.prog) w 37 tx ty 5 i _ ht hi hz base l.length sc (cellsOf l) hold x m.length (cellsOf m) hs hg (by omega) (growslice_fits hg (by rw [hby]; omega))
    have hge := grownCap_ge w (l.length + m.length) sc 5
    have hcl := grownCap_le_maxLen w (l.length + m.length) sc 5 hml
    refine ⟨_, _, hrun, .inr ⟨w.heap.size, _, by rw [List.length_append], hB, by simp, by rw [List.length_append]; exact hge, hcl, fun j hj => ?_, fun j hj => ⟨?_, ?_⟩⟩,
      ⟨rfl, rfl, rfl, by simp, fun k hk => Below.heap_alloc w.drew _ k (by simp; omega)⟩⟩
    · have e1 : (w.drew.alloc (.cells ((cellsOf l ++ cellsOf m).toArray ++ Builtin.zeroCells (Value.cells (.int .u8 0)) (grownCap w (l.length + m.length) sc 5 - (l.length + m.length))) 5)).cell? ⟨w.heap.size, j, none⟩ = _ := World.cell?_alloc_new w.drew _ _ j
      rw [e1, Array.getElem?_append_left (by simp only [List.size_toArray, List.length_append, cellsOf_length]; simpa using hj), List.getElem?_toArray, hca]
    · have e1 : (w.drew.alloc (.cells ((cellsOf l ++ cellsOf m).toArray ++ Builtin.zeroCells (Value.cells (.int .u8 0)) (grownCap w (l.length + m.length) sc 5 - (l.length + m.length))) 5)).cell? ⟨w.heap.size, j, none⟩ = _ := World.cell?_alloc_new w.drew _ _ j
      rw [e1]
      have hsz : ((cellsOf l ++ cellsOf m).toArray ++ Builtin.zeroCells (Value.cells (.int .u8 0)) (grownCap w (l.length + m.length) sc 5 - (l.length + m.length))).size = grownCap w (l.length + m.length) sc 5 := by
        simp only [Array.size_append, List.size_toArray, List.length_append, cellsOf_length, size_zeroCells, Value.cells, List.size_toArray, List.length_singleton]
        simp
        omega
      rw [Array.getElem?_eq_getElem (by rw [hsz]; exact hj)]
      rfl
    · exact World.frozen?_alloc_new w.drew _ _ j
  rcases h with ⟨rfl, rfl⟩ | ⟨g, cap, rfl, hBg, hg, hlc, hm, hc, hf⟩
  · by_cases hm0 : m = []
    · subst hm0
      refine ⟨_, _, run_append_nothing (P := Tryd.prog) w 37 tx ty 5 i ht hi none 0 0 (Nat.le_refl _) x (by simpa [cellsOf] using hs), Bs.nil B w, Below.refl _ _⟩
    · have hp : 0 < m.length := List.length_pos_iff.2 hm0
      exact grow none 0 rfl (by simpa using hp) (run_firstCells_none w.drew i.size 0 0 0)
  · by_cases hfit : l.length + m.length ≤ cap
    · have hj1 : ∀ j, j < (cellsOf m).length → 0 + l.length * i.size + j < cap := fun j hj => by rw [cellsOf_length] at hj; rw [hsz]; omega
      have hrun := run_append_room_src (P := Tryd.prog) w 37 tx ty 5 i ht hi g 0 l.length cap x m.length (cellsOf m) hs hfit (fun j hj => (hf _ (hj1 j hj)).1) (fun j hj => (hf _ (hj1 j hj)).2)
      have eoff : 0 + l.length * i.size = l.length := by rw [hsz]; omega
      rw [eoff] at hrun
      refine ⟨_, _, hrun, .inr ⟨g, cap, by rw [List.length_append], hBg, by rw [heap_size_setCells]; exact hg, by rw [List.length_append]; exact hfit, hm, fun j hj => ?_, fun j hj => ⟨?_, ?_⟩⟩, below_setCells _ _ _ _ _ hBg⟩
      · rw [List.length_append] at hj
        rw [hca]
        by_cases hjl : j < l.length
        · rw [World.cell?_setCells_out g _ _ _ _ (fun _ _ => .inl hjl), hc j hjl, List.getElem?_append_left (by rw [cellsOf_length]; exact hjl)]
        · have ht' : j - l.length < (cellsOf m).length := by rw [cellsOf_length]; omega
          have hin := World.cell?_setCells_in g (cellsOf m) l.length w (fun j hj => (hf _ (by rw [cellsOf_length] at hj; omega)).1) (j - l.length) ht'
          rw [show l.length + (j - l.length) = j by omega] at hin
          rw [hin, List.getElem?_append_right (by rw [cellsOf_length]; omega), cellsOf_length, List.getElem?_eq_getElem ht']
      · by_cases hin : l.length ≤ j ∧ j < l.length + m.length
        · have ht' : j - l.length < (cellsOf m).length := by rw [cellsOf_length]; omega
          have hin := World.cell?_setCells_in g (cellsOf m) l.length w (fun j hj => (hf _ (by rw [cellsOf_length] at hj; omega)).1) (j - l.length) ht'
          rw [show l.length + (j - l.length) = j by omega] at hin
          rw [hin]; rfl
        · rw [World.cell?_setCells_out g _ _ _ _ (fun _ _ => by rw [cellsOf_length]; show j < l.length ∨ l.length + m.length ≤ j; omega)]
          exact (hf j hj).1
      · rw [World.frozen?_setCells]
        exact (hf j hj).2
    · exact grow _ cap rfl (by omega) (run_firstCells_some w.drew i.size l.length ⟨g, 0, none⟩ l.length cap (cellsOf l) (by rw [cellsOf_length, hsz]; omega) (fun j u hu => by
        have hj : j < l.length := by
          have := (List.getElem?_eq_some_iff.1 hu).1
          rwa [cellsOf_length] at this
        have e : (⟨g, 0, none⟩ : Addr).add j = ⟨g, j, none⟩ := by unfold Addr.add; split <;> simp_all
        rw [e]
        show w.drew.cell? ⟨g, j, none⟩ = some u
        rw [World.cell?_drew, hc j hj, hu]))

/-- append at the walk. -/
theorem wpList_append_bs (w : World) {ops : Array Oper} {rest : List Oper} {o : Oper} {a : Act} {Q : Exit → Act → World → Prop} (hgd : o.guard = none) (s x : Operand) (tx : TypeId)
    (ho : o.op = .call { callee := .builtin .append, args := #[s, x], argTypes := #[37, tx] })
    {B : Nat} {v : Value} {l : List UInt8} (hv : a.eval s = v) (h : Bs B w v l) (hB : B ≤ w.heap.size)
    (xv : Value) (m : List UInt8) (hx : a.eval x = xv) (hs : Src Tryd.prog 1 tx xv m.length (cellsOf m) w) (hl : l.length + m.length ≤ 140737488355328)
    (hK : ∀ v' w', Bs B w' v' (l ++ m) → Below B w w' → wpList Tryd.prog ops Q rest (a.put o.dst v') w') : wpList Tryd.prog ops Q (o :: rest) a w := by
  refine wpList_plain hgd fun K hK' => ?_
  obtain ⟨v', w', hrun, h1, h2⟩ := run_append_bs h hB tx o.type xv m hs hl
  unfold Oper.wp
  simp [execOp, ho, resolve, invoke, builtin, hv, hx, hrun, Result.andThen]
  exact hK' _ _ (hK v' w' h1 h2)

/-- The source of 'append(b, x)': a new block of one cell. -/
theorem src_one (w : World) (c : UInt8) (n : Int) (hn : n = (c.toNat : Int)) : Src Tryd.prog 1 37 (.slice (some ⟨w.heap.size, 0, none⟩) 1 1) [c].length (cellsOf [c]) (w.alloc (.cells #[.int .u8 n] 5)) := by
  subst hn
  refine Src.ofSlice _ Tryd.underlying37 ⟨w.heap.size, 0, none⟩ 1 1 (cellsOf [c]) (by simp [cellsOf]) (fun j u hu => ?_) (fun u hu => ?_)
  · match j, hu with
    | 0, hu => simp [cellsOf] at hu; subst hu; simp [Addr.add]
  · simp [cellsOf] at hu; subst hu; rfl

/-- The source of 'append(b, s...)'. -/
theorem src_string (w : World) (s : ByteArray) : Src Tryd.prog 1 9 (.string s) s.data.toList.length (cellsOf s.data.toList) w := by
  have h := Src.ofString (P := Tryd.prog) w (tx := 9) Tryd.underlying9 s
  have e : s.data.toList.length = s.size := Array.length_toList
  rw [e]
  exact h

theorem foldl_bytes (ns : List UInt8) : (ns.map fun b => (b.toNat : Int)).foldl (fun (r : ByteArray) n => r.push (UInt8.ofNat n.toNat)) ByteArray.empty = ⟨ns.toArray⟩ := by
  rw [foldl_push_bytes]
  simp [Function.comp_def]

/-- string(b). -/
theorem bs_string {B : Nat} {w : World} {v : Value} {l : List UInt8} (h : Bs B w v l) : (convert 37 9 v).run Tryd.prog w = .ok (.string ⟨l.toArray⟩) w := by
  rcases h with ⟨rfl, rfl⟩ | ⟨g, cap, rfl, hBg, hg, hlc, hm, hc, hf⟩
  · rw [run_convert_bytes_string (P := Tryd.prog) w 37 9 5 none 0 0 Tryd.underlying37 Tryd.underlying5 Tryd.underlying9]
    rfl
  · rw [run_convert_bytes_string (P := Tryd.prog) w 37 9 5 _ _ _ Tryd.underlying37 Tryd.underlying5 Tryd.underlying9, run_bytesToString (P := Tryd.prog) w ⟨g, 0, none⟩ l.length cap (l.map fun b => (b.toNat : Int)), foldl_bytes]
    have e : ((l.map fun b => (b.toNat : Int)).map (Value.int .u8)) = cellsOf l := by simp [cellsOf]
    rw [e]
    have := run_firstCells_some (P := Tryd.prog) w 1 l.length ⟨g, 0, none⟩ l.length cap (cellsOf l) (by rw [cellsOf_length]; omega) (fun j u hu => by
      have hj : j < l.length := by
        have := (List.getElem?_eq_some_iff.1 hu).1
        rwa [cellsOf_length] at this
      have e : (⟨g, 0, none⟩ : Addr).add j = ⟨g, j, none⟩ := by unfold Addr.add; split <;> simp_all
      rw [e, hc j hj, hu])
    simpa [Builtin.firstCells] using this

/-- []byte(s). -/
theorem bytes_bs (w : World) (s : ByteArray) (hs : s.size ≤ 140737488355328) :
    ∃ v w', (convert 9 37 (.string s)).run Tryd.prog w = .ok v w' ∧ Bs w.heap.size w' v s.data.toList ∧ Below w.heap.size w w' := by
  have hrun := Lib.run_convert_string_bytes (P := Tryd.prog) w 9 37 5 s Tryd.underlying9 Tryd.underlying37 Tryd.underlying5
  have hge := grownCap_ge w s.size 0 5
  have hcl := grownCap_le_maxLen w s.size 0 5 (by unfold maxLen; omega)
  have e : s.data.toList.length = s.size := Array.length_toList
  have hcs : (Lib.bytesCells w 5 s).size = grownCap w s.size 0 5 := by
    have : s.data.size = s.size := rfl
    simp only [Lib.bytesCells, Array.size_append, Array.size_map, Array.size_replicate]
    omega
  have hat := Lib.bytesWorld_at_new w 5 s
  refine ⟨_, _, hrun, .inr ⟨w.heap.size, _, by rw [e], Nat.le_refl _, by rw [Lib.bytesWorld_size]; omega, by rw [e]; exact hge, hcl, fun j hj => ?_, fun j hj => ⟨?_, ?_⟩⟩, ⟨rfl, rfl, rfl, by rw [Lib.bytesWorld_size]; omega, fun k hk => Lib.bytesWorld_at_old w 5 s k hk⟩⟩
  · rw [Lib.bytesWorld_cell w 5 s j (by rw [← e]; exact hj)]
    simp only [cellsOf, List.getElem?_map, List.getElem?_eq_getElem hj, Option.map_some, List.getD, Option.getD_some]
  · simp only [World.cell?, hat]
    rw [if_neg (by simp), Array.getElem?_eq_getElem (by rw [hcs]; exact hj)]
    rfl
  · simp only [World.frozen?, hat, hcs]
    simp
    omega

end Go.Proofs.YtaghogfkkmphoaaDoor.E4

namespace Go.Proofs.YtaghogfkkmphoaaDoor.E4
open Go.RowKit Go

/-- A comparison. -/
structure LC {α : Type} (c : α → α → Int) : Prop where
  tri : ∀ a b, c a b = -1 ∨ c a b = 0 ∨ c a b = 1
  neg : ∀ a b, c b a = - c a b
  eq : ∀ a b, c a b = 0 → a = b
  refl : ∀ a, c a a = 0
  tr : ∀ a b d, c a b = -1 → c b d = -1 → c a d = -1

/-- The first one, unless it is 0. -/
def orI (x y : Int) : Int := if x = 0 then y else x

theorem LC.on {α β : Type} {c : β → β → Int} (h : LC c) (f : α → β) (hf : ∀ a b, f a = f b → a = b) : LC fun a b => c (f a) (f b) :=
  ⟨fun _ _ => h.tri _ _, fun _ _ => h.neg _ _, fun a b e => hf a b (h.eq _ _ e), fun _ => h.refl _, fun _ _ _ x y => h.tr _ _ _ x y⟩

theorem LC.or {α β : Type} {c : α → α → Int} {d : β → β → Int} (h : LC c) (k : LC d) : LC fun (a b : α × β) => orI (c a.1 b.1) (d a.2 b.2) where
  tri a b := by
    have h1 := h.tri a.1 b.1
    have h2 := k.tri a.2 b.2
    simp only [orI]; split <;> omega
  neg a b := by
    have h1 := h.neg a.1 b.1
    have h2 := k.neg a.2 b.2
    simp only [orI]; split <;> split <;> omega
  eq a b e := by
    simp only [orI] at e
    split at e
    · rename_i h0
      exact Prod.ext (h.eq _ _ h0) (k.eq _ _ e)
    · omega
  refl a := by simp only [orI, h.refl, k.refl]; rfl
  tr a b e := by
    have h1 := h.tri a.1 b.1
    have h2 := h.tri b.1 e.1
    have h3 := h.tr a.1 b.1 e.1
    have h4 := k.tr a.2 b.2 e.2
    simp only [orI]
    intro x y
    by_cases p : c a.1 b.1 = 0
    · have hp := h.eq _ _ p
      rw [if_pos p] at x
      rw [hp]
      by_cases q : c b.1 e.1 = 0
      · rw [if_pos q] at y ⊢; exact h4 x y
      · rw [if_neg q] at y ⊢; exact y
    · rw [if_neg p] at x
      by_cases q : c b.1 e.1 = 0
      · rw [← h.eq _ _ q, if_neg p]; exact x
      · rw [if_neg q] at y
        have := h3 x y
        rw [if_neg (by omega)]
        exact this

/-- Lists, one element after the other; where there are no more, that one comes first. -/
def listC {α : Type} (c : α → α → Int) : List α → List α → Int
  | [], [] => 0
  | [], _ :: _ => -1
  | _ :: _, [] => 1
  | a :: l, b :: m => orI (c a b) (listC c l m)

theorem LC.list {α : Type} {c : α → α → Int} (h : LC c) : LC (listC c) where
  tri a := by
    induction a with
    | nil => intro b; cases b <;> simp [listC]
    | cons x l ih =>
      intro b
      cases b with
      | nil => simp [listC]
      | cons y m =>
        have h1 := h.tri x y
        have h2 := ih m
        simp only [listC, orI]; split <;> omega
  neg a := by
    induction a with
    | nil => intro b; cases b <;> simp [listC]
    | cons x l ih =>
      intro b
      cases b with
      | nil => simp [listC]
      | cons y m =>
        have h1 := h.neg x y
        have h2 := ih m
        simp only [listC, orI]; split <;> split <;> omega
  eq a := by
    induction a with
    | nil => intro b; cases b <;> simp [listC]
    | cons x l ih =>
      intro b
      cases b with
      | nil => simp [listC]
      | cons y m =>
        simp only [listC, orI]
        intro e
        split at e
        · rename_i h0
          rw [h.eq _ _ h0, ih m e]
        · omega
  refl a := by
    induction a with
    | nil => rfl
    | cons x l ih => simp only [listC, orI, h.refl, ih]; rfl
  tr a := by
    induction a with
    | nil => intro b d; cases b <;> cases d <;> simp [listC]
    | cons x l ih =>
      intro b d
      cases b with
      | nil => simp [listC]
      | cons y m =>
        cases d with
        | nil => simp [listC]
        | cons z n =>
          have h1 := h.tri x y
          have h2 := h.tri y z
          have h3 := h.tr x y z
          have h4 := ih m n
          simp only [listC, orI]
          intro p q
          by_cases u : c x y = 0
          · have hu := h.eq _ _ u
            rw [if_pos u] at p
            rw [hu]
            by_cases v : c y z = 0
            · rw [if_pos v] at q ⊢; exact h4 p q
            · rw [if_neg v] at q ⊢; exact q
          · rw [if_neg u] at p
            by_cases v : c y z = 0
            · rw [← h.eq _ _ v, if_neg u]; exact p
            · rw [if_neg v] at q
              have := h3 p q
              rw [if_neg (by omega)]
              exact this

/-- Numbers. -/
def intC (x y : Int) : Int := Lib.compareInt x y

theorem intC_lt {a b : Int} : intC a b = -1 ↔ a < b := by unfold intC Lib.compareInt; split <;> (try split) <;> omega
theorem intC_lc : LC intC where
  tri a b := by unfold intC Lib.compareInt; split <;> (try split) <;> omega
  neg a b := by unfold intC Lib.compareInt; split <;> (try split) <;> (try split) <;> omega
  eq a b := by unfold intC Lib.compareInt; split <;> (try split) <;> omega
  refl a := by unfold intC Lib.compareInt; split <;> (try split) <;> omega
  tr a b d := by rw [intC_lt, intC_lt, intC_lt]; omega

/-- Bytes. -/
def byteC (a b : UInt8) : Int := intC a.toNat b.toNat
theorem byteC_lc : LC byteC := intC_lc.on (fun a : UInt8 => (a.toNat : Int)) (fun a b h => UInt8.toNat_inj.1 (by have h' : (a.toNat : Int) = b.toNat := h; omega))

/-- Texts, byte by byte. -/
def strC (x y : ByteArray) : Int := listC byteC x.toList y.toList

theorem toList_inj (x y : ByteArray) (h : x.toList = y.toList) : x = y := by
  rw [Lib.toList_data, Lib.toList_data] at h
  obtain ⟨a⟩ := x
  obtain ⟨b⟩ := y
  have : a.toList = b.toList := h
  rw [Array.toList_inj.1 this]

theorem strC_lc : LC strC := byteC_lc.list.on ByteArray.toList toList_inj

theorem bytesLess_listC : ∀ (x y : List UInt8), Op.bytesLess x y = decide (listC byteC x y = -1)
  | [], [] => by simp [Op.bytesLess, listC]
  | _ :: _, [] => by simp [Op.bytesLess, listC]
  | [], _ :: _ => by simp [Op.bytesLess, listC]
  | a :: x, b :: y => by
    rw [Op.bytesLess, bytesLess_listC x y]
    have e : (a < b) = (a.toNat < b.toNat) := by rw [UInt8.lt_iff_toNat_lt]
    have e2 : (a == b) = decide (a.toNat = b.toNat) := by
      rw [Bool.eq_iff_iff]; simp [UInt8.toNat_inj]
    simp only [listC, orI, byteC, intC, Lib.compareInt, e, e2]
    by_cases h1 : a.toNat < b.toNat
    · simp [h1]
    · by_cases h2 : b.toNat < a.toNat
      · have : ¬ a.toNat = b.toNat := by omega
        simp [h1, h2, this]
      · have : a.toNat = b.toNat := by omega
        simp [this]

theorem less_strC (x y : ByteArray) : Op.bytesLess x.toList y.toList = decide (strC x y = -1) := bytesLess_listC _ _

theorem eq_strC (x y : ByteArray) : (x.toList == y.toList) = decide (strC x y = 0) := by
  by_cases h : x.toList = y.toList
  · have := strC_lc.refl x
    rw [toList_inj x y h] at this ⊢
    simp [this]
  · have : ¬ strC x y = 0 := fun e => h (by rw [strC_lc.eq _ _ e])
    simp [h, this]

/-- A label. -/
structure Lab where
  n : ByteArray
  v : ByteArray

def labC (a b : Lab) : Int := orI (strC a.n b.n) (strC a.v b.v)
theorem labC_lc : LC labC := (strC_lc.or strC_lc).on (fun a : Lab => (a.n, a.v)) (fun a b h => by cases a; cases b; simp_all)

/-- An entry. -/
structure Ent where
  tm : Int
  labs : List Lab
  line : ByteArray

def entC (a b : Ent) : Int := orI (intC a.tm b.tm) (orI (listC labC a.labs b.labs) (strC a.line b.line))
theorem entC_lc : LC entC := (intC_lc.or (labC_lc.list.or strC_lc)).on (fun a : Ent => (a.tm, a.labs, a.line)) (fun a b h => by cases a; cases b; simp_all)

/-- The first that isn't 0. -/
def firstNZ : List Int → Int
  | [] => 0
  | x :: r => orI x (firstNZ r)

theorem firstNZ2 (x y : Int) : firstNZ [x, y] = orI x y := by
  simp only [firstNZ, orI]; split <;> (try split) <;> omega
theorem firstNZ3 (x y z : Int) : firstNZ [x, y, z] = orI x (orI y z) := by
  simp only [firstNZ, orI]; split <;> (try split) <;> (try split) <;> omega

end Go.Proofs.YtaghogfkkmphoaaDoor.E4

namespace Go.Proofs.YtaghogfkkmphoaaDoor.E4
open Go.RowKit Go

/-- Of the old blocks only those of G have turned. -/
structure Keep (G : Nat → Prop) (w w' : World) : Prop where
  os : w'.os = w.os
  tape : w'.tape = w.tape
  output : w'.output = w.output
  size : w.heap.size ≤ w'.heap.size
  drawn : w.drawn ≤ w'.drawn
  block : ∀ k, k < w.heap.size → ¬ G k → w'.heap[k]? = w.heap[k]?

theorem Keep.refl (G : Nat → Prop) (w : World) : Keep G w w := ⟨rfl, rfl, rfl, Nat.le_refl _, Nat.le_refl _, fun _ _ _ => rfl⟩
theorem Keep.trans {G : Nat → Prop} {a b c : World} (h : Keep G a b) (k : Keep G b c) : Keep G a c :=
  ⟨k.os.trans h.os, k.tape.trans h.tape, k.output.trans h.output, Nat.le_trans h.size k.size, Nat.le_trans h.drawn k.drawn, fun i hi hn => (k.block i (Nat.lt_of_lt_of_le hi h.size) hn).trans (h.block i hi hn)⟩
theorem Keep.alloc {G : Nat → Prop} {a w : World} (h : Keep G a w) (o : Obj) : Keep G a (w.alloc o) :=
  h.trans ⟨rfl, rfl, rfl, by simp, Nat.le_refl _, fun k hk _ => Below.heap_alloc _ _ _ hk⟩
theorem Keep.drewN {G : Nat → Prop} {a w : World} (h : Keep G a w) (n : Nat) : Keep G a (w.drewN n) := ⟨h.os, h.tape, h.output, h.size, Nat.le_trans h.drawn (Nat.le_add_right _ _), h.block⟩
theorem Keep.drew {G : Nat → Prop} {a w : World} (h : Keep G a w) : Keep G a w.drew := h.drewN 1
theorem Keep.into {G H : Nat → Prop} {w w' : World} (h : Keep G w w') (hk : ∀ k, k < w.heap.size → G k → H k) : Keep H w w' :=
  ⟨h.os, h.tape, h.output, h.size, h.drawn, fun k hlt hn => h.block k hlt (fun hg => hn (hk k hlt hg))⟩
theorem Keep.below {G : Nat → Prop} {B : Nat} {w w' : World} (h : Keep G w w') (hG : ∀ k, G k → B ≤ k) (hB : B ≤ w.heap.size) : Below B w w' :=
  ⟨h.os, h.tape, h.output, h.size, fun k hk => h.block k (by omega) (fun hg => by have := hG k hg; omega)⟩
/-- Nothing that was there has turned; draws have gone on. -/
abbrev Lay (w w' : World) : Prop := Keep (fun _ => False) w w'

theorem Lay.below {w w' : World} (h : Lay w w') : Below w.heap.size w w' := Keep.below h (fun _ h => h.elim) (Nat.le_refl _)
theorem Lay.keep {G : Nat → Prop} {w w' : World} (h : Lay w w') : Keep G w w' := h.into fun _ _ h => h.elim
theorem Lay.block {w w' : World} (h : Lay w w') {k : Nat} (hk : k < w.heap.size) : w'.heap[k]? = w.heap[k]? := Keep.block h k hk (fun h => h)
theorem Lay.cell {w w' : World} (h : Lay w w') {b o : Nat} (hk : b < w.heap.size) : w'.cell? ⟨b, o, none⟩ = w.cell? ⟨b, o, none⟩ := World.cell?_of_block (a := ⟨b, o, none⟩) (h.block hk)
theorem Lay.grown {w w' : World} (h : Lay w w') : ∃ q os, w' = Sort.grow (w.drewN q) os := by
  refine ⟨w'.drawn - w.drawn, w'.heap.extract w.heap.size w'.heap.size, ?_⟩
  have hh : w'.heap = w.heap ++ w'.heap.extract w.heap.size w'.heap.size := by
    apply Array.ext_getElem?
    intro i
    have hs := h.size
    by_cases hi : i < w.heap.size
    · rw [h.block hi, Array.getElem?_append_left hi]
    · rw [Array.getElem?_append_right (by omega), Array.getElem?_extract]
      by_cases h2 : i < w'.heap.size
      · rw [if_pos (by omega)]
        congr 1
        omega
      · rw [if_neg (by omega), Array.getElem?_eq_none (by omega)]
  have hd : w.drawn + (w'.drawn - w.drawn) = w'.drawn := by have := h.drawn; omega
  obtain ⟨heap, tape, drawn, os, output⟩ := w'
  have h1 := h.os
  have h2 := h.tape
  have h3 := h.output
  simp only [] at h1 h2 h3 hh hd ⊢
  subst h1 h2 h3
  show _ = ({ heap := w.heap ++ heap.extract w.heap.size heap.size, tape := w.tape, drawn := w.drawn + (drawn - w.drawn), os := w.os, output := w.output } : World)
  rw [← hh, hd]

theorem Lay.of_grown {w : World} (q : Nat) (os : Array Obj) : Lay w (Sort.grow (w.drewN q) os) :=
  ⟨rfl, rfl, rfl, by simp, Nat.le_add_right _ _, fun k hk _ => by
    show (w.heap ++ os)[k]? = _
    rw [Array.getElem?_append_left hk]⟩

/-- v is the nil slice, and there are none; or v holds n elements of k cells each, in a block of G, of which no cell is frozen. -/
def Rk (k : Nat) (G : Nat → Prop) (w : World) (v : Value) (n : Nat) (xs : List Value) : Prop :=
  xs.length = n * k ∧ ((v = .slice none 0 0 ∧ n = 0) ∨
  ∃ g cap, v = .slice (some ⟨g, 0, none⟩) n cap ∧ G g ∧ g < w.heap.size ∧ n ≤ cap ∧ cap ≤ maxLen ∧
    (∀ j, j < xs.length → w.cell? ⟨g, j, none⟩ = xs[j]?) ∧
    (∀ j, j < cap * k → (w.cell? ⟨g, j, none⟩).isSome = true ∧ w.frozen? ⟨g, j, none⟩ = false))

/-- The slice lies in block k. -/
def At (v : Value) (k : Nat) : Prop := ∃ n c, v = .slice (some ⟨k, 0, none⟩) n c

theorem Rk.nil (k : Nat) (G : Nat → Prop) (w : World) : Rk k G w (.slice none 0 0) 0 [] := ⟨by simp, .inl ⟨rfl, rfl⟩⟩

theorem Rk.carry {k : Nat} {G : Nat → Prop} {w w' : World} {v : Value} {n : Nat} {xs : List Value} (h : Rk k G w v n xs) (hs : w.heap.size ≤ w'.heap.size) (hb : ∀ k, G k → At v k → k < w.heap.size → w'.heap[k]? = w.heap[k]?) : Rk k G w' v n xs := by
  obtain ⟨h0, h | ⟨g, cap, hv, hB, hg, hl, hm, hc, hf⟩⟩ := h
  · exact ⟨h0, .inl h⟩
  · have e := hb g hB ⟨_, _, hv⟩ hg
    refine ⟨h0, .inr ⟨g, cap, hv, hB, Nat.lt_of_lt_of_le hg hs, hl, hm, fun j hj => ?_, fun j hj => ?_⟩⟩
    · rw [World.cell?_of_block (a := ⟨g, j, none⟩) e]; exact hc j hj
    · rw [World.cell?_of_block (a := ⟨g, j, none⟩) e, World.frozen?_of_block (a := ⟨g, j, none⟩) e]; exact hf j hj

theorem Rk.alloc {k : Nat} {G : Nat → Prop} {w : World} {v : Value} {n : Nat} {xs : List Value} (h : Rk k G w v n xs) (o : Obj) : Rk k G (w.alloc o) v n xs :=
  h.carry (by simp) (fun k _ _ hk => Below.heap_alloc w o k hk)
theorem Rk.drew {k : Nat} {G : Nat → Prop} {w : World} {v : Value} {n : Nat} {xs : List Value} (h : Rk k G w v n xs) : Rk k G w.drew v n xs :=
  h.carry (Nat.le_refl _) (fun _ _ _ _ => rfl)
theorem Rk.mono {k : Nat} {G G' : Nat → Prop} {w : World} {v : Value} {n : Nat} {xs : List Value} (h : Rk k G w v n xs) (hG : ∀ k, G k → At v k → G' k) : Rk k G' w v n xs := by
  obtain ⟨h0, h | ⟨g, cap, hv, h1, hr⟩⟩ := h
  · exact ⟨h0, .inl h⟩
  · exact ⟨h0, .inr ⟨g, cap, hv, hG g h1 ⟨_, _, hv⟩, hr⟩⟩
/-- What turns not the slice's own block leaves the slice. -/
theorem Rk.keep {k : Nat} {G H : Nat → Prop} {w w' : World} {v : Value} {n : Nat} {xs : List Value} (h : Rk k G w v n xs) (hk : Keep H w w') (hd : ∀ k, G k → At v k → k < w.heap.size → ¬ H k) : Rk k G w' v n xs :=
  h.carry hk.size (fun k hg ha hs => hk.block k hs (hd k hg ha hs))
theorem Rk.lay {k : Nat} {G : Nat → Prop} {w w' : World} {v : Value} {n : Nat} {xs : List Value} (h : Rk k G w v n xs) (hk : Lay w w') : Rk k G w' v n xs := h.keep hk (fun _ _ _ _ h => h)
theorem Rk.at {k : Nat} {G : Nat → Prop} {w : World} {v : Value} {n : Nat} {xs : List Value} (h : Rk k G w v n xs) {b : Nat} (hk : At v b) : G b ∧ b < w.heap.size := by
  obtain ⟨m, c, e⟩ := hk
  obtain ⟨_, ⟨h, _⟩ | ⟨g, cap, hv, h1, h2, _⟩⟩ := h
  · rw [h] at e; cases e
  · rw [hv] at e
    obtain rfl : g = b := by
      have : (some (⟨g, 0, none⟩ : Addr)) = some ⟨b, 0, none⟩ := by injection e
      simpa using this
    exact ⟨h1, h2⟩
theorem Rk.shape {k : Nat} {G : Nat → Prop} {w : World} {v : Value} {n : Nat} {xs : List Value} (h : Rk k G w v n xs) : ∃ a c, v = .slice a n c := by
  obtain ⟨_, ⟨rfl, rfl⟩ | ⟨g, cap, hv, _⟩⟩ := h
  · exact ⟨none, 0, rfl⟩
  · exact ⟨_, _, hv⟩

theorem keep_setCells (G : Nat → Prop) (b : Nat) (vs : List Value) (o : Nat) (w : World) (h : G b) : Keep G w (w.setCells b o vs) :=
  ⟨World.os_setCells w b o vs, tape_setCells b vs o w, World.output_setCells w b o vs, Nat.le_of_eq (heap_size_setCells b vs o w).symm, by
    have : ∀ (vs : List Value) (o : Nat) (w : World), (w.setCells b o vs).drawn = w.drawn := by
      intro vs
      induction vs with
      | nil => intro o w; rfl
      | cons v r ih => intro o w; rw [World.setCells, ih]; rfl
    rw [this]; exact Nat.le_refl _, fun _ hk hn =>
    World.heap_setCells_other w b o vs hk (fun e => hn (e ▸ h))⟩

/-- An element type of k cells. -/
structure Elem (P : Program) (t e : TypeId) (i : TypeInfo) (z : Value) (k bytes : Nat) : Prop where
  under : P.underlying t = some (.slice e)
  info : P.info? e = some i
  zero : i.zero = some z
  size : i.size = k
  bytes : i.bytes = bytes
  cells : z.cells.size = k

theorem add_lit0 (g j : Nat) : (⟨g, 0, none⟩ : Addr).add j = ⟨g, j, none⟩ := by unfold Addr.add; split <;> simp_all

/-- append, of whatever source. -/
theorem run_append_rk {P : Program} {t e : TypeId} {i : TypeInfo} {z : Value} {k bytes : Nat} (E : Elem P t e i z k bytes) {G : Nat → Prop} {w : World} {v : Value} {n : Nat} {xs : List Value} (h : Rk k G w v n xs) (hG : ∀ k, w.heap.size ≤ k → G k) (tx ty : TypeId) (x : Value) (m : Nat) (ys : List Value) (hs : Src P k tx x m ys w)
    (hb : (n + m) * bytes ≤ 140737488355328) (hl : n + m ≤ 140737488355328) :
    ∃ v' w', (Builtin.append_ #[t, tx] ty #[v, x]).run P w = .ok v' w' ∧ Rk k (fun k => G k ∧ (At v k ∨ w.heap.size ≤ k)) w' v' (n + m) (xs ++ ys) ∧ Keep (At v) w w' := by
  have ht := E.under
  have hi := E.info
  have hz := E.zero
  have hsz := E.size
  have hys := hs.newsLen
  have hml : n + m ≤ maxLen := by unfold maxLen; omega
  have hmul : (n + m) * k = n * k + m * k := Nat.add_mul _ _ _
  obtain ⟨hxs, h⟩ := h
  have hlen : (xs ++ ys).length = (n + m) * k := by rw [List.length_append, hxs, hys, hmul]
  rw [← hsz] at hs
  -- a new row
  have grow : ∀ (base : Option Addr) (sc : Nat), v = .slice base n sc → sc < n + m →
      (Builtin.firstCells i.size n (.slice base n sc)).run P w.drew = .ok xs.toArray w.drew →
      ∃ v' w', (Builtin.append_ #[t, tx] ty #[v, x]).run P w = .ok v' w' ∧ Rk k (fun k => G k ∧ (At v k ∨ w.heap.size ≤ k)) w' v' (n + m) (xs ++ ys) ∧ Keep (At v) w w' := by
    rintro base sc rfl hg hold
    have hrun := run_append_grow_src (P := P) w t tx ty e i _ ht hi hz base n sc xs hold x m ys hs hg (by omega) (growslice_fits hg (by rw [E.bytes]; omega))
    have hge := grownCap_ge w (n + m) sc e
    have hcl := grownCap_le_maxLen w (n + m) sc e hml
    obtain ⟨q, hq⟩ : ∃ q, grownCap w (n + m) sc e = n + m + q := ⟨_, (Nat.add_sub_cancel' hge).symm⟩
    rw [hq] at hrun hcl
    rw [Nat.add_sub_cancel_left] at hrun
    have hzs : (Builtin.zeroCells z.cells q).size = q * k := by rw [size_zeroCells, E.cells]
    have hcap : (n + m + q) * k = (n + m) * k + q * k := Nat.add_mul _ _ _
    refine ⟨_, _, hrun, ⟨hlen, .inr ⟨w.heap.size, _, rfl, ⟨hG _ (Nat.le_refl _), .inr (Nat.le_refl _)⟩, by simp, by omega, hcl, fun j hj => ?_, fun j hj => ⟨?_, ?_⟩⟩⟩,
      ⟨rfl, rfl, rfl, by simp, Nat.le_succ _, fun k hk _ => Below.heap_alloc w.drew _ k (by simpa using hk)⟩⟩
    · have e1 : (w.drew.alloc (.cells ((xs ++ ys).toArray ++ Builtin.zeroCells z.cells q) e)).cell? ⟨w.heap.size, j, none⟩ = _ := World.cell?_alloc_new w.drew _ _ j
      rw [e1, Array.getElem?_append_left (by simp only [List.size_toArray]; exact hj), List.getElem?_toArray]
    · have e1 : (w.drew.alloc (.cells ((xs ++ ys).toArray ++ Builtin.zeroCells z.cells q) e)).cell? ⟨w.heap.size, j, none⟩ = _ := World.cell?_alloc_new w.drew _ _ j
      rw [e1]
      rw [Array.getElem?_eq_getElem (by rw [Array.size_append, hzs]; simp only [List.size_toArray, hlen]; omega)]
      rfl
    · exact World.frozen?_alloc_new w.drew _ _ j
  rcases h with ⟨rfl, rfl⟩ | ⟨g, cap, rfl, hBg, hg, hlc, hm, hc, hf⟩
  · obtain rfl : xs = [] := List.eq_nil_of_length_eq_zero (by simpa using hxs)
    by_cases hm0 : m = 0
    · subst hm0
      obtain rfl : ys = [] := List.eq_nil_of_length_eq_zero (by simpa using hys)
      exact ⟨_, _, run_append_nothing (P := P) w t tx ty e i ht hi none 0 0 (Nat.le_refl _) x (by simpa using hs), ⟨by simp, .inl ⟨rfl, rfl⟩⟩, Keep.refl _ _⟩
    · exact grow none 0 rfl (by omega) (run_firstCells_none w.drew i.size 0 0 0)
  · by_cases hfit : n + m ≤ cap
    · have hck : (n + m) * k ≤ cap * k := Nat.mul_le_mul_right _ hfit
      have hj1 : ∀ j, j < ys.length → 0 + n * i.size + j < cap * k := fun j hj => by rw [hsz]; omega
      have hrun := run_append_room_src (P := P) w t tx ty e i ht hi g 0 n cap x m ys hs hfit (fun j hj => (hf _ (hj1 j hj)).1) (fun j hj => (hf _ (hj1 j hj)).2)
      have eoff : 0 + n * i.size = xs.length := by rw [hsz, hxs]; omega
      rw [eoff] at hrun
      refine ⟨_, _, hrun, ⟨hlen, .inr ⟨g, cap, rfl, ⟨hBg, .inl ⟨_, _, rfl⟩⟩, by rw [heap_size_setCells]; exact hg, hfit, hm, fun j hj => ?_, fun j hj => ⟨?_, ?_⟩⟩⟩, keep_setCells _ _ _ _ _ ⟨_, _, rfl⟩⟩
      · rw [List.length_append] at hj
        by_cases hjl : j < xs.length
        · rw [World.cell?_setCells_out g _ _ _ _ (fun _ _ => .inl hjl), hc j hjl, List.getElem?_append_left hjl]
        · have ht' : j - xs.length < ys.length := by omega
          have hin := World.cell?_setCells_in g ys xs.length w (fun j hj => (hf _ (by omega)).1) (j - xs.length) ht'
          rw [show xs.length + (j - xs.length) = j by omega] at hin
          rw [hin, List.getElem?_append_right (by omega), List.getElem?_eq_getElem ht']
      · by_cases hin : xs.length ≤ j ∧ j < xs.length + ys.length
        · have ht' : j - xs.length < ys.length := by omega
          have hin := World.cell?_setCells_in g ys xs.length w (fun j hj => (hf _ (by omega)).1) (j - xs.length) ht'
          rw [show xs.length + (j - xs.length) = j by omega] at hin
          rw [hin]; rfl
        · rw [World.cell?_setCells_out g _ _ _ _ (fun _ _ => by show j < xs.length ∨ xs.length + ys.length ≤ j; omega)]
          exact (hf j hj).1
      · rw [World.frozen?_setCells]
        exact (hf j hj).2
    · exact grow _ cap rfl (by omega) (run_firstCells_some w.drew i.size n ⟨g, 0, none⟩ n cap xs (by rw [hsz, hxs]) (fun j u hu => by
        have hj : j < xs.length := (List.getElem?_eq_some_iff.1 hu).1
        rw [add_lit0]
        show w.drew.cell? ⟨g, j, none⟩ = some u
        rw [World.cell?_drew, hc j hj, hu]))

/-- A slice as what is appended. -/
theorem Rk.src {P : Program} {t e : TypeId} (ht : P.underlying t = some (.slice e)) {k : Nat} {G : Nat → Prop} {w : World} {v : Value} {n : Nat} {xs : List Value} (h : Rk k G w v n xs) (h1 : ∀ u ∈ xs, u.oneCell' = true) : Src P k t v n xs w := by
  obtain ⟨h0, ⟨rfl, rfl⟩ | ⟨g, cap, rfl, hBg, hg, hlc, hm, hc, hf⟩⟩ := h
  · obtain rfl : xs = [] := List.eq_nil_of_length_eq_zero (by simpa using h0)
    exact Src.ofNil w ht 0
  · refine Src.ofSlice w ht _ _ _ _ h0 (fun j u hu => ?_) h1
    have hj : j < xs.length := (List.getElem?_eq_some_iff.1 hu).1
    rw [add_lit0, hc j hj, hu]

/-- A new row of values that were written out. -/
theorem rk_new (k : Nat) (w : World) (n : Nat) (xs : List Value) (e : TypeId) (h0 : xs.length = n * k) (hl : n ≤ 1000) : Rk k (fun k => k = w.heap.size) (w.alloc (.cells xs.toArray e)) (.slice (some ⟨w.heap.size, 0, none⟩) n n) n xs := by
  refine ⟨h0, .inr ⟨w.heap.size, n, rfl, rfl, by simp, Nat.le_refl _, by unfold maxLen; omega, fun j hj => ?_, fun j hj => ⟨?_, ?_⟩⟩⟩
  · have e1 : (w.alloc (.cells xs.toArray e)).cell? ⟨w.heap.size, j, none⟩ = _ := World.cell?_alloc_new w _ _ j
    rw [e1, List.getElem?_toArray]
  · have e1 : (w.alloc (.cells xs.toArray e)).cell? ⟨w.heap.size, j, none⟩ = _ := World.cell?_alloc_new w _ _ j
    rw [e1, Array.getElem?_eq_getElem (by simp only [List.size_toArray]; omega)]
    rfl
  · exact World.frozen?_alloc_new w _ _ j

/-- append at the walk. -/
theorem wpList_append_rk {P : Program} {t e : TypeId} {i : TypeInfo} {z : Value} {k bytes : Nat} (E : Elem P t e i z k bytes) (w : World) {ops : Array Oper} {rest : List Oper} {o : Oper} {a : Act} {Q : Exit → Act → World → Prop} (hgd : o.guard = none) (s x : Operand) (tx : TypeId)
    (ho : o.op = .call { callee := .builtin .append, args := #[s, x], argTypes := #[t, tx] })
    {G : Nat → Prop} {v : Value} {n : Nat} {xs : List Value} (hv : a.eval s = v) (h : Rk k G w v n xs) (hG : ∀ k, w.heap.size ≤ k → G k)
    (xv : Value) (m : Nat) (ys : List Value) (hx : a.eval x = xv) (hs : Src P k tx xv m ys w) (hb : (n + m) * bytes ≤ 140737488355328) (hl : n + m ≤ 140737488355328)
    (hK : ∀ v' w', Rk k (fun k => G k ∧ (At v k ∨ w.heap.size ≤ k)) w' v' (n + m) (xs ++ ys) → Keep (At v) w w' → wpList P ops Q rest (a.put o.dst v') w') : wpList P ops Q (o :: rest) a w := by
  refine wpList_plain hgd fun K hK' => ?_
  obtain ⟨v', w', hrun, h1, h2⟩ := run_append_rk E h hG tx o.type xv m ys hs hb hl
  unfold Oper.wp
  simp [execOp, ho, resolve, invoke, builtin, hv, hx, hrun, Result.andThen]
  exact hK' _ _ (hK v' w' h1 h2)

end Go.Proofs.YtaghogfkkmphoaaDoor.E4

namespace Go.Proofs.YtaghogfkkmphoaaDoor.E4
open Go.RowKit Go

/-- A label, as a value. -/
def Lab.val (x : Lab) : Value := .agg #[.string x.n, .string x.v]

/-- A slice of labels; where there are some, they lie in a block of G. -/
def LabsAt (G : Nat → Prop) (w : World) (v : Value) (ls : List Lab) : Prop :=
  ∃ a cap, v = .slice a ls.length cap ∧ ls.length ≤ 9223372036854775807 ∧ (ls = [] ∨ ∃ b off, a = some ⟨b, off, none⟩ ∧ G b ∧ b < w.heap.size ∧
    ∀ i (h : i < ls.length), w.cell? ⟨b, off + i * 2, none⟩ = some (.string ls[i].n) ∧ w.cell? ⟨b, off + i * 2 + 1, none⟩ = some (.string ls[i].v))

theorem LabsAt.carry {G : Nat → Prop} {w w' : World} {v : Value} {ls : List Lab} (h : LabsAt G w v ls) (hs : w.heap.size ≤ w'.heap.size) (hb : ∀ b, G b → b < w.heap.size → w'.heap[b]? = w.heap[b]?) : LabsAt G w' v ls := by
  obtain ⟨a, cap, hv, hn, h | ⟨b, off, ha, hg, hlt, hc⟩⟩ := h
  · exact ⟨a, cap, hv, hn, .inl h⟩
  · refine ⟨a, cap, hv, hn, .inr ⟨b, off, ha, hg, Nat.lt_of_lt_of_le hlt hs, fun i hi => ?_⟩⟩
    rw [World.cell?_of_block (a := ⟨b, off + i * 2, none⟩) (hb b hg hlt), World.cell?_of_block (a := ⟨b, off + i * 2 + 1, none⟩) (hb b hg hlt)]
    exact hc i hi

theorem LabsAt.mono {G H : Nat → Prop} {w : World} {v : Value} {ls : List Lab} (h : LabsAt G w v ls) (hG : ∀ b, G b → b < w.heap.size → H b) : LabsAt H w v ls := by
  obtain ⟨a, cap, hv, hn, h | ⟨b, off, ha, hg, hlt, hc⟩⟩ := h
  · exact ⟨a, cap, hv, hn, .inl h⟩
  · exact ⟨a, cap, hv, hn, .inr ⟨b, off, ha, hG b hg hlt, hlt, hc⟩⟩

theorem LabsAt.lay {G : Nat → Prop} {w w' : World} {v : Value} {ls : List Lab} (h : LabsAt G w v ls) (hl : Lay w w') : LabsAt G w' v ls := h.carry hl.size (fun _ _ hb => hl.block hb)
theorem LabsAt.keep {G H : Nat → Prop} {w w' : World} {v : Value} {ls : List Lab} (h : LabsAt G w v ls) (hk : Keep H w w') (hd : ∀ b, G b → b < w.heap.size → ¬ H b) : LabsAt G w' v ls := h.carry hk.size (fun b hg hb => hk.block b hb (hd b hg hb))
theorem LabsAt.alloc {G : Nat → Prop} {w : World} {v : Value} {ls : List Lab} (h : LabsAt G w v ls) (o : Obj) : LabsAt G (w.alloc o) v ls := h.lay ((Keep.refl _ _).alloc o)
theorem LabsAt.below {G : Nat → Prop} {B : Nat} {w w' : World} {v : Value} {ls : List Lab} (h : LabsAt G w v ls) (hb : Below B w w') (hG : ∀ b, G b → b < w.heap.size → b < B) : LabsAt G w' v ls := h.carry hb.size (fun b hg hlt => hb.block b (hG b hg hlt))

theorem LabsAt.nil (G : Nat → Prop) (w : World) : LabsAt G w (.slice none 0 0) [] := ⟨none, 0, rfl, by simp, .inl rfl⟩

/-- An entry, as a value, of its labels' slice. -/
def Ent.val (e : Ent) (lv : Value) : Value := .agg #[.int .i64 e.tm, lv, .string e.line]

/-- A slice of entries; where there are some, they lie in a block of G, and their labels in blocks of L. -/
def EntsAt (G L : Nat → Prop) (w : World) (v : Value) (es : List Ent) : Prop :=
  ∃ a cap, v = .slice a es.length cap ∧ es.length ≤ 9223372036854775807 ∧ (es = [] ∨ ∃ b off, a = some ⟨b, off, none⟩ ∧ G b ∧ b < w.heap.size ∧
    ∀ i (h : i < es.length), ∃ lv, w.cell? ⟨b, off + i * 3, none⟩ = some (.int .i64 es[i].tm) ∧ w.cell? ⟨b, off + i * 3 + 1, none⟩ = some lv ∧ w.cell? ⟨b, off + i * 3 + 2, none⟩ = some (.string es[i].line) ∧ LabsAt L w lv es[i].labs)

theorem EntsAt.carry {G L : Nat → Prop} {w w' : World} {v : Value} {es : List Ent} (h : EntsAt G L w v es) (hs : w.heap.size ≤ w'.heap.size) (hb : ∀ b, G b ∨ L b → b < w.heap.size → w'.heap[b]? = w.heap[b]?) : EntsAt G L w' v es := by
  obtain ⟨a, cap, hv, hn, h | ⟨b, off, ha, hg, hlt, hc⟩⟩ := h
  · exact ⟨a, cap, hv, hn, .inl h⟩
  · refine ⟨a, cap, hv, hn, .inr ⟨b, off, ha, hg, Nat.lt_of_lt_of_le hlt hs, fun i hi => ?_⟩⟩
    obtain ⟨lv, h0, h1, h2, h3⟩ := hc i hi
    have e := hb b (.inl hg) hlt
    refine ⟨lv, ?_, ?_, ?_, h3.carry hs (fun b hl => hb b (.inr hl))⟩
    · rw [World.cell?_of_block (a := ⟨b, off + i * 3, none⟩) e]; exact h0
    · rw [World.cell?_of_block (a := ⟨b, off + i * 3 + 1, none⟩) e]; exact h1
    · rw [World.cell?_of_block (a := ⟨b, off + i * 3 + 2, none⟩) e]; exact h2

theorem EntsAt.lay {G L : Nat → Prop} {w w' : World} {v : Value} {es : List Ent} (h : EntsAt G L w v es) (hl : Lay w w') : EntsAt G L w' v es := h.carry hl.size (fun _ _ hb => hl.block hb)
theorem EntsAt.keep {G L H : Nat → Prop} {w w' : World} {v : Value} {es : List Ent} (h : EntsAt G L w v es) (hk : Keep H w w') (hd : ∀ b, G b ∨ L b → b < w.heap.size → ¬ H b) : EntsAt G L w' v es := h.carry hk.size (fun b hg hb => hk.block b hb (hd b hg hb))
theorem EntsAt.mono {G H L M : Nat → Prop} {w : World} {v : Value} {es : List Ent} (h : EntsAt G L w v es) (hG : ∀ b, G b → b < w.heap.size → H b) (hL : ∀ b, L b → b < w.heap.size → M b) : EntsAt H M w v es := by
  obtain ⟨a, cap, hv, hn, h | ⟨b, off, ha, hg, hlt, hc⟩⟩ := h
  · exact ⟨a, cap, hv, hn, .inl h⟩
  · refine ⟨a, cap, hv, hn, .inr ⟨b, off, ha, hG b hg hlt, hlt, fun i hi => ?_⟩⟩
    obtain ⟨lv, h0, h1, h2, h3⟩ := hc i hi
    exact ⟨lv, h0, h1, h2, h3.mono hL⟩

end Go.Proofs.YtaghogfkkmphoaaDoor.E4

namespace Go.Proofs.YtaghogfkkmphoaaDoor.E4.MW
open Go

/-- Is a rune a word's? -/
def letter (c : Nat) : Bool := if 128 ≤ c then c != 65533 else (decide (97 ≤ c) && decide (c ≤ 122)) || (decide (65 ≤ c) && decide (c ≤ 90)) || (decide (48 ≤ c) && decide (c ≤ 57)) || c == 95

/-- The first rune of a text, and how many bytes it has. -/
def dec (l : List UInt8) : Nat × Nat := Lib.decodeN l.length (l.getD 0 0).toNat (l.getD 1 0).toNat (l.getD 2 0).toNat (l.getD 3 0).toNat

theorem get_getD (s : ByteArray) (i : Nat) : s.get! i = s.data.toList.getD i 0 := by
  simp only [ByteArray.get!, List.getD_eq_getElem?_getD, Array.getElem?_toList]
  rw [getElem!_def]
  cases s.data[i]? <;> rfl

theorem dec_at (s : ByteArray) (i : Nat) : Utf8.decode s i = dec (s.data.toList.drop i) := by
  have e : ∀ k, s.get! (i + k) = (s.data.toList.drop i).getD k 0 := fun k => by
    rw [get_getD]
    simp [List.getD_eq_getElem?_getD]
  have e0 := e 0
  rw [Nat.add_zero] at e0
  rw [Lib.decode_at s i, e0, e 1, e 2, e 3]
  unfold dec
  rw [List.length_drop]
  rfl

theorem dec_pos (l : List UInt8) : 1 ≤ (dec l).2 := by
  unfold dec Lib.decodeN
  repeat' split
  all_goals simp

theorem dec_le (l : List UInt8) (h : l ≠ []) : (dec l).2 ≤ l.length := by
  have hp := List.length_pos_iff.2 h
  unfold dec Lib.decodeN
  repeat' split
  all_goals simp only
  all_goals omega

/-- Are all its runes words'? -/
theorem drop_lt (l : List UInt8) (h : l ≠ []) : (l.drop (dec l).2).length < l.length := by
  have := dec_pos l
  have := List.length_pos_iff.2 h
  rw [List.length_drop]
  omega

def af : Nat → List UInt8 → Bool
  | 0, _ => true
  | f + 1, l => if l = [] then true else letter (dec l).1 && af f (l.drop (dec l).2)

theorem af_fuel : ∀ (n : Nat) (l : List UInt8) (f g : Nat), l.length ≤ n → l.length ≤ f → l.length ≤ g → af f l = af g l := by
  intro n
  induction n with
  | zero =>
    intro l f g h _ _
    obtain rfl := List.length_eq_zero_iff.1 (Nat.le_zero.1 h)
    cases f <;> cases g <;> simp [af]
  | succ n ih =>
    intro l f g h hf hg
    by_cases hl : l = []
    · subst hl; cases f <;> cases g <;> simp [af]
    · have hd := drop_lt l hl
      have hp := List.length_pos_iff.2 hl
      obtain ⟨f, rfl⟩ : ∃ k, f = k + 1 := ⟨f - 1, by omega⟩
      obtain ⟨g, rfl⟩ : ∃ k, g = k + 1 := ⟨g - 1, by omega⟩
      simp only [af, if_neg hl]
      rw [ih _ f g (by omega) (by omega) (by omega)]

def all (l : List UInt8) : Bool := af l.length l
theorem all_cons (l : List UInt8) (hl : l ≠ []) : all l = (letter (dec l).1 && all (l.drop (dec l).2)) := by
  have hd := drop_lt l hl
  have hp := List.length_pos_iff.2 hl
  unfold all
  obtain ⟨n, hn⟩ : ∃ n, l.length = n + 1 := ⟨l.length - 1, by omega⟩
  rw [hn]
  simp only [af, if_neg hl]
  rw [af_fuel n _ _ _ (by omega) (by omega) (Nat.le_refl _)]

/-- Is all of it one word? -/
def is (l : List UInt8) : Bool := all l && !l.isEmpty

theorem dec_drop {l : List UInt8} {pos : Nat} (h : pos < l.length) : 1 ≤ (dec (l.drop pos)).2 ∧ pos + (dec (l.drop pos)).2 ≤ l.length := by
  have h1 := dec_pos (l.drop pos)
  have h2 := dec_le (l.drop pos) (by intro e; have := congrArg List.length e; simp at this; omega)
  rw [List.length_drop] at h2
  omega

/-- A byte of a name. -/
def ch (c : UInt8) : Bool := c == 95 || (decide (48 ≤ c.toNat) && decide (c.toNat ≤ 57)) || (decide (97 ≤ c.toNat) && decide (c.toNat ≤ 122)) || (decide (65 ≤ c.toNat) && decide (c.toNat ≤ 90))
def dig (c : UInt8) : Bool := decide (48 ≤ c.toNat) && decide (c.toNat ≤ 57)
def low (c : UInt8) : Bool := decide (c.toNat < 128)

theorem ch_low (c : UInt8) (h : ch c = true) : low c = true := by
  unfold ch at h
  unfold low
  have h95 : (c == 95) = true → c.toNat = 95 := fun h => by rw [eq_of_beq h]; rfl
  simp only [Bool.or_eq_true, Bool.and_eq_true, decide_eq_true_eq] at h ⊢
  rcases h with ((h | h) | h) | h
  · have := h95 h; omega
  all_goals omega

theorem letter_ch (c : UInt8) (h : c.toNat < 128) : letter c.toNat = ch c := by
  unfold letter ch
  rw [if_neg (by omega)]
  have h95 : (c == 95) = (c.toNat == 95) := by
    rw [Bool.eq_iff_iff]
    simp only [beq_iff_eq]
    exact ⟨fun h => by rw [h]; rfl, fun h => UInt8.toNat_inj.1 h⟩
  rw [h95, Bool.eq_iff_iff]
  simp
  omega

theorem dec_low (b : UInt8) (r : List UInt8) (h : b.toNat < 128) : dec (b :: r) = (b.toNat, 1) := by
  unfold dec
  rw [Lib.decodeN]
  simp [h]

/-- Of bytes below 128 alone: a word just if all are letters. -/
theorem all_low : ∀ (l : List UInt8), l.all low = true → all l = l.all ch
  | [], _ => rfl
  | b :: r, h => by
    rw [List.all_cons, Bool.and_eq_true] at h
    have hb : b.toNat < 128 := of_decide_eq_true h.1
    rw [all_cons _ (by simp), dec_low b r hb, List.all_cons, letter_ch b hb]
    rw [List.drop_succ_cons, List.drop_zero, all_low r h.2]

/-- Can it be a label's name? -/
def name (l : List UInt8) : Bool := !l.isEmpty && decide (l.length ≤ 20) && !dig (l.headD 0) && l.all ch

theorem name_of (l : List UInt8) (h : l.length ≤ 20) (hl : l.all low = true) : name l = (is l && !dig (l.headD 0)) := by
  unfold name is
  rw [all_low l hl]
  cases l.isEmpty <;> cases dig (l.headD 0) <;> cases l.all ch <;> simp [h]

theorem name_long (l : List UInt8) (h : ¬ l.length ≤ 20) : name l = false := by unfold name; simp [h]
theorem name_is (l : List UInt8) (hl : l.all low = true) (h : is l = false) : name l = false := by
  unfold is at h
  rw [all_low l hl] at h
  unfold name
  cases h1 : l.isEmpty <;> cases h2 : l.all ch <;> simp_all
theorem name_high (l : List UInt8) (hl : l.all low = false) : name l = false := by
  unfold name
  have : l.all ch = false := by
    rw [Bool.eq_false_iff]
    intro h
    rw [Bool.eq_false_iff] at hl
    refine hl (List.all_eq_true.2 fun c hc => ch_low c (List.all_eq_true.1 h c hc))
  rw [this, Bool.and_false]

end Go.Proofs.YtaghogfkkmphoaaDoor.E4.MW

namespace Go.Proofs.YtaghogfkkmphoaaDoor.E4
open Go.RowKit Go

theorem iterPos_of {w : World} {k : Nat} {s : ByteArray} {pos : Nat} (h : w.heap[k]? = some (.stringIter s pos)) : w.iterPos k = pos := by simp [World.iterPos, h]

theorem Lay.iterAt {a w : World} (h : Lay a w) {k : Nat} (hk : a.heap.size ≤ k) (s : ByteArray) (p : Nat) : Lay a (w.iterAt k s p) :=
  have b := Lib.below_iterAt (Lay.below h) (k := k) hk s p
  ⟨b.os, b.tape, b.output, b.size, h.drawn, fun k hk _ => b.block k hk⟩

theorem ret_bool {a b : Bool} (h : a = b) : Ending.returned (.bool a) = .returned (.bool b) := by rw [h]

def letterI (c : Int) : Bool := if 128 ≤ c then c != 65533 else (decide (97 ≤ c) && decide (c ≤ 122)) || (decide (65 ≤ c) && decide (c ≤ 90)) || (decide (48 ≤ c) && decide (c ≤ 57)) || c == 95
theorem letterI_nat (n : Nat) : letterI n = MW.letter n := by
  unfold letterI MW.letter
  by_cases h : 128 ≤ n
  · rw [if_pos h, if_pos (by omega)]
    rw [Bool.eq_iff_iff]; simp; omega
  · rw [if_neg h, if_neg (by omega)]
    rw [Bool.eq_iff_iff]; simp; omega

theorem letterI_iff (c : Int) : letterI c = true ↔ (128 ≤ c ∧ c ≠ 65533) ∨ (97 ≤ c ∧ c ≤ 122) ∨ (65 ≤ c ∧ c ≤ 90) ∨ (48 ≤ c ∧ c ≤ 57) ∨ c = 95 := by
  unfold letterI
  split
  · simp; omega
  · simp; omega

set_option maxHeartbeats 1000000 in
theorem letter_any (c : Int) (w : World) : Calls Tryd.prog 98 #[.int .i32 c] w fun e w' => e = .returned (.bool (letterI c)) ∧ w = w' := by
  go_enter Tryd.func98, Tryd.ntmps98
  go_wp2
  all_goals
    go_ret
    refine ⟨ret_bool ?_, rfl⟩
    rw [Bool.eq_iff_iff, letterI_iff]
    simp
    try omega

theorem letter_nat (c : Nat) (b : Bool) (h : MW.letter c = b) (w : World) : Calls Tryd.prog 98 #[.int .i32 c] w fun e w' => e = .returned (.bool b) ∧ w = w' := by
  rw [← h, ← letterI_nat]
  exact letter_any c w

/-- What a step of a range over a string hands over. -/
theorem next_at (w : World) (k : Nat) (s : ByteArray) (pos : Nat) (ty : TypeId) (hk : w.heap[k]? = some (.stringIter s pos)) (h : pos < s.size) (c n : Nat) (hd : MW.dec (s.data.toList.drop pos) = (c, n)) :
    (Instr.next (.pointer (some ⟨k, 0, none⟩)) true ty).run Tryd.prog w = .ok (.tuple #[.bool true, .int .i64 pos, .int .i32 c]) (w.iterAt k s (pos + n)) := by
  have := Lib.run_next_any_at (P := Tryd.prog) w k s pos ty hk h
  rw [MW.dec_at, hd] at this
  exact this

set_option maxHeartbeats 1000000 in
/-- word.Is. -/
theorem is_any (s : ByteArray) (_hlen : s.size ≤ 70368744177664) (w : World) : Calls Tryd.prog 82 #[.string s] w fun e w' => e = .returned (.bool (MW.is s.data.toList)) ∧ Lay w w' := by
  have hsz : s.data.toList.length = s.size := Array.length_toList
  have HZ := Lib.hid hsz
  clear hsz
  go_enter Tryd.func82, Tryd.ntmps82
  go_wp2
  go_loopw [] (fun wr => ∃ pos : Nat, wr.heap[w.heap.size]? = some (.stringIter s pos) ∧ Lay w wr ∧ pos ≤ s.size ∧ MW.all s.data.toList = MW.all (s.data.toList.drop pos)) (fun wr => s.size - wr.iterPos w.heap.size)
  case atStart => exact ⟨0, World.iter_heap w s 0, (Keep.refl _ _).alloc _, Nat.zero_le _, rfl⟩
  case round =>
    obtain ⟨pos, hit, hb, hp, ha⟩ := hrel
    by_cases hlt : pos < s.size
    · obtain ⟨c, n, hd⟩ : ∃ c n, MW.dec (s.data.toList.drop pos) = (c, n) := ⟨_, _, rfl⟩
      have hdd := MW.dec_drop (l := s.data.toList) (pos := pos) (by rw [HZ.out]; exact hlt)
      rw [hd, HZ.out] at hdd
      have hac := MW.all_cons (s.data.toList.drop pos) (fun e => by have := congrArg List.length e; simp at this; omega)
      rw [hd, List.drop_drop] at hac
      have HA := Lib.hid ha
      have HAC := Lib.hid hac
      have HIT := Lib.hid (Lib.iterAt_heap wr _ s pos (pos + n) hit)
      have hnx := fun ty => next_at wr _ s pos ty hit hlt c n hd
      have HB := Lib.hid (hb.iterAt (k := w.heap.size) (Nat.le_refl _) s (pos + n))
      have HP0 := Lib.hid (iterPos_of hit)
      have HP1 := Lib.hid (iterPos_of HIT.out)
      clear ha hac hd hit hb
      by_cases hl : MW.letter c = true
      · have HL := Lib.hid (letter_nat c true hl (wr.iterAt w.heap.size s (pos + n)))
        have HL0 := Lib.hid hl
        clear hl
        go_wp2_with (go_at_call 98; refine HL.out.mono ?_; rintro e w' ⟨rfl, rfl⟩)
        go_roundw
        case rel => exact ⟨pos + n, HIT.out, HB.out, hdd.2, by rw [HA.out, HAC.out, HL0.out]; rfl⟩
        case measure => rw [HP0.out, HP1.out]; omega
      · have hl := Bool.eq_false_iff.2 hl
        have HL := Lib.hid (letter_nat c false hl (wr.iterAt w.heap.size s (pos + n)))
        have HL0 := Lib.hid hl
        clear hl
        go_wp2_with (go_at_call 98; refine HL.out.mono ?_; rintro e w' ⟨rfl, rfl⟩)
        go_ret
        refine ⟨ret_bool ?_, HB.out⟩
        unfold MW.is
        rw [HA.out, HAC.out, HL0.out]
        rfl
    · obtain rfl : pos = s.size := by omega
      have hnx := fun ty => Lib.run_next_end_at (P := Tryd.prog) wr _ s s.size ty hit hlt
      have HA := Lib.hid ha
      have HB := Lib.hid hb
      clear ha hb hit
      go_wp2
      go_ret
      refine ⟨ret_bool ?_, HB.out⟩
      unfold MW.is
      rw [HA.out, List.drop_of_length_le (by rw [HZ.out]; exact Nat.le_refl _)]
      rw [ByteArray.toList_eq]
      rfl

theorem idx_run (S : ByteArray) (ix bv : Nat) (hx : ix < S.size) (hb : S[ix].toNat = bv) (w : World) : (Instr.index 9 (.string S) (.int .i64 (ix : Int))).run Tryd.prog w = .ok (.int .u8 (bv : Int)) w := by
  have h : 0 ≤ (ix : Int) ∧ (ix : Int) < S.size := ⟨by omega, by omega⟩
  have e := run_index_string (P := Tryd.prog) (w := w) 9 S .i64 ix Tryd.underlying9
  rw [dif_pos h] at e
  subst hb
  exact e

theorem byte_drop (s : ByteArray) (k : Nat) (h : k < s.size) : s.data.toList.drop k = s[k] :: s.data.toList.drop (k + 1) := by
  have hl : k < s.data.toList.length := by rw [← Lib.size_eq]; exact h
  rw [List.drop_eq_getElem_cons hl]
  rfl

set_option maxHeartbeats 1000000 in
theorem digit_any (c : UInt8) (w : World) : Calls Tryd.prog 84 #[.int .u8 c.toNat] w fun e w' => e = .returned (.bool (MW.dig c)) ∧ w' = w := by
  unfold MW.dig
  generalize c.toNat = n
  by_cases h1 : 48 ≤ n
  · by_cases h2 : n ≤ 57
    · go_enter Tryd.func84, Tryd.ntmps84
      go_wp2
      go_ret
      exact ⟨by simp [h1, h2]; omega, rfl⟩
    · go_enter Tryd.func84, Tryd.ntmps84
      go_wp2
      go_ret
      exact ⟨by simp [h1, h2]; omega, rfl⟩
  · go_enter Tryd.func84, Tryd.ntmps84
    go_wp2
    go_ret
    exact ⟨by simp, rfl⟩

set_option maxHeartbeats 1000000 in
set_option maxRecDepth 100000 in
theorem plain_any (s : ByteArray) (hs : s.size ≤ 1000000) (w : World) : Calls Tryd.prog 83 #[.string s] w fun e w' => e = .returned (.bool (s.data.toList.all MW.low)) ∧ w' = w := by
  go_enter Tryd.func83, Tryd.ntmps83
  go_wp2_with fail
  go_loopw [6] (fun vi wr => ∃ k : Nat, vi = .int .i64 k ∧ k ≤ s.size ∧ wr = w ∧ s.data.toList.all MW.low = (s.data.toList.drop k).all MW.low) (fun vi _ => s.size - (intOf vi).toNat)
  case atStart => exact ⟨0, rfl, Nat.zero_le _, rfl, by simp⟩
  case round =>
    obtain ⟨k, rfl, hk, rfl, hz⟩ := hrel
    have HZ := Lib.hid hz
    clear hz
    by_cases hlt : k < s.size
    · have HD := Lib.hid (byte_drop s k hlt)
      obtain ⟨c, hc⟩ : ∃ c, c = s[k] := ⟨_, rfl⟩
      obtain ⟨n, hn⟩ : ∃ n, s[k].toNat = n := ⟨_, rfl⟩
      have HN := Lib.hid hn
      have hix := fun w => idx_run s k n hlt hn w
      rw [← hc] at HD hn
      have HC := Lib.hid hn
      clear hc hn HN
      by_cases h : 128 ≤ n
      · go_wp2_with fail
        go_ret
        refine ⟨ret_bool ?_, rfl⟩
        rw [HZ.out, HD.out, List.all_cons, show MW.low c = false from by unfold MW.low; rw [HC.out]; simp; omega]
        rfl
      · go_wp2_with fail
        go_roundw
        case rel =>
          refine ⟨k + 1, by go_num, by omega, by trivial, ?_⟩
          rw [HZ.out, HD.out, List.all_cons, show MW.low c = true from by unfold MW.low; rw [HC.out]; simp; omega, Bool.true_and]
        case measure => simp [intOf]; omega
    · obtain rfl : k = s.size := by omega
      go_wp2_with fail
      go_ret
      refine ⟨?_, rfl⟩
      rw [HZ.out, List.drop_of_length_le (by rw [← Lib.size_eq]; exact Nat.le_refl _)]
      rfl

theorem is_empty (l : List UInt8) (h : MW.is l = true) : l ≠ [] := by
  rintro rfl
  cases h

set_option maxHeartbeats 2000000 in
/-- record.Name. -/
theorem name_any (s : ByteArray) (w : World) : Calls Tryd.prog 60 #[.string s] w fun e w' => e = .returned (.bool (MW.name s.data.toList)) ∧ Lay w w' := by
  have hsz : s.data.toList.length = s.size := (Lib.size_eq s).symm
  by_cases h20 : s.size ≤ 20
  · have h20' : s.data.toList.length ≤ 20 := by omega
    cases hI : MW.is s.data.toList with
    | false =>
      have HI := Lib.hid hI
      have hr : MW.name s.data.toList = false := by
        cases hl : s.data.toList.all MW.low with
        | false => exact MW.name_high _ hl
        | true => exact MW.name_is _ hl hI
      have HR := Lib.hid hr
      clear hI hr hsz h20'
      go_enter Tryd.func60, Tryd.ntmps60
      go_wp2_with (go_at_call 82; refine (is_any s (by omega) _).mono ?_; rw [HI.out]; rintro e w' ⟨rfl, hl⟩)
      go_ret
      exact ⟨by rw [HR.out]; rfl, hl⟩
    | true =>
      have HI := Lib.hid hI
      cases hl : s.data.toList.all MW.low with
      | false =>
        have HP := Lib.hid hl
        have hr := MW.name_high _ hl
        have HR := Lib.hid hr
        clear hI hr hl hsz h20'
        go_enter Tryd.func60, Tryd.ntmps60
        go_wp2_with (first | (go_at_call 82; refine (is_any s (by omega) _).mono ?_; rw [HI.out]; rintro e w' ⟨rfl, hl⟩) | (go_at_call 83; refine (plain_any s (by omega) _).mono ?_; rw [HP.out]; rintro e w' ⟨rfl, rfl⟩))
        go_ret
        exact ⟨by rw [HR.out]; rfl, hl⟩
      | true =>
        have HP := Lib.hid hl
        have hr := MW.name_of _ h20' hl
        rw [hI, Bool.true_and] at hr
        have h0 : 0 < s.size := by
          have := is_empty _ hI
          rw [← hsz]
          exact List.length_pos_iff.2 this
        have hd : s.data.toList.headD 0 = s[0] := by
          have := byte_drop s 0 h0
          rw [List.drop_zero] at this
          rw [this]
          rfl
        rw [hd] at hr
        have HR := Lib.hid hr
        obtain ⟨n, hn⟩ : ∃ n, s[0].toNat = n := ⟨_, rfl⟩
        have hix : ∀ w, (Instr.index 9 (.string s) (.int .i64 0)).run Tryd.prog w = .ok (.int .u8 (n : Int)) w := fun w => idx_run s 0 n h0 hn w
        have hD : ∀ w, Calls Tryd.prog 84 #[.int .u8 (n : Int)] w fun e w' => e = .returned (.bool (MW.dig s[0])) ∧ w' = w := fun w => by rw [← hn]; exact digit_any s[0] w
        have HD := Lib.hid hD
        clear hI hr hl hsz h20' hd hn hD
        cases hg : MW.dig s[0]
        all_goals
          rw [hg] at HD HR
          clear hg
          go_enter Tryd.func60, Tryd.ntmps60
          go_wp2_with (first | (go_at_call 82; refine (is_any s (by omega) _).mono ?_; rw [HI.out]; rintro e w' ⟨rfl, hl⟩) | (go_at_call 83; refine (plain_any s (by omega) _).mono ?_; rw [HP.out]; rintro e w' ⟨rfl, rfl⟩) | (go_at_call 84; refine (HD.out _).mono ?_; rintro e w' ⟨rfl, rfl⟩))
          go_ret
          exact ⟨by rw [HR.out]; rfl, hl⟩
  · have hr := MW.name_long s.data.toList (by omega)
    have HR := Lib.hid hr
    clear hr hsz
    go_enter Tryd.func60, Tryd.ntmps60
    go_wp2_with fail
    go_ret
    exact ⟨by rw [HR.out]; rfl, Keep.refl _ _⟩

end Go.Proofs.YtaghogfkkmphoaaDoor.E4

namespace Go.Proofs.YtaghogfkkmphoaaDoor.E4
open Go.RowKit Go

/-- The value of the first label of a name, and whether there is one. -/
def valOf (s : ByteArray) : List Lab → ByteArray × Bool
  | [] => (⟨#[]⟩, false)
  | x :: r => if x.n.toList == s.toList then (x.v, true) else valOf s r

set_option maxHeartbeats 4000000 in
set_option maxRecDepth 100000 in
theorem value_any {G : Nat → Prop} {w : World} {e : Ent} {lv : Value} (s : ByteArray) (h : LabsAt G w lv e.labs) :
    Calls Tryd.prog 89 #[e.val lv, .string s] w fun x w' => x = .returned (.tuple #[.string (valOf s e.labs).1, .bool (valOf s e.labs).2]) ∧ Lay w w' := by
  obtain ⟨a, ca, rfl, hl63, ha⟩ := h
  obtain ⟨tm, labs, line⟩ := e
  have HA := Lib.hid ha
  have HL0 : Hid (Lay w (w.alloc (.cells #[.int .i64 tm, .slice a labs.length ca, .string line] 28))) := Lib.hid ((Keep.refl _ _).alloc _)
  unfold Ent.val
  clear ha
  simp only [] at hl63 HA ⊢
  go_enter Tryd.func89, Tryd.ntmps89
  go_wp2_with fail
  go_loopw [11] (fun vi wr => ∃ k : Nat, vi = .int .i64 k ∧ k ≤ labs.length ∧ Lay w wr ∧ valOf s labs = valOf s (labs.drop k)) (fun vi _ => labs.length - (intOf vi).toNat)
  case atStart => exact ⟨0, rfl, Nat.zero_le _, HL0.out, by simp⟩
  case round =>
    obtain ⟨k, rfl, hk, hl, hz⟩ := hrel
    have HZ := Lib.hid hz
    have HL := Lib.hid hl
    clear hz
    by_cases hlt : k < labs.length
    · rcases HA.out with h0 | ⟨bx, ox, rfl, hgx, hbx, hcx⟩
      · exact absurd hlt (by rw [h0]; simp)
      obtain ⟨x0, x1⟩ := hcx k hlt
      have g0 := (hl.cell hbx).trans x0
      have g1 := (hl.cell hbx).trans x1
      have hdx := Lib.hid (List.drop_eq_getElem_cons hlt)
      generalize labs[k] = x at g0 g1 hdx x0 x1
      clear x0 x1 hcx hl
      cases hn : (x.n.toList == s.toList) with
      | true =>
        have HN := Lib.hid hn
        go_wp2_with fail
        go_ret2
        refine ⟨?_, HL.out.alloc _⟩
        rw [HZ.out, hdx.out, valOf, if_pos HN.out]
        rfl
      | false =>
        have HN := Lib.hid hn
        go_wp2_with fail
        go_roundw
        case rel => exact ⟨k + 1, by go_num, by omega, HL.out.alloc _, by rw [HZ.out, hdx.out, valOf, HN.out]; rfl⟩
        case measure => simp [intOf]; omega
    · obtain rfl : k = labs.length := by omega
      go_wp2_with fail
      go_ret2
      refine ⟨?_, HL.out⟩
      rw [HZ.out, List.drop_length]
      rfl

set_option maxHeartbeats 4000000 in
set_option maxRecDepth 100000 in
theorem refValue_any {G : Nat → Prop} {w : World} {e : Ent} {lv : Value} (s : ByteArray) (h : LabsAt G w lv e.labs) :
    Calls Tryd.prog 91 #[e.val lv, .string s] w fun x w' => x = .returned (.tuple #[.string (valOf s e.labs).1, .bool (valOf s e.labs).2]) ∧ Lay w w' := by
  obtain ⟨a, ca, rfl, hl63, ha⟩ := h
  obtain ⟨tm, labs, line⟩ := e
  have HA := Lib.hid ha
  have HL0 : Hid (Lay w (w.alloc (.cells #[.int .i64 tm, .slice a labs.length ca, .string line] 28))) := Lib.hid ((Keep.refl _ _).alloc _)
  unfold Ent.val
  clear ha
  simp only [] at hl63 HA ⊢
  go_enter Tryd.func91, Tryd.ntmps91
  go_wp2_with fail
  go_loopw [11] (fun vi wr => ∃ k : Nat, vi = .int .i64 k ∧ k ≤ labs.length ∧ Lay w wr ∧ valOf s labs = valOf s (labs.drop k)) (fun vi _ => labs.length - (intOf vi).toNat)
  case atStart => exact ⟨0, rfl, Nat.zero_le _, HL0.out, by simp⟩
  case round =>
    obtain ⟨k, rfl, hk, hl, hz⟩ := hrel
    have HZ := Lib.hid hz
    have HL := Lib.hid hl
    clear hz
    by_cases hlt : k < labs.length
    · rcases HA.out with h0 | ⟨bx, ox, rfl, hgx, hbx, hcx⟩
      · exact absurd hlt (by rw [h0]; simp)
      obtain ⟨x0, x1⟩ := hcx k hlt
      have g0 := (hl.cell hbx).trans x0
      have g1 := (hl.cell hbx).trans x1
      have hdx := Lib.hid (List.drop_eq_getElem_cons hlt)
      generalize labs[k] = x at g0 g1 hdx x0 x1
      clear x0 x1 hcx hl
      cases hn : (x.n.toList == s.toList) with
      | true =>
        have HN := Lib.hid hn
        go_wp2_with fail
        go_ret2
        refine ⟨?_, HL.out.alloc _⟩
        rw [HZ.out, hdx.out, valOf, if_pos HN.out]
        rfl
      | false =>
        have HN := Lib.hid hn
        go_wp2_with fail
        go_roundw
        case rel => exact ⟨k + 1, by go_num, by omega, HL.out.alloc _, by rw [HZ.out, hdx.out, valOf, HN.out]; rfl⟩
        case measure => simp [intOf]; omega
    · obtain rfl : k = labs.length := by omega
      go_wp2_with fail
      go_ret2
      refine ⟨?_, HL.out⟩
      rw [HZ.out, List.drop_length]
      rfl

end Go.Proofs.YtaghogfkkmphoaaDoor.E4
