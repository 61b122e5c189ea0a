/-
  Cn15, En15, It15.
-/
import Derived.Shelf.LaysM
import Derived.Shelf.Bytes.SlIndexWhole
import Derived.Test.YtoobjjpheegmdaaGreatProg
import Derived.Test.YtoobjjpheegmdaaGreatJ31
import Derived.Test.YtoobjjpheegmdaaGreatJ12
import Derived.OwnWalkIn
import Derived.TacticsInMore
import Derived.LoopNIn
import Derived.LoopIn
import Derived.RangeFuncLeaves
import Derived.RegionIn
namespace Go.Proofs
open Go.Shelf
def Tryz.lays186_ren : Go.Shelf.Ren := ⟨fun | 186 => 178 | 185 => 181 | 187 => 186 | 115 => 187 | 253 => 188 | 224 => 47 | 254 => 189 | 255 => 197 | 291 => 198 | n => n, fun | 37 => 100 | 4 => 4 | 3 => 3 | 0 => 0 | 5 => 5 | 46 => 108 | 9 => 9 | 146 => 110 | 51 => 109 | n => n, fun | 1 => 0 | n => n⟩
theorem Tryz.lays186 : Go.Proofs.Lays.n186 Tryz.prog Tryz.lays186_ren := {
  mixed := by kernel_rfl
  f115 := Tryz.func187.trans (congrArg some (by kernel_rfl))
  f185 := Tryz.func181.trans (congrArg some (by kernel_rfl))
  f186 := Tryz.func178.trans (congrArg some (by kernel_rfl))
  f187 := Tryz.func186.trans (congrArg some (by kernel_rfl))
  f224 := Tryz.func47.trans (congrArg some (by kernel_rfl))
  f253 := Tryz.func188.trans (congrArg some (by kernel_rfl))
  f254 := Tryz.func189.trans (congrArg some (by kernel_rfl))
  f255 := Tryz.func197.trans (congrArg some (by kernel_rfl))
  f291 := Tryz.func198.trans (congrArg some (by kernel_rfl))
  t0 := Tryz.underlying0
  a0 := Tryz.isAgg0
  z0 := Tryz.sizeOf0
  v0 := Tryz.zeroValue0
  t3 := Tryz.underlying3
  a3 := Tryz.isAgg3
  z3 := Tryz.sizeOf3
  v3 := Tryz.zeroValue3
  t4 := Tryz.underlying4
  a4 := Tryz.isAgg4
  z4 := Tryz.sizeOf4
  v4 := Tryz.zeroValue4
  t5 := Tryz.underlying5
  a5 := Tryz.isAgg5
  z5 := Tryz.sizeOf5
  v5 := Tryz.zeroValue5
  t9 := Tryz.underlying9
  a9 := Tryz.isAgg9
  z9 := Tryz.sizeOf9
  v9 := Tryz.zeroValue9
  t37 := Tryz.underlying100
  a37 := Tryz.isAgg100
  z37 := Tryz.sizeOf100
  v37 := Tryz.zeroValue100
  t46 := Tryz.underlying108
  a46 := Tryz.isAgg108
  z46 := Tryz.sizeOf108
  v46 := Tryz.zeroValue108
  t51 := Tryz.underlying109
  a51 := Tryz.isAgg109
  z51 := Tryz.sizeOf109
  v51 := Tryz.zeroValue109
  t146 := Tryz.underlying110
  a146 := Tryz.isAgg110
  z146 := Tryz.sizeOf110
  v146 := Tryz.zeroValue110
  g1 := by kernel_rfl }
open Go.Proofs Go.RowKit Go.Lib in
theorem Tryz.bytes_Contains_at (a1 a2 : Addr) (n c1 k c2 : Nat) (xs ys : List Int) (m : Int) (w : World) (hx : xs.length = n) (hy : ys.length = k) (hr1 : ∀ x ∈ xs, 0 ≤ x ∧ x < 256) (hr2 : ∀ y ∈ ys, 0 ≤ y ∧ y < 256) (hc1 : ∀ i, i < n → w.cell? (a1.add i) = some (.int .u8 (xs.getD i 0))) (hc2 : ∀ i, i < k → w.cell? (a2.add i) = some (.int .u8 (ys.getD i 0))) (hcap : n ≤ c1) (hs : n < 4294967281) (hk : k ≤ 9223372036854775807) (hm : w.cell? ⟨0, 0, none⟩ = some (.int .i64 m)) :
    Calls Tryz.prog 178 #[.slice (some a1) n c1, .slice (some a2) k c2] w fun e w' => e = .returned (.bool (Lib.contains (Lib.bytesOf xs) (Lib.bytesOf ys))) ∧ ∃ q, w' = w.drewN q := Any.bytes_Contains_at Tryz.lays186 a1 a2 n c1 k c2 xs ys m w hx hy hr1 hr2 hc1 hc2 hcap hs hk hm
open Go.Proofs Go.RowKit Go.Lib in
theorem Tryz.bytes_Contains_nil (p2 : Option Addr) (k c2 : Nat) (w : World) (hk : k ≤ 9223372036854775807) (h1 : k = 1 → ∃ b2 o2 cv, p2 = some ⟨b2, o2, none⟩ ∧ w.cell? ⟨b2, o2, none⟩ = some (.int .u8 cv)) :
    Calls Tryz.prog 178 #[.slice none 0 0, .slice p2 k c2] w fun e w' => e = .returned (.bool (decide (k = 0))) ∧ w' = w := Any.bytes_Contains_nil Tryz.lays186 p2 k c2 w hk h1
def Tryz.laysM186_ren : Go.Shelf.Ren := ⟨fun | 186 => 178 | 185 => 181 | 187 => 186 | 115 => 187 | 253 => 188 | 224 => 47 | 254 => 189 | 255 => 197 | 291 => 198 | n => n, fun | 37 => 100 | 4 => 4 | 3 => 3 | 0 => 0 | 5 => 5 | 46 => 108 | 9 => 9 | 146 => 110 | 51 => 109 | n => n, fun | 1 => 0 | n => n⟩
theorem Tryz.laysM186 : Go.Proofs.LaysM.n186 Tryz.prog Tryz.laysM186_ren := {
  mixed := by kernel_rfl
  f115 := Tryz.func187.trans (congrArg some (by kernel_rfl))
  f185 := Tryz.func181.trans (congrArg some (by kernel_rfl))
  f186 := Tryz.func178.trans (congrArg some (by kernel_rfl))
  f187 := Tryz.func186.trans (congrArg some (by kernel_rfl))
  f224 := Tryz.func47.trans (congrArg some (by kernel_rfl))
  f253 := Tryz.func188.trans (congrArg some (by kernel_rfl))
  f254 := Tryz.func189.trans (congrArg some (by kernel_rfl))
  f255 := Tryz.func197.trans (congrArg some (by kernel_rfl))
  f291 := Tryz.func198.trans (congrArg some (by kernel_rfl))
  t0 := Tryz.underlying0
  a0 := Tryz.isAgg0
  z0 := Tryz.sizeOf0
  v0 := Tryz.zeroValue0
  t3 := Tryz.underlying3
  a3 := Tryz.isAgg3
  z3 := Tryz.sizeOf3
  v3 := Tryz.zeroValue3
  t4 := Tryz.underlying4
  a4 := Tryz.isAgg4
  z4 := Tryz.sizeOf4
  v4 := Tryz.zeroValue4
  t5 := Tryz.underlying5
  a5 := Tryz.isAgg5
  z5 := Tryz.sizeOf5
  v5 := Tryz.zeroValue5
  t9 := Tryz.underlying9
  a9 := Tryz.isAgg9
  z9 := Tryz.sizeOf9
  v9 := Tryz.zeroValue9
  t37 := Tryz.underlying100
  a37 := Tryz.isAgg100
  z37 := Tryz.sizeOf100
  v37 := Tryz.zeroValue100
  t46 := Tryz.underlying108
  a46 := Tryz.isAgg108
  z46 := Tryz.sizeOf108
  v46 := Tryz.zeroValue108
  t51 := Tryz.underlying109
  a51 := Tryz.isAgg109
  z51 := Tryz.sizeOf109
  v51 := Tryz.zeroValue109
  t146 := Tryz.underlying110
  a146 := Tryz.isAgg110
  z146 := Tryz.sizeOf110
  v146 := Tryz.zeroValue110
  g1 := by kernel_rfl
  i0 := by kernel_rfl
  i3 := by kernel_rfl
  i4 := by kernel_rfl
  i5 := by kernel_rfl
  i9 := by kernel_rfl
  i37 := by kernel_rfl
  i46 := by kernel_rfl
  i51 := by kernel_rfl
  i146 := by kernel_rfl
  m1 := by kernel_rfl
  s1_3 := fun w h => Go.Proofs.cell_of_shapedOpen_int (zero := #[.int .i64 0]) (t := 3) h (of_decide_eq_true (by kernel_rfl)) (by kernel_rfl) rfl (by kernel_rfl) (by kernel_rfl) Tryz.underlying3 }
end Go.Proofs
namespace Go.Proofs.YtoobjjpheegmdaaGreat.E4
open Go.RowKit Go
theorem ok_time {x : Ent} (h : x.ok = true) : -1099511627776 ≤ x.tm ∧ x.tm ≤ 1099511627776 := by
  unfold Ent.ok timeOK at h
  simp only [Bool.and_eq_true, decide_eq_true_eq] at h
  exact h.1.1
theorem ok_mod {x : Ent} (h : x.ok = true) : x.Mod := by
  obtain ⟨h1, h2⟩ := ok_time h
  obtain ⟨h3, h4, h5⟩ := ok_small h
  exact ⟨by omega, by omega, ⟨by omega, fun y hy => by have := h4 y hy; omega⟩, by omega⟩
theorem ok_big {x : Ent} (h : x.ok = true) : x.big = false := by
  obtain ⟨h3, h4, h5⟩ := ok_small h
  unfold Ent.big
  rw [decide_eq_false (by omega), decide_eq_false (by omega)]
  simp only [Bool.or_false, Bool.false_or]
  refine List.any_eq_false.2 fun y hy => ?_
  have := h4 y hy
  unfold Lab.big
  simp only [Bool.or_eq_true, decide_eq_true_eq]
  omega
theorem ok_len {x : Ent} (h : x.ok = true) : x.bytes.length ≤ 10000 := small_len ⟨(ok_mod h).lo, (ok_mod h).hi⟩ (ok_big h)
theorem RU.over {most : Nat} {l : List UInt8} {n : Nat} {l' : List UInt8} {b' : Bool} (h : RU most l true n l' b') : b' = true ∧ l' = l := by
  cases h with
  | bad l => exact ⟨rfl, rfl⟩
theorem RU.nothing {most n : Nat} {l' : List UInt8} {b' : Bool} (h : RU most [] false n l' b') : b' = true ∧ l' = [] := by
  obtain ⟨l, hl⟩ : ∃ l, l = ([] : List UInt8) := ⟨_, rfl⟩
  rw [← hl] at h
  cases h with
  | good l0 c r hn hm => simp at hl
  | none l h => exact ⟨rfl, rfl⟩
theorem RT.over {most : Nat} {l t l' : List UInt8} {b' : Bool} (h : RT most l true t l' b') : b' = true ∧ l' = l := by
  cases h with
  | bad n l1 h => exact ⟨rfl, (RU.over h).2⟩
  | short n l1 h hn => exact absurd (RU.over h).1 (by decide)
  | good n l1 h hn => exact absurd (RU.over h).1 (by decide)
theorem RLs.over {l0 : List UInt8} {b0 : Bool} (h0 : b0 = true) {ls : List Lab} {l : List UInt8} {b : Bool} (h : RLs l0 b0 ls l b) : b = true ∧ l = l0 := by
  induction h with
  | nil => exact ⟨h0, rfl⟩
  | snoc h h1 h2 ih =>
    obtain ⟨hb, hl⟩ := ih
    subst hb
    obtain ⟨h3, h4⟩ := RT.over h1
    subst h3
    obtain ⟨h5, h6⟩ := RT.over h2
    exact ⟨h5, h6.trans (h4.trans hl)⟩
theorem get_end {y : Ent} {l' : List UInt8} {b' : Bool} (h : RE [] false y l' b') : b' = true ∧ l' = [] := by
  obtain ⟨n, l1, b1, l2, b2, l3, b3, h1, _, h3, h4, h5⟩ := h.ex
  obtain ⟨rfl, rfl⟩ := RU.nothing h1
  obtain ⟨rfl, rfl⟩ := RU.over h3
  obtain ⟨rfl, rfl⟩ := RLs.over rfl h4
  exact RT.over h5
theorem get_next {x y : Ent} {r : List Ent} {l' : List UInt8} {b' : Bool} (hx : x.ok = true) (h : RE (bytesF (x :: r)) false y l' b') : y = x ∧ l' = bytesF r ∧ b' = false := by
  obtain ⟨h3, h4, h5⟩ := ok_small hx
  exact re_put h3 h4 h5 ⟨(ok_mod hx).lo, (ok_mod hx).hi⟩ rfl h
theorem uv_ne (n : Nat) : Lib.uvarint n ≠ [] := by
  by_cases h : n < 128
  · rw [Lib.uvarint_small h]; simp
  · rw [Lib.uvarint_big (by omega)]; simp
theorem bytes_ne0 (x : Ent) : x.bytes ≠ [] := by
  unfold Ent.bytes
  simp [uv_ne]
theorem contains_mid (a b c : List UInt8) : Lib.contains (a ++ (b ++ c)) b = true := by
  unfold Lib.contains
  rcases Lib.index_spec (a ++ (b ++ c)) b with ⟨_, h2⟩ | ⟨i, h1, _⟩
  · have h3 := h2 a.length (by simp)
    unfold Lib.occAt at h3
    rw [List.drop_left] at h3
    have h4 : b.isPrefixOf (b ++ c) = true := List.isPrefixOf_iff_prefix.2 (List.prefix_append b c)
    rw [h4] at h3
    cases h3
  · rw [h1]
    exact decide_eq_true (by omega)
theorem contains_mem {es : List Ent} {x : Ent} (h : x ∈ es) : Lib.contains (bytesF es) x.bytes = true := by
  obtain ⟨a, b, rfl⟩ := List.append_of_mem h
  rw [bytesF_append]
  exact contains_mid _ _ _
theorem contains_none {k : List UInt8} (h : k ≠ []) : Lib.contains [] k = false := by
  unfold Lib.contains Lib.index
  cases k with
  | nil => exact absurd rfl h
  | cons c r => rfl
theorem bytesF_small {es : List Ent} (h : ∀ x ∈ es, x.ok = true) (hn : es.length ≤ 1000) : (bytesF es).length ≤ 10000000 := by
  have := bytesF_len es fun x hx => ok_len (h x hx)
  omega
def MaxI (w : World) : Prop := ∃ m : Int, w.cell? ⟨0, 0, none⟩ = some (.int .i64 m)
theorem MaxI.pos {w : World} (h : MaxI w) : 0 < w.heap.size := h.elim fun _ h => World.block_lt_of_cell? w ⟨0, 0, none⟩ h
theorem MaxI.carry {w w' : World} (h : MaxI w) (hb : w'.heap[0]? = w.heap[0]?) : MaxI w' := h.elim fun m h => ⟨m, (World.cell?_of_block (a := ⟨0, 0, none⟩) hb).trans h⟩
theorem MaxI.below {B : Nat} {w w' : World} (h : MaxI w) (hb : Below B w w') (hB : 0 < B) : MaxI w' := h.carry (hb.block 0 hB)
theorem MaxI.below1 {w w' : World} (h : MaxI w) (hb : Below w.heap.size w w') : MaxI w' := h.below hb h.pos
structure EngC5 (w : World) (B gb : Nat) (tv : Value) (es : List Ent) : Prop where
  c : Bl w gb 102 #[tv, .int .i64 es.length]
  t : By (fun b => B ≤ b ∧ b ≠ gb) w tv (bytesF es)
  pos : 0 < B
  low : B ≤ gb
  ok : ∀ x ∈ es, x.ok = true
  nd : es.Nodup
  mx : MaxI w
def EngAt5 (w : World) (B gb : Nat) (es : List Ent) : Prop := ∃ tv, EngC5 w B gb tv es
theorem EngC5.below {w w' : World} {B gb : Nat} {tv : Value} {es : List Ent} (h : EngC5 w B gb tv es) (hb : Below w.heap.size w w') : EngC5 w' B gb tv es :=
  ⟨h.c.below hb, h.t.below1 hb, h.pos, h.low, h.ok, h.nd, h.mx.below1 hb⟩
theorem EngAt5.below {w w' : World} {B gb : Nat} {es : List Ent} (h : EngAt5 w B gb es) (hb : Below w.heap.size w w') : EngAt5 w' B gb es := h.elim fun tv h => ⟨tv, h.below hb⟩
theorem EngC5.carry {w w' : World} {B gb : Nat} {tv : Value} {es : List Ent} (h : EngC5 w B gb tv es) (hs : w.heap.size ≤ w'.heap.size) (hb : ∀ b, b < w.heap.size → (b = 0 ∨ b = gb ∨ At tv b) → w'.heap[b]? = w.heap[b]?) : EngC5 w' B gb tv es :=
  ⟨(hb _ h.c.lt (.inr (.inl rfl))).trans h.c, h.t.carry hs fun b _ ha hlt => hb b hlt (.inr (.inr ha)), h.pos, h.low, h.ok, h.nd, h.mx.carry (hb 0 h.mx.pos (.inl rfl))⟩
theorem EngAt5.foot {w : World} {B gb : Nat} {es : List Ent} (h : EngAt5 w B gb es) : ∃ tv, EngC5 w 1 gb tv es ∧ ∀ b, (b = gb ∨ At tv b) → B ≤ b ∧ b < w.heap.size := by
  obtain ⟨tv, h⟩ := h
  have hp := h.pos
  have hl := h.low
  have hlt := h.c.lt
  refine ⟨tv, ⟨h.c, h.t.mono fun b hg _ => ⟨Nat.le_trans hp hg.1, hg.2⟩, Nat.le_refl _, Nat.le_trans hp hl, h.ok, h.nd, h.mx⟩, fun b hb => ?_⟩
  rcases hb with rfl | hb
  · exact ⟨hl, hlt⟩
  · exact ⟨(h.t.at hb).1.1, (h.t.at hb).2⟩
def numsL (l : List UInt8) : List Int := l.map fun b => (b.toNat : Int)
theorem numsL_bytes (l : List UInt8) : Lib.bytesOf (numsL l) = l := by
  unfold Lib.bytesOf numsL
  rw [List.map_map]
  exact (List.map_congr_left fun b _ => by simp).trans (List.map_id l)
theorem numsL_range (l : List UInt8) : ∀ x ∈ numsL l, 0 ≤ x ∧ x < 256 := fun x hx => by
  obtain ⟨b, _, rfl⟩ := List.mem_map.1 hx
  have := b.toNat_lt
  omega
theorem numsL_at {w : World} {g : Nat} {l : List UInt8} (h : ∀ j, j < (cellsOf l).length → w.cell? ⟨g, j, none⟩ = (cellsOf l)[j]?) : ∀ i, i < l.length → w.cell? ((⟨g, 0, none⟩ : Addr).add i) = some (.int .u8 ((numsL l).getD i 0)) := fun i hi => by
  rw [add_lit, Nat.zero_add, h i (by rw [cellsOf_length]; exact hi)]
  simp [cellsOf, numsL, List.getD, hi]
theorem contains_any {G H : Nat → Prop} {w : World} {tv sv : Value} {l k : List UInt8} (ht : By G w tv l) (hs : By H w sv k) (hk0 : k ≠ []) (hl : l.length ≤ 10000000) (hk : k.length ≤ 10000000) (hm : MaxI w) :
    Calls Tryz.prog 178 #[tv, sv] w fun e w' => e = .returned (.bool (Lib.contains l k)) ∧ ∃ q, w' = w.drewN q := by
  obtain ⟨_, ⟨_, h0⟩ | ⟨g2, c2, rfl, _, _, hc2, _, hcs2, _⟩⟩ := hs
  · exact absurd (List.eq_nil_of_length_eq_zero h0) hk0
  obtain ⟨m, hm⟩ := hm
  obtain ⟨_, ⟨rfl, h0⟩ | ⟨g1, c1, rfl, _, _, hc1, _, hcs1, _⟩⟩ := ht
  · have e0 : l = [] := List.eq_nil_of_length_eq_zero h0
    subst e0
    refine (Tryz.bytes_Contains_nil (some ⟨g2, 0, none⟩) k.length c2 w (by omega) (fun h1 => ⟨g2, 0, ((numsL k).getD 0 0), rfl, ?_⟩)).mono ?_
    · have := numsL_at hcs2 0 (by omega)
      rwa [add_lit] at this
    · rintro e w' ⟨rfl, rfl⟩
      have h2 : ¬ k.length = 0 := fun h => hk0 (List.eq_nil_of_length_eq_zero h)
      exact ⟨by rw [contains_none hk0, decide_eq_false h2], 0, rfl⟩
  · have h := Tryz.bytes_Contains_at ⟨g1, 0, none⟩ ⟨g2, 0, none⟩ l.length c1 k.length c2 (numsL l) (numsL k) m w (by simp [numsL]) (by simp [numsL]) (numsL_range l) (numsL_range k) (numsL_at hcs1) (numsL_at hcs2) hc1 (by omega) (by omega) hm
    rw [numsL_bytes, numsL_bytes] at h
    exact h
end Go.Proofs.YtoobjjpheegmdaaGreat.E4
namespace Go.Proofs.YtoobjjpheegmdaaGreat.E4
open Go.RowKit Go Go.Shelf
attribute [local go_sem] Oper.semAt_some
theorem wide_fn (f : FuncId) : Fence.wide.fn f = True := rfl
theorem wide_depth : Fence.wide.depth = none := rfl
attribute [local go_sem] wide_fn wide_depth
def encE (B0 : Nat) (x : Ent) (args : Array Value) (own : Nat → Prop) (W : World) : Prop := ∃ lv, args = #[x.val lv] ∧ LabsAt own W lv x.labs ∧ ∀ b, own b → B0 ≤ b
def NxS (r : Nat) (rest : List Ent) (x : Ent) (lv : Value) (b : Bool) (w w' : World) : Prop :=
  (rest = [] ∧ b = false ∧ Rd w' r [] true) ∨ ∃ t, rest = x :: t ∧ b = true ∧ LabsAt (fun b => w.heap.size ≤ b) w' lv x.labs ∧ Rd w' r (bytesF t) false
def Nx (r : Nat) (rest : List Ent) (w : World) (e : Ending) (w' : World) : Prop :=
  ∃ (x : Ent) (a : Option Addr) (n c : Nat) (b : Bool), e = .returned (.tuple #[.agg #[.int .i64 x.tm, .slice a n c, .string x.line], .bool b]) ∧ Chg r w w' ∧ NxS r rest x (.slice a n c) b w w'
theorem next_any {r : Nat} {rest : List Ent} {w : World} (h : Rd w r (bytesF rest) false) (hok : ∀ x ∈ rest, x.ok = true) :
    Calls Tryz.prog 184 #[.pointer (some ⟨r, 0, none⟩)] w (Nx r rest w) := by
  refine (get_any r _ false w h).mono ?_
  rintro e w' ⟨x, lv, l', b', hre, _, hrd, hch, hlb, rfl⟩
  cases rest with
  | nil =>
    obtain ⟨rfl, rfl⟩ := get_end hre
    exact ⟨eZ, none, 0, 0, false, rfl, hch, .inl ⟨rfl, rfl, hrd⟩⟩
  | cons y t =>
    obtain ⟨rfl, rfl, rfl⟩ := get_next (hok y (by simp)) hre
    obtain ⟨a, c, rfl, _⟩ := id hlb
    exact ⟨x, a, x.labs.length, c, true, by rw [hok x (by simp)]; rfl, hch, .inr ⟨t, rfl, rfl, hlb, hrd⟩⟩
theorem from_any (s : ByteArray) (w : World) : Calls Tryz.prog 183 #[.string s] w fun e w' => e = .returned (.pointer (some ⟨w.heap.size, 0, none⟩)) ∧ w.alloc (.cells #[.string s, .bool false] 242) = w' := by
  go_enter Tryz.func183, Tryz.ntmps183
  go_wp2_with fail
  go_ret
  exact ⟨rfl, rfl⟩
theorem from_rd (w : World) (l : List UInt8) (hl : l.length ≤ 70368744177664) : Rd (w.alloc (.cells #[.string ⟨l.toArray⟩, .bool false] 242)) w.heap.size l false :=
  ⟨⟨⟨l.toArray⟩, rfl, by go_simp⟩, by go_simp, by go_simp, by go_simp, hl⟩
def ebox (W : World) (k : Nat) (x : Ent) (lv : Value) : Prop := Bx W k (.int .i64 x.tm) lv (.string x.line)
theorem Bx.lt {W : World} {k : Nat} {u0 u1 u2 : Value} (h : Bx W k u0 u1 u2) : k < W.heap.size := World.block_lt_of_cell? W ⟨k, 0, none⟩ h.c0
theorem Bx.all {W : World} {k : Nat} {u0 u1 u2 : Value} (h : Bx W k u0 u1 u2) (v0 v1 v2 : Value) : Bx (((W.setCell ⟨k, 0, none⟩ v0).setCell ⟨k, 1, none⟩ v1).setCell ⟨k, 2, none⟩ v2) k v0 v1 v2 := ((h.set0 v0).set1 v1).set2 v2
theorem set3_keep (W : World) (k : Nat) (v0 v1 v2 : Value) : IT.Keep (fun b => b = k) W (((W.setCell ⟨k, 0, none⟩ v0).setCell ⟨k, 1, none⟩ v1).setCell ⟨k, 2, none⟩ v2) :=
  ((IT.keep_setCell (G := fun b => b = k) W k v0 rfl).trans ((IT.Keep.refl (fun b => b = k) _).setCell (p := ⟨k, 1, none⟩) (.inr rfl) v1)).trans ((IT.Keep.refl (fun b => b = k) _).setCell (p := ⟨k, 2, none⟩) (.inr rfl) v2)
theorem Bx.new (W : World) (t : Int) (lv : Value) (s : ByteArray) : Bx (W.alloc (.cells #[.int .i64 t, lv, .string s] 32)) W.heap.size (.int .i64 t) lv (.string s) := ⟨by go_simp, by go_simp, by go_simp, by go_simp, by go_simp, by go_simp⟩
theorem Bx.kept {G : Nat → Prop} {W W' : World} {k : Nat} {u0 u1 u2 : Value} (h : Bx W k u0 u1 u2) (hk : IT.Keep G W W') (hn : ¬ G k) : Bx W' k u0 u1 u2 := h.carry (hk.block k h.lt hn)
theorem Rd.kept {G : Nat → Prop} {W W' : World} {r : Nat} {l : List UInt8} {b : Bool} (h : Rd W r l b) (hk : IT.Keep G W W') (hn : ¬ G r) : Rd W' r l b := h.carry (hk.block r h.lt hn)
theorem LabsAt.kept {G H : Nat → Prop} {W W' : World} {lv : Value} {ls : List Lab} (h : LabsAt G W lv ls) (hk : IT.Keep H W W') (hn : ∀ b, G b → b < W.heap.size → ¬ H b) : LabsAt G W' lv ls := h.carry hk.size fun b hg hlt => hk.block b hlt (hn b hg hlt)
structure ItS (es : List Ent) (J : List Ent → IT.Stance) (G : Nat → Prop) (W : World) (r : Nat) (v4 v5 : Value) (k : Nat) (G1 : Nat → Prop) (bx : Nat) (wr : World) : Prop where
  le : k ≤ es.length
  v4 : v4 = .pointer (some ⟨bx, 0, none⟩)
  j : J (es.take k) G1 wr
  live : IT.Live G1 wr
  g : ∀ b, G1 b → G b ∨ W.heap.size ≤ b
  keep : IT.Keep G W wr
  nr : ¬ G1 r
  nb : ¬ G1 bx
  rb : r ≠ bx
  rlt : r < wr.heap.size
  wbx : W.heap.size ≤ bx
  box : ∃ u0 u1 u2, Bx wr bx u0 u1 u2
  st : (k = es.length ∧ v5 = .bool false ∧ Rd wr r [] true) ∨ ∃ (h : k < es.length) (lv : Value), v5 = .bool true ∧ ebox wr bx es[k] lv ∧ LabsAt (fun b => ¬ G1 b ∧ b ≠ r ∧ b ≠ bx ∧ W.heap.size ≤ b) wr lv es[k].labs ∧ Rd wr r (bytesF (es.drop (k + 1))) false
theorem ItS.put {es : List Ent} {J : List Ent → IT.Stance} {G : Nat → Prop} {W : World} {r : Nat} {k : Nat} {G1 : Nat → Prop} {bx : Nat} {w3 : World} {wn : World} {x : Ent} {lv : Value} {b : Bool} (hJ : ∀ s, IT.Stable (J s))
    (hle : k ≤ es.length) (hj : J (es.take k) G1 w3) (hlv : IT.Live G1 w3) (hg : ∀ b, G1 b → G b ∨ W.heap.size ≤ b) (hk : IT.Keep G W w3) (hnr : ¬ G1 r) (hnb : ¬ G1 bx) (hrb : r ≠ bx) (hr : r < w3.heap.size) (hW : W.heap.size ≤ bx) (hs : IT.Keep (fun b => b = bx) w3 wn) (hb3 : ebox wn bx x lv)
    (hst : (es.drop k = [] ∧ b = false ∧ Rd w3 r [] true) ∨ ∃ t, es.drop k = x :: t ∧ b = true ∧ LabsAt (fun b => ¬ G1 b ∧ b ≠ r ∧ b ≠ bx ∧ W.heap.size ≤ b) w3 lv x.labs ∧ Rd w3 r (bytesF t) false) :
    ItS es J G W r (.pointer (some ⟨bx, 0, none⟩)) (.bool b) k G1 bx wn := by
  refine ⟨hle, rfl, hJ _ G1 _ _ hj hlv (hs.into fun b _ h hg => hnb (h ▸ hg)), fun b hb => Nat.lt_of_lt_of_le (hlv b hb) hs.size, hg, IT.Keep.after (fun b h => .inr (by subst h; exact hW)) hk hs, hnr, hnb, hrb, Nat.lt_of_lt_of_le hr hs.size, hW, ⟨_, _, _, hb3⟩, ?_⟩
  rcases hst with ⟨h1, h2, h3⟩ | ⟨t, h1, h2, h3, h4⟩
  · exact .inl ⟨by have := List.drop_eq_nil_iff.1 h1; omega, by rw [h2], h3.kept hs (fun e => hrb e)⟩
  · have hlt : k < es.length := by
      have := congrArg List.length h1
      rw [List.length_drop, List.length_cons] at this
      omega
    have h5 := List.drop_eq_getElem_cons hlt
    rw [h5] at h1
    simp only [List.cons.injEq] at h1
    obtain ⟨h6, h7⟩ := h1
    refine .inr ⟨hlt, lv, by rw [h2], by rw [h6]; exact hb3, ?_, ?_⟩
    · rw [h6]
      exact h3.kept hs (fun b hb _ e => hb.2.2.1 e)
    · rw [h7]
      exact h4.kept hs (fun e => hrb e)
def mLeft (r : Nat) (v5 : Value) (wr : World) : Nat := (match wr.cell? ⟨r, 0, none⟩ with | some (.string s) => s.data.toList.length | _ => 0) + (match v5 with | .bool true => 1 | _ => 0)
theorem mLeft_rd {r : Nat} {wr : World} {l : List UInt8} {b c : Bool} (h : Rd wr r l b) : mLeft r (.bool c) wr = l.length + if c then 1 else 0 := by
  obtain ⟨s, hs, hc⟩ := h.str
  unfold mLeft
  rw [hc]
  simp only [hs]
  cases c <;> rfl
theorem ItS.less {es : List Ent} {J : List Ent → IT.Stance} {G G2 : Nat → Prop} {W : World} {r : Nat} {v4 v4' v5' : Value} {k : Nat} {G1 : Nat → Prop} {bx bx' : Nat} {wr wr' : World} (h : ItS es J G W r v4 (.bool true) k G1 bx wr) (h' : ItS es J G W r v4' v5' (k + 1) G2 bx' wr') : mLeft r v5' wr' < mLeft r (.bool true) wr := by
  rcases h.st with ⟨_, h2, _⟩ | ⟨h1, lv, _, _, _, h2⟩
  · cases h2
  rw [mLeft_rd h2]
  rcases h'.st with ⟨_, rfl, h3⟩ | ⟨h3, lv', rfl, _, _, h4⟩
  · rw [mLeft_rd h3]; simp
  · rw [mLeft_rd h4, List.drop_eq_getElem_cons h3]
    have h5 : 0 < es[k + 1].bytes.length := List.length_pos_iff.2 (bytes_ne0 _)
    rw [show bytesF (es[k + 1] :: es.drop (k + 1 + 1)) = es[k + 1].bytes ++ bytesF (es.drop (k + 1 + 1)) from rfl, List.length_append]
    simp only [if_true]
    omega
set_option maxHeartbeats 8000000 in
set_option maxRecDepth 100000 in
theorem entries_gives {w : World} {B gb : Nat} {tv : Value} {es : List Ent} (h : EngC5 w B gb tv es) (eb : Nat) (hbx : IT.Box w eb 83 (.pointer (some ⟨gb, 0, none⟩))) (hn : es.length ≤ 1000) :
    IT.Gives Tryz.prog 182 #[.pointer (some ⟨eb, 0, none⟩)] (fun k => k = eb ∨ k = gb ∨ At tv k) (encE w.heap.size) es w := by
  intro l J Jx G W hW hCG hJ hJx hY h0J hlive
  have hmx : Tryz.prog.follows .mixedOrders = true := by kernel_rfl
  have heb := (hbx.keep hW (fun h => h (.inl rfl))).cell
  have hcW : Bl W gb 102 #[tv, .int .i64 es.length] := (hW.block _ h.c.lt (fun h => h (.inr (.inl rfl)))).trans h.c
  have htW : By (fun b => B ≤ b ∧ b ≠ gb) W tv (bytesF es) := h.t.carry hW.size fun b _ ha hlt => hW.block b hlt fun h => h (.inr (.inr ha))
  have y0 := hcW.cell 0
  simp only [List.getElem?_toArray, List.getElem?_cons_zero] at y0
  have hcv := bs_string htW.bs
  have hlen := bytesF_small h.ok hn
  have HOK := Lib.hid h.ok
  have HSZ := Lib.hid hW.size
  have HJ := Lib.hid hJ
  have HJX := Lib.hid hJx
  have HY := Lib.hid hY
  have H0 := Lib.hid h0J
  have HLV := Lib.hid hlive
  obtain ⟨W1, hW1⟩ : ∃ W1, W1 = W.alloc (.cells #[.string ⟨(bytesF es).toArray⟩, .bool false] 242) := ⟨_, rfl⟩
  have HFR := Lib.hid (from_any ⟨(bytesF es).toArray⟩ W)
  rw [← hW1] at HFR
  have hrd1 : Rd W1 W.heap.size (bytesF es) false := by rw [hW1]; exact from_rd W _ (by omega)
  have hk1 : ∀ H, IT.Keep H W W1 := fun H => by rw [hW1]; exact (IT.Keep.refl H W).alloc _
  have hs1 : W1.heap.size = W.heap.size + 1 := by rw [hW1]; simp
  have HGT := Lib.hid (next_any hrd1 h.ok)
  have HK1 := Lib.hid hk1
  have HS1 := Lib.hid hs1
  clear hbx hcW htW hlen hJ hJx hY h0J hlive hW hCG h hW1 hrd1 hk1 hs1
  refine (callsIn_wide (n := 5)).1 ?_
  refine callsIn_of_wp Tryz.func182 rfl trivial ?_
  simp only [Tryz.ntmps182, List.size_toArray, List.length_cons, List.length_nil, Nat.reduceAdd, Nat.reduceSub, Array.replicate_succ, Array.replicate_zero, List.push_toArray, List.append_toArray, List.nil_append, List.cons_append]
  gi_wp2_with fail
  refine (callsIn_wide.2 HFR.out).mono ?_
  rintro e w' ⟨rfl, rfl⟩
  clear heb y0 hcv HFR
  gi_wp2_with fail
  refine (callsIn_wide.2 HGT.out).mono ?_
  rintro e w3 ⟨x, ax, nx, cx, bb, rfl, hch, hst⟩
  have hI : ItS es J G W W.heap.size (.pointer (some ⟨w3.heap.size, 0, none⟩)) (.bool bb) 0 G w3.heap.size (w3.alloc (.cells #[.int .i64 x.tm, .slice ax nx cx, .string x.line] 32)) := by
    have hk3 : IT.Keep (fun b => b = W.heap.size) W1 w3 := IT.Keep.ofChg hch
    have hs1 := HS1.out
    have hs3 := hk3.size
    have hkw : IT.Keep G W w3 := IT.Keep.after (fun b h => .inr (by subst h; exact Nat.le_refl _)) (HK1.out G) hk3
    have hnr : ¬ G W.heap.size := fun h => by have := HLV.out _ h; omega
    refine ItS.put HJ.out (Nat.zero_le _) (HJ.out _ G W _ H0.out HLV.out (IT.Keep.after (fun b h => .inr (by subst h; exact Nat.le_refl _)) (HK1.out _) hk3)) (fun b hb => Nat.lt_of_lt_of_le (HLV.out b hb) hkw.size) (fun b hb => .inl hb) hkw hnr (fun h => by have := HLV.out _ h; omega) (by omega) (by omega) (by omega) ((IT.Keep.refl _ w3).alloc _) (Bx.new w3 _ _ _) ?_
    rcases hst with ⟨h1, h2, h3⟩ | ⟨t, h1, h2, h3, h4⟩
    · exact .inl ⟨h1, h2, h3⟩
    · refine .inr ⟨t, h1, h2, ?_, h4⟩
      exact h3.mono (H := fun b => ¬ G b ∧ b ≠ W.heap.size ∧ b ≠ w3.heap.size ∧ W.heap.size ≤ b) fun b hb hlt => ⟨fun hg => by have := HLV.out _ hg; omega, by omega, by omega, by omega⟩
  have HI := Lib.hid hI
  clear hI hch hst
  gi_wp2_with fail
  gi_loopw [4, 5] (fun v4 v5 wr => ∃ (k : Nat) (G1 : Nat → Prop) (bx : Nat), ItS es J G W W.heap.size v4 v5 k G1 bx wr) (fun _ v5 wr => mLeft W.heap.size v5 wr)
  case atStart => exact ⟨0, G, _, HI.out⟩
  case round =>
    obtain ⟨k, G1, bx, hI⟩ := hrel
    rcases hI.st with ⟨rfl, rfl, _⟩ | ⟨hlt, lv, rfl, hbox, hlb, hrd⟩
    · obtain rfl := hI.v4
      have hj := hI.j
      rw [List.take_of_length_le (Nat.le_refl _)] at hj
      have HN := Lib.hid (IT.Next.mk (J := J es) (W := W) (W' := wr) G1 hj hI.live hI.g hI.keep)
      clear hj hI HI
      gi_wp2_with fail
      go_end0
      exact ⟨⟨_, rfl⟩, .inl HN.out⟩
    · obtain rfl := hI.v4
      obtain ⟨aa, ca, rfl, _⟩ := id hlb
      obtain ⟨x0, x1, x2, z0, z1, z2⟩ := id hbox
      have htk := List.take_append_getElem hlt
      have HDR := Lib.hid (List.drop_eq_getElem_cons hlt)
      have hpre : es.take k ++ [es[k]] <+: es := by rw [htk]; exact List.take_prefix _ _
      obtain ⟨fn, tmps, assign, body, hy, hR⟩ := HY.out (es.take k) es[k] G1 (fun b => ¬ G1 b ∧ b ≠ W.heap.size ∧ b ≠ bx ∧ W.heap.size ≤ b ∧ b < wr.heap.size) wr #[es[k].val (.slice aa es[k].labs.length ca)]
        ⟨_, rfl, hlb.mono fun b hb hlt => ⟨hb.1, hb.2.1, hb.2.2.1, hb.2.2.2, hlt⟩, fun b hb => Nat.le_trans HSZ.out hb.2.2.2.1⟩ (fun b hb => hb.1) (fun b hb => hb.2.2.2.2) hpre hI.j hI.live 5
      rw [htk] at hR
      have HR := Lib.hid hR
      have HII := Lib.hid hI
      have HRD := Lib.hid hrd
      have HBX := Lib.hid hbox
      have HPR := Lib.hid hpre
      have HHY := Lib.hid hy
      clear hR hI hrd hbox hpre hlb
      rw [htk] at HPR
      generalize es[k] = x at *
      simp only [Ent.val] at hy
      gi_wp2_with fail
      refine (IT.round_any HR.out).mono ?_
      rintro e W2 (⟨rfl, hn2⟩ | ⟨rfl, hn2⟩)
      · obtain ⟨G2, hJ2, hl2, hg2, hk2⟩ := hn2
        have hnr2 : ¬ (G1 W.heap.size ∨ (¬ G1 W.heap.size ∧ W.heap.size ≠ W.heap.size ∧ W.heap.size ≠ bx ∧ W.heap.size ≤ W.heap.size ∧ W.heap.size < wr.heap.size)) := fun h => h.elim HII.out.nr fun h => h.2.1 rfl
        have hnb2 : ¬ (G1 bx ∨ (¬ G1 bx ∧ bx ≠ W.heap.size ∧ bx ≠ bx ∧ W.heap.size ≤ bx ∧ bx < wr.heap.size)) := fun h => h.elim HII.out.nb fun h => h.2.2.1 rfl
        have hb2 : Bx W2 bx (.int .i64 x.tm) (.slice aa x.labs.length ca) (.string x.line) := Bx.kept HBX.out hk2 hnb2
        have hr2 : Rd W2 W.heap.size (bytesF (es.drop (k + 1))) false := HRD.out.kept hk2 hnr2
        have hgr2 : ¬ G2 W.heap.size := fun h => by
          rcases hg2 _ h with h | h
          · exact hnr2 h
          · have := HII.out.rlt; omega
        have hkw2 : IT.Keep G W W2 := IT.Keep.after (fun b h => h.elim (HII.out.g b) fun h => .inr h.2.2.2.1) HII.out.keep hk2
        have hgw2 : ∀ b, G2 b → G b ∨ W.heap.size ≤ b := fun b h => by
          rcases hg2 b h with (h | h) | h
          · exact HII.out.g b h
          · exact .inr h.2.2.2.1
          · exact .inr (Nat.le_trans HII.out.keep.size h)
        have hrl2 := hr2.lt
        obtain ⟨W3, hW3⟩ : ∃ W3, W3 = W2.alloc (.cells #[.int .i64 x.tm, .slice aa x.labs.length ca, .string x.line] 32) := ⟨_, rfl⟩
        have hb3 : Bx W3 W2.heap.size (.int .i64 x.tm) (.slice aa x.labs.length ca) (.string x.line) := by rw [hW3]; exact Bx.new W2 _ _ _
        have hk3 : IT.Lay W2 W3 := by rw [hW3]; exact (IT.Keep.refl _ W2).alloc _
        have hr3 : Rd W3 W.heap.size (bytesF (es.drop (k + 1))) false := hr2.kept hk3 (fun h => h)
        have HG3 := Lib.hid (next_any hr3 (fun y hy => HOK.out y (List.mem_of_mem_drop hy)))
        obtain ⟨x0, x1, x2, _, _, _⟩ := id hb2
        have HB3 := Lib.hid hb3
        have HK3 := Lib.hid hk3
        have HW3 := Lib.hid hW3.symm
        have HJ2 := Lib.hid hJ2
        have HL2 := Lib.hid hl2
        have HGR2 := Lib.hid hgr2
        have HKW2 := Lib.hid hkw2
        have HGW2 := Lib.hid hgw2
        clear hJ2 hl2 hg2 hk2 hnr2 hnb2 hb2 hr2 hgr2 hkw2 hgw2 hb3 hk3 hr3 hW3 hy HHY HR
        gi_wp2_with fail
        rw [HW3.out]
        refine (callsIn_wide.2 HG3.out).mono ?_
        rintro e w4 ⟨x', a', n', c', b', rfl, hch, hst⟩
        have hk4 : IT.Keep (fun b => b = W.heap.size) W3 w4 := IT.Keep.ofChg hch
        have hne : W2.heap.size ≠ W.heap.size := by omega
        have hb4 := HB3.out.kept hk4 hne
        have hk24 : IT.Keep (fun b => b = W.heap.size) W2 w4 := (IT.Lay.keep HK3.out).trans hk4
        have hw2 := HKW2.out.size
        have hs4 := hk24.size
        have HIT : Hid (ItS es J G W W.heap.size (.pointer (some ⟨W2.heap.size, 0, none⟩)) (.bool b') (k + 1) G2 W2.heap.size (((w4.setCell ⟨W2.heap.size, 0, none⟩ (.int .i64 x'.tm)).setCell ⟨W2.heap.size, 1, none⟩ (.slice a' n' c')).setCell ⟨W2.heap.size, 2, none⟩ (.string x'.line))) := Lib.hid (by
          refine ItS.put HJ.out (by omega) (HJ.out _ G2 _ _ HJ2.out HL2.out (hk24.into fun b _ h hg => HGR2.out (h ▸ hg))) (fun b hb => Nat.lt_of_lt_of_le (HL2.out b hb) hs4) HGW2.out (IT.Keep.after (fun b h => .inr (by subst h; exact Nat.le_refl _)) HKW2.out hk24) HGR2.out (fun h => by have := HL2.out _ h; omega) (fun e => hne e.symm) (by omega) hw2 (set3_keep w4 _ _ _ _) (hb4.all _ _ _) ?_
          rcases hst with ⟨h1, h2, h3⟩ | ⟨t, h1, h2, h3, h4⟩
          · exact .inl ⟨h1, h2, h3⟩
          · refine .inr ⟨t, h1, h2, h3.mono fun b hb hlt => ?_, h4⟩
            have h5 := HK3.out.size
            have h6 := HB3.out.lt
            exact ⟨fun hg => by have := HL2.out _ hg; omega, by omega, by omega, by omega⟩)
        obtain ⟨_, _, _, z0, z1, z2⟩ := id hb4
        obtain ⟨y0, y1, y2, _, _, _⟩ := id hb4
        clear hk4 hb4 hk24 hst hch HG3 x0 x1 x2 HBX
        gi_wp2_with fail
        go_roundw
        case rel => exact ⟨k + 1, G2, _, HIT.out⟩
        case measure => exact ItS.less HII.out HIT.out
      · have HN : Hid (IT.Next (Jx (es.take (k + 1))) G W W2) := Lib.hid (IT.Next.from (fun b h => h.elim (HII.out.g b) fun h => .inr h.2.2.2.1) HII.out.keep hn2)
        clear hn2 hy HHY HR
        gi_wp2_with fail
        refine bodyPost_ret (results_none rfl _ _ _) rfl ?_
        exact ⟨⟨_, rfl⟩, .inr ⟨_, HPR.out, HN.out⟩⟩
theorem entries_any (p : Option Addr) (w : World) : Calls Tryz.prog 179 #[.pointer p] w fun e w' => e = .returned (.func (.func 182) #[] #[.pointer (some ⟨w.heap.size, 0, none⟩)]) ∧ w.alloc (.cells #[.pointer p] 83) = w' := by
  go_enter Tryz.func179, Tryz.ntmps179
  go_wp2_with fail
  go_ret
  exact ⟨rfl, rfl⟩
end Go.Proofs.YtoobjjpheegmdaaGreat.E4
