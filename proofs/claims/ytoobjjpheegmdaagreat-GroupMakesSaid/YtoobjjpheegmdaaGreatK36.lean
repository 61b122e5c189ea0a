/-
  Cn15, En15.
-/
import Derived.Shelf.LaysM
import Derived.Shelf.Bytes.SlIndexWhole
import Derived.Test.YtoobjjpheegmdaaGreatProg
import Derived.Test.YtoobjjpheegmdaaGreatK35
import Derived.Test.YtoobjjpheegmdaaGreatK13
namespace Go.Proofs
open Go.Shelf
def Tryz.lays186_ren : Go.Shelf.Ren := ⟨fun | 186 => 178 | 185 => 181 | 187 => 186 | 115 => 187 | 253 => 188 | 224 => 47 | 254 => 189 | 255 => 197 | 291 => 198 | n => n, fun | 37 => 100 | 4 => 4 | 3 => 3 | 0 => 0 | 5 => 5 | 46 => 108 | 9 => 9 | 146 => 110 | 51 => 109 | n => n, fun | 1 => 0 | n => n⟩
theorem Tryz.lays186 : Go.Proofs.Lays.n186 Tryz.prog Tryz.lays186_ren := {
  mixed := by kernel_rfl
  f115 := Tryz.func187.trans (congrArg some (by kernel_rfl))
  f185 := Tryz.func181.trans (congrArg some (by kernel_rfl))
  f186 := Tryz.func178.trans (congrArg some (by kernel_rfl))
  f187 := Tryz.func186.trans (congrArg some (by kernel_rfl))
  f224 := Tryz.func47.trans (congrArg some (by kernel_rfl))
  f253 := Tryz.func188.trans (congrArg some (by kernel_rfl))
  f254 := Tryz.func189.trans (congrArg some (by kernel_rfl))
  f255 := Tryz.func197.trans (congrArg some (by kernel_rfl))
  f291 := Tryz.func198.trans (congrArg some (by kernel_rfl))
  t0 := Tryz.underlying0
  a0 := Tryz.isAgg0
  z0 := Tryz.sizeOf0
  v0 := Tryz.zeroValue0
  t3 := Tryz.underlying3
  a3 := Tryz.isAgg3
  z3 := Tryz.sizeOf3
  v3 := Tryz.zeroValue3
  t4 := Tryz.underlying4
  a4 := Tryz.isAgg4
  z4 := Tryz.sizeOf4
  v4 := Tryz.zeroValue4
  t5 := Tryz.underlying5
  a5 := Tryz.isAgg5
  z5 := Tryz.sizeOf5
  v5 := Tryz.zeroValue5
  t9 := Tryz.underlying9
  a9 := Tryz.isAgg9
  z9 := Tryz.sizeOf9
  v9 := Tryz.zeroValue9
  t37 := Tryz.underlying100
  a37 := Tryz.isAgg100
  z37 := Tryz.sizeOf100
  v37 := Tryz.zeroValue100
  t46 := Tryz.underlying108
  a46 := Tryz.isAgg108
  z46 := Tryz.sizeOf108
  v46 := Tryz.zeroValue108
  t51 := Tryz.underlying109
  a51 := Tryz.isAgg109
  z51 := Tryz.sizeOf109
  v51 := Tryz.zeroValue109
  t146 := Tryz.underlying110
  a146 := Tryz.isAgg110
  z146 := Tryz.sizeOf110
  v146 := Tryz.zeroValue110
  g1 := by kernel_rfl }
open Go.Proofs Go.RowKit Go.Lib in
theorem Tryz.bytes_Contains_at (a1 a2 : Addr) (n c1 k c2 : Nat) (xs ys : List Int) (m : Int) (w : World) (hx : xs.length = n) (hy : ys.length = k) (hr1 : ∀ x ∈ xs, 0 ≤ x ∧ x < 256) (hr2 : ∀ y ∈ ys, 0 ≤ y ∧ y < 256) (hc1 : ∀ i, i < n → w.cell? (a1.add i) = some (.int .u8 (xs.getD i 0))) (hc2 : ∀ i, i < k → w.cell? (a2.add i) = some (.int .u8 (ys.getD i 0))) (hcap : n ≤ c1) (hs : n < 4294967281) (hk : k ≤ 9223372036854775807) (hm : w.cell? ⟨0, 0, none⟩ = some (.int .i64 m)) :
    Calls Tryz.prog 178 #[.slice (some a1) n c1, .slice (some a2) k c2] w fun e w' => e = .returned (.bool (Lib.contains (Lib.bytesOf xs) (Lib.bytesOf ys))) ∧ ∃ q, w' = w.drewN q := Any.bytes_Contains_at Tryz.lays186 a1 a2 n c1 k c2 xs ys m w hx hy hr1 hr2 hc1 hc2 hcap hs hk hm
open Go.Proofs Go.RowKit Go.Lib in
theorem Tryz.bytes_Contains_nil (p2 : Option Addr) (k c2 : Nat) (w : World) (hk : k ≤ 9223372036854775807) (h1 : k = 1 → ∃ b2 o2 cv, p2 = some ⟨b2, o2, none⟩ ∧ w.cell? ⟨b2, o2, none⟩ = some (.int .u8 cv)) :
    Calls Tryz.prog 178 #[.slice none 0 0, .slice p2 k c2] w fun e w' => e = .returned (.bool (decide (k = 0))) ∧ w' = w := Any.bytes_Contains_nil Tryz.lays186 p2 k c2 w hk h1
def Tryz.laysM186_ren : Go.Shelf.Ren := ⟨fun | 186 => 178 | 185 => 181 | 187 => 186 | 115 => 187 | 253 => 188 | 224 => 47 | 254 => 189 | 255 => 197 | 291 => 198 | n => n, fun | 37 => 100 | 4 => 4 | 3 => 3 | 0 => 0 | 5 => 5 | 46 => 108 | 9 => 9 | 146 => 110 | 51 => 109 | n => n, fun | 1 => 0 | n => n⟩
theorem Tryz.laysM186 : Go.Proofs.LaysM.n186 Tryz.prog Tryz.laysM186_ren := {
  mixed := by kernel_rfl
  f115 := Tryz.func187.trans (congrArg some (by kernel_rfl))
  f185 := Tryz.func181.trans (congrArg some (by kernel_rfl))
  f186 := Tryz.func178.trans (congrArg some (by kernel_rfl))
  f187 := Tryz.func186.trans (congrArg some (by kernel_rfl))
  f224 := Tryz.func47.trans (congrArg some (by kernel_rfl))
  f253 := Tryz.func188.trans (congrArg some (by kernel_rfl))
  f254 := Tryz.func189.trans (congrArg some (by kernel_rfl))
  f255 := Tryz.func197.trans (congrArg some (by kernel_rfl))
  f291 := Tryz.func198.trans (congrArg some (by kernel_rfl))
  t0 := Tryz.underlying0
  a0 := Tryz.isAgg0
  z0 := Tryz.sizeOf0
  v0 := Tryz.zeroValue0
  t3 := Tryz.underlying3
  a3 := Tryz.isAgg3
  z3 := Tryz.sizeOf3
  v3 := Tryz.zeroValue3
  t4 := Tryz.underlying4
  a4 := Tryz.isAgg4
  z4 := Tryz.sizeOf4
  v4 := Tryz.zeroValue4
  t5 := Tryz.underlying5
  a5 := Tryz.isAgg5
  z5 := Tryz.sizeOf5
  v5 := Tryz.zeroValue5
  t9 := Tryz.underlying9
  a9 := Tryz.isAgg9
  z9 := Tryz.sizeOf9
  v9 := Tryz.zeroValue9
  t37 := Tryz.underlying100
  a37 := Tryz.isAgg100
  z37 := Tryz.sizeOf100
  v37 := Tryz.zeroValue100
  t46 := Tryz.underlying108
  a46 := Tryz.isAgg108
  z46 := Tryz.sizeOf108
  v46 := Tryz.zeroValue108
  t51 := Tryz.underlying109
  a51 := Tryz.isAgg109
  z51 := Tryz.sizeOf109
  v51 := Tryz.zeroValue109
  t146 := Tryz.underlying110
  a146 := Tryz.isAgg110
  z146 := Tryz.sizeOf110
  v146 := Tryz.zeroValue110
  g1 := by kernel_rfl
  i0 := by kernel_rfl
  i3 := by kernel_rfl
  i4 := by kernel_rfl
  i5 := by kernel_rfl
  i9 := by kernel_rfl
  i37 := by kernel_rfl
  i46 := by kernel_rfl
  i51 := by kernel_rfl
  i146 := by kernel_rfl
  m1 := by kernel_rfl
  s1_3 := fun w h => Go.Proofs.cell_of_shapedOpen_int (zero := #[.int .i64 0]) (t := 3) h (of_decide_eq_true (by kernel_rfl)) (by kernel_rfl) rfl (by kernel_rfl) (by kernel_rfl) Tryz.underlying3 }
end Go.Proofs
namespace Go.Proofs.YtoobjjpheegmdaaGreat.E4
open Go.RowKit Go
theorem ok_time {x : Ent} (h : x.ok = true) : -1099511627776 ≤ x.tm ∧ x.tm ≤ 1099511627776 := by
  unfold Ent.ok timeOK at h
  simp only [Bool.and_eq_true, decide_eq_true_eq] at h
  exact h.1.1
theorem ok_mod {x : Ent} (h : x.ok = true) : x.Mod := by
  obtain ⟨h1, h2⟩ := ok_time h
  obtain ⟨h3, h4, h5⟩ := ok_small h
  exact ⟨by omega, by omega, ⟨by omega, fun y hy => by have := h4 y hy; omega⟩, by omega⟩
theorem ok_big {x : Ent} (h : x.ok = true) : x.big = false := by
  obtain ⟨h3, h4, h5⟩ := ok_small h
  unfold Ent.big
  rw [decide_eq_false (by omega), decide_eq_false (by omega)]
  simp only [Bool.or_false, Bool.false_or]
  refine List.any_eq_false.2 fun y hy => ?_
  have := h4 y hy
  unfold Lab.big
  simp only [Bool.or_eq_true, decide_eq_true_eq]
  omega
theorem ok_len {x : Ent} (h : x.ok = true) : x.bytes.length ≤ 10000 := small_len ⟨(ok_mod h).lo, (ok_mod h).hi⟩ (ok_big h)
theorem RU.over {most : Nat} {l : List UInt8} {n : Nat} {l' : List UInt8} {b' : Bool} (h : RU most l true n l' b') : b' = true ∧ l' = l := by
  cases h with
  | bad l => exact ⟨rfl, rfl⟩
theorem RU.nothing {most n : Nat} {l' : List UInt8} {b' : Bool} (h : RU most [] false n l' b') : b' = true ∧ l' = [] := by
  obtain ⟨l, hl⟩ : ∃ l, l = ([] : List UInt8) := ⟨_, rfl⟩
  rw [← hl] at h
  cases h with
  | good l0 c r hn hm => simp at hl
  | none l h => exact ⟨rfl, rfl⟩
theorem RT.over {most : Nat} {l t l' : List UInt8} {b' : Bool} (h : RT most l true t l' b') : b' = true ∧ l' = l := by
  cases h with
  | bad n l1 h => exact ⟨rfl, (RU.over h).2⟩
  | short n l1 h hn => exact absurd (RU.over h).1 (by decide)
  | good n l1 h hn => exact absurd (RU.over h).1 (by decide)
theorem RLs.over {l0 : List UInt8} {b0 : Bool} (h0 : b0 = true) {ls : List Lab} {l : List UInt8} {b : Bool} (h : RLs l0 b0 ls l b) : b = true ∧ l = l0 := by
  induction h with
  | nil => exact ⟨h0, rfl⟩
  | snoc h h1 h2 ih =>
    obtain ⟨hb, hl⟩ := ih
    subst hb
    obtain ⟨h3, h4⟩ := RT.over h1
    subst h3
    obtain ⟨h5, h6⟩ := RT.over h2
    exact ⟨h5, h6.trans (h4.trans hl)⟩
theorem get_end {y : Ent} {l' : List UInt8} {b' : Bool} (h : RE [] false y l' b') : b' = true ∧ l' = [] := by
  obtain ⟨n, l1, b1, l2, b2, l3, b3, h1, _, h3, h4, h5⟩ := h.ex
  obtain ⟨rfl, rfl⟩ := RU.nothing h1
  obtain ⟨rfl, rfl⟩ := RU.over h3
  obtain ⟨rfl, rfl⟩ := RLs.over rfl h4
  exact RT.over h5
theorem get_next {x y : Ent} {r : List Ent} {l' : List UInt8} {b' : Bool} (hx : x.ok = true) (h : RE (bytesF (x :: r)) false y l' b') : y = x ∧ l' = bytesF r ∧ b' = false := by
  obtain ⟨h3, h4, h5⟩ := ok_small hx
  exact re_put h3 h4 h5 ⟨(ok_mod hx).lo, (ok_mod hx).hi⟩ rfl h
theorem uv_ne (n : Nat) : Lib.uvarint n ≠ [] := by
  by_cases h : n < 128
  · rw [Lib.uvarint_small h]; simp
  · rw [Lib.uvarint_big (by omega)]; simp
theorem bytes_ne0 (x : Ent) : x.bytes ≠ [] := by
  unfold Ent.bytes
  simp [uv_ne]
theorem contains_mid (a b c : List UInt8) : Lib.contains (a ++ (b ++ c)) b = true := by
  unfold Lib.contains
  rcases Lib.index_spec (a ++ (b ++ c)) b with ⟨_, h2⟩ | ⟨i, h1, _⟩
  · have h3 := h2 a.length (by simp)
    unfold Lib.occAt at h3
    rw [List.drop_left] at h3
    have h4 : b.isPrefixOf (b ++ c) = true := List.isPrefixOf_iff_prefix.2 (List.prefix_append b c)
    rw [h4] at h3
    cases h3
  · rw [h1]
    exact decide_eq_true (by omega)
theorem contains_mem {es : List Ent} {x : Ent} (h : x ∈ es) : Lib.contains (bytesF es) x.bytes = true := by
  obtain ⟨a, b, rfl⟩ := List.append_of_mem h
  rw [bytesF_append]
  exact contains_mid _ _ _
theorem contains_none {k : List UInt8} (h : k ≠ []) : Lib.contains [] k = false := by
  unfold Lib.contains Lib.index
  cases k with
  | nil => exact absurd rfl h
  | cons c r => rfl
theorem bytesF_small {es : List Ent} (h : ∀ x ∈ es, x.ok = true) (hn : es.length ≤ 1000) : (bytesF es).length ≤ 10000000 := by
  have := bytesF_len es fun x hx => ok_len (h x hx)
  omega
def MaxI (w : World) : Prop := ∃ m : Int, w.cell? ⟨0, 0, none⟩ = some (.int .i64 m)
theorem MaxI.pos {w : World} (h : MaxI w) : 0 < w.heap.size := h.elim fun _ h => World.block_lt_of_cell? w ⟨0, 0, none⟩ h
theorem MaxI.carry {w w' : World} (h : MaxI w) (hb : w'.heap[0]? = w.heap[0]?) : MaxI w' := h.elim fun m h => ⟨m, (World.cell?_of_block (a := ⟨0, 0, none⟩) hb).trans h⟩
theorem MaxI.below {B : Nat} {w w' : World} (h : MaxI w) (hb : Below B w w') (hB : 0 < B) : MaxI w' := h.carry (hb.block 0 hB)
theorem MaxI.below1 {w w' : World} (h : MaxI w) (hb : Below w.heap.size w w') : MaxI w' := h.below hb h.pos
structure EngC5 (w : World) (B gb : Nat) (tv : Value) (es : List Ent) : Prop where
  c : Bl w gb 102 #[tv, .int .i64 es.length]
  t : By (fun b => B ≤ b ∧ b ≠ gb) w tv (bytesF es)
  pos : 0 < B
  low : B ≤ gb
  ok : ∀ x ∈ es, x.ok = true
  nd : es.Nodup
  mx : MaxI w
def EngAt5 (w : World) (B gb : Nat) (es : List Ent) : Prop := ∃ tv, EngC5 w B gb tv es
theorem EngC5.below {w w' : World} {B gb : Nat} {tv : Value} {es : List Ent} (h : EngC5 w B gb tv es) (hb : Below w.heap.size w w') : EngC5 w' B gb tv es :=
  ⟨h.c.below hb, h.t.below1 hb, h.pos, h.low, h.ok, h.nd, h.mx.below1 hb⟩
theorem EngAt5.below {w w' : World} {B gb : Nat} {es : List Ent} (h : EngAt5 w B gb es) (hb : Below w.heap.size w w') : EngAt5 w' B gb es := h.elim fun tv h => ⟨tv, h.below hb⟩
theorem EngC5.carry {w w' : World} {B gb : Nat} {tv : Value} {es : List Ent} (h : EngC5 w B gb tv es) (hs : w.heap.size ≤ w'.heap.size) (hb : ∀ b, b < w.heap.size → (b = 0 ∨ b = gb ∨ At tv b) → w'.heap[b]? = w.heap[b]?) : EngC5 w' B gb tv es :=
  ⟨(hb _ h.c.lt (.inr (.inl rfl))).trans h.c, h.t.carry hs fun b _ ha hlt => hb b hlt (.inr (.inr ha)), h.pos, h.low, h.ok, h.nd, h.mx.carry (hb 0 h.mx.pos (.inl rfl))⟩
theorem EngAt5.foot {w : World} {B gb : Nat} {es : List Ent} (h : EngAt5 w B gb es) : ∃ tv, EngC5 w 1 gb tv es ∧ ∀ b, (b = gb ∨ At tv b) → B ≤ b ∧ b < w.heap.size := by
  obtain ⟨tv, h⟩ := h
  have hp := h.pos
  have hl := h.low
  have hlt := h.c.lt
  refine ⟨tv, ⟨h.c, h.t.mono fun b hg _ => ⟨Nat.le_trans hp hg.1, hg.2⟩, Nat.le_refl _, Nat.le_trans hp hl, h.ok, h.nd, h.mx⟩, fun b hb => ?_⟩
  rcases hb with rfl | hb
  · exact ⟨hl, hlt⟩
  · exact ⟨(h.t.at hb).1.1, (h.t.at hb).2⟩
def numsL (l : List UInt8) : List Int := l.map fun b => (b.toNat : Int)
theorem numsL_bytes (l : List UInt8) : Lib.bytesOf (numsL l) = l := by
  unfold Lib.bytesOf numsL
  rw [List.map_map]
  exact (List.map_congr_left fun b _ => by simp).trans (List.map_id l)
theorem numsL_range (l : List UInt8) : ∀ x ∈ numsL l, 0 ≤ x ∧ x < 256 := fun x hx => by
  obtain ⟨b, _, rfl⟩ := List.mem_map.1 hx
  have := b.toNat_lt
  omega
theorem numsL_at {w : World} {g : Nat} {l : List UInt8} (h : ∀ j, j < (cellsOf l).length → w.cell? ⟨g, j, none⟩ = (cellsOf l)[j]?) : ∀ i, i < l.length → w.cell? ((⟨g, 0, none⟩ : Addr).add i) = some (.int .u8 ((numsL l).getD i 0)) := fun i hi => by
  rw [add_lit, Nat.zero_add, h i (by rw [cellsOf_length]; exact hi)]
  simp [cellsOf, numsL, List.getD, hi]
theorem contains_any {G H : Nat → Prop} {w : World} {tv sv : Value} {l k : List UInt8} (ht : By G w tv l) (hs : By H w sv k) (hk0 : k ≠ []) (hl : l.length ≤ 10000000) (hk : k.length ≤ 10000000) (hm : MaxI w) :
    Calls Tryz.prog 178 #[tv, sv] w fun e w' => e = .returned (.bool (Lib.contains l k)) ∧ ∃ q, w' = w.drewN q := by
  obtain ⟨_, ⟨_, h0⟩ | ⟨g2, c2, rfl, _, _, hc2, _, hcs2, _⟩⟩ := hs
  · exact absurd (List.eq_nil_of_length_eq_zero h0) hk0
  obtain ⟨m, hm⟩ := hm
  obtain ⟨_, ⟨rfl, h0⟩ | ⟨g1, c1, rfl, _, _, hc1, _, hcs1, _⟩⟩ := ht
  · have e0 : l = [] := List.eq_nil_of_length_eq_zero h0
    subst e0
    refine (Tryz.bytes_Contains_nil (some ⟨g2, 0, none⟩) k.length c2 w (by omega) (fun h1 => ⟨g2, 0, ((numsL k).getD 0 0), rfl, ?_⟩)).mono ?_
    · have := numsL_at hcs2 0 (by omega)
      rwa [add_lit] at this
    · rintro e w' ⟨rfl, rfl⟩
      have h2 : ¬ k.length = 0 := fun h => hk0 (List.eq_nil_of_length_eq_zero h)
      exact ⟨by rw [contains_none hk0, decide_eq_false h2], 0, rfl⟩
  · have h := Tryz.bytes_Contains_at ⟨g1, 0, none⟩ ⟨g2, 0, none⟩ l.length c1 k.length c2 (numsL l) (numsL k) m w (by simp [numsL]) (by simp [numsL]) (numsL_range l) (numsL_range k) (numsL_at hcs1) (numsL_at hcs2) hc1 (by omega) (by omega) hm
    rw [numsL_bytes, numsL_bytes] at h
    exact h
end Go.Proofs.YtoobjjpheegmdaaGreat.E4
