/-
  AN ENGINE THAT LOOKS WORDS UP, AS IT LIES: its entries, the bytes that are known, the places of each word.
-/
import Derived.Test.YtfifjcjicipcmaaGreatDoorBs13
import Derived.Test.YtfifjcjicipcmaaGreatDoorMa13
import Derived.Test.YtfifjcjicipcmaaGreatDoorNb
import Derived.Test.YtfifjcjicipcmaaGreatDoorHw
import Derived.Test.YtfifjcjicipcmaaGreatDoorAk12
namespace Go.Proofs.YtfifjcjicipcmaaGreatDoor.E4
open Go.RowKit Go
open Go.Sort (grow)

theorem Keep.below13 {G : Nat → Prop} {B : Nat} {w w' : World} (h : Keep G w w') (hG : ∀ k, G k → B ≤ k) (hB : B ≤ w.heap.size) : Below B w w' :=
  ⟨h.os, h.tape, h.output, h.size, fun k hk => h.block k (Nat.lt_of_lt_of_le hk hB) fun hg => by have := hG k hg; omega⟩

/-- Numbers, as cells. -/
def ints (l : List Nat) : List Value := l.map fun n : Nat => Value.int .i64 (n : Int)
theorem ints_len (l : List Nat) : (ints l).length = l.length := List.length_map ..
theorem ints_snoc (l : List Nat) (n : Nat) : ints (l ++ [n]) = ints l ++ [.int .i64 (n : Int)] := by simp [ints]
theorem ints_get (l : List Nat) (i : Nat) (h : i < l.length) : (ints l)[i]? = some (.int .i64 (l[i] : Int)) := by simp [ints, h]

theorem infoI : (Tryz.prog.info? 3).map (fun i => (i.zero, i.size, i.bytes)) = some (some (.int .i64 0), 1, 8) := by kernel_rfl
theorem elemI : ∃ i z, Elem Tryz.prog 96 3 i z 1 8 := by
  obtain ⟨i, hi, hz, hs, hb⟩ := info_parts infoI
  exact ⟨i, _, Tryz.underlying96, hi, hz, hs, hb, by kernel_rfl⟩

/-- What stands at a key, nil if there is nothing. -/
def atK (f : ByteArray → Option Value) (s : ByteArray) : Value := (f s).getD (.slice none 0 0)

/-- A map of rows of numbers: F at each key; the rows lie apart, in blocks of G. -/
def PlAt (G : Nat → Prop) (w : World) (mb n : Nat) (F : ByteArray → List Nat) : Prop :=
  ∃ f, MapAt Tryz.prog 9 w mb n f ∧ (∀ s, Rk 1 G w (atK f s) (F s).length (ints (F s))) ∧ ∀ s t, s ≠ t → ∀ k, At (atK f s) k → ¬ At (atK f t) k

theorem PlAt.carry {G : Nat → Prop} {w w' : World} {mb n : Nat} {F : ByteArray → List Nat} (h : PlAt G w mb n F) (hs : w.heap.size ≤ w'.heap.size) (hm : w'.heap[mb]? = w.heap[mb]?) (hb : ∀ k, G k → k < w.heap.size → w'.heap[k]? = w.heap[k]?) : PlAt G w' mb n F := by
  obtain ⟨f, h1, h2, h3⟩ := h
  exact ⟨f, h1.carry hm, fun s => (h2 s).carry hs fun k hk _ hlt => hb k hk hlt, h3⟩
theorem PlAt.mono {G H : Nat → Prop} {w : World} {mb n m : Nat} {F : ByteArray → List Nat} (h : PlAt G w mb n F) (hG : ∀ k, G k → k < w.heap.size → H k) (hn : n ≤ m) : PlAt H w mb m F := by
  obtain ⟨f, h1, h2, h3⟩ := h
  exact ⟨f, h1.mono hn, fun s => (h2 s).mono fun k hk ha => hG k hk ((h2 s).at ha).2, h3⟩
theorem PlAt.lt {G : Nat → Prop} {w : World} {mb n : Nat} {F : ByteArray → List Nat} (h : PlAt G w mb n F) : mb < w.heap.size := by
  obtain ⟨f, h1, _⟩ := h
  exact h1.lt
theorem PlAt.empty {G : Nat → Prop} {w : World} {mb n : Nat} (h : MapAt Tryz.prog 9 w mb n (fun _ => none)) : PlAt G w mb n (fun _ => []) :=
  ⟨fun _ => none, h, fun _ => Rk.nil 1 G w, fun _ _ _ k h => by obtain ⟨_, _, h⟩ := h; simp [atK] at h⟩

/-- Where a word stands among entries' lines. -/
def posF (es : List Ent) (s : ByteArray) : List Nat := (List.range es.length).filter fun i => (es[i]?).any fun e => H3.hasB e.line s

theorem posF_snoc (es : List Ent) (e : Ent) (s : ByteArray) : posF (es ++ [e]) s = posF es s ++ if H3.hasB e.line s then [es.length] else [] := by
  unfold posF
  rw [List.length_append, List.length_singleton, List.range_succ, List.filter_append]
  congr 1
  · refine List.filter_congr fun i hi => ?_
    rw [List.getElem?_append_left (List.mem_range.1 hi)]
  · simp only [List.filter_cons, List.filter_nil]
    rw [List.getElem?_append_right (Nat.le_refl _), Nat.sub_self]
    simp

theorem mem_posF {es : List Ent} {s : ByteArray} {p : Nat} : p ∈ posF es s ↔ ∃ h : p < es.length, H3.hasB es[p].line s = true := by
  unfold posF
  rw [List.mem_filter, List.mem_range]
  constructor
  · rintro ⟨h, h2⟩
    rw [List.getElem?_eq_getElem h] at h2
    exact ⟨h, h2⟩
  · rintro ⟨h, h2⟩
    rw [List.getElem?_eq_getElem h]
    exact ⟨h, h2⟩

theorem posF_len (es : List Ent) (s : ByteArray) : (posF es s).length ≤ es.length := Nat.le_trans (List.length_filter_le _ _) (by rw [List.length_range]; exact Nat.le_refl _)

/-- An entry's bytes, as a text. -/
def Ent.key (e : Ent) : ByteArray := ⟨e.bytes.toArray⟩
/-- Which bytes are known. -/
def knownF (es : List Ent) (s : ByteArray) : Option Value := if (es.any fun x => decide (x.key = s)) = true then some (.agg #[]) else none

/-- An engine: its box gb, its entries v (R: as they lie), the map kb of what is known, the map pb of places. κ: of which kind a block is. -/
structure EngC (κ : Nat → Nat) (w : World) (B gb kb pb m n : Nat) (v : Value) (R : List (Value × Ent)) : Prop where
  c : Bl w gb 73 #[v, .map (some kb), .map (some pb)]
  e : Rk 3 (fun b => B ≤ b ∧ κ b = 6) w v R.length (flatR R)
  l : RawL (fun b => B ≤ b ∧ κ b = 5) w R
  k : MapAt Tryz.prog 9 w kb m (knownF (R.map Prod.snd))
  p : PlAt (fun b => B ≤ b ∧ κ b = 4) w pb n (posF (R.map Prod.snd))
  g : B ≤ gb ∧ κ gb = 1
  kk : B ≤ kb ∧ κ kb = 2
  kp : B ≤ pb ∧ κ pb = 3

/-- An engine with these entries, in the order in which they were added. -/
def EngAt (w : World) (B gb : Nat) (es : List Ent) : Prop :=
  ∃ κ kb pb m n v R, EngC κ w B gb kb pb m n v R ∧ R.map Prod.snd = es ∧ m ≤ es.length ∧ n ≤ 1000 * es.length

theorem EngC.carry {κ : Nat → Nat} {w w' : World} {B gb kb pb m n : Nat} {v : Value} {R : List (Value × Ent)} (h : EngC κ w B gb kb pb m n v R) (hs : w.heap.size ≤ w'.heap.size) (hb : ∀ b, b < w.heap.size → w'.heap[b]? = w.heap[b]?) : EngC κ w' B gb kb pb m n v R :=
  ⟨(hb _ h.c.lt).trans h.c, h.e.carry hs fun b _ _ hlt => hb b hlt, fun x hx => (h.l x hx).carry hs fun b _ hlt => hb b hlt, h.k.carry (hb _ h.k.lt), h.p.carry hs (hb _ h.p.lt) fun b _ hlt => hb b hlt, h.g, h.kk, h.kp⟩
theorem EngC.below {κ : Nat → Nat} {w w' : World} {B gb kb pb m n : Nat} {v : Value} {R : List (Value × Ent)} (h : EngC κ w B gb kb pb m n v R) (hb : Below w.heap.size w w') : EngC κ w' B gb kb pb m n v R := h.carry hb.size fun b hlt => hb.block b hlt
theorem EngAt.below {w w' : World} {B gb : Nat} {es : List Ent} (h : EngAt w B gb es) (hb : Below w.heap.size w w') : EngAt w' B gb es := by
  obtain ⟨κ, kb, pb, m, n, v, R, h, hr⟩ := h
  exact ⟨κ, kb, pb, m, n, v, R, h.below hb, hr⟩

/-- What Add makes of the entries. -/
def hasE (es : List Ent) (e : Ent) : Bool := es.any fun x => decide (entC x e = 0)
theorem hasE_iff {es : List Ent} {e : Ent} : hasE es e = true ↔ e ∈ es := by
  unfold hasE
  rw [List.any_eq_true]
  constructor
  · rintro ⟨x, hx, h⟩
    rw [← entC_lc.eq _ _ (of_decide_eq_true h)]
    exact hx
  · exact fun h => ⟨e, h, decide_eq_true (entC_lc.refl e)⟩
def addE (es : List Ent) (e : Ent) : List Ent := if (e.ok && !hasE es e) = true then es ++ [e] else es
theorem addE_yes {es : List Ent} {e : Ent} (h : e.ok = true) (h2 : hasE es e = false) : addE es e = es ++ [e] := by unfold addE; rw [h, h2]; rfl
theorem addE_bad {es : List Ent} {e : Ent} (h : e.ok = false) : addE es e = es := by unfold addE; rw [h]; rfl
theorem addE_old {es : List Ent} {e : Ent} (h : hasE es e = true) : addE es e = es := by unfold addE; rw [h, Bool.not_true, Bool.and_false]; rfl
theorem addE_ways (es : List Ent) (e : Ent) : (addE es e = es ++ [e] ∧ e.ok = true ∧ e ∉ es) ∨ (addE es e = es ∧ (e.ok = false ∨ e ∈ es)) := by
  cases h : e.ok with
  | false => exact .inr ⟨addE_bad h, .inl rfl⟩
  | true =>
    cases h2 : hasE es e with
    | true => exact .inr ⟨addE_old h2, .inr (hasE_iff.1 h2)⟩
    | false => exact .inl ⟨addE_yes h h2, rfl, fun hm => by rw [hasE_iff.2 hm] at h2; cases h2⟩
theorem addE_len (es : List Ent) (e : Ent) : (addE es e).length ≤ es.length + 1 := by
  rcases addE_ways es e with ⟨h, _⟩ | ⟨h, _⟩ <;> rw [h] <;> simp
theorem addE_mem {es : List Ent} {e x : Ent} : x ∈ addE es e ↔ x ∈ es ∨ (x = e ∧ e.ok = true) := by
  rcases addE_ways es e with ⟨h, h1, h2⟩ | ⟨h, h1⟩ <;> rw [h]
  · rw [List.mem_append, List.mem_singleton]
    exact ⟨fun h3 => h3.imp id fun h4 => ⟨h4, h1⟩, fun h3 => h3.imp id fun h4 => h4.1⟩
  · constructor
    · exact .inl
    · rintro (h3 | ⟨rfl, h3⟩)
      · exact h3
      · rcases h1 with h1 | h1
        · rw [h1] at h3; cases h3
        · exact h1
theorem addE_nodup {es : List Ent} (h : es.Nodup) (e : Ent) : (addE es e).Nodup := by
  rcases addE_ways es e with ⟨h0, h1, h2⟩ | ⟨h0, h1⟩ <;> rw [h0]
  · rw [List.nodup_append]
    exact ⟨h, by simp, fun a ha b hb hab => h2 (by rw [List.mem_singleton] at hb; rw [← hb, ← hab]; exact ha)⟩
  · exact h
/-- .. of a row of entries. -/
def addAll (es : List Ent) (l : List Ent) : List Ent := l.foldl addE es
theorem addAll_mem {l : List Ent} : ∀ {es : List Ent} {x : Ent}, x ∈ addAll es l ↔ x ∈ es ∨ (x ∈ l ∧ x.ok = true) := by
  induction l with
  | nil => intro es x; simp [addAll]
  | cons e r ih =>
    intro es x
    show x ∈ addAll (addE es e) r ↔ _
    rw [ih, addE_mem, List.mem_cons]
    constructor
    · rintro ((h | ⟨rfl, h⟩) | ⟨h1, h2⟩)
      · exact .inl h
      · exact .inr ⟨.inl rfl, h⟩
      · exact .inr ⟨.inr h1, h2⟩
    · rintro (h | ⟨rfl | h1, h2⟩)
      · exact .inl (.inl h)
      · exact .inl (.inr ⟨rfl, h2⟩)
      · exact .inr ⟨h1, h2⟩
theorem addAll_nodup {l : List Ent} : ∀ {es : List Ent}, es.Nodup → (addAll es l).Nodup := by
  induction l with
  | nil => intro es h; exact h
  | cons e r ih => intro es h; exact ih (addE_nodup h e)
theorem addAll_len {l : List Ent} : ∀ {es : List Ent}, (addAll es l).length ≤ es.length + l.length := by
  induction l with
  | nil => intro es; simp [addAll]
  | cons e r ih =>
    intro es
    have h1 := ih (es := addE es e)
    have h2 := addE_len es e
    show (addAll (addE es e) r).length ≤ _
    simp only [List.length_cons]
    omega
theorem addAll_take (es : List Ent) (l : List Ent) (i : Nat) (h : i < l.length) : addAll es (l.take (i + 1)) = addE (addAll es (l.take i)) l[i] := by
  unfold addAll
  rw [← List.take_append_getElem h, List.foldl_append]
  rfl

theorem key_inj {x y : Ent} (hx : x.Mod) (hy : y.Mod) (h : x.key = y.key) : x = y := by
  have h1 : x.bytes = y.bytes := by
    have := congrArg (fun b : ByteArray => b.data.toList) h
    simpa [Ent.key] using this
  have h2 : x.bytes ++ [] = y.bytes ++ [] := by rw [h1]
  exact (bytes_inj hx hy h2).1
theorem known_is {es : List Ent} {e : Ent} (he : e.Mod) (hes : ∀ x ∈ es, x.Mod) : (knownF es e.key).isSome = hasE es e := by
  have h : (es.any fun x => decide (x.key = e.key)) = hasE es e := by
    rw [Bool.eq_iff_iff, hasE_iff, List.any_eq_true]
    constructor
    · rintro ⟨x, hx, hk⟩
      rw [← key_inj (hes x hx) he (of_decide_eq_true hk)]
      exact hx
    · exact fun h => ⟨e, h, decide_eq_true rfl⟩
  unfold knownF
  rw [h]
  cases hasE es e <;> rfl
theorem known_val (es : List Ent) (s : ByteArray) : (knownF es s).getD (.agg #[]) = .agg #[] := by
  unfold knownF
  split <;> rfl
theorem knownF_snoc (es : List Ent) (e : Ent) : (fun x => if x = e.key then some (.agg #[]) else knownF es x) = knownF (es ++ [e]) := by
  funext x
  unfold knownF
  rw [List.any_append]
  simp only [List.any_cons, List.any_nil, Bool.or_false]
  by_cases h : x = e.key
  · rw [if_pos h, if_pos (by rw [h]; simp)]
  · rw [if_neg h, decide_eq_false (fun h1 => h h1.symm), Bool.or_false]

end Go.Proofs.YtfifjcjicipcmaaGreatDoor.E4
