/-
  THE PROGRAM'S OWN PLAIN FORMS: what its three functions leave, as mathematics; norm.leaf.
-/
import Derived.Test.YtkckgjanfiiieaaGreatDoorNm10
import Derived.Test.YtkckgjanfiiieaaGreatDoorMkA
namespace Go.Proofs.YtkckgjanfiiieaaGreatDoor
open Go.RowKit Go

theorem ksb_none (G : Nat → Prop) (w : World) (a : Option Addr) (c : Nat) (o : Int) (n t : ByteArray) : KsB G w (.slice a 0 c) (.mk o n t []) := by
  rw [KsB]
  exact ⟨a, c, rfl, by simp, .inl rfl⟩

theorem counts_len : ∀ k : List Ft, k.length ≤ Ft.counts k
  | [] => by simp [Ft.counts]
  | x :: r => by
    have := counts_len r
    have : 1 ≤ x.count := by cases x; rw [Ft.count]; omega
    rw [Ft.counts, List.length_cons]; omega
theorem counts_in {k : List Ft} {x : Ft} (h : x ∈ k) : x.count ≤ Ft.counts k := by
  obtain ⟨i, hi, rfl⟩ := List.getElem_of_mem h
  exact counts_mem k i hi

theorem KbAt.get {G : Nat → Prop} {w : World} {b : Nat} : ∀ {off : Nat} {l : List Ft}, KbAt G w b off l → ∀ i (h : i < l.length), ∃ kv, w.cell? ⟨b, off + i * 4, none⟩ = some (.int .i64 l[i].op) ∧ w.cell? ⟨b, off + i * 4 + 1, none⟩ = some (.string l[i].name) ∧
    w.cell? ⟨b, off + i * 4 + 2, none⟩ = some (.string l[i].text) ∧ w.cell? ⟨b, off + i * 4 + 3, none⟩ = some kv ∧ KsB G w kv l[i]
  | _, [], _, i, h => by simp at h
  | off, x :: r, hk, i, h => by
    rw [KbAt] at hk
    obtain ⟨⟨kv, h0⟩, h1⟩ := hk
    cases i with
    | zero => exact ⟨kv, by simpa using h0⟩
    | succ i =>
      have := KbAt.get h1 i (by simpa using h)
      rw [show off + 4 + i * 4 = off + (i + 1) * 4 by omega] at this
      simpa using this

/-- A row of kids, as what is appended. -/
theorem kids_cells {G : Nat → Prop} {w : World} {b : Nat} : ∀ (off : Nat) (l : List Ft), KbAt G w b off l → ∃ S : List (Value × Ft), S.map (·.2) = l ∧ (∀ j u, (flatK S)[j]? = some u → w.cell? ⟨b, off + j, none⟩ = some u) ∧ (∀ p ∈ S, KsB G w p.1 p.2)
  | _, [], _ => ⟨[], rfl, fun j u h => by simp [flatK] at h, fun p hp => by simp at hp⟩
  | off, x :: r, h => by
    rw [KbAt] at h
    obtain ⟨⟨kv, h0, h1, h2, h3, h4⟩, h5⟩ := h
    obtain ⟨S, hm, hc, hk⟩ := kids_cells (off + 4) r h5
    refine ⟨(kv, x) :: S, by rw [List.map_cons, hm], fun j u hj => ?_, fun p hp => ?_⟩
    · simp only [flatK] at hj
      match j with
      | 0 => simp at hj; rw [← hj]; exact h0
      | 1 => simp at hj; rw [← hj]; exact h1
      | 2 => simp at hj; rw [← hj]; exact h2
      | 3 => simp at hj; rw [← hj]; exact h3
      | j + 4 =>
        have := hc j u (by simpa using hj)
        rw [show off + (j + 4) = off + 4 + j by omega]
        exact this
    · rw [List.mem_cons] at hp
      rcases hp with rfl | hp
      · exact h4
      · exact hk p hp

theorem flatK_len : ∀ S : List (Value × Ft), (flatK S).length = S.length * 4
  | [] => rfl
  | p :: r => by simp only [flatK, List.length_append, List.length_cons, List.length_nil, flatK_len r]; omega

theorem flatK_one : ∀ (S : List (Value × Ft)), (∀ p ∈ S, p.1.oneCell' = true) → ∀ u ∈ flatK S, u.oneCell' = true
  | [], _ => fun u h => by simp [flatK] at h
  | p :: r, h => fun u hu => by
    simp only [flatK, List.mem_append, List.mem_cons, List.not_mem_nil, or_false] at hu
    rcases hu with (rfl | rfl | rfl | rfl) | hu
    · rfl
    · rfl
    · rfl
    · exact h p (by simp)
    · exact flatK_one r (fun q hq => h q (by simp [hq])) u hu

theorem src_kids {G : Nat → Prop} {w : World} {a : Option Addr} {c : Nat} {x : Ft} (h : KsB G w (.slice a x.kids.length c) x) : ∃ S : List (Value × Ft), S.map (·.2) = x.kids ∧ Src Tryz.prog 4 24 (.slice a x.kids.length c) x.kids.length (flatK S) w ∧ (∀ p ∈ S, KsB G w p.1 p.2) := by
  obtain ⟨o, n, t, k⟩ := x
  rw [KsB] at h
  obtain ⟨a', cap, he, _, h0 | ⟨b, off, rfl, _, _, hk⟩⟩ := h
  · subst h0
    refine ⟨[], rfl, ?_, fun p hp => by simp at hp⟩
    cases a with
    | none => exact Src.ofNil w Tryz.underlying24 c
    | some p => exact Src.ofSlice w Tryz.underlying24 p 0 c [] rfl (fun j u h => by simp at h) (fun u h => by simp at h)
  · obtain ⟨rfl, rfl⟩ : a = some ⟨b, off, none⟩ ∧ c = cap := by simpa [Ft.kids] using he
    obtain ⟨S, hm, hc, hk⟩ := kids_cells off k hk
    refine ⟨S, hm, Src.ofSlice w Tryz.underlying24 _ _ _ _ ?_ (fun j u hj => ?_) (flatK_one S fun p hp => ?_), hk⟩
    · rw [flatK_len, ← hm]; simp [Ft.kids]
    · rw [show (⟨b, off, none⟩ : Addr).add j = ⟨b, off + j, none⟩ from by unfold Addr.add; split <;> simp_all]
      exact hc j u hj
    · obtain ⟨a2, c2, h⟩ := (KsB.at _ _ (hk p hp)).shape
      rw [h]; rfl

/-- What a round of Fold's loop leaves, when it has appended. -/
theorem fold_step {G : Nat → Prop} {w wr V w2 : World} {B : Nat} (hB : B = w.heap.size + 2) {au : Option Addr} {cu m : Nat} {R S : List (Value × Ft)} {v' : Value} (hlay : Lay w wr) (hV : Lay wr V)
    (hrk : Rk 4 (fun j => B ≤ j) wr (.slice au R.length cu) R.length (flatK R))
    (hkb : ∀ p ∈ R, KsB (fun j => ((G j ∧ j < w.heap.size) ∨ B ≤ j) ∧ ¬ At (.slice au R.length cu) j) wr p.1 p.2)
    (hS : ∀ p ∈ S, KsB (fun j => (G j ∧ j < w.heap.size) ∨ wr.heap.size ≤ j) V p.1 p.2) (hw : B ≤ wr.heap.size)
    (hrk2 : Rk 4 (fun j => B ≤ j ∧ (At (.slice au R.length cu) j ∨ V.heap.size ≤ j)) w2 v' (R.length + m) (flatK R ++ flatK S)) (hm : m = S.length) (hk2 : Keep (At (.slice au R.length cu)) V w2) :
    Rk 4 (fun j => B ≤ j) w2 v' (R ++ S).length (flatK (R ++ S)) ∧ (∀ p ∈ R ++ S, KsB (fun j => ((G j ∧ j < w.heap.size) ∨ B ≤ j) ∧ ¬ At v' j) w2 p.1 p.2) ∧ Lay w w2 ∧ (∀ j, w.heap.size ≤ j → j < B → w2.heap[j]? = wr.heap[j]?) ∧ B ≤ w2.heap.size := by
  subst hm
  have hatB : ∀ j, At (.slice au R.length cu) j → B ≤ j ∧ j < wr.heap.size := fun j hj => hrk.at hj
  have hat2 : ∀ j, At v' j → B ≤ j ∧ (At (.slice au R.length cu) j ∨ V.heap.size ≤ j) := fun j hj => (hrk2.at hj).1
  have hs1 := hV.size
  have hs2 := hk2.size
  have hs0 := hlay.size
  refine ⟨?_, fun p hp => ?_, (hlay.trans hV).over hk2 (fun j hj => by have := (hatB j hj).1; omega), ?_, by omega⟩
  · rw [flatK_append, List.length_append]
    exact hrk2.mono fun j hj _ => hj.1
  · rw [List.mem_append] at hp
    rcases hp with hp | hp
    · have h1 := KsB.keep (w' := V) hs1 (fun j _ hj => hV.block hj) _ _ (KsB.mono (G' := fun j => (((G j ∧ j < w.heap.size) ∨ B ≤ j) ∧ ¬ At (.slice au R.length cu) j) ∧ j < wr.heap.size) (fun j hj h => ⟨h, hj⟩) _ _ (hkb p hp))
      have h2 := KsB.keep (w' := w2) hs2 (fun j h hj => hk2.block j hj h.1.2) _ _ h1
      exact KsB.mono (fun j _ h => ⟨h.1.1, fun ha => by
        rcases (hat2 j ha).2 with h3 | h3
        · exact h.1.2 h3
        · have := h.2; omega⟩) _ _ h2
    · have h1 := KsB.mono (G' := fun j => ((G j ∧ j < w.heap.size) ∨ wr.heap.size ≤ j) ∧ j < V.heap.size) (fun j hj h => ⟨h, hj⟩) _ _ (hS p hp)
      have hno : ∀ j, ((G j ∧ j < w.heap.size) ∨ wr.heap.size ≤ j) → ¬ At (.slice au R.length cu) j := fun j h ha => by
        have := hatB j ha
        rcases h with h | h
        · have := h.2; omega
        · omega
      have h2 := KsB.keep (w' := w2) hs2 (fun j h hj => hk2.block j hj (hno j h.1)) _ _ h1
      exact KsB.mono (fun j _ h => ⟨h.1.imp id fun h => by omega, fun ha => by
        rcases (hat2 j ha).2 with h3 | h3
        · exact hno j h.1 h3
        · have := h.2; omega⟩) _ _ h2
  · exact fun j h1 h2 => (hk2.block _ (by omega) (fun ha => by have := (hatB _ ha).1; omega)).trans (hV.block (by omega))

theorem KsB.of_rk5 {G G0 : Nat → Prop} (hG : ∀ b, G b → G0 b) {w : World} {kv : Value} {R : List (Value × Ft)} (h : Rk 4 G w kv R.length (flatK R)) (hk : ∀ p ∈ R, KsB G0 w p.1 p.2) (hl : R.length ≤ 100000) (o : Int) (n t : ByteArray) : KsB G0 w kv (.mk o n t (R.map (·.2))) := by
  rw [KsB]
  obtain ⟨_, ⟨rfl, h0⟩ | ⟨g, cap, rfl, hg, hlt, _, _, hc, _⟩⟩ := h
  · obtain rfl := List.eq_nil_of_length_eq_zero h0
    exact ⟨none, 0, rfl, by simp, .inl rfl⟩
  · refine ⟨_, _, by rw [List.length_map], by rw [List.length_map]; omega, .inr ⟨g, 0, rfl, hG g hg, hlt, KbAt.of_cells 0 R (fun j hj => ?_) hk⟩⟩
    rw [Nat.zero_add]
    exact hc j hj

/-- A row of folded parts in which none decides. -/
def rowOf (o : Int) : List Ft → Ft
  | [] => .mk (3 - Nr.counts o) Nr.e0 Nr.e0 []
  | [x] => x
  | x :: y :: r => .mk o Nr.e0 Nr.e0 (x :: y :: r)

theorem rowOf_nil7 : rowOf 7 [] = .mk 1 Nr.e0 Nr.e0 [] := rfl
theorem rowOf_nil8 : rowOf 8 [] = .mk 2 Nr.e0 Nr.e0 [] := rfl
theorem rowOf_many (o : Int) : ∀ (k : List Ft), 2 ≤ k.length → rowOf o k = .mk o Nr.e0 Nr.e0 k
  | [], h => by simp at h
  | [_], h => by simp at h
  | _ :: _ :: _, _ => rfl

/-- A slice's kids are the same in a filter that has the same. -/
theorem ksb_same {G : Nat → Prop} {w : World} {kv : Value} {o o' : Int} {n n' t t' : ByteArray} {k : List Ft} (h : KsB G w kv (.mk o n t k)) : KsB G w kv (.mk o' n' t' k) := by
  rw [KsB] at h ⊢
  exact h

/-- The plain form of a filter, or, if turned, of not it. -/
def pl (b : Bool) (f : Ft) : Ft := Nr.fold (Nr.nots b f)

/-- What plain leaves. -/
def PlainP (G : Nat → Prop) (b : Bool) (f : Ft) (w : World) (e : Ending) (w' : World) : Prop := ∃ kv, e = .returned ((pl b f).val kv) ∧ KsB (fun j => G j ∨ w.heap.size ≤ j) w' kv (pl b f) ∧ Lay w w'

/-- plain, of one filter. -/
def PlainOK (b : Bool) (f : Ft) : Prop := ∀ (G : Nat → Prop) (w : World) (kv : Value), KsAt w kv f → Calls Tryz.prog 18 #[f.val kv, .bool b] w (PlainP G b f w)

theorem pl_row (b : Bool) (o : Int) (k : List Ft) (h : o = 7 ∨ o = 8) : pl b (.mk o Nr.e0 Nr.e0 k) = Nr.foldRow (if b then 15 - o else o) (k.map (pl b)) := by
  unfold pl
  rw [Nr.nots_row b o k h, Nr.fold, if_neg (by cases b <;> simp <;> omega), Nr.foldL_map, List.map_map]
  rfl

theorem pl_count {f : Ft} (h : Nr.Gd f) (b : Bool) : (pl b f).count ≤ 2 * f.count := Nat.le_trans (Nr.fold_count (Nr.nots_nn h b)) (Nr.nots_count h b)

theorem pl_pl {f : Ft} (h : Nr.Gd f) (b : Bool) : Nr.Pl (pl b f) := Nr.fold_pl (Nr.nots_nn h b)

theorem pl_op {f : Ft} (h : Nr.Gd f) (b : Bool) : 1 ≤ (pl b f).op := by
  rcases pl_pl h b with e | e | e
  · rw [e]; decide
  · rw [e]; decide
  · have := e.op; omega

theorem foldRow_hit {g : Ft → Ft} {o : Int} {k : List Ft} {i : Nat} (h : i < k.length) (hno : ∀ x ∈ k.take i, (g x).op ≠ Nr.counts o) (hX : (g k[i]).op = Nr.counts o) : Nr.foldRow o (k.map g) = g k[i] := by
  have key : ∀ (p q : List Ft) (x : Ft), (∀ y ∈ p, (g y).op ≠ Nr.counts o) → (g x).op = Nr.counts o → ((p ++ x :: q).map g).find? (fun x => decide (x.op = Nr.counts o)) = some (g x) := fun p q x h1 h2 => by
    rw [List.find?_map, List.find?_append]
    rw [show List.find? ((fun x => decide (x.op = Nr.counts o)) ∘ g) p = none from List.find?_eq_none.2 fun x hx => by simpa using h1 x hx]
    rw [Option.none_or, List.find?_cons_of_pos (by simpa using h2)]
    rfl
  have hs := key (k.take i) (k.drop (i + 1)) k[i] hno hX
  rw [← List.drop_eq_getElem_cons h, List.take_append_drop] at hs
  unfold Nr.foldRow
  rw [hs]

theorem foldRow_none {g : Ft → Ft} {o : Int} {k : List Ft} (hno : ∀ x ∈ k, (g x).op ≠ Nr.counts o) : Nr.foldRow o (k.map g) = rowOf o ((k.map g).flatMap (Nr.part o)) := by
  unfold Nr.foldRow
  rw [List.find?_eq_none.2 (fun x hx => by
    obtain ⟨y, hy, rfl⟩ := List.mem_map.1 hx
    simpa using hno y hy)]
  simp only
  split <;> rename_i h <;> rw [h] <;> rfl

theorem parts_len {g : Ft → Ft} {o : Int} {k : List Ft} (hn : ∀ x ∈ k, (g x).count ≤ 2 * x.count) (i : Nat) : (((k.take i).map g).flatMap (Nr.part o)).length ≤ 2 * Ft.counts k := by
  have h1 := counts_len (((k.take i).map g).flatMap (Nr.part o))
  have h2 := Nr.parts_count o ((k.take i).map g)
  have h3 := Nr.counts_map_le (g := g) (c := 2) (k := k.take i) (fun x hx => hn x (List.mem_of_mem_take hx))
  have h4 := counts_take k i
  omega

set_option maxHeartbeats 4000000 in
set_option maxRecDepth 100000 in
theorem leaf_no (o : Int) (n t : ByteArray) (a : Option Addr) (m c : Nat) (w : World) : Calls Tryz.prog 27 #[.agg #[.int .i64 o, .string n, .string t, .slice a m c], .bool false] w fun e w' => e = .returned (.agg #[.int .i64 o, .string n, .string t, .slice none 0 0]) ∧ Lay w w' := by
  go_enter Tryz.func27, Tryz.ntmps27
  go_wp2_with fail
  refine bodyPost_ret (v := .agg #[.int .i64 o, .string n, .string t, .slice none 0 0]) (by simp [results, Tryz.results27, go_sem]) rfl ?_
  exact ⟨rfl, ((Keep.refl _ _).alloc _).alloc _⟩

set_option maxHeartbeats 4000000 in
set_option maxRecDepth 100000 in
theorem leaf_const (o : Int) (h : o = 1 ∨ o = 2) (n t : ByteArray) (a : Option Addr) (m c : Nat) (w : World) : Calls Tryz.prog 27 #[.agg #[.int .i64 o, .string n, .string t, .slice a m c], .bool true] w fun e w' => e = .returned (.agg #[.int .i64 (3 - o), .string Nr.e0, .string Nr.e0, .slice none 0 0]) ∧ Lay w w' := by
  rcases h with rfl | rfl
  · go_enter Tryz.func27, Tryz.ntmps27
    go_wp2_with fail
    refine bodyPost_ret (v := .agg #[.int .i64 2, .string Nr.e0, .string Nr.e0, .slice none 0 0]) (by simp [results, Tryz.results27, go_sem]) rfl ?_
    exact ⟨rfl, ((Keep.refl _ _).alloc _).alloc _⟩
  · go_enter Tryz.func27, Tryz.ntmps27
    go_wp2_with fail
    refine bodyPost_ret (v := .agg #[.int .i64 1, .string Nr.e0, .string Nr.e0, .slice none 0 0]) (by simp [results, Tryz.results27, go_sem]) rfl ?_
    exact ⟨rfl, ((Keep.refl _ _).alloc _).alloc _⟩

set_option maxHeartbeats 4000000 in
set_option maxRecDepth 100000 in
theorem leaf_yes (o : Int) (h : o = 3 ∨ o = 4 ∨ o = 5) (n t : ByteArray) (a : Option Addr) (m c : Nat) (w : World) : Calls Tryz.prog 27 #[.agg #[.int .i64 o, .string n, .string t, .slice a m c], .bool true] w fun e w' => ∃ kv, e = .returned (.agg #[.int .i64 6, .string Nr.e0, .string Nr.e0, kv]) ∧ KsB (fun j => w.heap.size ≤ j) w' kv (.mk 6 Nr.e0 Nr.e0 [.mk o n t []]) ∧ Lay w w' := by
  have h1 : (o == 1) = false := beq_eq_false_iff_ne.2 (by omega)
  have h2 : (o == 2) = false := beq_eq_false_iff_ne.2 (by omega)
  go_enter Tryz.func27, Tryz.ntmps27
  go_wp2_with fail
  refine bodyPost_ret (v := .agg #[.int .i64 6, .string Nr.e0, .string Nr.e0, .slice (some ⟨w.heap.size + 2, 0, none⟩) 1 1]) (by simp [results, Tryz.results27, go_sem]) rfl ?_
  refine ⟨_, rfl, ?_, (((Keep.refl _ _).alloc _).alloc _).alloc _⟩
  rw [KsB]
  refine ⟨_, _, rfl, by simp, .inr ⟨w.heap.size + 2, 0, rfl, by omega, by simp, ?_⟩⟩
  rw [KbAt, KbAt]
  exact ⟨⟨.slice none 0 0, by go_simp; rfl, by go_simp; rfl, by go_simp; rfl, by go_simp, ksb_none _ _ _ _ _ _ _⟩, trivial⟩

end Go.Proofs.YtkckgjanfiiieaaGreatDoor
