/-
  A QUESTION's BYTES, written and read: mathematics, no program in it.
-/
import Derived.Test.YtaghogfkkmphoaaDoorAk12
import Derived.Test.YtaghogfkkmphoaaDoorNr
namespace Go.Proofs.YtaghogfkkmphoaaDoor.E4
open Go.RowKit Go

/-- Things read one after another. -/
inductive RNs {α : Type} (R1 : List UInt8 → Bool → α → List UInt8 → Bool → Prop) (l0 : List UInt8) (b0 : Bool) : List α → List UInt8 → Bool → Prop
  | nil : RNs R1 l0 b0 [] l0 b0
  | snoc {ls : List α} {l : List UInt8} {b : Bool} {x : α} {l1 : List UInt8} {b1 : Bool} (h : RNs R1 l0 b0 ls l b) (h1 : R1 l b x l1 b1) : RNs R1 l0 b0 (ls ++ [x]) l1 b1

theorem dlen (s : ByteArray) : s.data.toList.length = s.size := (Lib.size_eq s).symm

/-- A reading that leaves no choice. -/
def Sure {α : Type} (R1 : List UInt8 → Bool → α → List UInt8 → Bool → Prop) : Prop := ∀ ⦃l : List UInt8⦄ ⦃b : Bool⦄ ⦃x y : α⦄ ⦃l1 l2 : List UInt8⦄ ⦃b1 b2 : Bool⦄, R1 l b x l1 b1 → R1 l b y l2 b2 → x = y ∧ l1 = l2 ∧ b1 = b2
/-- What was put is read. -/
def Reads {α : Type} (R1 : List UInt8 → Bool → α → List UInt8 → Bool → Prop) (B : α → List UInt8) (ok : α → Prop) : Prop := ∀ ⦃x y : α⦄ ⦃r l l' : List UInt8⦄ ⦃b' : Bool⦄, ok x → l = B x ++ r → R1 l false y l' b' → y = x ∧ l' = r ∧ b' = false
/-- Bytes tell what they are of. -/
def Tells {α : Type} (B : α → List UInt8) (ok : α → Prop) : Prop := ∀ ⦃x y : α⦄ ⦃r s : List UInt8⦄, ok x → ok y → B x ++ r = B y ++ s → x = y ∧ r = s

theorem RNs.same {α : Type} {R1 : List UInt8 → Bool → α → List UInt8 → Bool → Prop} (hR : Sure R1) {l0 : List UInt8} {b0 : Bool} {ls : List α} {l : List UInt8} {b : Bool} (h : RNs R1 l0 b0 ls l b) : ∀ {ms : List α} {m : List UInt8} {c : Bool}, RNs R1 l0 b0 ms m c → ls.length = ms.length → ls = ms ∧ l = m ∧ b = c := by
  induction h with
  | nil =>
    intro ms m c k hl
    cases k with
    | nil => exact ⟨rfl, rfl, rfl⟩
    | snoc k k1 => simp at hl
  | @snoc ls l b x l1 b1 h h1 ih =>
    intro ms m c k hl
    cases k with
    | nil => simp at hl
    | @snoc ms m c y m1 d1 k k1 =>
      simp at hl
      obtain ⟨rfl, rfl, rfl⟩ := ih k hl
      obtain ⟨rfl, rfl, rfl⟩ := hR h1 k1
      exact ⟨rfl, rfl, rfl⟩

theorem RNs.put {α : Type} {R1 : List UInt8 → Bool → α → List UInt8 → Bool → Prop} {B : α → List UInt8} {ok : α → Prop} (hR : Reads R1 B ok) {r l0 : List UInt8} {b0 : Bool} {ls : List α} {l : List UInt8} {b : Bool} (h : RNs R1 l0 b0 ls l b) : ∀ {ms : List α}, (∀ x ∈ ms, ok x) → l0 = (ms.map B).flatten ++ r → b0 = false → ls.length ≤ ms.length → ls = ms.take ls.length ∧ l = ((ms.drop ls.length).map B).flatten ++ r ∧ b = false := by
  induction h with
  | nil => intro ms hm h0 hb _; exact ⟨by simp, by simpa using h0, hb⟩
  | @snoc ls l b x l1 b1 h h1 ih =>
    intro ms hm h0 hb hl
    simp at hl
    obtain ⟨e1, e2, e3⟩ := ih hm h0 hb (by omega)
    have hlt : ls.length < ms.length := by omega
    subst e3
    rw [List.drop_eq_getElem_cons hlt, List.map_cons, List.flatten_cons, List.append_assoc] at e2
    obtain ⟨f1, f2, rfl⟩ := hR (hm _ (List.getElem_mem hlt)) e2 h1
    refine ⟨?_, ?_, rfl⟩
    · rw [List.length_append, List.length_singleton, List.take_succ_eq_append_getElem hlt, ← e1, ← f1]
    · rw [f2, List.length_append, List.length_singleton]

theorem flat_tells {α : Type} {B : α → List UInt8} {ok : α → Prop} (hB : Tells B ok) : ∀ {l m : List α}, (∀ x ∈ l, ok x) → (∀ x ∈ m, ok x) → l.length = m.length → ∀ {r s : List UInt8}, (l.map B).flatten ++ r = (m.map B).flatten ++ s → l = m ∧ r = s
  | [], [], _, _, _, _, _, h => ⟨rfl, by simpa using h⟩
  | [], _ :: _, _, _, h, _, _, _ => by simp at h
  | _ :: _, [], _, _, h, _, _, _ => by simp at h
  | a :: l, b :: m, ha, hb, hl, r, s, h => by
    simp only [List.map_cons, List.flatten_cons, List.append_assoc] at h
    obtain ⟨rfl, h2⟩ := hB (ha a (by simp)) (hb b (by simp)) h
    obtain ⟨rfl, h3⟩ := flat_tells hB (fun x hx => ha x (by simp [hx])) (fun x hx => hb x (by simp [hx])) (by simpa using hl) h2
    exact ⟨rfl, h3⟩

/-! ### Words, rows -/

def wordB (s : ByteArray) : List UInt8 := textB s.data.toList
def rowB (l : List ByteArray) : List UInt8 := Lib.uvarint l.length ++ (l.map wordB).flatten
def wordOk (s : ByteArray) : Prop := s.size ≤ 1024
def rowOk (l : List ByteArray) : Prop := l.length ≤ 64 ∧ ∀ s ∈ l, wordOk s
def RW (l : List UInt8) (b : Bool) (s : ByteArray) (l' : List UInt8) (b' : Bool) : Prop := RT 1024 l b s.data.toList l' b'
def RRow (l : List UInt8) (b : Bool) (x : List ByteArray) (l' : List UInt8) (b' : Bool) : Prop := ∃ l1 b1, RU 64 l b x.length l1 b1 ∧ RNs RW l1 b1 x l' b'

theorem rw_sure : Sure RW := fun _ _ _ _ _ _ _ _ h k => by
  obtain ⟨e, h1, h2⟩ := RT.same h k
  exact ⟨data_inj e, h1, h2⟩
theorem rw_reads : Reads RW wordB wordOk := fun x y r l l' b' hx e h => by
  unfold wordOk at hx
  obtain ⟨e1, e2, e3⟩ := rt_put (by rw [dlen]; omega) (by rw [dlen]; omega) e h
  exact ⟨data_inj e1, e2, e3⟩
theorem word_tells : Tells wordB wordOk := fun x y r s hx hy h => by
  unfold wordOk at hx hy
  obtain ⟨e1, e2⟩ := textB_inj (by rw [dlen]; omega) (by rw [dlen]; omega) h
  exact ⟨data_inj e1, e2⟩
theorem rrow_sure : Sure RRow := fun _ _ _ _ _ _ _ _ h k => by
  obtain ⟨l1, b1, h1, h2⟩ := h
  obtain ⟨m1, c1, k1, k2⟩ := k
  obtain ⟨e, rfl, rfl⟩ := h1.same k1
  exact h2.same rw_sure k2 e
theorem rrow_reads : Reads RRow rowB rowOk := fun x y r l l' b' hx e h => by
  obtain ⟨l1, b1, h1, h2⟩ := h
  unfold rowB at e
  rw [List.append_assoc] at e
  obtain ⟨e1, e2, rfl⟩ := ru_put (by have := hx.1; omega) hx.1 e h1
  obtain ⟨e3, e4, e5⟩ := h2.put rw_reads hx.2 e2 rfl (by omega)
  rw [e1, List.take_length] at e3
  rw [e1, List.drop_length] at e4
  exact ⟨e3, by simpa using e4, e5⟩
theorem row_tells : Tells rowB rowOk := fun x y r s hx hy h => by
  unfold rowB at h
  rw [List.append_assoc, List.append_assoc] at h
  obtain ⟨e1, e2⟩ := uv_inj (by have := hx.1; omega) (by have := hy.1; omega) h
  exact flat_tells word_tells hx.2 hy.2 e1 e2

/-! ### Matchers -/

def boolB (b : Bool) : List UInt8 := if b then [1] else [0]
theorem boolB_uv (b : Bool) : boolB b = Lib.uvarint (if b then 1 else 0) := by cases b <;> simp [boolB, Lib.uvarint]
def matB (m : Mt) : List UInt8 := wordB m.name ++ (boolB m.not ++ wordB m.value)
def matOk (m : Mt) : Prop := m.name.size ≤ 20 ∧ m.value.size ≤ 1024
def RMt (l : List UInt8) (b : Bool) (m : Mt) (l' : List UInt8) (b' : Bool) : Prop :=
  ∃ l1 b1 n l2 b2, RT 20 l b m.name.data.toList l1 b1 ∧ RU 1 l1 b1 n l2 b2 ∧ m.not = decide (n = 1) ∧ RT 1024 l2 b2 m.value.data.toList l' b'

theorem rmt_sure : Sure RMt := fun l b x y l1 l2 b1 b2 h k => by
  obtain ⟨p1, p2, p3, p4, p5, h1, h2, h3, h4⟩ := h
  obtain ⟨q1, q2, q3, q4, q5, k1, k2, k3, k4⟩ := k
  obtain ⟨e1, rfl, rfl⟩ := h1.same k1
  obtain ⟨rfl, rfl, rfl⟩ := h2.same k2
  obtain ⟨e2, rfl, rfl⟩ := h4.same k4
  obtain ⟨xn, xb, xv⟩ := x
  obtain ⟨yn, yb, yv⟩ := y
  have f1 : xn = yn := data_inj e1
  have f2 : xv = yv := data_inj e2
  have f3 : xb = yb := h3.trans k3.symm
  subst f1 f2 f3
  exact ⟨rfl, rfl, rfl⟩
theorem rmt_reads : Reads RMt matB matOk := fun x y r l l' b' hx e h => by
  obtain ⟨p1, p2, n, p4, p5, h1, h2, h3, h4⟩ := h
  unfold matB at e
  rw [List.append_assoc, List.append_assoc] at e
  have hn := hx.1
  have hv := hx.2
  obtain ⟨e1, e2, rfl⟩ := rt_put (by rw [dlen]; omega) (by rw [dlen]; omega) e h1
  rw [boolB_uv] at e2
  obtain ⟨e3, e4, rfl⟩ := ru_put (by split <;> omega) (by split <;> omega) e2 h2
  obtain ⟨e5, e6, rfl⟩ := rt_put (by rw [dlen]; omega) (by rw [dlen]; omega) e4 h4
  obtain ⟨xn, xb, xv⟩ := x
  obtain ⟨yn, yb, yv⟩ := y
  have f1 : yn = xn := data_inj e1
  have f2 : yv = xv := data_inj e5
  have f3 : yb = xb := by
    have h3' : yb = decide (n = 1) := h3
    have e3' : n = if xb = true then 1 else 0 := e3
    rw [h3', e3']
    cases xb <;> rfl
  subst f1 f2 f3
  exact ⟨rfl, e6, rfl⟩
theorem mat_tells : Tells matB matOk := fun x y r s hx hy h => by
  unfold matB at h
  simp only [List.append_assoc, boolB_uv] at h
  have a1 := hx.1
  have a2 := hx.2
  have a3 := hy.1
  have a4 := hy.2
  obtain ⟨e1, h1⟩ := textB_inj (by rw [dlen]; omega) (by rw [dlen]; omega) h
  obtain ⟨e2, h2⟩ := uv_inj (by split <;> omega) (by split <;> omega) h1
  obtain ⟨e3, h3⟩ := textB_inj (by rw [dlen]; omega) (by rw [dlen]; omega) h2
  obtain ⟨xn, xb, xv⟩ := x
  obtain ⟨yn, yb, yv⟩ := y
  have f1 : xn = yn := data_inj e1
  have f2 : xv = yv := data_inj e3
  have f3 : xb = yb := by revert e2; cases xb <;> cases yb <;> simp
  subst f1 f2 f3
  exact ⟨rfl, h3⟩

/-! ### Questions -/

def Ask.tail (a : Ask) : List UInt8 := if a.kd = 1 then Lib.uvarint a.all.length ++ (a.all.map rowB).flatten else if a.kd = 2 then Lib.uvarint a.mat.length ++ (a.mat.map matB).flatten else []
def Ask.bytes (a : Ask) : List UInt8 := Lib.uvarint a.kd.toNat ++ (Lib.uvarint (Lib.zigzag a.src) ++ (Lib.uvarint (Lib.zigzag a.til) ++ a.tail))
/-- It has bytes that are read again. -/
structure Ask.Ok (a : Ask) : Prop where
  kd : 1 ≤ a.kd ∧ a.kd ≤ 3
  src : -9223372036854775808 ≤ a.src ∧ a.src ≤ 9223372036854775807
  til : -9223372036854775808 ≤ a.til ∧ a.til ≤ 9223372036854775807
  all : a.kd = 1 → a.all.length ≤ 64 ∧ ∀ l ∈ a.all, rowOk l
  mat : a.kd = 2 → a.mat.length ≤ 4 ∧ ∀ m ∈ a.mat, matOk m

/-- A question read. -/
def RAk (l : List UInt8) (b : Bool) (a : Ask) (l' : List UInt8) (b' : Bool) : Prop :=
  ∃ k l1 b1 n1 l2 b2 n2 l3 b3, RU 3 l b k l1 b1 ∧ a.kd = (k : Nat) ∧ RU 18446744073709551615 l1 b1 n1 l2 b2 ∧ a.src = Lib.unzigzag n1 ∧ RU 18446744073709551615 l2 b2 n2 l3 b3 ∧ a.til = Lib.unzigzag n2 ∧
    (k = 1 ∧ a.mat = [] ∧ (∃ l4 b4, RU 64 l3 b3 a.all.length l4 b4 ∧ RNs RRow l4 b4 a.all l' b') ∨
     k = 2 ∧ a.all = [] ∧ (∃ l4 b4, RU 4 l3 b3 a.mat.length l4 b4 ∧ RNs RMt l4 b4 a.mat l' b') ∨
     k ≠ 1 ∧ k ≠ 2 ∧ a.all = [] ∧ a.mat = [] ∧ l' = l3 ∧ b' = b3)

theorem rak_sure : Sure RAk := fun l b x y l1 l2 b1 b2 h k => by
  obtain ⟨k1, p1, p2, n1, p3, p4, n2, p5, p6, h1, h2, h3, h4, h5, h6, h7⟩ := h
  obtain ⟨m1, q1, q2, o1, q3, q4, o2, q5, q6, g1, g2, g3, g4, g5, g6, g7⟩ := k
  obtain ⟨rfl, rfl, rfl⟩ := h1.same g1
  obtain ⟨rfl, rfl, rfl⟩ := h3.same g3
  obtain ⟨rfl, rfl, rfl⟩ := h5.same g5
  have e1 := h2.trans g2.symm
  have e2 := h4.trans g4.symm
  have e3 := h6.trans g6.symm
  rcases h7 with ⟨rfl, hm, l4, b4, ha, hb⟩ | ⟨rfl, hm, l4, b4, ha, hb⟩ | ⟨hk1, hk2, ha, hb, rfl, rfl⟩
  · rcases g7 with ⟨_, gm, m4, c4, ga, gb⟩ | ⟨h, _⟩ | ⟨h, _⟩
    · obtain ⟨e4, rfl, rfl⟩ := ha.same ga
      obtain ⟨e5, e6, e7⟩ := hb.same rrow_sure gb e4
      exact ⟨Ask.ext' e1 e2 e3 e5 (hm.trans gm.symm), e6, e7⟩
    · omega
    · omega
  · rcases g7 with ⟨h, _⟩ | ⟨_, gm, m4, c4, ga, gb⟩ | ⟨_, h, _⟩
    · omega
    · obtain ⟨e4, rfl, rfl⟩ := ha.same ga
      obtain ⟨e5, e6, e7⟩ := hb.same rmt_sure gb e4
      exact ⟨Ask.ext' e1 e2 e3 (hm.trans gm.symm) e5, e6, e7⟩
    · omega
  · rcases g7 with ⟨h, _⟩ | ⟨h, _⟩ | ⟨_, _, ga, gb, rfl, rfl⟩
    · omega
    · omega
    · exact ⟨Ask.ext' e1 e2 e3 (ha.trans ga.symm) (hb.trans gb.symm), rfl, rfl⟩

theorem rak_reads : Reads RAk Ask.bytes (fun a => a.Ok ∧ a.plain = a) := fun x y r l l' b' hx e h => by
  obtain ⟨hx, hp⟩ := hx
  obtain ⟨k, p1, p2, n1, p3, p4, n2, p5, p6, h1, h2, h3, h4, h5, h6, h7⟩ := h
  unfold Ask.bytes at e
  simp only [List.append_assoc] at e
  have hkd := hx.kd
  obtain ⟨e1, f1, rfl⟩ := ru_put (by omega) (by omega) e h1
  obtain ⟨e2, f2, rfl⟩ := ru_put (Lib.zigzag_lt hx.src.1 hx.src.2) (by have := Lib.zigzag_lt hx.src.1 hx.src.2; omega) f1 h3
  obtain ⟨e3, f3, rfl⟩ := ru_put (Lib.zigzag_lt hx.til.1 hx.til.2) (by have := Lib.zigzag_lt hx.til.1 hx.til.2; omega) f2 h5
  rw [e2, unzig_zig] at h4
  rw [e3, unzig_zig] at h6
  have h2' : y.kd = x.kd := by rw [h2, e1]; omega
  unfold Ask.tail at f3
  unfold Ask.plain at hp
  by_cases k1 : x.kd = 1
  · rw [if_pos k1] at f3 hp
    have hm0 : x.mat = [] := by rw [← hp]
    rcases h7 with ⟨_, hm, l4, b4, ha, hb⟩ | ⟨h, _⟩ | ⟨h, _⟩
    · rw [List.append_assoc] at f3
      obtain ⟨g1, g2, rfl⟩ := ru_put (by have := (hx.all k1).1; omega) (hx.all k1).1 f3 ha
      obtain ⟨g3, g4, g5⟩ := hb.put rrow_reads (hx.all k1).2 g2 rfl (by omega)
      rw [g1, List.take_length] at g3
      rw [g1, List.drop_length] at g4
      exact ⟨Ask.ext' h2' h4 h6 g3 (hm.trans hm0.symm), by simpa using g4, g5⟩
    · omega
    · omega
  · rw [if_neg k1] at f3 hp
    by_cases k2 : x.kd = 2
    · rw [if_pos k2] at f3 hp
      have ha0 : x.all = [] := by rw [← hp]
      rcases h7 with ⟨h, _⟩ | ⟨_, hm, l4, b4, ha, hb⟩ | ⟨_, h, _⟩
      · omega
      · rw [List.append_assoc] at f3
        obtain ⟨g1, g2, rfl⟩ := ru_put (by have := (hx.mat k2).1; omega) (hx.mat k2).1 f3 ha
        obtain ⟨g3, g4, g5⟩ := hb.put rmt_reads (hx.mat k2).2 g2 rfl (by omega)
        rw [g1, List.take_length] at g3
        rw [g1, List.drop_length] at g4
        exact ⟨Ask.ext' h2' h4 h6 (hm.trans ha0.symm) g3, by simpa using g4, g5⟩
      · omega
    · rw [if_neg k2] at f3 hp
      rw [if_pos (by omega)] at hp
      have ha0 : x.all = [] := by rw [← hp]
      have hm0 : x.mat = [] := by rw [← hp]
      rcases h7 with ⟨h, _⟩ | ⟨h, _⟩ | ⟨_, _, ha, hb, rfl, rfl⟩
      · omega
      · omega
      · exact ⟨Ask.ext' h2' h4 h6 (ha.trans ha0.symm) (hb.trans hm0.symm), by simpa using f3, rfl⟩

theorem Ask.plain_bytes {a : Ask} (h : 1 ≤ a.kd ∧ a.kd ≤ 3) : a.plain.bytes = a.bytes := by
  unfold Ask.bytes Ask.tail
  rw [Ask.plain_kd h]
  unfold Ask.plain
  by_cases k1 : a.kd = 1
  · simp [k1]
  · by_cases k2 : a.kd = 2
    · simp [k2]
    · have k3 : a.kd = 3 := by omega
      simp [k3]

/-- Two that can be have the same bytes just if they are the same. -/
theorem bytes_same {a b : Ask} (ha : a.Ok) (hb : b.Ok) : a.bytes = b.bytes ↔ a.plain = b.plain := by
  constructor
  · intro h
    unfold Ask.bytes at h
    have ka := ha.kd
    have kb := hb.kd
    obtain ⟨e1, h1⟩ := uv_inj (by omega) (by omega) h
    obtain ⟨e2, h2⟩ := uv_inj (Lib.zigzag_lt ha.src.1 ha.src.2) (Lib.zigzag_lt hb.src.1 hb.src.2) h1
    obtain ⟨e3, h3⟩ := uv_inj (Lib.zigzag_lt ha.til.1 ha.til.2) (Lib.zigzag_lt hb.til.1 hb.til.2) h2
    have f1 : a.kd = b.kd := by omega
    have f2 : a.src = b.src := by have := congrArg Lib.unzigzag e2; rwa [unzig_zig, unzig_zig] at this
    have f3 : a.til = b.til := by have := congrArg Lib.unzigzag e3; rwa [unzig_zig, unzig_zig] at this
    unfold Ask.tail at h3
    unfold Ask.plain
    by_cases k1 : a.kd = 1
    · have k1' : b.kd = 1 := by omega
      rw [if_pos k1, if_pos k1'] at h3
      obtain ⟨g1, g2⟩ := uv_inj (by have := (ha.all k1).1; omega) (by have := (hb.all k1').1; omega) h3
      obtain ⟨g3, _⟩ := flat_tells row_tells (ha.all k1).2 (hb.all k1').2 g1 (r := []) (s := []) (by simpa using g2)
      rw [if_pos k1, if_pos k1']
      exact Ask.ext' f1 f2 f3 g3 rfl
    · have k1' : ¬ b.kd = 1 := by omega
      rw [if_neg k1, if_neg k1'] at h3
      by_cases k2 : a.kd = 2
      · have k2' : b.kd = 2 := by omega
        rw [if_pos k2, if_pos k2'] at h3
        obtain ⟨g1, g2⟩ := uv_inj (by have := (ha.mat k2).1; omega) (by have := (hb.mat k2').1; omega) h3
        obtain ⟨g3, _⟩ := flat_tells mat_tells (ha.mat k2).2 (hb.mat k2').2 g1 (r := []) (s := []) (by simpa using g2)
        rw [if_neg k1, if_neg k1', if_pos k2, if_pos k2']
        exact Ask.ext' f1 f2 f3 rfl g3
      · have k2' : ¬ b.kd = 2 := by omega
        rw [if_neg k1, if_neg k1', if_neg k2, if_neg k2', if_pos (by omega), if_pos (by omega)]
        exact Ask.ext' f1 f2 f3 rfl rfl
  · intro h
    rw [← Ask.plain_bytes ha.kd, ← Ask.plain_bytes hb.kd, h]

end Go.Proofs.YtaghogfkkmphoaaDoor.E4
