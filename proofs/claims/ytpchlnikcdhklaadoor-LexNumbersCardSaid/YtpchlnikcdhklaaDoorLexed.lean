/-
  WHAT PACKAGE lex's CALLS ARE TO DO ('LexCalls': shown of the program elsewhere); what the document says of two texts.
-/
import Derived.Test.YtpchlnikcdhklaaDoorRefLex
import Derived.Test.YtpchlnikcdhklaaDoorTab
namespace Go.Proofs.YtpchlnikcdhklaaDoor
open Go.RowKit Go

/-- Tokens that lie so. -/
def ToksAt (w : World) (v : Value) (ts : List LX.Tok) : Prop :=
  ∃ a cap, v = .slice a ts.length cap ∧ (ts = [] ∨ ∃ b off, a = some ⟨b, off, none⟩ ∧ b < w.heap.size ∧
    ∀ i (h : i < ts.length), w.cell? ⟨b, off + i * 4, none⟩ = some (.int .i64 (ts[i].kind : Nat)) ∧ w.cell? ⟨b, off + i * 4 + 1, none⟩ = some (.string ⟨ts[i].says.toArray⟩) ∧
      w.cell? ⟨b, off + i * 4 + 2, none⟩ = some (.int .i64 ts[i].n) ∧ w.cell? ⟨b, off + i * 4 + 3, none⟩ = some (.int .i64 (ts[i].place : Nat)))

theorem ToksAt.next {w w' : World} {v : Value} {ts : List LX.Tok} (h : ToksAt w v ts) (hb : Below w.heap.size w w') : ToksAt w' v ts := by
  obtain ⟨a, cap, hv, h | ⟨b, off, ha, hlt, hc⟩⟩ := h
  · exact ⟨a, cap, hv, .inl h⟩
  · refine ⟨a, cap, hv, .inr ⟨b, off, ha, Nat.lt_of_lt_of_le hlt hb.size, fun i hi => ?_⟩⟩
    have e := hb.block b hlt
    obtain ⟨h0, h1, h2, h3⟩ := hc i hi
    exact ⟨(World.cell?_of_block (a := ⟨b, off + i * 4, none⟩) e).trans h0, (World.cell?_of_block (a := ⟨b, off + i * 4 + 1, none⟩) e).trans h1, (World.cell?_of_block (a := ⟨b, off + i * 4 + 2, none⟩) e).trans h2, (World.cell?_of_block (a := ⟨b, off + i * 4 + 3, none⟩) e).trans h3⟩

theorem flatT_get : ∀ (R : List LX.Tok) (i : Nat) (h : i < R.length) (c : Nat), c < 4 → (flatT R)[i * 4 + c]? = (tokC R[i])[c]?
  | [], i, h, _, _ => by simp at h
  | x :: r, 0, _, c, hc => by
    simp only [flatT, Nat.zero_mul, Nat.zero_add, List.getElem_cons_zero]
    rw [List.getElem?_append_left (by simp [tokC]; omega)]
  | x :: r, i + 1, h, c, hc => by
    simp only [flatT, List.getElem_cons_succ]
    rw [List.getElem?_append_right (by simp [tokC]; omega), ← flatT_get r i (by simpa using h) c hc]
    congr 1
    simp [tokC]
    omega

theorem Rk.toksAt {G : Nat → Prop} {w : World} {v : Value} {ts : List LX.Tok} (h : Rk 4 G w v ts.length (flatT ts)) : ToksAt w v ts := by
  obtain ⟨_, ⟨rfl, h0⟩ | ⟨g, cap, rfl, _, hlt, _, _, hc, _⟩⟩ := h
  · have := List.eq_nil_of_length_eq_zero h0
    subst this
    exact ⟨none, 0, rfl, .inl rfl⟩
  · refine ⟨_, _, rfl, .inr ⟨g, 0, rfl, hlt, fun i hi => ?_⟩⟩
    have get : ∀ c, c < 4 → w.cell? ⟨g, 0 + i * 4 + c, none⟩ = (tokC ts[i])[c]? := fun c hc' => by
      rw [← flatT_get ts i hi c hc', Nat.zero_add]
      exact hc _ (by rw [flatT_length]; omega)
    exact ⟨get 0 (by omega), get 1 (by omega), get 2 (by omega), get 3 (by omega)⟩

/-- What lex.Lex is to answer. -/
def LexP (R : Except (Nat × Nat) (List LX.Tok)) (w : World) (e : Ending) (w' : World) : Prop :=
  Below w.heap.size w w' ∧ match R with
    | .error p => ∃ a c, e = .returned (.tuple #[.slice a 0 c, .agg #[.int .i64 (p.1 : Nat), .int .i64 (p.2 : Nat)]])
    | .ok ts => ∃ v, e = .returned (.tuple #[v, .agg #[.int .i64 0, .int .i64 0]]) ∧ ToksAt w' v ts

structure LexCalls : Prop where
  lex : ∀ (s : ByteArray) (_ : s.size ≤ 1048576) (w : World) (_ : Tabs w), Calls Tryd.prog 9 #[.string s] w (LexP (LX.lex s.data.toList) w)
  word : ∀ (s : ByteArray) (_ : s.size ≤ 1048576) (w : World) (_ : Tabs w), Calls Tryd.prog 12 #[.string s] w fun e w' => e = .returned (.bool (LX.isWord s.data.toList)) ∧ Below w.heap.size w w'
  text : ∀ (s : ByteArray) (_ : s.size ≤ 1048576) (w : World) (_ : Tabs w), Calls Tryd.prog 14 #[.string s] w fun e w' => e = .returned (.bool (LX.isText s.data.toList)) ∧ Below w.heap.size w w'
  quote : ∀ (s : ByteArray) (_ : s.size ≤ 1048576) (w : World) (_ : Tabs w), Calls Tryd.prog 11 #[.string s] w fun e w' => e = .returned (.string ⟨(LX.quote s.data.toList).toArray⟩) ∧ Below w.heap.size w w'

theorem LexCalls.err (H : LexCalls) {s : ByteArray} {l : List UInt8} (hs : s.data.toList = l) (h : s.size ≤ 1048576) {p : Nat × Nat} (hl : LX.lex l = .error p) (w : World) (hT : Tabs w) :
    Calls Tryd.prog 9 #[.string s] w fun e w' => ∃ a c, e = .returned (.tuple #[.slice a 0 c, .agg #[.int .i64 (p.1 : Nat), .int .i64 (p.2 : Nat)]]) ∧ Below w.heap.size w w' := by
  have := H.lex s h w hT
  rw [hs, hl] at this
  exact this.mono fun e w' ⟨a, b, c, d⟩ => ⟨b, c, d, a⟩

theorem LexCalls.ok (H : LexCalls) {s : ByteArray} {l : List UInt8} (hs : s.data.toList = l) (h : s.size ≤ 1048576) {ts : List LX.Tok} (hl : LX.lex l = .ok ts) (w : World) (hT : Tabs w) :
    Calls Tryd.prog 9 #[.string s] w fun e w' => ∃ v, e = .returned (.tuple #[v, .agg #[.int .i64 0, .int .i64 0]]) ∧ ToksAt w' v ts ∧ Below w.heap.size w w' := by
  have := H.lex s h w hT
  rw [hs, hl] at this
  exact this.mono fun e w' ⟨a, b, c, d⟩ => ⟨b, c, d, a⟩

theorem ref_err {s : ByteArray} {l : List UInt8} (hs : s.data.toList = l) (h : s.size ≤ 1048576) {p : Nat × Nat} (hl : LX.lex l = .error p) (w : World) (hT : Tabs w) :
    Calls Tryd.prog 10 #[.string s] w fun e w' => e = .returned (.tuple #[.slice none 0 0, .int .i64 (p.1 : Nat), .int .i64 (p.2 : Nat)]) ∧ Below w.heap.size w w' := by
  have := refLex_any s h w hT.utf
  rw [hs, hl] at this
  exact this.mono fun e w' ⟨a, b⟩ => ⟨b, a⟩

theorem ref_ok {s : ByteArray} {l : List UInt8} (hs : s.data.toList = l) (h : s.size ≤ 1048576) {ts : List LX.Tok} (hl : LX.lex l = .ok ts) (w : World) (hT : Tabs w) :
    Calls Tryd.prog 10 #[.string s] w fun e w' => ∃ v, e = .returned (.tuple #[v, .int .i64 0, .int .i64 0]) ∧ ToksAt w' v ts ∧ Below w.heap.size w w' := by
  have := refLex_any s h w hT.utf
  rw [hs, hl] at this
  exact this.mono fun e w' ⟨a, b, c, d⟩ => ⟨b, c, Rk.toksAt d, a⟩

/-! ### Two texts of the document's -/

theorem lexA : LX.lex [104, 97, 115, 32, 34, 97, 92, 34, 98, 34] = .ok [⟨2, [104, 97, 115], 0, 1⟩, ⟨4, [97, 34, 98], 0, 5⟩, ⟨0, [], 0, 11⟩] := by kernel_rfl
theorem lexB : LX.lex [32, 48, 48, 55] = .error (4, 2) := by kernel_rfl
theorem quoteC : LX.quote [97, 92] = [34, 97, 92, 92, 34] := by kernel_rfl

set_option maxHeartbeats 4000000 in
set_option maxRecDepth 100000 in
theorem alive_any (H : LexCalls) (w : World) (hT : Tabs w) : Calls Tryd.prog 8 #[] w fun e w' => e = .returned (.bool true) ∧ Below w.heap.size w w' := by
  have CA := H.ok (s := ⟨#[104, 97, 115, 32, 34, 97, 92, 34, 98, 34]⟩) rfl (by decide) lexA w hT
  have HT := Lib.hid hT
  have HH := Lib.hid H
  clear hT
  go_enter Tryd.func8, Tryd.ntmps8
  go_wp2_with fail
  refine CA.mono ?_
  rintro e w1 ⟨v, rfl, hta, hb1⟩
  have HTA := Lib.hid hta
  have HB1 := Lib.hid hb1
  obtain ⟨aa, ca, rfl, h0 | ⟨b, off, rfl, hbl, _⟩⟩ := id hta
  · cases h0
  have HBL := Lib.hid hbl
  clear CA hta hb1 hbl
  have hW2 : Below w1.heap.size w1 (w1.alloc (.cells #[.int .i64 0, .int .i64 0] 26)) := (Below.refl _ _).alloc (Nat.le_refl _) _
  have HW2 := Lib.hid hW2
  have CB := HH.out.err (s := ⟨#[32, 48, 48, 55]⟩) rfl (by decide) lexB (w1.alloc (.cells #[.int .i64 0, .int .i64 0] 26)) (Tabs.next HT.out (HB1.out.trans (hW2.mono HB1.out.size)))
  clear hW2
  go_wp2_with fail
  refine CB.mono ?_
  rintro e w3 ⟨a3, c3, rfl, hb3⟩
  have hl3 : w1.heap.size < w3.heap.size := Nat.lt_of_lt_of_le (by simp) hb3.size
  have q0 : w3.cell? ⟨w1.heap.size, 0, none⟩ = some (.int .i64 0) := (World.cell?_of_block (a := ⟨w1.heap.size, 0, none⟩) (hb3.block _ (by simp))).trans (by go_simp)
  have q1 : w3.cell? ⟨w1.heap.size, 1, none⟩ = some (.int .i64 0) := (World.cell?_of_block (a := ⟨w1.heap.size, 1, none⟩) (hb3.block _ (by simp))).trans (by go_simp)
  have HB3 := Lib.hid (HB1.out.trans ((HW2.out.trans (hb3.mono HW2.out.size)).mono HB1.out.size))
  have hta3 := HTA.out.next (HW2.out.trans (hb3.mono HW2.out.size))
  obtain ⟨_, _, hv, h0 | ⟨b', off', ha, hbl3, hc⟩⟩ := hta3
  · cases h0
  simp only [Value.slice.injEq] at hv
  obtain ⟨rfl, _, rfl⟩ := hv
  cases ha
  have t0 := (hc 0 (by decide)).1
  have t1 := (hc 1 (by decide)).2.1
  have t3 := (hc 1 (by decide)).2.2.2
  have CQ : ∀ W, Below w.heap.size w W → Calls Tryd.prog 11 #[.string ⟨#[97, 92]⟩] W fun e w' => e = .returned (.string ⟨#[34, 97, 92, 92, 34]⟩) ∧ Below W.heap.size W w' := fun W hb => by
    have := HH.out.quote ⟨#[97, 92]⟩ (by decide) W (Tabs.next HT.out hb)
    have e : (⟨#[97, 92]⟩ : ByteArray).data.toList = [97, 92] := rfl
    rw [e, quoteC] at this
    exact this
  have CQ2 := CQ (w3.alloc (.cells #[.int .i64 4, .int .i64 2] 26)) (HB3.out.alloc HB3.out.size _)
  have HB4 := Lib.hid (HB3.out.alloc HB3.out.size (.cells #[.int .i64 4, .int .i64 2] 26))
  simp only [List.getElem_cons_zero, List.getElem_cons_succ, Nat.zero_mul, Nat.add_zero, Nat.one_mul] at t0 t1 t3
  clear hc CB hb3 CQ HTA HW2 H
  go_wp2_with (go_at_call 11; refine CQ2.mono ?_; rintro e w5 ⟨rfl, hb5⟩)
  go_ret
  exact ⟨rfl, HB4.out.trans (hb5.mono HB4.out.size)⟩

end Go.Proofs.YtpchlnikcdhklaaDoor
