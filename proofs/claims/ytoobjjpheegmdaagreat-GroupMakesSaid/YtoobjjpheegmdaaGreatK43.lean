/-
  Gq16.
-/
import Derived.Test.YtoobjjpheegmdaaGreatK42
import Derived.Test.YtoobjjpheegmdaaGreatK15
namespace Go.Proofs.YtoobjjpheegmdaaGreat.E4
open Go.RowKit Go
theorem enter_add {k : Nat} (hk : k = 1 ∨ k = 2 ∨ k = 3) (args : Array Value) (W : World) : (callFunc (addK k) args).run Tryz.prog W = .ok (.enter (addK k) args) W := by
  rcases hk with rfl | rfl | rfl <;> kernel_rfl
theorem enter_ask {k : Nat} (hk : k = 1 ∨ k = 2 ∨ k = 3) (args : Array Value) (W : World) : (callFunc (askK k) args).run Tryz.prog W = .ok (.enter (askK k) args) W := by
  rcases hk with rfl | rfl | rfl <;> kernel_rfl
theorem inv_add {k : Nat} (hk : k = 1 ∨ k = 2 ∨ k = 3) (v : Value) (fuel : Nat) (W : World) : (method (fuel + 1) (tyK k) v "Add").run Tryz.prog W = .ok (addK k, v) W := by
  rcases hk with rfl | rfl | rfl <;> kernel_rfl
theorem inv_ask {k : Nat} (hk : k = 1 ∨ k = 2 ∨ k = 3) (v : Value) (fuel : Nat) (W : World) : (method (fuel + 1) (tyK k) v "Ask").run Tryz.prog W = .ok (askK k, v) W := by
  rcases hk with rfl | rfl | rfl <;> kernel_rfl
structure GC (ρ : Nat → Nat) (E : Nat → List Ent) (w : World) (g : Nat) (log : List Ent) (P : List Rep) (lv rv : Value) (R : List (Value × Ent)) : Prop where
  c : Bl w g 67 #[lv, rv]
  g : ρ g = 1
  z : ρ 0 = 0
  l : Rk 3 (fun b => ρ b = 2) w lv R.length (flatR R)
  rl : RawL (fun b => ρ b = 3) w R
  e : R.map Prod.snd = log
  r : Rk 3 (fun b => ρ b = 4) w rv P.length (flatP P)
  n : P.length ≤ 3
  k : ∀ x ∈ P, x.k = 1 ∨ x.k = 2 ∨ x.k = 3
  en : ∀ i (h : i < P.length) b, P[i].eb = some b → EngF P[i].k (fun q => ρ q = 5 + i) w b (E i)
  ok : ∀ x ∈ log, x.ok = true
  hl : log.length ≤ 100
  mx : MaxI w
def GAt (ρ : Nat → Nat) (w : World) (g : Nat) (log : List Ent) (P : List Rep) : Prop := ∃ lv rv R, GC ρ (fun _ => addAll [] log) w g log P lv rv R
theorem GC.pos {ρ : Nat → Nat} {E : Nat → List Ent} {w : World} {g : Nat} {log : List Ent} {P : List Rep} {lv rv : Value} {R : List (Value × Ent)} (h : GC ρ E w g log P lv rv R) : 0 < w.heap.size := h.mx.pos
theorem GC.carry {ρ : Nat → Nat} {E : Nat → List Ent} {w w' : World} {g : Nat} {log : List Ent} {P : List Rep} {lv rv : Value} {R : List (Value × Ent)} (h : GC ρ E w g log P lv rv R) (hs : w.heap.size ≤ w'.heap.size) (hb : ∀ b, b < w.heap.size → ρ b ≠ 0 ∨ b = 0 → w'.heap[b]? = w.heap[b]?) : GC ρ E w' g log P lv rv R :=
  ⟨(hb _ h.c.lt (.inl (by rw [h.g]; decide))).trans h.c, h.g, h.z, h.l.carry hs fun b hg _ hlt => hb b hlt (.inl (by rw [hg]; decide)), fun x hx => (h.rl x hx).carry hs fun b hg hlt => hb b hlt (.inl (by rw [hg]; decide)), h.e,
    h.r.carry hs fun b hg _ hlt => hb b hlt (.inl (by rw [hg]; decide)), h.n, h.k, fun i hi b hbq => (h.en i hi b hbq).carry hs (hb 0 h.pos (.inr rfl)) fun q hlt hq => hb q hlt (.inl (by rw [hq]; omega)), h.ok, h.hl, h.mx.carry (hb 0 h.pos (.inr rfl))⟩
theorem GC.below {ρ : Nat → Nat} {E : Nat → List Ent} {w w' : World} {g : Nat} {log : List Ent} {P : List Rep} {lv rv : Value} {R : List (Value × Ent)} (h : GC ρ E w g log P lv rv R) (hb : Below w.heap.size w w') : GC ρ E w' g log P lv rv R := h.carry hb.size fun b hlt _ => hb.block b hlt
theorem GC.conv {ρ ρ' : Nat → Nat} {E : Nat → List Ent} {w : World} {g : Nat} {log : List Ent} {P : List Rep} {lv rv : Value} {R : List (Value × Ent)} (h : GC ρ E w g log P lv rv R) (hk : ∀ b, b < w.heap.size → ρ' b = ρ b) : GC ρ' E w g log P lv rv R :=
  ⟨h.c, (hk _ h.c.lt).trans h.g, (hk _ h.pos).trans h.z, h.l.mono fun b hg ha => (hk b (h.l.at ha).2).trans hg, h.rl.mono fun b hg hlt => (hk b hlt).trans hg, h.e, h.r.mono fun b hg ha => (hk b (h.r.at ha).2).trans hg, h.n, h.k,
    fun i hi b hbq => (h.en i hi b hbq).mono fun q hlt hq => (hk q hlt).trans hq, h.ok, h.hl, h.mx⟩
theorem GAt.carry {ρ : Nat → Nat} {w w' : World} {g : Nat} {log : List Ent} {P : List Rep} (h : GAt ρ w g log P) (hs : w.heap.size ≤ w'.heap.size) (hb : ∀ b, b < w.heap.size → ρ b ≠ 0 ∨ b = 0 → w'.heap[b]? = w.heap[b]?) : GAt ρ w' g log P := by
  obtain ⟨lv, rv, R, h⟩ := h
  exact ⟨lv, rv, R, h.carry hs hb⟩
theorem GAt.below {ρ : Nat → Nat} {w w' : World} {g : Nat} {log : List Ent} {P : List Rep} (h : GAt ρ w g log P) (hb : Below w.heap.size w w') : GAt ρ w' g log P := h.carry hb.size fun b hlt _ => hb.block b hlt
structure Turns (ρ ρ' : Nat → Nat) (w w' : World) : Prop where
  ag : ∀ b, b < w.heap.size → ρ' b = ρ b
  hold : ∀ b, b < w.heap.size → ρ b = 0 → w'.heap[b]? = w.heap[b]?
  bel : Below 0 w w'
theorem Turns.of {ρ : Nat → Nat} {w w' : World} (h : Below w.heap.size w w') : Turns ρ ρ w w' := ⟨fun _ _ => rfl, fun b hb _ => h.block b hb, h.mono (Nat.zero_le _)⟩
theorem Turns.trans {ρ ρ' ρ2 : Nat → Nat} {w w' w2 : World} (h : Turns ρ ρ' w w') (k : Turns ρ' ρ2 w' w2) : Turns ρ ρ2 w w2 :=
  ⟨fun b hb => (k.ag b (Nat.lt_of_lt_of_le hb h.bel.size)).trans (h.ag b hb), fun b hb h0 => (k.hold b (Nat.lt_of_lt_of_le hb h.bel.size) ((h.ag b hb).trans h0)).trans (h.hold b hb h0), h.bel.trans k.bel⟩
theorem Turns.below {ρ ρ' : Nat → Nat} {w w' : World} (h : Turns ρ ρ' w w') {B : Nat} (hB : B ≤ w.heap.size) (hz : ∀ b, b < B → ρ b = 0) : Below B w w' :=
  ⟨h.bel.os, h.bel.tape, h.bel.output, h.bel.size, fun b hb => h.hold b (Nat.lt_of_lt_of_le hb hB) (hz b hb)⟩
theorem below_of_keep0 {H : Nat → Prop} {w w' : World} (h : Keep H w w') : Below 0 w w' := ⟨h.os, h.tape, h.output, h.size, fun _ hb => by omega⟩
def repAt (P : List Rep) (i : Int) : Option Rep := if 0 ≤ i then P[i.toNat]? else none
theorem repAt_none {P : List Rep} {i : Int} (h : repAt P i = none) : ¬ (0 ≤ i ∧ i < P.length) := by
  rintro ⟨h0, h1⟩
  unfold repAt at h
  rw [if_pos h0, List.getElem?_eq_none_iff] at h
  omega
theorem repAt_some {P : List Rep} {i : Int} {r : Rep} (h : repAt P i = some r) : ∃ (j : Nat) (hj : j < P.length), i = (j : Int) ∧ P[j] = r := by
  unfold repAt at h
  split at h
  · rename_i h0
    obtain ⟨hj, e⟩ := List.getElem?_eq_some_iff.1 h
    exact ⟨i.toNat, hj, by omega, e⟩
  · cases h
def epochOf (P : List Rep) (i : Int) : Int := (repAt P i).elim 0 fun r => (r.ep : Int)
def upOf (P : List Rep) (i : Int) : Bool := (repAt P i).any fun r => r.eb.isSome
set_option maxRecDepth 100000 in
theorem gEpoch_any {ρ : Nat → Nat} {E : Nat → List Ent} {w : World} {g : Nat} {log : List Ent} {P : List Rep} {lv rv : Value} {R : List (Value × Ent)} (h : GC ρ E w g log P lv rv R) (i : Int) :
    Calls Tryz.prog 20 #[.pointer (some ⟨g, 0, none⟩), .int .i64 i] w fun x w' => x = .returned (.int .i64 (epochOf P i)) ∧ w' = w := by
  obtain ⟨a, c, rfl⟩ := h.r.shape
  unfold epochOf
  cases hr : repAt P i with
  | none =>
    have HA := Lib.hid (at_no h.c (repAt_none hr))
    clear h hr
    go_enter Tryz.func20, Tryz.ntmps20
    go_wp2_with (go_at_call 27; refine HA.out.mono ?_; rintro x w2 ⟨rfl, rfl⟩)
    go_ret
    exact ⟨rfl, rfl⟩
  | some r =>
    obtain ⟨j, hj, rfl, rfl⟩ := repAt_some hr
    obtain ⟨q, c', hv, -, -, -, x1, -⟩ := h.r.rep hj
    simp only [Value.slice.injEq, true_and] at hv
    obtain ⟨rfl, rfl⟩ := hv
    have HA := Lib.hid (at_yes h.c hj h.n)
    clear h hr
    go_enter Tryz.func20, Tryz.ntmps20
    go_wp2_with (go_at_call 27; refine HA.out.mono ?_; rintro x w2 ⟨rfl, rfl⟩)
    go_ret
    exact ⟨rfl, rfl⟩
set_option maxRecDepth 100000 in
theorem gUp_any {ρ : Nat → Nat} {E : Nat → List Ent} {w : World} {g : Nat} {log : List Ent} {P : List Rep} {lv rv : Value} {R : List (Value × Ent)} (h : GC ρ E w g log P lv rv R) (i : Int) :
    Calls Tryz.prog 16 #[.pointer (some ⟨g, 0, none⟩), .int .i64 i] w fun x w' => x = .returned (.bool (upOf P i)) ∧ w' = w := by
  obtain ⟨a, c, rfl⟩ := h.r.shape
  unfold upOf
  cases hr : repAt P i with
  | none =>
    have HA := Lib.hid (at_no h.c (repAt_none hr))
    have HU := Lib.hid (upR_nil w)
    clear h hr
    go_enter Tryz.func16, Tryz.ntmps16
    go_upto_region 1 with fail
    go_wp2_with fail
    refine HA.out.mono ?_
    rintro x w2 ⟨rfl, rfl⟩
    go_wp2_with (go_at_call 26; refine HU.out.mono ?_; rintro x w2 ⟨rfl, rfl⟩)
    go_ret
    exact ⟨rfl, rfl⟩
  | some r =>
    obtain ⟨j, hj, rfl, rfl⟩ := repAt_some hr
    obtain ⟨q, c', hv, -, -, -, -, x2, -⟩ := h.r.rep hj
    simp only [Value.slice.injEq, true_and] at hv
    obtain ⟨rfl, rfl⟩ := hv
    have HA := Lib.hid (at_yes h.c hj h.n)
    have HU := Lib.hid (upR_any x2)
    clear h hr x2
    go_enter Tryz.func16, Tryz.ntmps16
    go_upto_region 1 with fail
    go_wp2_with fail
    refine HA.out.mono ?_
    rintro x w2 ⟨rfl, rfl⟩
    go_wp2_with (go_at_call 26; refine HU.out.mono ?_; rintro x w2 ⟨rfl, rfl⟩)
    go_ret
    exact ⟨rfl, rfl⟩
def crashP (P : List Rep) (i : Int) : List Rep × Int := match repAt P i with
  | none => (P, 11)
  | some r => if r.eb.isSome then (P.set i.toNat { r with eb := none }, 0) else (P, 10)
theorem GC.seteb {ρ : Nat → Nat} {E : Nat → List Ent} {w : World} {g : Nat} {log : List Ent} {P : List Rep} {lv : Value} {q c : Nat} {R : List (Value × Ent)} (h : GC ρ E w g log P lv (.slice (some ⟨q, 0, none⟩) P.length c) R) {j : Nat} (hj : j < P.length) (o : Option Nat) (ho : ∀ b, o = some b → EngF P[j].k (fun q => ρ q = 5 + j) w b (E j)) :
    GC ρ E (w.setCell ⟨q, j * 3 + 2, none⟩ (engV P[j].k o)) g log (P.set j { P[j] with eb := o }) lv (.slice (some ⟨q, 0, none⟩) P.length c) R ∧ Keep (fun b => ρ b = 4) w (w.setCell ⟨q, j * 3 + 2, none⟩ (engV P[j].k o)) := by
  have hq : ρ q = 4 := by
    obtain ⟨q', c', hv, hg, _⟩ := h.r.rep hj
    simp only [Value.slice.injEq, true_and, Option.some.injEq, Addr.mk.injEq, and_true] at hv
    rw [hv.1]
    exact hg
  have hk : Keep (fun b => ρ b = 4) w (w.setCell ⟨q, j * 3 + 2, none⟩ (engV P[j].k o)) := (keep_set12 (Keep.refl (fun b => b = q) w) _ _).into fun b _ h => by rw [h]; exact hq
  have hr := h.r.setK (j * 3 + 2) (by rw [flatP_length]; omega) (engV P[j].k o)
  rw [← flatP_eng P j hj o] at hr
  have hz := h.z
  refine ⟨⟨(hk.block g h.c.lt (by show ¬ ρ g = 4; rw [h.g]; decide)).trans h.c, h.g, h.z, h.l.keep hk (fun b hb _ _ h2 => by omega), h.rl.keep hk (fun b hb _ h2 => by omega), h.e, ?_, ?_, fun x hx => ?_, fun i hi b hb => ?_, h.ok, h.hl, h.mx.carry (hk.block 0 h.pos (by show ¬ ρ 0 = 4; omega))⟩, hk⟩
  · rw [List.length_set]; exact hr
  · rw [List.length_set]; exact h.n
  · rcases List.mem_or_eq_of_mem_set hx with hx | rfl
    · exact h.k x hx
    · exact h.k P[j] (List.getElem_mem hj)
  · have hi' : i < P.length := by simpa using hi
    have hcar : ∀ (k b : Nat) (es : List Ent), EngF k (fun q => ρ q = 5 + i) w b es → EngF k (fun q => ρ q = 5 + i) (w.setCell ⟨q, j * 3 + 2, none⟩ (engV P[j].k o)) b es := fun k b es hE => hE.carry hk.size (hk.block 0 h.pos (by show ¬ ρ 0 = 4; omega)) fun q hlt hq => hk.block q hlt (by show ¬ ρ q = 4; omega)
    by_cases e : j = i
    · subst e
      rw [List.getElem_set_self] at hb ⊢
      exact hcar _ _ _ (ho b hb)
    · rw [List.getElem_set_ne e] at hb ⊢
      exact hcar _ _ _ (h.en i hi' b hb)
theorem GC.down {ρ : Nat → Nat} {E : Nat → List Ent} {w : World} {g : Nat} {log : List Ent} {P : List Rep} {lv : Value} {q c : Nat} {R : List (Value × Ent)} (h : GC ρ E w g log P lv (.slice (some ⟨q, 0, none⟩) P.length c) R) {j : Nat} (hj : j < P.length) :
    GC ρ E (w.setCell ⟨q, j * 3 + 2, none⟩ .nilIface) g log (P.set j { P[j] with eb := none }) lv (.slice (some ⟨q, 0, none⟩) P.length c) R ∧ Keep (fun b => ρ b = 4) w (w.setCell ⟨q, j * 3 + 2, none⟩ .nilIface) := h.seteb hj none fun _ h => by cases h
theorem GC.setep {ρ : Nat → Nat} {E : Nat → List Ent} {w : World} {g : Nat} {log : List Ent} {P : List Rep} {lv : Value} {q c : Nat} {R : List (Value × Ent)} (h : GC ρ E w g log P lv (.slice (some ⟨q, 0, none⟩) P.length c) R) {j : Nat} (hj : j < P.length) (n : Nat) :
    GC ρ E (w.setCell ⟨q, j * 3 + 1, none⟩ (.int .i64 n)) g log (P.set j { P[j] with ep := n }) lv (.slice (some ⟨q, 0, none⟩) P.length c) R ∧ Keep (fun b => ρ b = 4) w (w.setCell ⟨q, j * 3 + 1, none⟩ (.int .i64 n)) := by
  have hq : ρ q = 4 := by
    obtain ⟨q', c', hv, hg, _⟩ := h.r.rep hj
    simp only [Value.slice.injEq, true_and, Option.some.injEq, Addr.mk.injEq, and_true] at hv
    rw [hv.1]
    exact hg
  have hk : Keep (fun b => ρ b = 4) w (w.setCell ⟨q, j * 3 + 1, none⟩ (.int .i64 n)) := (keep_set12 (Keep.refl (fun b => b = q) w) _ _).into fun b _ h => by rw [h]; exact hq
  have hr := h.r.setK (j * 3 + 1) (by rw [flatP_length]; omega) (.int .i64 n)
  rw [← flatP_ep P j hj n] at hr
  have hz := h.z
  refine ⟨⟨(hk.block g h.c.lt (by show ¬ ρ g = 4; rw [h.g]; decide)).trans h.c, h.g, h.z, h.l.keep hk (fun b hb _ _ h2 => by omega), h.rl.keep hk (fun b hb _ h2 => by omega), h.e, ?_, ?_, fun x hx => ?_, fun i hi b hb => ?_, h.ok, h.hl, h.mx.carry (hk.block 0 h.pos (by show ¬ ρ 0 = 4; omega))⟩, hk⟩
  · rw [List.length_set]; exact hr
  · rw [List.length_set]; exact h.n
  · rcases List.mem_or_eq_of_mem_set hx with hx | rfl
    · exact h.k x hx
    · exact h.k P[j] (List.getElem_mem hj)
  · have hi' : i < P.length := by simpa using hi
    have hcar : ∀ (k b : Nat) (es : List Ent), EngF k (fun q => ρ q = 5 + i) w b es → EngF k (fun q => ρ q = 5 + i) (w.setCell ⟨q, j * 3 + 1, none⟩ (.int .i64 n)) b es := fun k b es hE => hE.carry hk.size (hk.block 0 h.pos (by show ¬ ρ 0 = 4; omega)) fun q hlt hq => hk.block q hlt (by show ¬ ρ q = 4; omega)
    by_cases e : j = i
    · subst e
      rw [List.getElem_set_self] at hb ⊢
      exact hcar _ _ _ (h.en _ hi' b hb)
    · rw [List.getElem_set_ne e] at hb ⊢
      exact hcar _ _ _ (h.en i hi' b hb)
set_option maxRecDepth 100000 in
theorem gCrash_any {ρ : Nat → Nat} {w : World} {g : Nat} {log : List Ent} {P : List Rep} (h : GAt ρ w g log P) (i : Int) :
    Calls Tryz.prog 10 #[.pointer (some ⟨g, 0, none⟩), .int .i64 i] w fun x w' => x = .returned (.int .i64 (crashP P i).2) ∧ GAt ρ w' g log (crashP P i).1 ∧ Turns ρ ρ w w' := by
  have HH := Lib.hid h
  obtain ⟨lv, rv, R, h⟩ := h
  obtain ⟨a, c, rfl⟩ := h.r.shape
  unfold crashP
  cases hr : repAt P i with
  | none =>
    have HA := Lib.hid (at_no h.c (repAt_none hr))
    clear h hr
    go_enter Tryz.func10, Tryz.ntmps10
    go_wp2_with (go_at_call 27; refine HA.out.mono ?_; rintro x w2 ⟨rfl, rfl⟩)
    go_ret
    exact ⟨rfl, HH.out, Turns.of (Below.refl _ _)⟩
  | some r =>
    obtain ⟨j, hj, rfl, rfl⟩ := repAt_some hr
    obtain ⟨q, c', hv, hq, hqlt, -, -, x2, -, f2⟩ := h.r.rep hj
    simp only [Value.slice.injEq, true_and] at hv
    obtain ⟨rfl, rfl⟩ := hv
    have HA := Lib.hid (at_yes h.c hj h.n)
    have HU := Lib.hid (upR_any x2)
    cases he : P[j].eb with
    | none =>
      rw [he] at HU
      simp only [he, Option.isSome_none, Bool.false_eq_true, if_false]
      clear h hr x2 f2 he
      go_enter Tryz.func10, Tryz.ntmps10
      go_wp2_with (first | (go_at_call 27; refine HA.out.mono ?_; rintro x w2 ⟨rfl, rfl⟩) | (go_at_call 26; refine HU.out.mono ?_; rintro x w2 ⟨rfl, rfl⟩))
      go_ret
      exact ⟨rfl, HH.out, Turns.of (Below.refl _ _)⟩
    | some eb =>
      rw [he] at HU x2
      obtain ⟨hd, hk⟩ := h.down hj
      have HD := Lib.hid hd
      have HK : Hid (Turns ρ ρ w (w.setCell ⟨q, j * 3 + 2, none⟩ .nilIface)) := Lib.hid ⟨fun _ _ => rfl, fun b hb h0 => hk.block b hb (by show ¬ ρ b = 4; omega), below_of_keep0 hk⟩
      simp only [he, Option.isSome_some, if_true, Int.toNat_natCast]
      clear h hr hd hk he
      go_enter Tryz.func10, Tryz.ntmps10
      go_wp2_with (first | (go_at_call 27; refine HA.out.mono ?_; rintro x w2 ⟨rfl, rfl⟩) | (go_at_call 26; refine HU.out.mono ?_; rintro x w2 ⟨rfl, rfl⟩))
      go_ret
      exact ⟨rfl, ⟨_, _, _, HD.out⟩, HK.out⟩
end Go.Proofs.YtoobjjpheegmdaaGreat.E4
