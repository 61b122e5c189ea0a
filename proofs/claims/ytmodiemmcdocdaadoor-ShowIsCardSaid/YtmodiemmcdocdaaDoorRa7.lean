/-
  THE DOCUMENT'S OWN Parse: its blocks (the parser, the query that is read, the result), its states.
-/
import Derived.Test.YtmodiemmcdocdaaDoorPrR
import Derived.Test.YtmodiemmcdocdaaDoorLxR
import Derived.Test.YtmodiemmcdocdaaDoorPe8
import Derived.Deep.Draws
namespace Go.Proofs.YtmodiemmcdocdaaDoor
open Go.RowKit Go
open PX (tk isT)
open SX (S)

theorem CB.drew {W : World} {B : Nat} {t : TypeId} {arr : Array Value} (h : CB W B t arr) : CB W.drew B t arr := h

abbrev zeroA : Array Value := #[.int .i64 0, .int .i64 0, .slice none 0 0, .int .i64 0, .string ⟨#[]⟩, .string ⟨#[]⟩, .slice none 0 0, .bool false, .int .i64 0, .string ⟨#[]⟩]

/-- The parser in state s, the query's cells, the result's. -/
structure RS (wA : World) (P Q R : Nat) (lv : Value) (ts : List LX.Tok) (s : S) (q : Array Value) (W : World) : Prop where
  ps : PS P lv ts 0 s W
  old : ∃ s0, PS P lv ts 0 s0 wA
  kp : Keep (fun k => k = P) wA W
  cq : CB W Q 29 q
  cr : CB W R 29 zeroA
  hQ : wA.heap.size ≤ Q
  hR : R < P
  hP : P < wA.heap.size

theorem RS.call {wA : World} {P Q R : Nat} {lv : Value} {ts : List LX.Tok} {s s' : S} {q : Array Value} {W W' : World} (h : RS wA P Q R lv ts s q W) (hp : PS P lv ts 0 s' W') (hk : Keep (fun k => k = P) W W') : RS wA P Q R lv ts s' q W' := by
  have h1 := h.hQ
  have h2 := h.hR
  have h3 := h.hP
  exact ⟨hp, h.old, h.kp.trans hk, h.cq.keep hk (by omega), h.cr.keep hk (by omega), h1, h2, h3⟩

/-- What changes new blocks alone keeps it. -/
theorem RS.next {wA : World} {P Q R : Nat} {lv : Value} {ts : List LX.Tok} {s : S} {q q' : Array Value} {W W' : World} (h : RS wA P Q R lv ts s q W) (hk : Keep (fun k => k = Q) W W') (hq : CB W' Q 29 q') : RS wA P Q R lv ts s q' W' := by
  have h1 := h.hQ
  have h2 := h.hR
  have h3 := h.hP
  obtain ⟨s0, h0⟩ := h.old
  have hkk : Keep (fun k => k = P) wA W' := Keep.over h.kp hk (fun k hk => by omega)
  exact ⟨PA.set h0 (h.ps.cb.keep hk (by omega)) hkk h.ps.lt h.ps.low, h.old, hkk, hq, h.cr.keep hk (by omega), h1, h2, h3⟩
theorem RS.set {wA : World} {P Q R : Nat} {lv : Value} {ts : List LX.Tok} {s : S} {q : Array Value} {W : World} (h : RS wA P Q R lv ts s q W) (i : Nat) (u : Value) : RS wA P Q R lv ts s (q.set! i u) (W.setCell ⟨Q, i, none⟩ u) :=
  h.next ((Keep.refl (fun k => k = Q) W).setCell (p := ⟨Q, i, none⟩) (.inr rfl) u) (h.cq.set i u)
theorem RS.lay {wA : World} {P Q R : Nat} {lv : Value} {ts : List LX.Tok} {s : S} {q : Array Value} {W W' : World} (h : RS wA P Q R lv ts s q W) (hl : Lay W W') : RS wA P Q R lv ts s q W' :=
  h.next (Lay.keep hl) (h.cq.keep hl (fun h => h))

/-- What turns blocks behind the query's alone keeps it. -/
theorem RS.over {wA : World} {P Q R : Nat} {lv : Value} {ts : List LX.Tok} {s : S} {q : Array Value} {W W' : World} (h : RS wA P Q R lv ts s q W) (hk : Keep (fun k => Q + 1 ≤ k) W W') : RS wA P Q R lv ts s q W' := by
  have h1 := h.hQ
  have h2 := h.hR
  have h3 := h.hP
  obtain ⟨s0, h0⟩ := h.old
  have hkk : Keep (fun k => k = P) wA W' := Keep.over h.kp hk (fun k hk => by have : Q + 1 ≤ k := hk; omega)
  exact ⟨PA.set h0 (h.ps.cb.keep hk (by omega)) hkk h.ps.lt h.ps.low, h.old, hkk, h.cq.keep hk (by omega), h.cr.keep hk (by omega), h1, h2, h3⟩

/-- With the matchers' row and the filter's kids. -/
structure RT (wA : World) (P Q R : Nat) (lv : Value) (ts : List LX.Tok) (s : S) (q : Array Value) (ms : List Mt) (au : Option Addr) (cu : Nat) (x : Ft) (ak : Option Addr) (ck : Nat) (W : World) : Prop where
  rs : RS wA P Q R lv ts s q W
  rk : Rk 3 (fun b => Q + 1 ≤ b) W (.slice au ms.length cu) ms.length (flatM ms)
  kb : KsB (fun b => Q + 1 ≤ b) W (.slice ak x.kids.length ck) x
theorem RT.ps {wA : World} {P Q R : Nat} {lv : Value} {ts : List LX.Tok} {s : S} {q : Array Value} {ms : List Mt} {au : Option Addr} {cu : Nat} {x : Ft} {ak : Option Addr} {ck : Nat} {W : World} (h : RT wA P Q R lv ts s q ms au cu x ak ck W) : PS P lv ts 0 s W := h.rs.ps
theorem RT.cq {wA : World} {P Q R : Nat} {lv : Value} {ts : List LX.Tok} {s : S} {q : Array Value} {ms : List Mt} {au : Option Addr} {cu : Nat} {x : Ft} {ak : Option Addr} {ck : Nat} {W : World} (h : RT wA P Q R lv ts s q ms au cu x ak ck W) : CB W Q 29 q := h.rs.cq
theorem RT.call {wA : World} {P Q R : Nat} {lv : Value} {ts : List LX.Tok} {s s' : S} {q : Array Value} {ms : List Mt} {au : Option Addr} {cu : Nat} {x : Ft} {ak : Option Addr} {ck : Nat} {W W' : World} (h : RT wA P Q R lv ts s q ms au cu x ak ck W) (hp : PS P lv ts 0 s' W') (hk : Keep (fun k => k = P) W W') : RT wA P Q R lv ts s' q ms au cu x ak ck W' := by
  have h1 := h.rs.hQ
  have h3 := h.rs.hP
  exact ⟨h.rs.call hp hk, h.rk.keep hk (fun b hb _ _ => by have : Q + 1 ≤ b := hb; omega), KsB.keep hk.size (fun b hb hl => hk.block b hl (by have : Q + 1 ≤ b := hb; omega)) _ _ h.kb⟩
theorem RT.set {wA : World} {P Q R : Nat} {lv : Value} {ts : List LX.Tok} {s : S} {q : Array Value} {ms : List Mt} {au : Option Addr} {cu : Nat} {x : Ft} {ak : Option Addr} {ck : Nat} {W : World} (h : RT wA P Q R lv ts s q ms au cu x ak ck W) (i : Nat) (u : Value) : RT wA P Q R lv ts s (q.set! i u) ms au cu x ak ck (W.setCell ⟨Q, i, none⟩ u) := by
  have hk : Keep (fun k => k = Q) W (W.setCell ⟨Q, i, none⟩ u) := (Keep.refl (fun k => k = Q) W).setCell (p := ⟨Q, i, none⟩) (.inr rfl) u
  exact ⟨h.rs.set i u, h.rk.keep hk (fun b hb _ _ => by have : Q + 1 ≤ b := hb; omega), KsB.keep hk.size (fun b hb hl => hk.block b hl (by have : Q + 1 ≤ b := hb; omega)) _ _ h.kb⟩
theorem RT.lay {wA : World} {P Q R : Nat} {lv : Value} {ts : List LX.Tok} {s : S} {q : Array Value} {ms : List Mt} {au : Option Addr} {cu : Nat} {x : Ft} {ak : Option Addr} {ck : Nat} {W W' : World} (h : RT wA P Q R lv ts s q ms au cu x ak ck W) (hl : Lay W W') : RT wA P Q R lv ts s q ms au cu x ak ck W' :=
  ⟨h.rs.lay hl, h.rk.lay hl, KsB.keep hl.size (fun b _ hb => hl.below.block b hb) _ _ h.kb⟩

theorem SX.Says.split {r : Except (Nat × Nat) Qy} {x : Qy × S} (h : SX.Says r x) : (x.2.err = 0 → r = .ok x.1) ∧ (x.2.err ≠ 0 → r = .error (x.2.err, x.2.pl)) := by
  unfold SX.Says at h
  rcases r with ⟨e, p⟩ | q
  · obtain ⟨h1, h2, h3⟩ := h
    exact ⟨fun h0 => absurd (h2.symm.trans h0) h1, fun _ => by rw [h2, h3]⟩
  · obtain ⟨h1, h2⟩ := h
    exact ⟨fun _ => by rw [h1], fun h0 => absurd h2 h0⟩

theorem lay_drewN (W : World) (n : Nat) : Lay W (W.drewN n) := ⟨rfl, rfl, rfl, Nat.le_refl _, Nat.le_add_right _ _, fun _ _ _ => rfl⟩

/-- What the document's Parse answers. -/
def RefR (r : Except (Nat × Nat) Qy) (w : World) (e : Ending) (w' : World) : Prop :=
  Below w.heap.size w w' ∧ match r with
    | .error p => e = .returned (.tuple #[zeroQ, .int .i64 (p.1 : Nat), .int .i64 (p.2 : Nat)])
    | .ok q => ∃ v, e = .returned (.tuple #[v, .int .i64 0, .int .i64 0]) ∧ QAt w' v q

theorem SX.token_i (ts : List LX.Tok) (s : S) (k : Nat) : s.i ≤ (SX.token ts s k).i := by
  unfold SX.token
  split
  · exact Nat.le_succ _
  · rw [SX.wrong_i]; exact Nat.le_refl _
theorem SX.want_i (ts : List LX.Tok) (s : S) (l : List UInt8) : s.i ≤ (SX.want ts s l).i := by
  unfold SX.want
  split
  · exact Nat.le_succ _
  · rw [SX.wrong_i]; exact Nat.le_refl _
theorem SX.where1_i (ts : List LX.Tok) (n : Nat) (s : S) : s.i + 1 ≤ (SX.where1 ts n s).2.i := by
  have h1 : (SX.full ts n s).i = s.i + 1 := by
    unfold SX.full
    split
    · rw [SX.wrong_i]; rfl
    · rfl
  have h2 := SX.token_i ts (SX.full ts n s) 1
  have h3 : (SX.token ts (SX.full ts n s) 1).i ≤ (SX.eqS ts (SX.token ts (SX.full ts n s) 1)).i := by
    unfold SX.eqS
    split
    · exact Nat.le_succ _
    · exact SX.want_i ts _ _
  have h4 := SX.token_i ts (SX.eqS ts (SX.token ts (SX.full ts n s) 1)) 4
  unfold SX.where1
  dsimp only
  omega
theorem SX.where1_full (ts : List LX.Tok) (s : S) : (SX.where1 ts 4 s).2.err ≠ 0 := by
  have hb : (SX.full ts 4 s).err ≠ 0 := by unfold SX.full; rw [if_pos rfl]; exact SX.wrong_bad ts _ (by decide) _
  unfold SX.where1
  dsimp only
  rw [SX.token_keep ts hb, SX.eqS_keep ts hb, SX.token_keep ts hb]
  exact hb
theorem SX.where1_four (ts : List LX.Tok) {n : Nat} (s : S) (hn : n ≤ 4) (h0 : (SX.where1 ts n s).2.err = 0) : n + 1 ≤ 4 := by
  rcases Nat.lt_or_ge n 4 with h | h
  · omega
  · obtain rfl : n = 4 := by omega
    exact absurd h0 (SX.where1_full ts s)
end Go.Proofs.YtmodiemmcdocdaaDoor
