/-
  THE DOCUMENT'S OWN Parser: wrong, take, want, token, number, in.
  THE DOCUMENT'S OWN Parser: take.
  THE DOCUMENT'S OWN Parser: token.
  THE DOCUMENT'S OWN Parser: want, number, in.
  THE DOCUMENT'S OWN Parser: And.
  THE DOCUMENT'S OWN Parser: Or.
  THE DOCUMENT'S OWN Parser: Atom, of nots.
  THE DOCUMENT'S OWN Parser: Atom, of one not too many.
  THE DOCUMENT'S OWN Parser: Atom, of brackets.
  THE DOCUMENT'S OWN Parser: Atom, of one bracket too many.
  THE DOCUMENT'S OWN Parser: Atom, of one that nothing stands within.
  THE DOCUMENT'S OWN Parser: Atom and Or, whole.
-/
import Derived.Test.YtmodiemmcdocdaaDoorBs7
import Derived.Test.YtmodiemmcdocdaaDoorPxA
import Derived.Test.YtmodiemmcdocdaaDoorLxR
import Derived.Test.YtmodiemmcdocdaaDoorQryA6
import Derived.Deep.QuietTactic
import Derived.BigQuiet
import Derived.StillTailTactics
import Derived.BigRegion
import Derived.Test.YtmodiemmcdocdaaDoorMkA
namespace Go.Proofs.YtmodiemmcdocdaaDoor
open Go.RowKit Go
open PX (tk isT)

/-- The parser's block: its tokens, which is next, how deep, what is wrong, and where. -/
structure PA (P : Nat) (lv : Value) (ts : List LX.Tok) (i deep err pl : Nat) (w : World) : Prop where
  cb : CB w P 59 #[lv, .int .i64 (i : Nat), .int .i64 (deep : Nat), .int .i64 (err : Nat), .int .i64 (pl : Nat)]
  tok : Rk 4 (fun k => k ≠ P) w lv ts.length (flatT ts)
  lt : i < ts.length
  few : ts.length ≤ 1100
  low : deep ≤ 9

theorem PA.lay {P : Nat} {lv : Value} {ts : List LX.Tok} {i deep err pl : Nat} {w w' : World} (h : PA P lv ts i deep err pl w) (hl : Lay w w') : PA P lv ts i deep err pl w' :=
  ⟨h.cb.keep hl (fun h => h), h.tok.lay hl, h.lt, h.few, h.low⟩

theorem PA.set {P : Nat} {lv : Value} {ts : List LX.Tok} {i deep err pl i' deep' err' pl' : Nat} {w w' : World} (h : PA P lv ts i deep err pl w) (hc : CB w' P 59 #[lv, .int .i64 (i' : Nat), .int .i64 (deep' : Nat), .int .i64 (err' : Nat), .int .i64 (pl' : Nat)]) (hk : Keep (fun k => k = P) w w') (hi : i' < ts.length) (hd : deep' ≤ 9) : PA P lv ts i' deep' err' pl' w' :=
  ⟨hc, h.tok.keep hk (fun _ hg _ _ e => hg e), hi, h.few, hd⟩

/-- Token j's cells. -/
theorem PA.token {P : Nat} {lv : Value} {ts : List LX.Tok} {i deep err pl : Nat} {w : World} (h : PA P lv ts i deep err pl w) {j : Nat} (hj : j < ts.length) : ∃ b c, lv = .slice (some ⟨b, 0, none⟩) ts.length c ∧ b < w.heap.size ∧ b ≠ P ∧
    w.cell? ⟨b, j * 4, none⟩ = some (.int .i64 ((tk ts j).kind : Nat)) ∧ w.cell? ⟨b, j * 4 + 1, none⟩ = some (.string ⟨(tk ts j).says.toArray⟩) ∧ w.cell? ⟨b, j * 4 + 2, none⟩ = some (.int .i64 (tk ts j).n) ∧ w.cell? ⟨b, j * 4 + 3, none⟩ = some (.int .i64 ((tk ts j).place : Nat)) := by
  obtain ⟨_, ⟨_, h0⟩ | ⟨g, cap, hv, hg, hlt, _, _, hc, _⟩⟩ := h.tok
  · omega
  · have get : ∀ c, c < 4 → w.cell? ⟨g, j * 4 + c, none⟩ = (tokC (tk ts j))[c]? := fun c hc' => by
      rw [PX.tk_get hj, ← flatT_get ts j hj c hc']
      exact hc _ (by rw [flatT_length]; omega)
    exact ⟨g, cap, hv, hlt, hg, get 0 (by omega), get 1 (by omega), get 2 (by omega), get 3 (by omega)⟩

set_option maxHeartbeats 4000000 in
set_option maxRecDepth 100000 in
/-- What is wrong first stays. -/
theorem wrong_any (P : Nat) (lv : Value) (ts : List LX.Tok) (i deep err pl e j : Nat) (w : World) (h : PA P lv ts i deep err pl w) (hj : j < ts.length) :
    Calls Tryd.prog 31 #[.pointer (some ⟨P, 0, none⟩), .int .i64 (e : Nat), .int .i64 (j : Nat)] w fun r w' => (∃ v, r = .returned v) ∧ PA P lv ts i deep (if err = 0 then e else err) (if err = 0 then (tk ts j).place else pl) w' ∧ Keep (fun k => k = P) w w' := by
  obtain ⟨b, c, rfl, hb, hbP, t0, t1, t2, t3⟩ := h.token hj
  have hcb := h.cb
  have x0 : w.cell? ⟨P, 0, none⟩ = some (.slice (some ⟨b, 0, none⟩) ts.length c) := hcb.cell 0
  have x3 : w.cell? ⟨P, 3, none⟩ = some (.int .i64 (err : Nat)) := hcb.cell 3
  have x4 : w.cell? ⟨P, 4, none⟩ = some (.int .i64 (pl : Nat)) := hcb.cell 4
  have f3 := hcb.frozen 3
  have f4 := hcb.frozen 4
  have HH := Lib.hid h
  have hPb : ¬ P = b := fun e => hbP e.symm
  by_cases h0 : err = 0
  · subst h0
    have hPl := hcb.lt
    have HCB := Lib.hid hcb
    have hjl : (j : Int) < (ts.length : Int) := by omega
    clear h hcb
    go_enter Tryd.func31, Tryd.ntmps31
    go_wp2_with fail
    go_end0
    refine ⟨⟨_, rfl⟩, ?_, ?_⟩
    · refine HH.out.set ?_ ?_ HH.out.lt HH.out.low
      · have h3 : CB _ P 59 #[_, _, _, .int .i64 (e : Nat), _] := HCB.out.set 3 (.int .i64 (e : Nat))
        exact h3.set 4 (.int .i64 ((tk ts j).place : Nat))
      · exact ((Keep.refl (fun k => k = P) w).setCell (p := ⟨P, 3, none⟩) (.inr rfl) _).setCell (p := ⟨P, 4, none⟩) (.inr rfl) _
    · exact ((Keep.refl (fun k => k = P) w).setCell (p := ⟨P, 3, none⟩) (.inr rfl) _).setCell (p := ⟨P, 4, none⟩) (.inr rfl) _
  · have h1 : ((err : Int) == 0) = false := by simp; omega
    clear h hcb
    go_enter Tryd.func31, Tryd.ntmps31
    go_wp2_with fail
    go_end0
    exact ⟨⟨_, rfl⟩, HH.out, Keep.refl _ _⟩

end Go.Proofs.YtmodiemmcdocdaaDoor

namespace Go.Proofs.YtmodiemmcdocdaaDoor
open Go.RowKit Go
open PX (tk isT)

set_option maxHeartbeats 4000000 in
set_option maxRecDepth 100000 in
theorem take_run (P : Nat) (lv : Value) (ts : List LX.Tok) (i deep err pl : Nat) (s : List UInt8) (w : World) (h : PA P lv ts i deep err pl w) (he : PX.Ended ts) (y : Bool) (i' : Nat) (hy : (decide (err = 0) && isT (tk ts i) s) = y) (hi' : (if y = true then i + 1 else i) = i') :
    Calls Tryd.prog 32 #[.pointer (some ⟨P, 0, none⟩), .string ⟨s.toArray⟩] w fun r w' => r = .returned (.bool y) ∧ PA P lv ts i' deep err pl w' ∧ Keep (fun k => k = P) w w' := by
  obtain ⟨b, c, rfl, hb, hbP, t0, t1, t2, t3⟩ := h.token h.lt
  have hcb := h.cb
  have x0 : w.cell? ⟨P, 0, none⟩ = some (.slice (some ⟨b, 0, none⟩) ts.length c) := hcb.cell 0
  have x1 : w.cell? ⟨P, 1, none⟩ = some (.int .i64 (i : Nat)) := hcb.cell 1
  have x3 : w.cell? ⟨P, 3, none⟩ = some (.int .i64 (err : Nat)) := hcb.cell 3
  have f1 := hcb.frozen 1
  have hPl := hcb.lt
  have hPb : ¬ P = b := fun e => hbP e.symm
  have hil : (i : Int) < (ts.length : Int) := by have := h.lt; omega
  have HH := Lib.hid h
  by_cases h0 : err = 0
  · subst h0
    by_cases hT : isT (tk ts i) s = true
    · obtain rfl : true = y := by rw [← hy]; simp [hT]
      obtain rfl : i + 1 = i' := by rw [← hi']; simp
      clear hy hi'
      have hnx := he.next h.lt (PX.isT_kind hT)
      have HN := Lib.hid hnx
      have HCB := Lib.hid hcb
      have hsum : IntKind.i64.wrap ((i : Int) + 1) = ((i + 1 : Nat) : Int) := by
        have := h.few
        have := h.lt
        rw [IntWalk.i64_in _ (by omega)]
        omega
      have hTT := hT
      unfold isT at hTT
      simp only [Bool.and_eq_true, Bool.or_eq_true, decide_eq_true_eq] at hTT
      obtain ⟨hk, hs⟩ := hTT
      rcases hk with hk | hk
      · clear h hcb hnx hT
        go_enter Tryd.func32, Tryd.ntmps32
        go_wp2_with fail
        go_region
        go_wp2_with fail
        go_ret
        refine ⟨rfl, ?_, (((Keep.refl (fun k => k = P) w).setCell (p := ⟨P, 1, none⟩) (.inr rfl) _).alloc _).drew⟩
        refine HH.out.set ?_ (((Keep.refl (fun k => k = P) w).setCell (p := ⟨P, 1, none⟩) (.inr rfl) _).alloc _).drew HN.out HH.out.low
        have hc := HCB.out.set 1 (.int .i64 ((i + 1 : Nat) : Int))
        exact hc.keep ((Keep.refl (fun _ => False) _).alloc _).drew (fun h => h)
      · clear h hcb hnx hT
        go_enter Tryd.func32, Tryd.ntmps32
        go_wp2_with fail
        go_region
        go_wp2_with fail
        go_ret
        refine ⟨rfl, ?_, (((Keep.refl (fun k => k = P) w).setCell (p := ⟨P, 1, none⟩) (.inr rfl) _).alloc _).drew⟩
        refine HH.out.set ?_ (((Keep.refl (fun k => k = P) w).setCell (p := ⟨P, 1, none⟩) (.inr rfl) _).alloc _).drew HN.out HH.out.low
        have hc := HCB.out.set 1 (.int .i64 ((i + 1 : Nat) : Int))
        exact hc.keep ((Keep.refl (fun _ => False) _).alloc _).drew (fun h => h)
    · obtain rfl : false = y := by rw [← hy]; simp [hT]
      obtain rfl : i = i' := by rw [← hi']; simp
      clear hy hi'
      have hTT := hT
      unfold isT at hTT
      simp only [Bool.and_eq_true, Bool.or_eq_true, decide_eq_true_eq] at hTT
      by_cases hk2 : (tk ts i).kind = 2
      · have hs : ((tk ts i).says == s) = false := beq_eq_false_iff_ne.2 fun e => hTT ⟨.inl hk2, e⟩
        clear h hcb hT hTT
        go_enter Tryd.func32, Tryd.ntmps32
        go_wp2_with fail
        go_region
        go_wp2_with fail
        go_ret
        exact ⟨rfl, HH.out.lay ((Keep.refl _ w).alloc _).drew, ((Keep.refl _ w).alloc _).drew⟩
      · by_cases hk5 : (tk ts i).kind = 5
        · have hs : ((tk ts i).says == s) = false := beq_eq_false_iff_ne.2 fun e => hTT ⟨.inr hk5, e⟩
          clear h hcb hT hTT
          go_enter Tryd.func32, Tryd.ntmps32
          go_wp2_with fail
          go_region
          go_wp2_with fail
          go_ret
          exact ⟨rfl, HH.out.lay ((Keep.refl _ w).alloc _).drew, ((Keep.refl _ w).alloc _).drew⟩
        · have k2 : (((tk ts i).kind : Int) != 2) = true := by simp; omega
          have k5 : (((tk ts i).kind : Int) != 5) = true := by simp; omega
          clear h hcb hT hTT
          go_enter Tryd.func32, Tryd.ntmps32
          go_wp2_with fail
          go_region
          go_wp2_with fail
          go_ret
          exact ⟨rfl, HH.out.lay ((Keep.refl _ w).alloc _).drew, ((Keep.refl _ w).alloc _).drew⟩
  · obtain rfl : false = y := by rw [← hy]; simp [h0]
    obtain rfl : i = i' := by rw [← hi']; simp
    clear hy hi'
    have h1 : ((err : Int) != 0) = true := by simp; omega
    clear h hcb
    go_enter Tryd.func32, Tryd.ntmps32
    go_wp2_with fail
    go_region
    go_wp2_with fail
    go_ret
    exact ⟨rfl, HH.out.lay ((Keep.refl _ w).alloc _).drew, ((Keep.refl _ w).alloc _).drew⟩

theorem take_any (P : Nat) (lv : Value) (ts : List LX.Tok) (i deep err pl : Nat) (s : List UInt8) (w : World) (h : PA P lv ts i deep err pl w) (he : PX.Ended ts) :
    Calls Tryd.prog 32 #[.pointer (some ⟨P, 0, none⟩), .string ⟨s.toArray⟩] w fun r w' => r = .returned (.bool (decide (err = 0) && isT (tk ts i) s)) ∧ PA P lv ts (if (decide (err = 0) && isT (tk ts i) s) = true then i + 1 else i) deep err pl w' ∧ Keep (fun k => k = P) w w' :=
  take_run P lv ts i deep err pl s w h he _ _ rfl rfl
end Go.Proofs.YtmodiemmcdocdaaDoor

namespace Go.Proofs.YtmodiemmcdocdaaDoor
open Go.RowKit Go
open PX (tk isT)
open SX (S)

/-- A parser in a state. -/
abbrev PS (P : Nat) (lv : Value) (ts : List LX.Tok) (deep : Nat) (s : S) (w : World) : Prop := PA P lv ts s.i deep s.err s.pl w

theorem wrong_s (P : Nat) (lv : Value) (ts : List LX.Tok) (deep : Nat) (s : S) (e j : Nat) (w : World) (h : PS P lv ts deep s w) (hj : j < ts.length) :
    Calls Tryd.prog 31 #[.pointer (some ⟨P, 0, none⟩), .int .i64 (e : Nat), .int .i64 (j : Nat)] w fun r w' => (∃ v, r = .returned v) ∧ PS P lv ts deep (SX.wrong ts s e j) w' ∧ Keep (fun k => k = P) w w' := by
  refine (wrong_any P lv ts s.i deep s.err s.pl e j w h hj).mono ?_
  rintro r w' ⟨hr, hp, hk⟩
  refine ⟨hr, ?_, hk⟩
  unfold PS
  rw [SX.wrong_i, SX.wrong_err, SX.wrong_pl]
  exact hp

/-- The zero token's way out. -/
theorem token_bad {P : Nat} {lv : Value} {ts : List LX.Tok} {deep : Nat} {s0 s : S} {w w2 : World} (h : PS P lv ts deep s0 w) (hp : PS P lv ts deep s w2) (hc : CB w2 w.heap.size 64 #[.int .i64 0, .string ⟨#[]⟩, .int .i64 0, .int .i64 0]) (hk : Keep (fun k => k = P) w w2) {a : Act} (ha : a.tmps[4]?.getD undef = .pointer (some ⟨w.heap.size, 0, none⟩)) (hd : a.defers = []) :
    bodyPost Tryd.prog Tryd.f33 (fun r w' => r = Ending.returned (tokW SX.zeroT) ∧ PS P lv ts deep s w' ∧ Keep (fun k => k = P) w w') Exit.ret a
      ((((w2.setCell ⟨w.heap.size, 0, none⟩ (.int .i64 0)).setCell ⟨w.heap.size, 1, none⟩ (.string ⟨#[]⟩)).setCell ⟨w.heap.size, 2, none⟩ (.int .i64 0)).setCell ⟨w.heap.size, 3, none⟩ (.int .i64 0)) := by
  have hc' := (((hc.set 0 (.int .i64 0)).set 1 (.string ⟨#[]⟩)).set 2 (.int .i64 0)).set 3 (.int .i64 0)
  have q0 := hc'.cell 0
  have q1 := hc'.cell 1
  have q2 := hc'.cell 2
  have q3 := hc'.cell 3
  have hkk := (((hk.setCell (p := ⟨w.heap.size, 0, none⟩) (.inl (Nat.le_refl _)) (.int .i64 0)).setCell (p := ⟨w.heap.size, 1, none⟩) (.inl (Nat.le_refl _)) (.string ⟨#[]⟩)).setCell (p := ⟨w.heap.size, 2, none⟩) (.inl (Nat.le_refl _)) (.int .i64 0)).setCell (p := ⟨w.heap.size, 3, none⟩) (.inl (Nat.le_refl _)) (.int .i64 0)
  have hPl := h.cb.lt
  refine bodyPost_ret (v := tokW SX.zeroT) ?_ hd ⟨rfl, ?_, hkk⟩
  · simp [results, Tryd.results33, go_sem, tokW, SX.zeroT, ha, q0, q1, q2, q3]
  · refine PA.set h ?_ hkk hp.lt hp.low
    exact hp.cb.keep (G := fun k => k = w.heap.size) (((((Keep.refl (fun k => k = w.heap.size) w2).setCell (p := ⟨w.heap.size, 0, none⟩) (.inr rfl) _).setCell (p := ⟨w.heap.size, 1, none⟩) (.inr rfl) _).setCell (p := ⟨w.heap.size, 2, none⟩) (.inr rfl) _).setCell (p := ⟨w.heap.size, 3, none⟩) (.inr rfl) _) (by omega)

set_option maxHeartbeats 4000000 in
set_option maxRecDepth 100000 in
theorem token_run (P : Nat) (lv : Value) (ts : List LX.Tok) (deep : Nat) (s : S) (k : Nat) (w : World) (h : PS P lv ts deep s w) (he : PX.Ended ts) (hk0 : k ≠ 0) :
    Calls Tryd.prog 33 #[.pointer (some ⟨P, 0, none⟩), .int .i64 (k : Nat)] w fun r w' => r = .returned (tokW (SX.tokV ts s k)) ∧ PS P lv ts deep (SX.token ts s k) w' ∧ Keep (fun k => k = P) w w' := by
  obtain ⟨i, err, pl⟩ := s
  obtain ⟨b, c, rfl, hb, hbP, t0, t1, t2, t3⟩ := PA.token h h.lt
  have hcb := h.cb
  have x0 : w.cell? ⟨P, 0, none⟩ = some (.slice (some ⟨b, 0, none⟩) ts.length c) := hcb.cell 0
  have x1 : w.cell? ⟨P, 1, none⟩ = some (.int .i64 (i : Nat)) := hcb.cell 1
  have x3 : w.cell? ⟨P, 3, none⟩ = some (.int .i64 (err : Nat)) := hcb.cell 3
  have f1 := hcb.frozen 1
  have hPl := hcb.lt
  have hPb : ¬ P = b := fun e => hbP e.symm
  have hil : (i : Int) < (ts.length : Int) := by have := h.lt; dsimp only at this; omega
  have HH := Lib.hid h
  by_cases h0 : err = 0
  · subst h0
    by_cases hT : (tk ts i).kind = k
    · have hB : SX.tokB ts ⟨i, 0, pl⟩ k = true := by simp [SX.tokB, hT]
      have hV : SX.tokV ts ⟨i, 0, pl⟩ k = tk ts i := by simp [SX.tokV, hB]
      have hS : SX.token ts ⟨i, 0, pl⟩ k = ⟨i + 1, 0, pl⟩ := by simp [SX.token, hB, SX.next]
      rw [hV, hS]
      have hnx := he.next h.lt (by dsimp only; omega)
      have HN := Lib.hid hnx
      have HCB := Lib.hid hcb
      have hsum : IntKind.i64.wrap ((i : Int) + 1) = ((i + 1 : Nat) : Int) := by
        have := h.few
        rw [IntWalk.i64_in _ (by omega)]
        omega
      have k2 : (((tk ts i).kind : Int) != (k : Int)) = false := by simp [hT]
      clear h hcb hnx hB hV hS
      go_enter Tryd.func33, Tryd.ntmps33
      go_wp2_with fail
      go_region
      go_wp2_with fail
      refine bodyPost_ret (v := tokW (tk ts i)) (by simp [results, Tryd.results33, go_sem, tokW, hT]) rfl ⟨rfl, ?_, ((((Keep.refl (fun k => k = P) w).setCell (p := ⟨P, 1, none⟩) (.inr rfl) _).alloc _).alloc _).drew⟩
      refine PA.set HH.out ?_ ((((Keep.refl (fun k => k = P) w).setCell (p := ⟨P, 1, none⟩) (.inr rfl) _).alloc _).alloc _).drew HN.out HH.out.low
      have hc := HCB.out.set 1 (.int .i64 ((i + 1 : Nat) : Int))
      exact hc.keep (((Keep.refl (fun _ => False) _).alloc _).alloc _).drew (fun h => h)
    · have hB : SX.tokB ts ⟨i, 0, pl⟩ k = false := by simp [SX.tokB, hT]
      have hV : SX.tokV ts ⟨i, 0, pl⟩ k = SX.zeroT := by simp [SX.tokV, hB]
      have hS : SX.token ts ⟨i, 0, pl⟩ k = SX.wrong ts ⟨i, 0, pl⟩ 5 i := by simp [SX.token, hB]
      rw [hV, hS]
      have hjl := h.lt
      have HJ := Lib.hid hjl
      have k2 : (((tk ts i).kind : Int) != (k : Int)) = true := by simp; omega
      clear h hcb hB hV hS hjl
      go_enter Tryd.func33, Tryd.ntmps33
      go_wp2_with fail
      go_region
      go_wp2_with fail
      go_at_call 31
      refine (wrong_s P _ ts deep ⟨i, 0, pl⟩ 5 i _ (HH.out.lay (((Keep.refl _ w).alloc _).alloc _).drew) HJ.out).mono ?_
      rintro e w2 ⟨⟨v, rfl⟩, hp, hk⟩
      have hc4 : CB w2 w.heap.size 64 #[.int .i64 0, .string ⟨#[]⟩, .int .i64 0, .int .i64 0] := CB.keep ((CB.new w 64 #[.int .i64 0, .string ⟨#[]⟩, .int .i64 0, .int .i64 0]).keep (((Keep.refl (fun _ => False) _).alloc _).drew) (fun h => h)) hk (by omega)
      have c0 := hc4.cell 0
      have c1 := hc4.cell 1
      have c2 := hc4.cell 2
      have c3 := hc4.cell 3
      have g0 := hc4.frozen 0
      have g1 := hc4.frozen 1
      have g2 := hc4.frozen 2
      have g3 := hc4.frozen 3
      have hlt4 := hc4.lt
      have HP := Lib.hid hp
      have HC4 := Lib.hid hc4
      have HK : Hid (Keep (fun k => k = P) w w2) := Lib.hid (Keep.trans (((Keep.refl _ w).alloc _).alloc _).drew hk)
      clear hp hk hc4
      go_wp2_with fail
      exact token_bad HH.out HP.out HC4.out HK.out rfl rfl
  · have hB : SX.tokB ts ⟨i, err, pl⟩ k = false := by simp [SX.tokB, h0]
    have hV : SX.tokV ts ⟨i, err, pl⟩ k = SX.zeroT := by simp [SX.tokV, hB]
    have hS : SX.token ts ⟨i, err, pl⟩ k = SX.wrong ts ⟨i, err, pl⟩ 5 i := by simp [SX.token, hB]
    rw [hV, hS]
    have hjl := h.lt
    have HJ := Lib.hid hjl
    have k2 : ((err : Int) != 0) = true := by simp; omega
    clear h hcb hB hV hS hjl
    go_enter Tryd.func33, Tryd.ntmps33
    go_wp2_with fail
    go_region
    go_wp2_with fail
    go_at_call 31
    refine (wrong_s P _ ts deep ⟨i, err, pl⟩ 5 i _ (HH.out.lay (((Keep.refl _ w).alloc _).alloc _).drew) HJ.out).mono ?_
    rintro e w2 ⟨⟨v, rfl⟩, hp, hk⟩
    have hc4 : CB w2 w.heap.size 64 #[.int .i64 0, .string ⟨#[]⟩, .int .i64 0, .int .i64 0] := CB.keep ((CB.new w 64 #[.int .i64 0, .string ⟨#[]⟩, .int .i64 0, .int .i64 0]).keep (((Keep.refl (fun _ => False) _).alloc _).drew) (fun h => h)) hk (by omega)
    have c0 := hc4.cell 0
    have c1 := hc4.cell 1
    have c2 := hc4.cell 2
    have c3 := hc4.cell 3
    have g0 := hc4.frozen 0
    have g1 := hc4.frozen 1
    have g2 := hc4.frozen 2
    have g3 := hc4.frozen 3
    have hlt4 := hc4.lt
    have HP := Lib.hid hp
    have HC4 := Lib.hid hc4
    have HK : Hid (Keep (fun k => k = P) w w2) := Lib.hid (Keep.trans (((Keep.refl _ w).alloc _).alloc _).drew hk)
    clear hp hk hc4
    go_wp2_with fail
    exact token_bad HH.out HP.out HC4.out HK.out rfl rfl
end Go.Proofs.YtmodiemmcdocdaaDoor

namespace Go.Proofs.YtmodiemmcdocdaaDoor
open Go.RowKit Go
open PX (tk isT)
open SX (S)

theorem take_s (P : Nat) (lv : Value) (ts : List LX.Tok) (deep : Nat) (s : S) (l : List UInt8) (y : Bool) (w : World) (h : PS P lv ts deep s w) (he : PX.Ended ts) (hy : SX.takes ts s l = y) :
    Calls Tryd.prog 32 #[.pointer (some ⟨P, 0, none⟩), .string ⟨l.toArray⟩] w fun r w' => r = .returned (.bool y) ∧ PS P lv ts deep (SX.next s y) w' ∧ Keep (fun k => k = P) w w' := by
  refine (take_run P lv ts s.i deep s.err s.pl l w h he y _ hy rfl).mono ?_
  rintro r w' ⟨hr, hp, hk⟩
  refine ⟨hr, ?_, hk⟩
  cases y
  · exact hp
  · exact hp

theorem PS.few {P : Nat} {lv : Value} {ts : List LX.Tok} {deep : Nat} {s : S} {w : World} (h : PS P lv ts deep s w) : ts.length ≤ 1100 := PA.few h

set_option maxHeartbeats 4000000 in
set_option maxRecDepth 100000 in
theorem want_run (P : Nat) (lv : Value) (ts : List LX.Tok) (deep : Nat) (s : S) (l : List UInt8) (w : World) (h : PS P lv ts deep s w) (he : PX.Ended ts) :
    Calls Tryd.prog 29 #[.pointer (some ⟨P, 0, none⟩), .string ⟨l.toArray⟩] w fun r w' => (∃ v, r = .returned v) ∧ PS P lv ts deep (SX.want ts s l) w' ∧ Keep (fun k => k = P) w w' := by
  have HH := Lib.hid h
  by_cases hy : SX.takes ts s l = true
  · have hS : SX.want ts s l = SX.next s true := by simp [SX.want, hy]
    rw [hS]
    have hT := take_s P lv ts deep s l true w h he hy
    clear h hS hy
    go_enter Tryd.func29, Tryd.ntmps29
    go_wp2_with fail
    go_at_call 32
    refine hT.mono ?_
    rintro e w2 ⟨rfl, hp, hk⟩
    go_wp2_with fail
    go_end0
    exact ⟨⟨_, rfl⟩, hp, hk⟩
  · have hy' : SX.takes ts s l = false := by simpa using hy
    have hS : SX.want ts s l = SX.wrong ts s 5 s.i := by simp [SX.want, hy']
    rw [hS]
    have hT := take_s P lv ts deep s l false w h he hy'
    clear h hS hy hy'
    go_enter Tryd.func29, Tryd.ntmps29
    go_wp2_with fail
    go_at_call 32
    refine hT.mono ?_
    rintro e w2 ⟨rfl, hp, hk⟩
    have hp : PS P lv ts deep s w2 := hp
    have x1 : w2.cell? ⟨P, 1, none⟩ = some (.int .i64 (s.i : Nat)) := hp.cb.cell 1
    have hPl := hp.cb.lt
    have HP := Lib.hid hp
    clear hp
    go_wp2_with fail
    go_at_call 31
    refine (wrong_s P _ ts deep s 5 s.i _ HP.out HP.out.lt).mono ?_
    rintro e w3 ⟨⟨v, rfl⟩, hp, hk3⟩
    go_wp2_with fail
    go_end0
    exact ⟨⟨_, rfl⟩, hp, hk.trans hk3⟩

theorem few64 {a : Nat} (h : a ≤ 100000) : IntKind.i64.wrap ((a : Int) + 1) = ((a + 1 : Nat) : Int) := by
  rw [IntWalk.i64_in _ (by omega)]
  omega

set_option maxHeartbeats 4000000 in
set_option maxRecDepth 100000 in
/-- One deeper, where that may be. -/
theorem in_ok (P : Nat) (lv : Value) (ts : List LX.Tok) (deep i pl j : Nat) (w : World) (h : PS P lv ts deep ⟨i, 0, pl⟩ w) (hd : deep < 8) :
    Calls Tryd.prog 71 #[.pointer (some ⟨P, 0, none⟩), .int .i64 (j : Nat)] w fun r w' => (∃ v, r = .returned v) ∧ PS P lv ts (deep + 1) ⟨i, 0, pl⟩ w' ∧ Keep (fun k => k = P) w w' := by
  have hcb := h.cb
  have x2 : w.cell? ⟨P, 2, none⟩ = some (.int .i64 (deep : Nat)) := hcb.cell 2
  have x3 : w.cell? ⟨P, 3, none⟩ = some (.int .i64 0) := hcb.cell 3
  have f2 := hcb.frozen 2
  have hPl := hcb.lt
  have HH := Lib.hid h
  have HCB := Lib.hid hcb
  have k2 : decide ((deep : Int) ≥ 8) = false := by simp; omega
  have hsum := few64 (a := deep) (by omega)
  clear h hcb
  go_enter Tryd.func71, Tryd.ntmps71
  go_wp2_with fail
  go_end0
  refine ⟨⟨_, rfl⟩, ?_, (Keep.refl (fun k => k = P) w).setCell (p := ⟨P, 2, none⟩) (.inr rfl) _⟩
  exact PA.set HH.out (HCB.out.set 2 (.int .i64 ((deep + 1 : Nat) : Int))) ((Keep.refl (fun k => k = P) w).setCell (p := ⟨P, 2, none⟩) (.inr rfl) _) HH.out.lt (by omega)

set_option maxHeartbeats 4000000 in
set_option maxRecDepth 100000 in
/-- One too deep. -/
theorem in_bad (P : Nat) (lv : Value) (ts : List LX.Tok) (i pl j : Nat) (w : World) (h : PS P lv ts 8 ⟨i, 0, pl⟩ w) (hj : j < ts.length) :
    Calls Tryd.prog 71 #[.pointer (some ⟨P, 0, none⟩), .int .i64 (j : Nat)] w fun r w' => (∃ v, r = .returned v) ∧ PS P lv ts 9 (SX.wrong ts ⟨i, 0, pl⟩ 6 j) w' ∧ Keep (fun k => k = P) w w' := by
  have hcb := h.cb
  have x2 : w.cell? ⟨P, 2, none⟩ = some (.int .i64 8) := hcb.cell 2
  have x3 : w.cell? ⟨P, 3, none⟩ = some (.int .i64 0) := hcb.cell 3
  have hPl := hcb.lt
  have hw := wrong_s P lv ts 8 ⟨i, 0, pl⟩ 6 j w h hj
  clear h hcb
  go_enter Tryd.func71, Tryd.ntmps71
  go_wp2_with fail
  go_at_call 31
  refine hw.mono ?_
  rintro e w2 ⟨⟨v, rfl⟩, hp, hk⟩
  have hcb := hp.cb
  have x2 : w2.cell? ⟨P, 2, none⟩ = some (.int .i64 8) := hcb.cell 2
  have f2 := hcb.frozen 2
  have hPl := hcb.lt
  have HP := Lib.hid hp
  have HCB := Lib.hid hcb
  have HK := Lib.hid hk
  clear hp hcb hk
  go_wp2_with fail
  go_end0
  have hkk := HK.out.setCell (p := ⟨P, 2, none⟩) (.inr rfl) (.int .i64 9)
  exact ⟨⟨_, rfl⟩, PA.set HP.out (HCB.out.set 2 (.int .i64 9)) ((Keep.refl (fun k => k = P) w2).setCell (p := ⟨P, 2, none⟩) (.inr rfl) _) HP.out.lt (by omega), hkk⟩

set_option maxHeartbeats 4000000 in
set_option maxRecDepth 100000 in
theorem number_w (P : Nat) (lv : Value) (ts : List LX.Tok) (deep : Nat) (s s1 S2 : S) (t : LX.Tok) (lo hi : Int) (w : World) (h : PS P lv ts deep s w)
    (hT : Calls Tryd.prog 33 #[.pointer (some ⟨P, 0, none⟩), .int .i64 ((3 : Nat) : Int)] w fun r w' => r = .returned (tokW t) ∧ PS P lv ts deep s1 w' ∧ Keep (fun k => k = P) w w')
    (hN : S2 = if SX.numB s1 t lo hi = true then SX.wrong ts s1 6 s.i else s1) :
    Calls Tryd.prog 30 #[.pointer (some ⟨P, 0, none⟩), .int .i64 lo, .int .i64 hi] w fun r w' => r = .returned (.int .i64 t.n) ∧ PS P lv ts deep S2 w' ∧ Keep (fun k => k = P) w w' := by
  have x1 : w.cell? ⟨P, 1, none⟩ = some (.int .i64 (s.i : Nat)) := h.cb.cell 1
  have hPl := h.cb.lt
  have hjl := h.lt
  have HJ := Lib.hid hjl
  have HN := Lib.hid hN
  clear h hjl hN
  go_enter Tryd.func30, Tryd.ntmps30
  go_wp2_with fail
  go_at_call 33
  refine hT.mono ?_
  clear hT
  rintro e w2 ⟨rfl, hp, hk⟩
  have hcb := hp.cb
  have x3 : w2.cell? ⟨P, 3, none⟩ = some (.int .i64 (s1.err : Nat)) := hcb.cell 3
  have HP := Lib.hid hp
  have hPl2 := hcb.lt
  have HK := Lib.hid hk
  have hb2 : CB (w2.alloc (.cells #[.int .i64 (t.kind : Nat), .string ⟨t.says.toArray⟩, .int .i64 t.n, .int .i64 (t.place : Nat)] 64)) w2.heap.size 64 _ := CB.new w2 64 _
  have HB := Lib.hid hb2
  unfold tokW
  clear hp hcb hk hb2
  by_cases h0 : s1.err = 0
  · have k0 : ((s1.err : Int) == 0) = true := by simp [h0]
    by_cases h1 : t.n < lo ∨ hi < t.n
    · have hN : SX.numB s1 t lo hi = true := by unfold SX.numB; simp only [h0, decide_true, Bool.true_and, Bool.or_eq_true, decide_eq_true_eq]; exact h1
      have HN2 : Hid (S2 = SX.wrong ts s1 6 s.i) := Lib.hid (by rw [HN.out, if_pos hN])
      have k3 : (decide (t.n < lo) || decide (t.n > hi)) = true := by simp only [Bool.or_eq_true, decide_eq_true_eq]; exact h1
      by_cases h2 : t.n < lo
      · clear h1 hN k3
        go_wp2_with fail
        go_at_call 31
        refine (wrong_s P lv ts deep s1 6 s.i _ (PA.lay HP.out ((Keep.refl _ w2).alloc _)) HJ.out).mono ?_
        rintro e w3 ⟨⟨v, rfl⟩, hp3, hk3⟩
        have y2 : w3.cell? ⟨w2.heap.size, 2, none⟩ = some (.int .i64 t.n) := (HB.out.keep hk3 (by omega)).cell 2
        have hlt3 := (HB.out.keep hk3 (by omega)).lt
        have HK3 : Hid (Keep (fun k => k = P) w w3) := Lib.hid (Keep.trans (HK.out.alloc _) hk3)
        have HP3 := Lib.hid hp3
        clear hk3 hp3
        go_wp2_with fail
        go_ret
        exact ⟨rfl, by rw [HN2.out]; exact HP3.out, HK3.out⟩
      · have h3 : hi < t.n := by omega
        clear h1 hN
        go_wp2_with fail
        go_at_call 31
        refine (wrong_s P lv ts deep s1 6 s.i _ (PA.lay HP.out ((Keep.refl _ w2).alloc _)) HJ.out).mono ?_
        rintro e w3 ⟨⟨v, rfl⟩, hp3, hk3⟩
        have y2 : w3.cell? ⟨w2.heap.size, 2, none⟩ = some (.int .i64 t.n) := (HB.out.keep hk3 (by omega)).cell 2
        have hlt3 := (HB.out.keep hk3 (by omega)).lt
        have HK3 : Hid (Keep (fun k => k = P) w w3) := Lib.hid (Keep.trans (HK.out.alloc _) hk3)
        have HP3 := Lib.hid hp3
        clear hk3 hp3
        go_wp2_with fail
        go_ret
        exact ⟨rfl, by rw [HN2.out]; exact HP3.out, HK3.out⟩
    · have hN : SX.numB s1 t lo hi = false := by unfold SX.numB; simp only [h0, decide_true, Bool.true_and, Bool.or_eq_false_iff, decide_eq_false_iff_not]; exact ⟨fun h => h1 (.inl h), fun h => h1 (.inr h)⟩
      have HN2 : Hid (S2 = s1) := Lib.hid (by rw [HN.out, hN]; rfl)
      have h2 : ¬ t.n < lo := fun h => h1 (.inl h)
      have h3 : ¬ hi < t.n := fun h => h1 (.inr h)
      clear h1 hN
      go_wp2_with fail
      go_ret
      exact ⟨rfl, by rw [HN2.out]; exact (PA.lay HP.out ((Keep.refl _ w2).alloc _) : PS P lv ts deep s1 _), HK.out.alloc _⟩
  · have hN : SX.numB s1 t lo hi = false := by unfold SX.numB; simp [h0]
    have HN2 : Hid (S2 = s1) := Lib.hid (by rw [HN.out, hN]; rfl)
    have k0 : ((s1.err : Int) == 0) = false := by simp; omega
    clear hN
    go_wp2_with fail
    go_ret
    exact ⟨rfl, by rw [HN2.out]; exact (PA.lay HP.out ((Keep.refl _ w2).alloc _) : PS P lv ts deep s1 _), HK.out.alloc _⟩

theorem number_run (P : Nat) (lv : Value) (ts : List LX.Tok) (deep : Nat) (s : S) (lo hi : Int) (w : World) (h : PS P lv ts deep s w) (he : PX.Ended ts) :
    Calls Tryd.prog 30 #[.pointer (some ⟨P, 0, none⟩), .int .i64 lo, .int .i64 hi] w fun r w' => r = .returned (.int .i64 (SX.tokV ts s 3).n) ∧ PS P lv ts deep (SX.number ts s lo hi) w' ∧ Keep (fun k => k = P) w w' :=
  number_w P lv ts deep s _ _ _ lo hi w h (token_run P lv ts deep s 3 w h he (by omega)) rfl
end Go.Proofs.YtmodiemmcdocdaaDoor

namespace Go.Proofs.YtmodiemmcdocdaaDoor
open Go.RowKit Go
open PX (tk isT)
open SX (S)

/-- What a piece of the parser leaves. -/
def OneP (P : Nat) (lv : Value) (ts : List LX.Tok) (deep : Nat) (x : Ft × S) (w : World) (r : Ending) (w' : World) : Prop :=
  ∃ kv, r = .returned (x.1.val kv) ∧ KsB (fun b => w.heap.size ≤ b) w' kv x.1 ∧ PS P lv ts deep x.2 w' ∧ Keep (fun k => k = P) w w'

/-- A filter with kids, stored. -/
theorem one_kids {P : Nat} {lv : Value} {ts : List LX.Tok} {deep : Nat} {s0 s : S} {w W : World} {o : Int} {kv : Value} {R : List (Value × Ft)} (h0 : PS P lv ts deep s0 w) (h : PS P lv ts deep s W) (hk : Keep (fun k => k = P) w W)
    (hrk : Rk 4 (fun b => w.heap.size + 1 ≤ b) W kv R.length (flatK R)) (hkb : ∀ p ∈ R, KsB (fun b => w.heap.size + 1 ≤ b) W p.1 p.2) (hl : R.length ≤ 1000) :
    OneP P lv ts deep (.mk o ⟨#[]⟩ ⟨#[]⟩ (R.map (·.2)), s) w (.returned (.agg #[.int .i64 o, .string ⟨#[]⟩, .string ⟨#[]⟩, kv])) (stored W w.heap.size (.int .i64 o) (.string ⟨#[]⟩) (.string ⟨#[]⟩) kv) := by
  have hoth : ∀ b, b ≠ w.heap.size → (stored W w.heap.size (.int .i64 o) (.string ⟨#[]⟩) (.string ⟨#[]⟩) kv).heap[b]? = W.heap[b]? := fun b hb => stored_other hb _ _ _ _
  have hs : W.heap.size ≤ (stored W w.heap.size (.int .i64 o) (.string ⟨#[]⟩) (.string ⟨#[]⟩) kv).heap.size := Nat.le_of_eq (stored_size _ _ _ _).symm
  have hPl := h0.cb.lt
  refine ⟨kv, rfl, ?_, ?_, keep_stored hk (Nat.le_refl _) _ _ _ _⟩
  · exact KsB.mono (fun b _ hb => Nat.le_of_succ_le hb) _ _ (KsB.of_rk (fun b hb => hb) (hrk.carry hs fun b hb _ _ => hoth b (by omega)) (fun p hp => KsB.keep hs (fun b hb _ => hoth b (by omega)) _ _ (hkb p hp)) hl o _ _)
  · exact PA.set h0 ((hoth P (by omega)).trans h.cb) (keep_stored hk (Nat.le_refl _) _ _ _ _) h.lt h.low

/-- One alone, stored. -/
theorem one_alone {P : Nat} {lv : Value} {ts : List LX.Tok} {deep : Nat} {s0 s : S} {w W : World} {kv : Value} {X : Ft} (h0 : PS P lv ts deep s0 w) (h : PS P lv ts deep s W) (hk : Keep (fun k => k = P) w W)
    (hkb : KsB (fun b => w.heap.size + 1 ≤ b) W kv X) :
    OneP P lv ts deep (X, s) w (.returned (X.val kv)) (stored W w.heap.size (.int .i64 X.op) (.string X.name) (.string X.text) kv) := by
  have hoth : ∀ b, b ≠ w.heap.size → (stored W w.heap.size (.int .i64 X.op) (.string X.name) (.string X.text) kv).heap[b]? = W.heap[b]? := fun b hb => stored_other hb _ _ _ _
  have hs : W.heap.size ≤ (stored W w.heap.size (.int .i64 X.op) (.string X.name) (.string X.text) kv).heap.size := Nat.le_of_eq (stored_size _ _ _ _).symm
  have hPl := h0.cb.lt
  refine ⟨kv, rfl, ?_, ?_, keep_stored hk (Nat.le_refl _) _ _ _ _⟩
  · exact KsB.mono (fun b _ hb => Nat.le_of_succ_le hb) _ _ (KsB.keep hs (fun b hb _ => hoth b (by omega)) _ _ hkb)
  · exact PA.set h0 ((hoth P (by omega)).trans h.cb) (keep_stored hk (Nat.le_refl _) _ _ _ _) h.lt h.low

set_option maxHeartbeats 8000000 in
set_option maxRecDepth 100000 in
theorem and_run (P : Nat) (lv : Value) (ts : List LX.Tok) (deep : Nat) (one : S → Ft × S) (hgo : SX.Goes one) (he : PX.Ended ts)
    (IH : ∀ s w, PS P lv ts deep s w → s.err = 0 → Calls Tryd.prog 62 #[.pointer (some ⟨P, 0, none⟩)] w (OneP P lv ts deep (one s) w))
    (s : S) (w : World) (h : PS P lv ts deep s w) (h0 : s.err = 0) : Calls Tryd.prog 51 #[.pointer (some ⟨P, 0, none⟩)] w (OneP P lv ts deep (SX.row ts PX.wAnd 7 one s) w) := by
  have HS0 := Lib.hid h
  have hlt := h.cb.lt
  have HFEW := Lib.hid (h.few)
  obtain ⟨W, hW⟩ : ∃ W, W = newF w := ⟨_, rfl⟩
  have hbx := newF_bx w
  have hlay := newF_lay w
  have hsz := newF_size w
  rw [← hW] at hbx hlay hsz
  have HBX := Lib.hid hbx
  have HLAY := Lib.hid hlay
  have HSZ := Lib.hid hsz
  have HW := Lib.hid (show w.alloc (.cells #[.int .i64 0, .string ⟨#[]⟩, .string ⟨#[]⟩, .slice none 0 0] 27) = W from hW.symm)
  have HS1 := Lib.hid (h.lay hlay)
  have hne : ¬ w.heap.size = P := by omega
  have HIH := Lib.hid IH
  have HGO := Lib.hid hgo
  have HI1 := Lib.hid (hgo s h0)
  have HIH1 := Lib.hid (IH s W (h.lay hlay) h0)
  clear h hW hbx hlay hsz IH hgo
  obtain ⟨FIN, hFIN⟩ : ∃ FIN, FIN = SX.row ts PX.wAnd 7 one s := ⟨_, rfl⟩
  rw [← hFIN]
  unfold SX.row at hFIN
  revert HI1 HIH1
  generalize one s = x1 at hFIN ⊢
  intro HI1 HIH1
  obtain ⟨X1, s1⟩ := x1
  have HFIN := Lib.hid hFIN
  clear hFIN
  go_enter Tryd.func51, Tryd.ntmps51
  go_wp2_with fail
  rw [HW.out]
  go_at_call 62
  refine HIH1.out.mono ?_
  rintro e w1 ⟨kv1, rfl, hkb1, hp1, hk1⟩
  obtain ⟨a1, c1, rfl⟩ := hkb1.shape
  have hk1' := hk1
  rw [HSZ.out] at hkb1
  have hz1 : w.heap.size + 1 ≤ w1.heap.size := by have := hk1.size; rw [HSZ.out] at this; exact this
  have HX2 := Lib.hid ((HBX.out.carry (hk1.block _ (by rw [HSZ.out]; omega) hne)).carry (Below.heap_alloc w1 (.cells #[.int .i64 X1.op, .string X1.name, .string X1.text, .slice a1 X1.kids.length c1] 27) w.heap.size (by omega)))
  have HP2 := Lib.hid (PA.lay hp1 ((Keep.refl _ w1).alloc (.cells #[.int .i64 X1.op, .string X1.name, .string X1.text, .slice a1 X1.kids.length c1] 27)))
  have HK2 := Lib.hid ((Keep.trans (Lay.keep HLAY.out) hk1).alloc (.cells #[.int .i64 X1.op, .string X1.name, .string X1.text, .slice a1 X1.kids.length c1] 27))
  have HR2 := Lib.hid ((rk_new 4 w1 1 [.int .i64 X1.op, .string X1.name, .string X1.text, .slice a1 X1.kids.length c1] 27 rfl (by omega)).mono (G' := fun b => w.heap.size + 1 ≤ b) (fun b hb _ => by omega))
  have HB2 : Hid (KsB (fun b => w.heap.size + 1 ≤ b ∧ ¬ At (.slice (some ⟨w1.heap.size, 0, none⟩) 1 1) b) (w1.alloc (.cells #[.int .i64 X1.op, .string X1.name, .string X1.text, .slice a1 X1.kids.length c1] 27)) (.slice a1 X1.kids.length c1) X1) := Lib.hid (by
    refine KsB.mono (G := fun b => w.heap.size + 1 ≤ b ∧ b < w1.heap.size) (fun b _ hb => ⟨hb.1, fun ⟨n, c, e⟩ => ?_⟩) _ _ (KsB.keep (by simp) (fun b _ hlt => Below.heap_alloc w1 _ b hlt) _ _ (KsB.mono (fun b hlt hb => ⟨hb, hlt⟩) _ _ hkb1))
    have hbl := hb.2
    injection e with e1 _ _
    injection e1 with e2
    injection e2 with e3 _ _
    omega)
  have HZ2 : Hid (w.heap.size + 1 ≤ (w1.alloc (.cells #[.int .i64 X1.op, .string X1.name, .string X1.text, .slice a1 X1.kids.length c1] 27)).heap.size) := Lib.hid (by simp; omega)
  simp only [Ft.val]
  clear hkb1 hp1 hk1 hk1' hz1 HIH1 HBX HLAY HSZ HW HS1
  go_wp2_with fail
  go_loopw [3] (fun u wr => ∃ (sr : S) (R : List (Value × Ft)) (f : Nat), 1 ≤ R.length ∧ FIN = (PX.join 7 (R.map (·.2) ++ (SX.rest ts PX.wAnd one f sr).1), (SX.rest ts PX.wAnd one f sr).2) ∧ Rk 4 (fun b => w.heap.size + 1 ≤ b) wr u R.length (flatK R) ∧ (∀ p ∈ R, KsB (fun b => w.heap.size + 1 ≤ b ∧ ¬ At u b) wr p.1 p.2) ∧
    PS P lv ts deep sr wr ∧ Keep (fun k => k = P) w wr ∧ Bx wr w.heap.size (.int .i64 0) (.string ⟨#[]⟩) (.string ⟨#[]⟩) (.slice none 0 0) ∧ w.heap.size + 1 ≤ wr.heap.size ∧ ts.length ≤ sr.i + f ∧ 2 * R.length ≤ sr.i + 2 ∧ (sr.err = 0 → 2 * R.length ≤ sr.i + 1)) (fun _ wr => ts.length - (intOf ((wr.cell? ⟨P, 1, none⟩).getD undef)).toNat)
  case atStart =>
    have h1 : s.i ≤ s1.i := HI1.out.1
    have h2 : s1.err = 0 → s.i + 1 ≤ s1.i := HI1.out.2
    exact ⟨s1, [(.slice a1 X1.kids.length c1, X1)], ts.length, by simp, HFIN.out, HR2.out, fun p hp => by rw [List.mem_singleton] at hp; subst hp; exact HB2.out, HP2.out, HK2.out, HX2.out, HZ2.out, by omega, by simp, fun h => by have := h2 h; simp; omega⟩
  case round =>
    obtain ⟨sr, R, f, hR1, hfin, hrk, hkb, hps, hkp, hbx, hwr, hf, hb1, hb2⟩ := hrel
    obtain ⟨au, cu, rfl⟩ := hrk.shape
    have HRK := Lib.hid hrk
    have HKB := Lib.hid hkb
    have HPS := Lib.hid hps
    have HKP := Lib.hid hkp
    have HBX := Lib.hid hbx
    have HFN := Lib.hid hfin
    have hil := hps.lt
    clear hfin hrk hkb hkp hbx HX2 HP2 HK2 HR2 HB2 HZ2 HI1 HFIN
    by_cases hy : SX.takes ts sr PX.wAnd = true
    · have HT : Hid (Calls Tryd.prog 32 #[.pointer (some ⟨P, 0, none⟩), .string ⟨#[97, 110, 100]⟩] wr fun r w' => r = .returned (.bool true) ∧ PS P lv ts deep (SX.next sr true) w' ∧ Keep (fun k => k = P) wr w') := Lib.hid (take_s P lv ts deep sr PX.wAnd true wr hps he hy)
      have herr : sr.err = 0 := SX.takes_err ts hy
      have hnl := (SX.takes_lt ts he hil hy)
      have HNL := Lib.hid hnl
      obtain ⟨f', rfl⟩ : ∃ f', f = f' + 1 := ⟨f - 1, by omega⟩
      have hrn := SX.rest_yes ts hy (one := one) f'
      have hgi := HGO.out (SX.next sr true) herr
      have hih := HIH.out (SX.next sr true)
      have hfn := HFN.out
      rw [hrn] at hfn
      revert hgi hih hfn
      generalize one (SX.next sr true) = x2
      intro hgi hih hfn
      obtain ⟨X2, s2⟩ := x2
      have HFN2 := Lib.hid hfn
      have HG2 := Lib.hid hgi
      have HI2 := Lib.hid hih
      have HY1 : Hid (wr.cell? ⟨P, 1, none⟩ = some (.int .i64 (sr.i : Nat))) := Lib.hid (hps.cb.cell 1)
      have HB := Lib.hid (hb2 herr)
      clear hps hy hrn HFN hgi hih hfn HPS
      go_wp2_with fail
      go_at_call 32
      refine HT.out.mono ?_
      rintro e w3 ⟨rfl, hp3, hk3⟩
      have HI3 := Lib.hid (HI2.out w3 hp3 herr)
      clear hp3 HI2 HT
      go_wp2_with fail
      go_at_call 62
      refine HI3.out.mono ?_
      rintro e w6 ⟨kv2, rfl, hkb6, hp6, hk6⟩
      obtain ⟨ak, ck, rfl⟩ := hkb6.shape
      simp only [Ft.val]
      have hkp6 := Keep.trans hk3 hk6
      have hrk6 := HRK.out.keep hkp6 (fun b hb _ _ => by omega)
      have hs6 : w.heap.size + 1 ≤ w6.heap.size := Nat.le_trans hwr hkp6.size
      have hrn : R.length ≤ 1000 := by have := HFEW.out; omega
      obtain ⟨a7, c7, w7, hrun, hrk7, hk7⟩ := app_kid hrk6 hs6 hrn (.slice ak X2.kids.length ck, X2) rfl
      go_wp2_with (at_builtin; refine wpList_append_run rfl _ _ _ rfl rfl rfl hrun ?_)
      have hp6' : PS P lv ts deep s2 w6 := hp6
      have hsz7 : w6.heap.size + 1 ≤ w7.heap.size := by have h1 := hk7.size; simp at h1; omega
      have hoth7 : ∀ b, b < w6.heap.size → ¬ At (.slice au R.length cu) b → w7.heap[b]? = w6.heap[b]? := fun b hb ha => (hk7.block b (by simp <;> omega) ha).trans (Below.heap_alloc _ _ _ hb)
      have hw6 : wr.heap.size ≤ w6.heap.size := hkp6.size
      have hatu : ∀ b, At (.slice au R.length cu) b → b < wr.heap.size := fun b ha => (HRK.out.at ha).2
      have hat7 : ∀ b, At (.slice a7 (R.length + 1) c7) b → At (.slice au R.length cu) b ∨ w6.heap.size + 1 ≤ b := fun b ha => (hrk7.at ha).1.2
      have hlow : ∀ b, b ≤ w.heap.size → ¬ At (.slice au R.length cu) b := fun b hb ha => by have := (hrk6.at ha).1; omega
      have hold : ∀ b, w.heap.size + 1 ≤ b → b < wr.heap.size → w6.heap[b]? = wr.heap[b]? := fun b hb hlt => hkp6.block b hlt (by omega)
      have hkp8 : Keep (fun k => k = P) w w7 := ((HKP.out.trans hkp6).alloc _).over hk7 (fun b ha => by have := (hrk6.at ha).1; omega)
      have hps8 : PS P lv ts deep s2 w7 := PA.set HS0.out ((hoth7 P (by omega) (hlow P (by omega))).trans hp6'.cb) hkp8 hp6'.lt hp6'.low
      have y1 := HY1.out
      have y7 : w7.cell? ⟨P, 1, none⟩ = some (.int .i64 (s2.i : Nat)) := hps8.cb.cell 1
      have hg1 : sr.i + 1 ≤ s2.i := HG2.out.1
      have hg2 : s2.err = 0 → sr.i + 1 + 1 ≤ s2.i := HG2.out.2
      have hbd := HB.out
      refine ⟨⟨s2, R ++ [((.slice ak X2.kids.length ck : Value), X2)], f', by simp, ?_, hrk7.mono (fun b hb _ => hb.1), ?_, hps8, hkp8, ?_, by omega, by omega, by simp; omega, fun h => by have := hg2 h; simp; omega⟩, ?_⟩
      · rw [HFN2.out]
        simp
      · intro p hp
        rw [List.mem_append, List.mem_singleton] at hp
        rcases hp with hp | rfl
        · refine KsB.mono (G := fun b => w.heap.size + 1 ≤ b ∧ ¬ At (.slice au R.length cu) b ∧ ¬ At (.slice a7 (R.length + 1) c7) b) (fun b _ hb => ⟨hb.1, hb.2.2⟩) _ _ (KsB.keep (by omega) (fun b hb hlt => (hoth7 b (by omega) hb.2.1).trans (hold b hb.1 hlt)) _ _ (KsB.mono (fun b hlt hb => ⟨hb.1, hb.2, fun ha => ?_⟩) _ _ (HKB.out p hp)))
          rcases hat7 b ha with h | h
          · exact hb.2 h
          · omega
        · refine KsB.mono (G := fun b => w.heap.size + 1 ≤ b ∧ ¬ At (.slice au R.length cu) b ∧ ¬ At (.slice a7 (R.length + 1) c7) b) (fun b _ hb => ⟨hb.1, hb.2.2⟩) _ _ (KsB.keep (by omega) (fun b hb hlt => hoth7 b hlt hb.2.1) _ _ (KsB.mono (fun b hlt hb => ?_) _ _ hkb6))
          have hb' : w3.heap.size ≤ b := hb
          have hw3 : wr.heap.size ≤ w3.heap.size := hk3.size
          have hnu : ¬ At (.slice au R.length cu) b := fun ha => by have := hatu b ha; omega
          refine ⟨by omega, hnu, fun ha => ?_⟩
          rcases hat7 b ha with h | h
          · exact hnu h
          · omega
      · exact HBX.out.carry ((hoth7 w.heap.size (by omega) (hlow w.heap.size (by omega))).trans (hkp6.block w.heap.size (by omega) hne))
      · rw [y1, y7]
        simp only [Option.getD_some, intOf, Int.toNat_natCast]
        omega
    · have hy' : SX.takes ts sr PX.wAnd = false := by simpa using hy
      have HT : Hid (Calls Tryd.prog 32 #[.pointer (some ⟨P, 0, none⟩), .string ⟨#[97, 110, 100]⟩] wr fun r w' => r = .returned (.bool false) ∧ PS P lv ts deep (SX.next sr false) w' ∧ Keep (fun k => k = P) wr w') := Lib.hid (take_s P lv ts deep sr PX.wAnd false wr hps he hy')
      have hrn := SX.rest_no ts hy' (one := one) f
      have HFN2 : Hid (FIN = (PX.join 7 (R.map (·.2)), sr)) := Lib.hid (by rw [HFN.out, hrn, List.append_nil])
      clear hps hy hy' hrn HFN
      go_wp2_with fail
      go_at_call 32
      refine HT.out.mono ?_
      rintro e w3 ⟨rfl, hp3, hk3⟩
      have HP3 : Hid (PS P lv ts deep sr w3) := Lib.hid hp3
      have HK3 := Lib.hid (Keep.trans HKP.out hk3)
      have HR3 := Lib.hid (HRK.out.keep hk3 (fun b hb _ _ => by omega))
      have HB3 : Hid (∀ p ∈ R, KsB (fun b => w.heap.size + 1 ≤ b) w3 p.1 p.2) := Lib.hid (fun p hp => KsB.mono (fun b _ hb => hb.1) _ _ (KsB.keep hk3.size (fun b hb hlt => hk3.block b hlt (by have := hb.1; omega)) _ _ (HKB.out p hp)))
      have HX3 := Lib.hid (HBX.out.carry (hk3.block w.heap.size (by omega) hne))
      clear hp3 hk3 HT HPS HKP HRK HKB HBX
      by_cases hn : R.length = 1
      · obtain ⟨p, rfl⟩ : ∃ p, R = [p] := List.length_eq_one_iff.1 hn
        obtain ⟨_, ⟨_, hz⟩ | ⟨g, cap, hv, hg, hlt3, _, _, hcl, _⟩⟩ := HR3.out
        · simp at hz
        injection hv with e1 e2 e3
        subst e1
        subst e3
        have d0 : w3.cell? ⟨g, 0, none⟩ = some (.int .i64 p.2.op) := hcl 0 (by simp [flatK])
        have d1 : w3.cell? ⟨g, 1, none⟩ = some (.string p.2.name) := hcl 1 (by simp [flatK])
        have d2 : w3.cell? ⟨g, 2, none⟩ = some (.string p.2.text) := hcl 2 (by simp [flatK])
        have d3 : w3.cell? ⟨g, 3, none⟩ = some p.1 := hcl 3 (by simp [flatK])
        have hp1 := HB3.out p (by simp)
        obtain ⟨ap, cp, hap⟩ := hp1.shape
        rw [hap] at d3 hp1
        obtain ⟨c0, c1, c2, c3, f0, f1, f2, f3⟩ := HX3.out
        have HP1 := Lib.hid hp1
        clear hp1 hcl hap
        go_wp2_with fail
        have hq := HX3.out.all (.int .i64 p.2.op) (.string p.2.name) (.string p.2.text) (.slice ap p.2.kids.length cp)
        unfold stored at hq
        obtain ⟨q0, q1, q2, q3, _, _, _, _⟩ := hq
        rw [HFN2.out]
        refine bodyPost_ret (v := .agg #[.int .i64 p.2.op, .string p.2.name, .string p.2.text, .slice ap p.2.kids.length cp]) (by simp [results, Tryd.results51, go_sem, q0, q1, q2, q3]) rfl ?_
        exact one_alone HS0.out HP3.out HK3.out HP1.out
      · have hR : ((R.length : Int) == 1) = false := by simp; omega
        obtain ⟨c0, c1, c2, c3, f0, f1, f2, f3⟩ := HX3.out
        have hrl : R.length ≤ 1000 := by have := HFEW.out; omega
        have HRL := Lib.hid hrl
        have HNN := Lib.hid hn
        clear hrl hn
        go_wp2_with fail
        have hq := HX3.out.all (.int .i64 7) (.string ⟨#[]⟩) (.string ⟨#[]⟩) (.slice au R.length cu)
        unfold stored at hq
        obtain ⟨q0, q1, q2, q3, _, _, _, _⟩ := hq
        rw [HFN2.out, join_many 7 (by rw [List.length_map]; exact HNN.out)]
        refine bodyPost_ret (v := .agg #[.int .i64 7, .string ⟨#[]⟩, .string ⟨#[]⟩, .slice au R.length cu]) (by simp [results, Tryd.results51, go_sem, q0, q1, q2, q3]) rfl ?_
        exact one_kids HS0.out HP3.out HK3.out HR3.out HB3.out HRL.out

end Go.Proofs.YtmodiemmcdocdaaDoor

namespace Go.Proofs.YtmodiemmcdocdaaDoor
open Go.RowKit Go
open PX (tk isT)
open SX (S)

set_option maxHeartbeats 8000000 in
set_option maxRecDepth 100000 in
theorem or_run (P : Nat) (lv : Value) (ts : List LX.Tok) (deep : Nat) (one : S → Ft × S) (hgo : SX.Goes one) (he : PX.Ended ts)
    (IH : ∀ s w, PS P lv ts deep s w → s.err = 0 → Calls Tryd.prog 51 #[.pointer (some ⟨P, 0, none⟩)] w (OneP P lv ts deep (one s) w))
    (s : S) (w : World) (h : PS P lv ts deep s w) (h0 : s.err = 0) : Calls Tryd.prog 34 #[.pointer (some ⟨P, 0, none⟩)] w (OneP P lv ts deep (SX.row ts PX.wOr 8 one s) w) := by
  have HS0 := Lib.hid h
  have hlt := h.cb.lt
  have HFEW := Lib.hid (h.few)
  obtain ⟨W, hW⟩ : ∃ W, W = newF w := ⟨_, rfl⟩
  have hbx := newF_bx w
  have hlay := newF_lay w
  have hsz := newF_size w
  rw [← hW] at hbx hlay hsz
  have HBX := Lib.hid hbx
  have HLAY := Lib.hid hlay
  have HSZ := Lib.hid hsz
  have HW := Lib.hid (show w.alloc (.cells #[.int .i64 0, .string ⟨#[]⟩, .string ⟨#[]⟩, .slice none 0 0] 27) = W from hW.symm)
  have HS1 := Lib.hid (h.lay hlay)
  have hne : ¬ w.heap.size = P := by omega
  have HIH := Lib.hid IH
  have HGO := Lib.hid hgo
  have HI1 := Lib.hid (hgo s h0)
  have HIH1 := Lib.hid (IH s W (h.lay hlay) h0)
  clear h hW hbx hlay hsz IH hgo
  obtain ⟨FIN, hFIN⟩ : ∃ FIN, FIN = SX.row ts PX.wOr 8 one s := ⟨_, rfl⟩
  rw [← hFIN]
  unfold SX.row at hFIN
  revert HI1 HIH1
  generalize one s = x1 at hFIN ⊢
  intro HI1 HIH1
  obtain ⟨X1, s1⟩ := x1
  have HFIN := Lib.hid hFIN
  clear hFIN
  go_enter Tryd.func34, Tryd.ntmps34
  go_wp2_with fail
  rw [HW.out]
  go_at_call 51
  refine HIH1.out.mono ?_
  rintro e w1 ⟨kv1, rfl, hkb1, hp1, hk1⟩
  obtain ⟨a1, c1, rfl⟩ := hkb1.shape
  have hk1' := hk1
  rw [HSZ.out] at hkb1
  have hz1 : w.heap.size + 1 ≤ w1.heap.size := by have := hk1.size; rw [HSZ.out] at this; exact this
  have HX2 := Lib.hid ((HBX.out.carry (hk1.block _ (by rw [HSZ.out]; omega) hne)).carry (Below.heap_alloc w1 (.cells #[.int .i64 X1.op, .string X1.name, .string X1.text, .slice a1 X1.kids.length c1] 27) w.heap.size (by omega)))
  have HP2 := Lib.hid (PA.lay hp1 ((Keep.refl _ w1).alloc (.cells #[.int .i64 X1.op, .string X1.name, .string X1.text, .slice a1 X1.kids.length c1] 27)))
  have HK2 := Lib.hid ((Keep.trans (Lay.keep HLAY.out) hk1).alloc (.cells #[.int .i64 X1.op, .string X1.name, .string X1.text, .slice a1 X1.kids.length c1] 27))
  have HR2 := Lib.hid ((rk_new 4 w1 1 [.int .i64 X1.op, .string X1.name, .string X1.text, .slice a1 X1.kids.length c1] 27 rfl (by omega)).mono (G' := fun b => w.heap.size + 1 ≤ b) (fun b hb _ => by omega))
  have HB2 : Hid (KsB (fun b => w.heap.size + 1 ≤ b ∧ ¬ At (.slice (some ⟨w1.heap.size, 0, none⟩) 1 1) b) (w1.alloc (.cells #[.int .i64 X1.op, .string X1.name, .string X1.text, .slice a1 X1.kids.length c1] 27)) (.slice a1 X1.kids.length c1) X1) := Lib.hid (by
    refine KsB.mono (G := fun b => w.heap.size + 1 ≤ b ∧ b < w1.heap.size) (fun b _ hb => ⟨hb.1, fun ⟨n, c, e⟩ => ?_⟩) _ _ (KsB.keep (by simp) (fun b _ hlt => Below.heap_alloc w1 _ b hlt) _ _ (KsB.mono (fun b hlt hb => ⟨hb, hlt⟩) _ _ hkb1))
    have hbl := hb.2
    injection e with e1 _ _
    injection e1 with e2
    injection e2 with e3 _ _
    omega)
  have HZ2 : Hid (w.heap.size + 1 ≤ (w1.alloc (.cells #[.int .i64 X1.op, .string X1.name, .string X1.text, .slice a1 X1.kids.length c1] 27)).heap.size) := Lib.hid (by simp; omega)
  simp only [Ft.val]
  clear hkb1 hp1 hk1 hk1' hz1 HIH1 HBX HLAY HSZ HW HS1
  go_wp2_with fail
  go_loopw [3] (fun u wr => ∃ (sr : S) (R : List (Value × Ft)) (f : Nat), 1 ≤ R.length ∧ FIN = (PX.join 8 (R.map (·.2) ++ (SX.rest ts PX.wOr one f sr).1), (SX.rest ts PX.wOr one f sr).2) ∧ Rk 4 (fun b => w.heap.size + 1 ≤ b) wr u R.length (flatK R) ∧ (∀ p ∈ R, KsB (fun b => w.heap.size + 1 ≤ b ∧ ¬ At u b) wr p.1 p.2) ∧
    PS P lv ts deep sr wr ∧ Keep (fun k => k = P) w wr ∧ Bx wr w.heap.size (.int .i64 0) (.string ⟨#[]⟩) (.string ⟨#[]⟩) (.slice none 0 0) ∧ w.heap.size + 1 ≤ wr.heap.size ∧ ts.length ≤ sr.i + f ∧ 2 * R.length ≤ sr.i + 2 ∧ (sr.err = 0 → 2 * R.length ≤ sr.i + 1)) (fun _ wr => ts.length - (intOf ((wr.cell? ⟨P, 1, none⟩).getD undef)).toNat)
  case atStart =>
    have h1 : s.i ≤ s1.i := HI1.out.1
    have h2 : s1.err = 0 → s.i + 1 ≤ s1.i := HI1.out.2
    exact ⟨s1, [(.slice a1 X1.kids.length c1, X1)], ts.length, by simp, HFIN.out, HR2.out, fun p hp => by rw [List.mem_singleton] at hp; subst hp; exact HB2.out, HP2.out, HK2.out, HX2.out, HZ2.out, by omega, by simp, fun h => by have := h2 h; simp; omega⟩
  case round =>
    obtain ⟨sr, R, f, hR1, hfin, hrk, hkb, hps, hkp, hbx, hwr, hf, hb1, hb2⟩ := hrel
    obtain ⟨au, cu, rfl⟩ := hrk.shape
    have HRK := Lib.hid hrk
    have HKB := Lib.hid hkb
    have HPS := Lib.hid hps
    have HKP := Lib.hid hkp
    have HBX := Lib.hid hbx
    have HFN := Lib.hid hfin
    have hil := hps.lt
    clear hfin hrk hkb hkp hbx HX2 HP2 HK2 HR2 HB2 HZ2 HI1 HFIN
    by_cases hy : SX.takes ts sr PX.wOr = true
    · have HT : Hid (Calls Tryd.prog 32 #[.pointer (some ⟨P, 0, none⟩), .string ⟨#[111, 114]⟩] wr fun r w' => r = .returned (.bool true) ∧ PS P lv ts deep (SX.next sr true) w' ∧ Keep (fun k => k = P) wr w') := Lib.hid (take_s P lv ts deep sr PX.wOr true wr hps he hy)
      have herr : sr.err = 0 := SX.takes_err ts hy
      have hnl := (SX.takes_lt ts he hil hy)
      have HNL := Lib.hid hnl
      obtain ⟨f', rfl⟩ : ∃ f', f = f' + 1 := ⟨f - 1, by omega⟩
      have hrn := SX.rest_yes ts hy (one := one) f'
      have hgi := HGO.out (SX.next sr true) herr
      have hih := HIH.out (SX.next sr true)
      have hfn := HFN.out
      rw [hrn] at hfn
      revert hgi hih hfn
      generalize one (SX.next sr true) = x2
      intro hgi hih hfn
      obtain ⟨X2, s2⟩ := x2
      have HFN2 := Lib.hid hfn
      have HG2 := Lib.hid hgi
      have HI2 := Lib.hid hih
      have HY1 : Hid (wr.cell? ⟨P, 1, none⟩ = some (.int .i64 (sr.i : Nat))) := Lib.hid (hps.cb.cell 1)
      have HB := Lib.hid (hb2 herr)
      clear hps hy hrn HFN hgi hih hfn HPS
      go_wp2_with fail
      go_at_call 32
      refine HT.out.mono ?_
      rintro e w3 ⟨rfl, hp3, hk3⟩
      have HI3 := Lib.hid (HI2.out w3 hp3 herr)
      clear hp3 HI2 HT
      go_wp2_with fail
      go_at_call 51
      refine HI3.out.mono ?_
      rintro e w6 ⟨kv2, rfl, hkb6, hp6, hk6⟩
      obtain ⟨ak, ck, rfl⟩ := hkb6.shape
      simp only [Ft.val]
      have hkp6 := Keep.trans hk3 hk6
      have hrk6 := HRK.out.keep hkp6 (fun b hb _ _ => by omega)
      have hs6 : w.heap.size + 1 ≤ w6.heap.size := Nat.le_trans hwr hkp6.size
      have hrn : R.length ≤ 1000 := by have := HFEW.out; omega
      obtain ⟨a7, c7, w7, hrun, hrk7, hk7⟩ := app_kid hrk6 hs6 hrn (.slice ak X2.kids.length ck, X2) rfl
      go_wp2_with (at_builtin; refine wpList_append_run rfl _ _ _ rfl rfl rfl hrun ?_)
      have hp6' : PS P lv ts deep s2 w6 := hp6
      have hsz7 : w6.heap.size + 1 ≤ w7.heap.size := by have h1 := hk7.size; simp at h1; omega
      have hoth7 : ∀ b, b < w6.heap.size → ¬ At (.slice au R.length cu) b → w7.heap[b]? = w6.heap[b]? := fun b hb ha => (hk7.block b (by simp <;> omega) ha).trans (Below.heap_alloc _ _ _ hb)
      have hw6 : wr.heap.size ≤ w6.heap.size := hkp6.size
      have hatu : ∀ b, At (.slice au R.length cu) b → b < wr.heap.size := fun b ha => (HRK.out.at ha).2
      have hat7 : ∀ b, At (.slice a7 (R.length + 1) c7) b → At (.slice au R.length cu) b ∨ w6.heap.size + 1 ≤ b := fun b ha => (hrk7.at ha).1.2
      have hlow : ∀ b, b ≤ w.heap.size → ¬ At (.slice au R.length cu) b := fun b hb ha => by have := (hrk6.at ha).1; omega
      have hold : ∀ b, w.heap.size + 1 ≤ b → b < wr.heap.size → w6.heap[b]? = wr.heap[b]? := fun b hb hlt => hkp6.block b hlt (by omega)
      have hkp8 : Keep (fun k => k = P) w w7 := ((HKP.out.trans hkp6).alloc _).over hk7 (fun b ha => by have := (hrk6.at ha).1; omega)
      have hps8 : PS P lv ts deep s2 w7 := PA.set HS0.out ((hoth7 P (by omega) (hlow P (by omega))).trans hp6'.cb) hkp8 hp6'.lt hp6'.low
      have y1 := HY1.out
      have y7 : w7.cell? ⟨P, 1, none⟩ = some (.int .i64 (s2.i : Nat)) := hps8.cb.cell 1
      have hg1 : sr.i + 1 ≤ s2.i := HG2.out.1
      have hg2 : s2.err = 0 → sr.i + 1 + 1 ≤ s2.i := HG2.out.2
      have hbd := HB.out
      refine ⟨⟨s2, R ++ [((.slice ak X2.kids.length ck : Value), X2)], f', by simp, ?_, hrk7.mono (fun b hb _ => hb.1), ?_, hps8, hkp8, ?_, by omega, by omega, by simp; omega, fun h => by have := hg2 h; simp; omega⟩, ?_⟩
      · rw [HFN2.out]
        simp
      · intro p hp
        rw [List.mem_append, List.mem_singleton] at hp
        rcases hp with hp | rfl
        · refine KsB.mono (G := fun b => w.heap.size + 1 ≤ b ∧ ¬ At (.slice au R.length cu) b ∧ ¬ At (.slice a7 (R.length + 1) c7) b) (fun b _ hb => ⟨hb.1, hb.2.2⟩) _ _ (KsB.keep (by omega) (fun b hb hlt => (hoth7 b (by omega) hb.2.1).trans (hold b hb.1 hlt)) _ _ (KsB.mono (fun b hlt hb => ⟨hb.1, hb.2, fun ha => ?_⟩) _ _ (HKB.out p hp)))
          rcases hat7 b ha with h | h
          · exact hb.2 h
          · omega
        · refine KsB.mono (G := fun b => w.heap.size + 1 ≤ b ∧ ¬ At (.slice au R.length cu) b ∧ ¬ At (.slice a7 (R.length + 1) c7) b) (fun b _ hb => ⟨hb.1, hb.2.2⟩) _ _ (KsB.keep (by omega) (fun b hb hlt => hoth7 b hlt hb.2.1) _ _ (KsB.mono (fun b hlt hb => ?_) _ _ hkb6))
          have hb' : w3.heap.size ≤ b := hb
          have hw3 : wr.heap.size ≤ w3.heap.size := hk3.size
          have hnu : ¬ At (.slice au R.length cu) b := fun ha => by have := hatu b ha; omega
          refine ⟨by omega, hnu, fun ha => ?_⟩
          rcases hat7 b ha with h | h
          · exact hnu h
          · omega
      · exact HBX.out.carry ((hoth7 w.heap.size (by omega) (hlow w.heap.size (by omega))).trans (hkp6.block w.heap.size (by omega) hne))
      · rw [y1, y7]
        simp only [Option.getD_some, intOf, Int.toNat_natCast]
        omega
    · have hy' : SX.takes ts sr PX.wOr = false := by simpa using hy
      have HT : Hid (Calls Tryd.prog 32 #[.pointer (some ⟨P, 0, none⟩), .string ⟨#[111, 114]⟩] wr fun r w' => r = .returned (.bool false) ∧ PS P lv ts deep (SX.next sr false) w' ∧ Keep (fun k => k = P) wr w') := Lib.hid (take_s P lv ts deep sr PX.wOr false wr hps he hy')
      have hrn := SX.rest_no ts hy' (one := one) f
      have HFN2 : Hid (FIN = (PX.join 8 (R.map (·.2)), sr)) := Lib.hid (by rw [HFN.out, hrn, List.append_nil])
      clear hps hy hy' hrn HFN
      go_wp2_with fail
      go_at_call 32
      refine HT.out.mono ?_
      rintro e w3 ⟨rfl, hp3, hk3⟩
      have HP3 : Hid (PS P lv ts deep sr w3) := Lib.hid hp3
      have HK3 := Lib.hid (Keep.trans HKP.out hk3)
      have HR3 := Lib.hid (HRK.out.keep hk3 (fun b hb _ _ => by omega))
      have HB3 : Hid (∀ p ∈ R, KsB (fun b => w.heap.size + 1 ≤ b) w3 p.1 p.2) := Lib.hid (fun p hp => KsB.mono (fun b _ hb => hb.1) _ _ (KsB.keep hk3.size (fun b hb hlt => hk3.block b hlt (by have := hb.1; omega)) _ _ (HKB.out p hp)))
      have HX3 := Lib.hid (HBX.out.carry (hk3.block w.heap.size (by omega) hne))
      clear hp3 hk3 HT HPS HKP HRK HKB HBX
      by_cases hn : R.length = 1
      · obtain ⟨p, rfl⟩ : ∃ p, R = [p] := List.length_eq_one_iff.1 hn
        obtain ⟨_, ⟨_, hz⟩ | ⟨g, cap, hv, hg, hlt3, _, _, hcl, _⟩⟩ := HR3.out
        · simp at hz
        injection hv with e1 e2 e3
        subst e1
        subst e3
        have d0 : w3.cell? ⟨g, 0, none⟩ = some (.int .i64 p.2.op) := hcl 0 (by simp [flatK])
        have d1 : w3.cell? ⟨g, 1, none⟩ = some (.string p.2.name) := hcl 1 (by simp [flatK])
        have d2 : w3.cell? ⟨g, 2, none⟩ = some (.string p.2.text) := hcl 2 (by simp [flatK])
        have d3 : w3.cell? ⟨g, 3, none⟩ = some p.1 := hcl 3 (by simp [flatK])
        have hp1 := HB3.out p (by simp)
        obtain ⟨ap, cp, hap⟩ := hp1.shape
        rw [hap] at d3 hp1
        obtain ⟨c0, c1, c2, c3, f0, f1, f2, f3⟩ := HX3.out
        have HP1 := Lib.hid hp1
        clear hp1 hcl hap
        go_wp2_with fail
        have hq := HX3.out.all (.int .i64 p.2.op) (.string p.2.name) (.string p.2.text) (.slice ap p.2.kids.length cp)
        unfold stored at hq
        obtain ⟨q0, q1, q2, q3, _, _, _, _⟩ := hq
        rw [HFN2.out]
        refine bodyPost_ret (v := .agg #[.int .i64 p.2.op, .string p.2.name, .string p.2.text, .slice ap p.2.kids.length cp]) (by simp [results, Tryd.results34, go_sem, q0, q1, q2, q3]) rfl ?_
        exact one_alone HS0.out HP3.out HK3.out HP1.out
      · have hR : ((R.length : Int) == 1) = false := by simp; omega
        obtain ⟨c0, c1, c2, c3, f0, f1, f2, f3⟩ := HX3.out
        have hrl : R.length ≤ 1000 := by have := HFEW.out; omega
        have HRL := Lib.hid hrl
        have HNN := Lib.hid hn
        clear hrl hn
        go_wp2_with fail
        have hq := HX3.out.all (.int .i64 8) (.string ⟨#[]⟩) (.string ⟨#[]⟩) (.slice au R.length cu)
        unfold stored at hq
        obtain ⟨q0, q1, q2, q3, _, _, _, _⟩ := hq
        rw [HFN2.out, join_many 8 (by rw [List.length_map]; exact HNN.out)]
        refine bodyPost_ret (v := .agg #[.int .i64 8, .string ⟨#[]⟩, .string ⟨#[]⟩, .slice au R.length cu]) (by simp [results, Tryd.results34, go_sem, q0, q1, q2, q3]) rfl ?_
        exact one_kids HS0.out HP3.out HK3.out HR3.out HB3.out HRL.out

end Go.Proofs.YtmodiemmcdocdaaDoor

namespace Go.Proofs.YtmodiemmcdocdaaDoor
open Go.RowKit Go
open PX (tk isT)
open SX (S)

theorem deep_less {a : Nat} (h : a ≤ 100) : IntKind.i64.wrap (((a + 1 : Nat) : Int) - 1) = (a : Int) := by
  rw [IntWalk.i64_in _ (by omega)]
  omega

theorem stored_alloc {W : World} {k : Nat} (h : k < W.heap.size) (o : Obj) (u0 u1 u2 u3 : Value) : stored (W.alloc o) k u0 u1 u2 u3 = (stored W k u0 u1 u2 u3).alloc o := by
  unfold stored
  rw [World.setCell_alloc_past _ _ _ _ h, World.setCell_alloc_past _ _ _ _ (by simp [World.setCell]; exact h), World.setCell_alloc_past _ _ _ _ (by simp [World.setCell]; exact h), World.setCell_alloc_past _ _ _ _ (by simp [World.setCell]; exact h)]

/-- The way out of a not. -/
theorem not_end {P : Nat} {lv : Value} {ts : List LX.Tok} {deep F : Nat} {s0 s2 : S} {w w3 : World} {X : Ft} {kv : Value} (h0 : PS P lv ts deep s0 w) (hp : PS P lv ts (deep + 1) s2 w3) (hx : Bx w3 w.heap.size (.int .i64 0) (.string ⟨#[]⟩) (.string ⟨#[]⟩) (.slice none 0 0))
    (hk : Keep (fun k => k = P) w w3) (hkb : KsB (fun b => F + 1 ≤ b) w3 kv X) (hPF : ¬ P = F) (hwF : ¬ w.heap.size = F) (hw : w.heap.size ≤ F) (hF : F < w3.heap.size) {a : Act} (ha : a.tmps[2]?.getD undef = .pointer (some ⟨w.heap.size, 0, none⟩)) (hd : a.defers = []) :
    bodyPost Tryd.prog Tryd.f62 (OneP P lv ts deep (.mk 6 ⟨#[]⟩ ⟨#[]⟩ [X], s2) w) Exit.ret a
      (((((((w3.setCell ⟨F, 3, none⟩ (.slice (some ⟨w3.heap.size, 0, none⟩) 1 1)).setCell ⟨P, 2, none⟩ (.int .i64 (deep : Nat))).setCell ⟨w.heap.size, 0, none⟩ (.int .i64 6)).setCell ⟨w.heap.size, 1, none⟩ (.string ⟨#[]⟩)).setCell ⟨w.heap.size, 2, none⟩ (.string ⟨#[]⟩)).setCell ⟨w.heap.size, 3, none⟩ (.slice (some ⟨w3.heap.size, 0, none⟩) 1 1)).alloc (.cells #[.int .i64 X.op, .string X.name, .string X.text, kv] 27)) := by
  have hPl := h0.cb.lt
  obtain ⟨A2, hA2⟩ : ∃ A2, A2 = (w3.setCell ⟨F, 3, none⟩ (.slice (some ⟨w3.heap.size, 0, none⟩) 1 1)).setCell ⟨P, 2, none⟩ (.int .i64 (deep : Nat)) := ⟨_, rfl⟩
  have hs2 : A2.heap.size = w3.heap.size := by rw [hA2]; simp [World.setCell]
  have hb2 : ∀ b, b ≠ F → b ≠ P → A2.heap[b]? = w3.heap[b]? := fun b h1 h2 => by rw [hA2]; exact (Below.heap_setCell _ ⟨P, 2, none⟩ _ b h2).trans (Below.heap_setCell _ ⟨F, 3, none⟩ _ b h1)
  have hc2 : CB A2 P 59 #[lv, .int .i64 (s2.i : Nat), .int .i64 (deep : Nat), .int .i64 (s2.err : Nat), .int .i64 (s2.pl : Nat)] := by
    rw [hA2]
    exact (hp.cb.keep ((Keep.refl (fun k => k = F) w3).setCell (p := ⟨F, 3, none⟩) (.inr rfl) _) hPF).set 2 (.int .i64 (deep : Nat))
  have hk2 : Keep (fun k => k = P) w A2 := by rw [hA2]; exact (hk.setCell (p := ⟨F, 3, none⟩) (.inl hw) _).setCell (p := ⟨P, 2, none⟩) (.inr rfl) _
  rw [← hA2, ← hs2]
  have hst := stored_alloc (W := A2) (k := w.heap.size) (by omega) (.cells #[.int .i64 X.op, .string X.name, .string X.text, kv] 27) (.int .i64 6) (.string ⟨#[]⟩) (.string ⟨#[]⟩) (.slice (some ⟨A2.heap.size, 0, none⟩) 1 1)
  have hun : (((((A2.setCell ⟨w.heap.size, 0, none⟩ (.int .i64 6)).setCell ⟨w.heap.size, 1, none⟩ (.string ⟨#[]⟩)).setCell ⟨w.heap.size, 2, none⟩ (.string ⟨#[]⟩)).setCell ⟨w.heap.size, 3, none⟩ (.slice (some ⟨A2.heap.size, 0, none⟩) 1 1)).alloc (.cells #[.int .i64 X.op, .string X.name, .string X.text, kv] 27)) = stored (A2.alloc (.cells #[.int .i64 X.op, .string X.name, .string X.text, kv] 27)) w.heap.size (.int .i64 6) (.string ⟨#[]⟩) (.string ⟨#[]⟩) (.slice (some ⟨A2.heap.size, 0, none⟩) 1 1) := hst.symm
  rw [hun]
  have hrk := (rk_new 4 A2 1 [.int .i64 X.op, .string X.name, .string X.text, kv] 27 rfl (by omega)).mono (G' := fun b => w.heap.size + 1 ≤ b) (fun b hb _ => by omega)
  have hx2 := (hx.carry (hb2 w.heap.size hwF (by omega))).carry (Below.heap_alloc A2 (.cells #[.int .i64 X.op, .string X.name, .string X.text, kv] 27) w.heap.size (by omega))
  have hq := hx2.all (.int .i64 6) (.string ⟨#[]⟩) (.string ⟨#[]⟩) (.slice (some ⟨A2.heap.size, 0, none⟩) 1 1)
  obtain ⟨q0, q1, q2, q3, _, _, _, _⟩ := hq
  have hps : PS P lv ts deep s2 (A2.alloc (.cells #[.int .i64 X.op, .string X.name, .string X.text, kv] 27)) := PA.set h0 (hc2.keep ((Keep.refl (fun _ => False) A2).alloc _) (fun h => h)) (hk2.alloc _) hp.lt h0.low
  refine bodyPost_ret (v := .agg #[.int .i64 6, .string ⟨#[]⟩, .string ⟨#[]⟩, .slice (some ⟨A2.heap.size, 0, none⟩) 1 1]) (by simp [results, Tryd.results62, go_sem, ha, q0, q1, q2, q3]) hd ?_
  refine one_kids (R := [(kv, X)]) h0 hps (hk2.alloc _) hrk (fun p hp' => ?_) (by simp)
  rw [List.mem_singleton] at hp'
  subst hp'
  refine KsB.mono (G := fun b => F + 1 ≤ b ∧ b ≠ P) (fun b _ hb => by have := hb.1; omega) _ _ (KsB.keep (by simp; omega) (fun b hb hlt => (Below.heap_alloc A2 _ b (by omega)).trans (hb2 b (by have := hb.1; omega) hb.2)) _ _ (KsB.mono (fun b hlt hb => ⟨hb, by omega⟩) _ _ hkb))

set_option maxHeartbeats 8000000 in
set_option maxRecDepth 100000 in
theorem atom_not (P : Nat) (lv : Value) (ts : List LX.Tok) (deep d : Nat) (hd : deep < 8) (he : PX.Ended ts)
    (IH : ∀ s w, PS P lv ts (deep + 1) s w → s.err = 0 → Calls Tryd.prog 62 #[.pointer (some ⟨P, 0, none⟩)] w (OneP P lv ts (deep + 1) (SX.atom ts d s) w))
    (i pl : Nat) (w : World) (h : PS P lv ts deep ⟨i, 0, pl⟩ w) (hy : SX.takes ts ⟨i, 0, pl⟩ PX.wNot = true) :
    Calls Tryd.prog 62 #[.pointer (some ⟨P, 0, none⟩)] w (OneP P lv ts deep (SX.atom ts (d + 1) ⟨i, 0, pl⟩) w) := by
  have hat : SX.atom ts (d + 1) ⟨i, 0, pl⟩ = (.mk 6 ⟨#[]⟩ ⟨#[]⟩ [(SX.atom ts d ⟨i + 1, 0, pl⟩).1], (SX.atom ts d ⟨i + 1, 0, pl⟩).2) := by rw [SX.atom, if_pos hy]; rfl
  rw [hat]
  have HS0 := Lib.hid h
  have hlt := h.cb.lt
  have HIL := Lib.hid (show i < ts.length from h.lt)
  obtain ⟨W, hW⟩ : ∃ W, W = newF w := ⟨_, rfl⟩
  have hbx := newF_bx w
  have hlay := newF_lay w
  have hsz := newF_size w
  rw [← hW] at hbx hlay hsz
  have HBX := Lib.hid hbx
  have HLAY := Lib.hid hlay
  have HSZ := Lib.hid hsz
  have HW := Lib.hid (show w.alloc (.cells #[.int .i64 0, .string ⟨#[]⟩, .string ⟨#[]⟩, .slice none 0 0] 27) = W from hW.symm)
  have hs1 : PS P lv ts deep ⟨i, 0, pl⟩ W := PA.lay h hlay
  have x1 : w.cell? ⟨P, 1, none⟩ = some (.int .i64 (i : Nat)) := h.cb.cell 1
  have HT : Hid (Calls Tryd.prog 32 #[.pointer (some ⟨P, 0, none⟩), .string ⟨#[110, 111, 116]⟩] W fun r w' => r = .returned (.bool true) ∧ PS P lv ts deep (SX.next ⟨i, 0, pl⟩ true) w' ∧ Keep (fun k => k = P) W w') := Lib.hid (take_s P lv ts deep ⟨i, 0, pl⟩ PX.wNot true W hs1 he hy)
  have hne : ¬ w.heap.size = P := by omega
  have HIH := Lib.hid (IH ⟨i + 1, 0, pl⟩)
  revert HIH
  generalize SX.atom ts d ⟨i + 1, 0, pl⟩ = x2
  intro HIH
  obtain ⟨X, s2⟩ := x2
  clear h hW hbx hlay hsz IH hat hs1
  go_enter Tryd.func62, Tryd.ntmps62
  go_wp2_with fail
  rw [HW.out]
  go_at_call 32
  refine HT.out.mono ?_
  rintro e w1 ⟨rfl, hp1, hk1⟩
  have HN := Lib.hid (in_ok P lv ts deep (i + 1) pl i w1 hp1 hd)
  have HK1 := Lib.hid hk1
  clear hp1 hk1 HT
  go_wp2_with fail
  go_at_call 71
  refine HN.out.mono ?_
  rintro e w2 ⟨⟨v2, rfl⟩, hp2, hk2⟩
  have hk12 := Keep.trans HK1.out hk2
  have hp2' : PS P lv ts (deep + 1) ⟨i + 1, 0, pl⟩ (w2.alloc (.cells #[.int .i64 6, .string ⟨#[]⟩, .string ⟨#[]⟩, .slice none 0 0] 27)) := PA.lay hp2 ((Keep.refl _ w2).alloc _)
  have x3 : (w2.alloc (.cells #[.int .i64 6, .string ⟨#[]⟩, .string ⟨#[]⟩, .slice none 0 0] 27)).cell? ⟨P, 3, none⟩ = some (.int .i64 0) := hp2'.cb.cell 3
  have hPl2 : P < w2.heap.size := hp2.cb.lt
  have x3' : w2.cell? ⟨P, 3, none⟩ = some (.int .i64 0) := hp2.cb.cell 3
  have HK2 := Lib.hid hk12
  have HI := Lib.hid (HIH.out _ hp2' (by trivial))
  have HF : Hid (Bx (w2.alloc (.cells #[.int .i64 6, .string ⟨#[]⟩, .string ⟨#[]⟩, .slice none 0 0] 27)) w2.heap.size (.int .i64 6) (.string ⟨#[]⟩) (.string ⟨#[]⟩) (.slice none 0 0)) := Lib.hid ⟨by go_simp, by go_simp, by go_simp, by go_simp, by go_simp, by go_simp, by go_simp, by go_simp⟩
  have hz2 : w.heap.size + 1 ≤ w2.heap.size := by have h1 := hk12.size; rw [HSZ.out] at h1; exact h1
  have HX2 := Lib.hid ((HBX.out.carry (hk12.block w.heap.size (by rw [HSZ.out]; omega) hne)).carry (Below.heap_alloc w2 (.cells #[.int .i64 6, .string ⟨#[]⟩, .string ⟨#[]⟩, .slice none 0 0] 27) w.heap.size (by omega)))
  clear hp2 hp2' hk2 hk12 HIH HN HK1
  go_wp2_with fail
  go_at_call 62
  refine HI.out.mono ?_
  rintro e w3 ⟨kv, rfl, hkb, hp3, hk3⟩
  obtain ⟨ak, ck, rfl⟩ := hkb.shape
  simp only [Ft.val]
  obtain ⟨F, hF⟩ : ∃ F, F = w2.heap.size := ⟨_, rfl⟩
  have hFP : ¬ F = P := by omega
  have hFw : w.heap.size + 1 ≤ F := by omega
  have hF3 : F < w3.heap.size := by have := hk3.size; simp at this; omega
  have hkb' : KsB (fun b => F + 1 ≤ b) w3 (.slice ak X.kids.length ck) X := KsB.mono (fun b _ hb => by have h1 : (w2.alloc (.cells #[.int .i64 6, .string ⟨#[]⟩, .string ⟨#[]⟩, .slice none 0 0] 27)).heap.size ≤ b := hb; simp at h1; omega) _ _ hkb
  have HF3 := Lib.hid (HF.out.carry (hk3.block w2.heap.size (by simp) (by omega)))
  have HX3 := Lib.hid (HX2.out.carry (hk3.block w.heap.size (by simp; omega) hne))
  have HK3 := Lib.hid (Keep.trans ((Keep.trans (Lay.keep HLAY.out) HK2.out).alloc (.cells #[.int .i64 6, .string ⟨#[]⟩, .string ⟨#[]⟩, .slice none 0 0] 27)) hk3)
  have hp3' : PS P lv ts (deep + 1) s2 w3 := hp3
  have y2 : w3.cell? ⟨P, 2, none⟩ = some (.int .i64 ((deep + 1 : Nat) : Int)) := hp3'.cb.cell 2
  have fz2 := hp3'.cb.frozen 2
  have hP3 := hp3'.cb.lt
  rw [← hF] at HF3
  have HP3 := Lib.hid hp3'
  have HKB := Lib.hid hkb'
  have hdl := deep_less (a := deep) (by omega)
  obtain ⟨b0, b1, b2, b3, g0, g1, g2, g3⟩ := HF3.out
  obtain ⟨c0, c1, c2, c3, f0, f1, f2, f3⟩ := HX3.out
  simp only [← hF]
  clear hF hkb hkb' hp3 hp3' hk3 HI HF HX2 HK2 x3 x3' hz2
  have hwF : ¬ w.heap.size = F := by omega
  have hPF : ¬ P = F := by omega
  have hw3 : w.heap.size < w3.heap.size := by omega
  go_wp2_with fail
  exact not_end HS0.out HP3.out HX3.out HK3.out HKB.out hPF hwF (by omega) hF3 rfl rfl
end Go.Proofs.YtmodiemmcdocdaaDoor

namespace Go.Proofs.YtmodiemmcdocdaaDoor
open Go.RowKit Go
open PX (tk isT)
open SX (S)

/-- A filter with no kids, stored. -/
theorem one_leaf {P : Nat} {lv : Value} {ts : List LX.Tok} {deep : Nat} {s0 s : S} {w W : World} {o : Int} {n t : ByteArray} (h0 : PS P lv ts deep s0 w) (h : PS P lv ts deep s W) (hk : Keep (fun k => k = P) w W) :
    OneP P lv ts deep (.mk o n t [], s) w (.returned (.agg #[.int .i64 o, .string n, .string t, .slice none 0 0])) (stored W w.heap.size (.int .i64 o) (.string n) (.string t) (.slice none 0 0)) := by
  have hPl := h0.cb.lt
  exact ⟨.slice none 0 0, rfl, KsB.nil _ _ _ _ _, PA.set h0 ((stored_other (by omega) _ _ _ _).trans h.cb) (keep_stored hk (Nat.le_refl _) _ _ _ _) h.lt h.low, keep_stored hk (Nat.le_refl _) _ _ _ _⟩

/-- A leaf's way out: its box has been laid last. -/
theorem leaf_end {P : Nat} {lv : Value} {ts : List LX.Tok} {deep : Nat} {s0 s : S} {w W : World} {o : Int} {n t : ByteArray} {ob : Obj} (h0 : PS P lv ts deep s0 w) (h : PS P lv ts deep s W) (hk : Keep (fun k => k = P) w W)
    (hx : Bx W w.heap.size (.int .i64 0) (.string ⟨#[]⟩) (.string ⟨#[]⟩) (.slice none 0 0)) (hw : w.heap.size < W.heap.size) {a : Act} (ha : a.tmps[2]?.getD undef = .pointer (some ⟨w.heap.size, 0, none⟩)) (hd : a.defers = []) :
    bodyPost Tryd.prog Tryd.f62 (OneP P lv ts deep (.mk o n t [], s) w) Exit.ret a
      (((((W.setCell ⟨w.heap.size, 0, none⟩ (.int .i64 o)).setCell ⟨w.heap.size, 1, none⟩ (.string n)).setCell ⟨w.heap.size, 2, none⟩ (.string t)).setCell ⟨w.heap.size, 3, none⟩ (.slice none 0 0)).alloc ob) := by
  have hun : (((((W.setCell ⟨w.heap.size, 0, none⟩ (.int .i64 o)).setCell ⟨w.heap.size, 1, none⟩ (.string n)).setCell ⟨w.heap.size, 2, none⟩ (.string t)).setCell ⟨w.heap.size, 3, none⟩ (.slice none 0 0)).alloc ob) = stored (W.alloc ob) w.heap.size (.int .i64 o) (.string n) (.string t) (.slice none 0 0) := (stored_alloc hw ob _ _ _ _).symm
  rw [hun]
  have hq := (hx.carry (Below.heap_alloc W ob w.heap.size hw)).all (.int .i64 o) (.string n) (.string t) (.slice none 0 0)
  obtain ⟨q0, q1, q2, q3, _, _, _, _⟩ := hq
  refine bodyPost_ret (v := .agg #[.int .i64 o, .string n, .string t, .slice none 0 0]) (by simp [results, Tryd.results62, go_sem, ha, q0, q1, q2, q3]) hd ?_
  exact one_leaf h0 (PA.lay h ((Keep.refl _ W).alloc ob)) (hk.alloc ob)

set_option maxHeartbeats 8000000 in
set_option maxRecDepth 100000 in
theorem atom_not_bad (P : Nat) (lv : Value) (ts : List LX.Tok) (he : PX.Ended ts)
    (i pl : Nat) (w : World) (h : PS P lv ts 8 ⟨i, 0, pl⟩ w) (hy : SX.takes ts ⟨i, 0, pl⟩ PX.wNot = true) :
    Calls Tryd.prog 62 #[.pointer (some ⟨P, 0, none⟩)] w (OneP P lv ts 8 (SX.atom ts 0 ⟨i, 0, pl⟩) w) := by
  have hat : SX.atom ts 0 ⟨i, 0, pl⟩ = (.mk 6 ⟨#[]⟩ ⟨#[]⟩ [], ⟨i + 1, 6, (tk ts i).place⟩) := by rw [SX.atom, if_pos hy]; rfl
  rw [hat]
  have HS0 := Lib.hid h
  have hlt := h.cb.lt
  have hil : i < ts.length := h.lt
  obtain ⟨W, hW⟩ : ∃ W, W = newF w := ⟨_, rfl⟩
  have hbx := newF_bx w
  have hlay := newF_lay w
  have hsz := newF_size w
  rw [← hW] at hbx hlay hsz
  have HBX := Lib.hid hbx
  have HLAY := Lib.hid hlay
  have HSZ := Lib.hid hsz
  have HW := Lib.hid (show w.alloc (.cells #[.int .i64 0, .string ⟨#[]⟩, .string ⟨#[]⟩, .slice none 0 0] 27) = W from hW.symm)
  have hs1 : PS P lv ts 8 ⟨i, 0, pl⟩ W := PA.lay h hlay
  have x1 : w.cell? ⟨P, 1, none⟩ = some (.int .i64 (i : Nat)) := h.cb.cell 1
  have HT : Hid (Calls Tryd.prog 32 #[.pointer (some ⟨P, 0, none⟩), .string ⟨#[110, 111, 116]⟩] W fun r w' => r = .returned (.bool true) ∧ PS P lv ts 8 (SX.next ⟨i, 0, pl⟩ true) w' ∧ Keep (fun k => k = P) W w') := Lib.hid (take_s P lv ts 8 ⟨i, 0, pl⟩ PX.wNot true W hs1 he hy)
  have hne : ¬ w.heap.size = P := by omega
  clear h hW hbx hlay hsz hat hs1
  go_enter Tryd.func62, Tryd.ntmps62
  go_wp2_with fail
  rw [HW.out]
  go_at_call 32
  refine HT.out.mono ?_
  rintro e w1 ⟨rfl, hp1, hk1⟩
  have HN := Lib.hid (in_bad P lv ts (i + 1) pl i w1 hp1 hil)
  have HK1 := Lib.hid hk1
  clear hp1 hk1 HT
  go_wp2_with fail
  go_at_call 71
  refine HN.out.mono ?_
  rintro e w2 ⟨⟨v2, rfl⟩, hp2, hk2⟩
  have hp2' : PS P lv ts 9 ⟨i + 1, 6, (tk ts i).place⟩ w2 := hp2
  have hk12 := Keep.trans HK1.out hk2
  have x2 : w2.cell? ⟨P, 2, none⟩ = some (.int .i64 9) := hp2'.cb.cell 2
  have fz2 := hp2'.cb.frozen 2
  have x3 : w2.cell? ⟨P, 3, none⟩ = some (.int .i64 6) := hp2'.cb.cell 3
  have hPl2 : P < w2.heap.size := hp2.cb.lt
  have hz2 : w.heap.size + 1 ≤ w2.heap.size := by have h1 := hk12.size; rw [HSZ.out] at h1; exact h1
  have HX2 := Lib.hid (HBX.out.carry (hk12.block w.heap.size (by rw [HSZ.out]; omega) hne))
  have HK2 := Lib.hid (Keep.trans (Lay.keep HLAY.out) hk12)
  have HP2 := Lib.hid hp2'
  obtain ⟨c0, c1, c2, c3, f0, f1, f2, f3⟩ := HX2.out
  have hPw : ¬ P = w.heap.size := by omega
  have hw2 : w.heap.size < w2.heap.size := by omega
  have hwn : ¬ w.heap.size = w2.heap.size := by omega
  clear hp2 hp2' hk2 hk12 HN HK1
  go_wp2_with fail
  have hps : PS P lv ts 8 ⟨i + 1, 6, (tk ts i).place⟩ (w2.setCell ⟨P, 2, none⟩ (.int .i64 8)) := PA.set HS0.out (HP2.out.cb.set 2 (.int .i64 8)) (HK2.out.setCell (p := ⟨P, 2, none⟩) (.inr rfl) _) HP2.out.lt (by omega)
  exact leaf_end HS0.out hps (HK2.out.setCell (p := ⟨P, 2, none⟩) (.inr rfl) _) (HX2.out.carry (Below.heap_setCell _ ⟨P, 2, none⟩ _ _ hne)) (by simp [World.setCell]; omega) rfl rfl
end Go.Proofs.YtmodiemmcdocdaaDoor

namespace Go.Proofs.YtmodiemmcdocdaaDoor
open Go.RowKit Go
open PX (tk isT)
open SX (S)

set_option maxHeartbeats 8000000 in
set_option maxRecDepth 100000 in
theorem atom_open (P : Nat) (lv : Value) (ts : List LX.Tok) (deep d : Nat) (hd : deep < 8) (he : PX.Ended ts)
    (IH : ∀ s w, PS P lv ts (deep + 1) s w → s.err = 0 → Calls Tryd.prog 34 #[.pointer (some ⟨P, 0, none⟩)] w (OneP P lv ts (deep + 1) (SX.row ts PX.wOr 8 (SX.row ts PX.wAnd 7 (SX.atom ts d)) s) w))
    (i pl : Nat) (w : World) (h : PS P lv ts deep ⟨i, 0, pl⟩ w) (hn : SX.takes ts ⟨i, 0, pl⟩ PX.wNot = false) (hy : SX.takes ts ⟨i, 0, pl⟩ PX.wOpen = true) :
    Calls Tryd.prog 62 #[.pointer (some ⟨P, 0, none⟩)] w (OneP P lv ts deep (SX.atom ts (d + 1) ⟨i, 0, pl⟩) w) := by
  have hat : SX.atom ts (d + 1) ⟨i, 0, pl⟩ = ((SX.row ts PX.wOr 8 (SX.row ts PX.wAnd 7 (SX.atom ts d)) ⟨i + 1, 0, pl⟩).1, SX.want ts (SX.row ts PX.wOr 8 (SX.row ts PX.wAnd 7 (SX.atom ts d)) ⟨i + 1, 0, pl⟩).2 PX.wShut) := by
    rw [SX.atom, if_neg (by rw [hn]; decide), if_pos hy]; rfl
  rw [hat]
  have HS0 := Lib.hid h
  have hlt := h.cb.lt
  have hil : i < ts.length := h.lt
  obtain ⟨W, hW⟩ : ∃ W, W = newF w := ⟨_, rfl⟩
  have hbx := newF_bx w
  have hlay := newF_lay w
  have hsz := newF_size w
  rw [← hW] at hbx hlay hsz
  have HBX := Lib.hid hbx
  have HLAY := Lib.hid hlay
  have HSZ := Lib.hid hsz
  have HW := Lib.hid (show w.alloc (.cells #[.int .i64 0, .string ⟨#[]⟩, .string ⟨#[]⟩, .slice none 0 0] 27) = W from hW.symm)
  have hs1 : PS P lv ts deep ⟨i, 0, pl⟩ W := PA.lay h hlay
  have x1 : w.cell? ⟨P, 1, none⟩ = some (.int .i64 (i : Nat)) := h.cb.cell 1
  have HT : Hid (Calls Tryd.prog 32 #[.pointer (some ⟨P, 0, none⟩), .string ⟨#[110, 111, 116]⟩] W fun r w' => r = .returned (.bool false) ∧ PS P lv ts deep (SX.next ⟨i, 0, pl⟩ false) w' ∧ Keep (fun k => k = P) W w') := Lib.hid (take_s P lv ts deep ⟨i, 0, pl⟩ PX.wNot false W hs1 he hn)
  have hne : ¬ w.heap.size = P := by omega
  have HIH := Lib.hid (IH ⟨i + 1, 0, pl⟩)
  revert HIH
  generalize SX.row ts PX.wOr 8 (SX.row ts PX.wAnd 7 (SX.atom ts d)) ⟨i + 1, 0, pl⟩ = x2
  intro HIH
  obtain ⟨X, s2⟩ := x2
  clear h hW hbx hlay hsz IH hat hs1 hn
  go_enter Tryd.func62, Tryd.ntmps62
  go_wp2_with fail
  rw [HW.out]
  go_at_call 32
  refine HT.out.mono ?_
  rintro e wa ⟨rfl, hpa, hka⟩
  have HT2 : Hid (Calls Tryd.prog 32 #[.pointer (some ⟨P, 0, none⟩), .string ⟨#[40]⟩] wa fun r w' => r = .returned (.bool true) ∧ PS P lv ts deep (SX.next ⟨i, 0, pl⟩ true) w' ∧ Keep (fun k => k = P) wa w') := Lib.hid (take_s P lv ts deep ⟨i, 0, pl⟩ PX.wOpen true wa hpa he hy)
  have HKA := Lib.hid hka
  clear hpa hka HT
  go_wp2_with fail
  go_at_call 32
  refine HT2.out.mono ?_
  rintro e w1 ⟨rfl, hp1, hk1⟩
  have HN := Lib.hid (in_ok P lv ts deep (i + 1) pl i w1 hp1 hd)
  have HK1 := Lib.hid (Keep.trans HKA.out hk1)
  clear hp1 hk1 HT2 HKA
  go_wp2_with fail
  go_at_call 71
  refine HN.out.mono ?_
  rintro e w2 ⟨⟨v2, rfl⟩, hp2, hk2⟩
  have hk12 := Keep.trans HK1.out hk2
  have hp2' : PS P lv ts (deep + 1) ⟨i + 1, 0, pl⟩ (w2.alloc (.cells #[.int .i64 0, .string ⟨#[]⟩, .string ⟨#[]⟩, .slice none 0 0] 27)) := PA.lay hp2 ((Keep.refl _ w2).alloc _)
  have x3' : w2.cell? ⟨P, 3, none⟩ = some (.int .i64 0) := hp2.cb.cell 3
  have hPl2 : P < w2.heap.size := hp2.cb.lt
  have HK2 := Lib.hid hk12
  have HI := Lib.hid (HIH.out _ hp2' (by trivial))
  have HF : Hid (Bx (w2.alloc (.cells #[.int .i64 0, .string ⟨#[]⟩, .string ⟨#[]⟩, .slice none 0 0] 27)) w2.heap.size (.int .i64 0) (.string ⟨#[]⟩) (.string ⟨#[]⟩) (.slice none 0 0)) := Lib.hid ⟨by go_simp, by go_simp, by go_simp, by go_simp, by go_simp, by go_simp, by go_simp, by go_simp⟩
  have hz2 : w.heap.size + 1 ≤ w2.heap.size := by have h1 := hk12.size; rw [HSZ.out] at h1; exact h1
  have HX2 := Lib.hid ((HBX.out.carry (hk12.block w.heap.size (by rw [HSZ.out]; omega) hne)).carry (Below.heap_alloc w2 (.cells #[.int .i64 0, .string ⟨#[]⟩, .string ⟨#[]⟩, .slice none 0 0] 27) w.heap.size (by omega)))
  clear hp2 hp2' hk2 hk12 HIH HN HK1
  go_wp2_with fail
  go_at_call 34
  refine HI.out.mono ?_
  rintro e w3 ⟨kv, rfl, hkb, hp3, hk3⟩
  obtain ⟨ak, ck, rfl⟩ := hkb.shape
  simp only [Ft.val]
  obtain ⟨F, hF⟩ : ∃ F, F = w2.heap.size := ⟨_, rfl⟩
  have hFP : ¬ F = P := by omega
  have hPF : ¬ P = F := by omega
  have hFw : w.heap.size + 1 ≤ F := by omega
  have hwF : ¬ w.heap.size = F := by omega
  have hF3 : F < w3.heap.size := by have := hk3.size; simp at this; omega
  have hw3 : w.heap.size < w3.heap.size := by omega
  have hkb' : KsB (fun b => F + 1 ≤ b) w3 (.slice ak X.kids.length ck) X := KsB.mono (fun b _ hb => by have h1 : (w2.alloc (.cells #[.int .i64 0, .string ⟨#[]⟩, .string ⟨#[]⟩, .slice none 0 0] 27)).heap.size ≤ b := hb; simp at h1; omega) _ _ hkb
  have hf3 := HF.out.carry (hk3.block w2.heap.size (by simp) (by omega))
  have hx3 := HX2.out.carry (hk3.block w.heap.size (by simp; omega) hne)
  have hkk3 := Keep.trans ((Keep.trans (Lay.keep HLAY.out) HK2.out).alloc (.cells #[.int .i64 0, .string ⟨#[]⟩, .string ⟨#[]⟩, .slice none 0 0] 27)) hk3
  have hp3' : PS P lv ts (deep + 1) s2 w3 := hp3
  have y2 : w3.cell? ⟨P, 2, none⟩ = some (.int .i64 ((deep + 1 : Nat) : Int)) := hp3'.cb.cell 2
  have fz2 := hp3'.cb.frozen 2
  have hP3 := hp3'.cb.lt
  rw [← hF] at hf3
  obtain ⟨W4, hW4⟩ : ∃ W4, W4 = (stored w3 F (.int .i64 X.op) (.string X.name) (.string X.text) (.slice ak X.kids.length ck)).setCell ⟨P, 2, none⟩ (.int .i64 (deep : Nat)) := ⟨_, rfl⟩
  have hs4 : W4.heap.size = w3.heap.size := by rw [hW4]; simp [World.setCell, stored]
  have hb4 : ∀ b, b ≠ F → b ≠ P → W4.heap[b]? = w3.heap[b]? := fun b h1 h2 => by rw [hW4]; exact (Below.heap_setCell _ ⟨P, 2, none⟩ _ b h2).trans (stored_other h1 _ _ _ _)
  have hk4 : Keep (fun k => k = P) w W4 := by rw [hW4]; exact (keep_stored hkk3 (show w.heap.size ≤ F by omega) _ _ _ _).setCell (p := ⟨P, 2, none⟩) (.inr rfl) _
  have hc4 : CB W4 P 59 #[lv, .int .i64 (s2.i : Nat), .int .i64 (deep : Nat), .int .i64 (s2.err : Nat), .int .i64 (s2.pl : Nat)] := by
    rw [hW4]
    exact CB.set ((stored_other hPF _ _ _ _).trans hp3'.cb) 2 (.int .i64 (deep : Nat))
  have hf4 : Bx W4 F (.int .i64 X.op) (.string X.name) (.string X.text) (.slice ak X.kids.length ck) := by
    rw [hW4]
    exact (hf3.all _ _ _ _).carry (Below.heap_setCell _ ⟨P, 2, none⟩ _ F hFP)
  have hx4 := hx3.carry (hb4 w.heap.size hwF hne)
  have hps4 : PS P lv ts deep s2 W4 := PA.set HS0.out hc4 hk4 hp3'.lt HS0.out.low
  have hkb4 : KsB (fun b => F + 1 ≤ b ∧ b ≠ P) W4 (.slice ak X.kids.length ck) X := KsB.keep (by omega) (fun b hb hlt => hb4 b (by have := hb.1; omega) hb.2) _ _ (KsB.mono (fun b hlt hb => ⟨hb, by omega⟩) _ _ hkb')
  have HWN : Hid (Calls Tryd.prog 29 #[.pointer (some ⟨P, 0, none⟩), .string ⟨#[41]⟩] W4 fun r w' => (∃ v, r = .returned v) ∧ PS P lv ts deep (SX.want ts s2 PX.wShut) w' ∧ Keep (fun k => k = P) W4 w') := Lib.hid (want_run P lv ts deep s2 PX.wShut W4 hps4 he)
  have HKB4 := Lib.hid hkb4
  have HF4 := Lib.hid hf4
  have HX4 := Lib.hid hx4
  have HK4 := Lib.hid hk4
  unfold stored at hW4
  have HW4 := Lib.hid hW4
  have hdl := deep_less (a := deep) (by omega)
  obtain ⟨b0, b1, b2, b3, g0, g1, g2, g3⟩ := hf3
  have hs4' : F < W4.heap.size := by omega
  have hw4' : w.heap.size < W4.heap.size := by omega
  simp only [← hF]
  clear hF hkb hkb' hp3 hp3' hk3 HI HF HX2 HK2 x3' hz2 hx3 hkk3 hk4 hc4 hf4 hx4 hps4 hkb4 hb4 hs4 hW4
  go_wp2_with fail
  rw [← HW4.out]
  go_at_call 29
  refine HWN.out.mono ?_
  rintro e w5 ⟨⟨v5, rfl⟩, hp5, hk5⟩
  have HP5 := Lib.hid hp5
  have HK5 := Lib.hid (Keep.trans HK4.out hk5)
  have HX5 := Lib.hid (HX4.out.carry (hk5.block w.heap.size hw4' hne))
  have HF5 := Lib.hid (HF4.out.carry (hk5.block F hs4' hFP))
  have HKB5 : Hid (KsB (fun b => w.heap.size + 1 ≤ b) w5 (.slice ak X.kids.length ck) X) := Lib.hid (KsB.mono (fun b _ hb => by have := hb.1; omega) _ _ (KsB.keep hk5.size (fun b hb hlt => hk5.block b hlt hb.2) _ _ HKB4.out))
  obtain ⟨a0, a1, a2, a3, _, _, _, _⟩ := HF5.out
  obtain ⟨c0, c1, c2, c3, f0, f1, f2, f3⟩ := HX5.out
  have hs5 : F < w5.heap.size := by have := hk5.size; omega
  have hw5 : w.heap.size < w5.heap.size := by omega
  clear hp5 hk5 HWN HKB4 HF4 HX4 HK4 HW4 b0 b1 b2 b3 g0 g1 g2 g3 y2 fz2
  go_wp2_with fail
  have hq := HX5.out.all (.int .i64 X.op) (.string X.name) (.string X.text) (.slice ak X.kids.length ck)
  unfold stored at hq
  obtain ⟨q0, q1, q2, q3, _, _, _, _⟩ := hq
  refine bodyPost_ret (v := .agg #[.int .i64 X.op, .string X.name, .string X.text, .slice ak X.kids.length ck]) (by simp [results, Tryd.results62, go_sem, q0, q1, q2, q3]) rfl ?_
  exact one_alone HS0.out HP5.out HK5.out HKB5.out
end Go.Proofs.YtmodiemmcdocdaaDoor

namespace Go.Proofs.YtmodiemmcdocdaaDoor
open Go.RowKit Go
open PX (tk isT)
open SX (S)

set_option maxHeartbeats 8000000 in
set_option maxRecDepth 100000 in
theorem atom_open_bad (P : Nat) (lv : Value) (ts : List LX.Tok) (he : PX.Ended ts)
    (i pl : Nat) (w : World) (h : PS P lv ts 8 ⟨i, 0, pl⟩ w) (hn : SX.takes ts ⟨i, 0, pl⟩ PX.wNot = false) (hy : SX.takes ts ⟨i, 0, pl⟩ PX.wOpen = true) :
    Calls Tryd.prog 62 #[.pointer (some ⟨P, 0, none⟩)] w (OneP P lv ts 8 (SX.atom ts 0 ⟨i, 0, pl⟩) w) := by
  have hat : SX.atom ts 0 ⟨i, 0, pl⟩ = (.mk 0 ⟨#[]⟩ ⟨#[]⟩ [], SX.want ts ⟨i + 1, 6, (tk ts i).place⟩ PX.wShut) := by
    rw [SX.atom, if_neg (by rw [hn]; decide), if_pos hy]; rfl
  rw [hat]
  have HS0 := Lib.hid h
  have hlt := h.cb.lt
  have hil : i < ts.length := h.lt
  obtain ⟨W, hW⟩ : ∃ W, W = newF w := ⟨_, rfl⟩
  have hbx := newF_bx w
  have hlay := newF_lay w
  have hsz := newF_size w
  rw [← hW] at hbx hlay hsz
  have HBX := Lib.hid hbx
  have HLAY := Lib.hid hlay
  have HSZ := Lib.hid hsz
  have HW := Lib.hid (show w.alloc (.cells #[.int .i64 0, .string ⟨#[]⟩, .string ⟨#[]⟩, .slice none 0 0] 27) = W from hW.symm)
  have hs1 : PS P lv ts 8 ⟨i, 0, pl⟩ W := PA.lay h hlay
  have x1 : w.cell? ⟨P, 1, none⟩ = some (.int .i64 (i : Nat)) := h.cb.cell 1
  have HT : Hid (Calls Tryd.prog 32 #[.pointer (some ⟨P, 0, none⟩), .string ⟨#[110, 111, 116]⟩] W fun r w' => r = .returned (.bool false) ∧ PS P lv ts 8 (SX.next ⟨i, 0, pl⟩ false) w' ∧ Keep (fun k => k = P) W w') := Lib.hid (take_s P lv ts 8 ⟨i, 0, pl⟩ PX.wNot false W hs1 he hn)
  have hne : ¬ w.heap.size = P := by omega
  clear h hW hbx hlay hsz hat hs1 hn
  go_enter Tryd.func62, Tryd.ntmps62
  go_wp2_with fail
  rw [HW.out]
  go_at_call 32
  refine HT.out.mono ?_
  rintro e wa ⟨rfl, hpa, hka⟩
  have HT2 : Hid (Calls Tryd.prog 32 #[.pointer (some ⟨P, 0, none⟩), .string ⟨#[40]⟩] wa fun r w' => r = .returned (.bool true) ∧ PS P lv ts 8 (SX.next ⟨i, 0, pl⟩ true) w' ∧ Keep (fun k => k = P) wa w') := Lib.hid (take_s P lv ts 8 ⟨i, 0, pl⟩ PX.wOpen true wa hpa he hy)
  have HKA := Lib.hid hka
  clear hpa hka HT
  go_wp2_with fail
  go_at_call 32
  refine HT2.out.mono ?_
  rintro e w1 ⟨rfl, hp1, hk1⟩
  have HN := Lib.hid (in_bad P lv ts (i + 1) pl i w1 hp1 hil)
  have HK1 := Lib.hid (Keep.trans HKA.out hk1)
  clear hp1 hk1 HT2 HKA
  go_wp2_with fail
  go_at_call 71
  refine HN.out.mono ?_
  rintro e w2 ⟨⟨v2, rfl⟩, hp2, hk2⟩
  have hp2' : PS P lv ts 9 ⟨i + 1, 6, (tk ts i).place⟩ w2 := hp2
  have hk12 := Keep.trans (Lay.keep HLAY.out) (Keep.trans HK1.out hk2)
  have x2 : w2.cell? ⟨P, 2, none⟩ = some (.int .i64 9) := hp2'.cb.cell 2
  have fz2 := hp2'.cb.frozen 2
  have x3 : w2.cell? ⟨P, 3, none⟩ = some (.int .i64 6) := hp2'.cb.cell 3
  have hPl2 : P < w2.heap.size := hp2.cb.lt
  have hz2 : w.heap.size + 1 ≤ w2.heap.size := by have h1 := (Keep.trans HK1.out hk2).size; rw [HSZ.out] at h1; exact h1
  have hx2 := HBX.out.carry ((Keep.trans HK1.out hk2).block w.heap.size (by rw [HSZ.out]; omega) hne)
  obtain ⟨W4, hW4⟩ : ∃ W4, W4 = (w2.setCell ⟨P, 2, none⟩ (.int .i64 8)).alloc (.cells #[.int .i64 0, .string ⟨#[]⟩, .string ⟨#[]⟩, .slice none 0 0] 27) := ⟨_, rfl⟩
  have hss : (w2.setCell ⟨P, 2, none⟩ (.int .i64 8)).heap.size = w2.heap.size := by simp [World.setCell]
  have hs4 : W4.heap.size = w2.heap.size + 1 := by rw [hW4]; simp [World.setCell]
  have hk4 : Keep (fun k => k = P) w W4 := by rw [hW4]; exact (hk12.setCell (p := ⟨P, 2, none⟩) (.inr rfl) _).alloc _
  have hc4 : CB W4 P 59 #[lv, .int .i64 ((i + 1 : Nat) : Int), .int .i64 ((8 : Nat) : Int), .int .i64 ((6 : Nat) : Int), .int .i64 ((tk ts i).place : Nat)] := by
    rw [hW4]
    exact CB.keep (CB.set hp2'.cb 2 (.int .i64 8)) ((Keep.refl (fun _ => False) _).alloc _) (fun h => h)
  have hf4 : Bx W4 w2.heap.size (.int .i64 0) (.string ⟨#[]⟩) (.string ⟨#[]⟩) (.slice none 0 0) := by
    have := newF_bx (w2.setCell ⟨P, 2, none⟩ (.int .i64 8))
    rw [hss] at this
    rw [hW4]
    exact this
  have hx4 : Bx W4 w.heap.size (.int .i64 0) (.string ⟨#[]⟩) (.string ⟨#[]⟩) (.slice none 0 0) := by
    rw [hW4]
    exact (hx2.carry (Below.heap_setCell _ ⟨P, 2, none⟩ _ _ hne)).carry (Below.heap_alloc _ _ w.heap.size (by omega))
  have hps4 : PS P lv ts 8 ⟨i + 1, 6, (tk ts i).place⟩ W4 := PA.set HS0.out hc4 hk4 hp2'.lt HS0.out.low
  have HWN : Hid (Calls Tryd.prog 29 #[.pointer (some ⟨P, 0, none⟩), .string ⟨#[41]⟩] W4 fun r w' => (∃ v, r = .returned v) ∧ PS P lv ts 8 (SX.want ts ⟨i + 1, 6, (tk ts i).place⟩ PX.wShut) w' ∧ Keep (fun k => k = P) W4 w') := Lib.hid (want_run P lv ts 8 ⟨i + 1, 6, (tk ts i).place⟩ PX.wShut W4 hps4 he)
  have HF4 := Lib.hid hf4
  have HX4 := Lib.hid hx4
  have HK4 := Lib.hid hk4
  have HW4 := Lib.hid hW4
  obtain ⟨F, hF⟩ : ∃ F, F = w2.heap.size := ⟨_, rfl⟩
  have hFP : ¬ F = P := by omega
  have hwF : ¬ w.heap.size = F := by omega
  have hs4' : F < W4.heap.size := by omega
  have hw4' : w.heap.size < W4.heap.size := by omega
  rw [← hF] at HF4
  have HFF := Lib.hid hF
  clear hF hp2 hp2' hk2 hk12 HN HK1 hx2 hss hs4 hk4 hc4 hf4 hx4 hps4 hW4
  go_wp2_with fail
  rw [← HW4.out]
  go_at_call 29
  refine HWN.out.mono ?_
  rw [← HFF.out]
  rintro e w5 ⟨⟨v5, rfl⟩, hp5, hk5⟩
  have HP5 := Lib.hid hp5
  have HK5 := Lib.hid (Keep.trans HK4.out hk5)
  have HX5 := Lib.hid (HX4.out.carry (hk5.block w.heap.size hw4' hne))
  have HF5 := Lib.hid (HF4.out.carry (hk5.block F hs4' hFP))
  obtain ⟨a0, a1, a2, a3, _, _, _, _⟩ := HF5.out
  obtain ⟨c0, c1, c2, c3, f0, f1, f2, f3⟩ := HX5.out
  have hs5 : F < w5.heap.size := by have := hk5.size; omega
  have hw5 : w.heap.size < w5.heap.size := by have := hk5.size; omega
  clear hp5 hk5 HWN HF4 HX4 HK4 HW4
  go_wp2_with fail
  have hq := HX5.out.all (.int .i64 0) (.string ⟨#[]⟩) (.string ⟨#[]⟩) (.slice none 0 0)
  unfold stored at hq
  obtain ⟨q0, q1, q2, q3, _, _, _, _⟩ := hq
  refine bodyPost_ret (v := .agg #[.int .i64 0, .string ⟨#[]⟩, .string ⟨#[]⟩, .slice none 0 0]) (by simp [results, Tryd.results62, go_sem, q0, q1, q2, q3]) rfl ?_
  exact one_leaf HS0.out HP5.out HK5.out
end Go.Proofs.YtmodiemmcdocdaaDoor

namespace Go.Proofs.YtmodiemmcdocdaaDoor
open Go.RowKit Go
open PX (tk isT)
open SX (S)

namespace SX
/-- The words of one that nothing stands within. -/
def wl (j : Nat) : List UInt8 := [PX.wTrue, PX.wFalse, PX.wWord, PX.wHas].getD j []

theorem atom_leaf (ts : List LX.Tok) (d : Nat) (s : S) (hn : takes ts s PX.wNot = false) (ho : takes ts s PX.wOpen = false) : atom ts d s = leaf ts s := by
  cases d <;> (unfold atom; rw [if_neg (by rw [hn]; decide), if_neg (by rw [ho]; decide)])

theorem leaf_low (ts : List LX.Tok) (s : S) (k : Nat) (hk : k < 2) (h : ∀ j, j < k → takes ts s (wl j) = false) (hy : takes ts s (wl k) = true) : leaf ts s = (.mk (1 + (k : Int)) ⟨#[]⟩ ⟨#[]⟩ [], next s true) := by
  unfold leaf
  obtain rfl | rfl : k = 0 ∨ k = 1 := by omega
  · have hy : takes ts s PX.wTrue = true := hy
    rw [if_pos hy]; rfl
  · have h0 : takes ts s PX.wTrue = false := h 0 (by omega)
    have hy : takes ts s PX.wFalse = true := hy
    rw [if_neg (by rw [h0]; decide), if_pos hy]; rfl
theorem leaf_high (ts : List LX.Tok) (s : S) (k : Nat) (hk : 2 ≤ k ∧ k < 4) (h : ∀ j, j < k → takes ts s (wl j) = false) (hy : takes ts s (wl k) = true) : leaf ts s = (.mk (1 + (k : Int)) ⟨#[]⟩ (PX.bs (tokV ts (next s true) 4).says) [], token ts (next s true) 4) := by
  have h0 : takes ts s PX.wTrue = false := h 0 (by omega)
  have h1 : takes ts s PX.wFalse = false := h 1 (by omega)
  unfold leaf
  rw [if_neg (by rw [h0]; decide), if_neg (by rw [h1]; decide)]
  obtain rfl | rfl : k = 2 ∨ k = 3 := by omega
  · have hy : takes ts s PX.wWord = true := hy
    rw [if_pos hy]; rfl
  · have h2 : takes ts s PX.wWord = false := h 2 (by omega)
    have hy : takes ts s PX.wHas = true := hy
    rw [if_neg (by rw [h2]; decide), if_pos hy]; rfl
theorem leaf_none (ts : List LX.Tok) (s : S) (h : ∀ j, j < 4 → takes ts s (wl j) = false) : leaf ts s = field ts s := by
  have h0 : takes ts s PX.wTrue = false := h 0 (by omega)
  have h1 : takes ts s PX.wFalse = false := h 1 (by omega)
  have h2 : takes ts s PX.wWord = false := h 2 (by omega)
  have h3 : takes ts s PX.wHas = false := h 3 (by omega)
  unfold leaf
  rw [if_neg (by rw [h0]; decide), if_neg (by rw [h1]; decide), if_neg (by rw [h2]; decide), if_neg (by rw [h3]; decide)]
end SX

theorem field46 (a c d : Int) (b : ByteArray) (w : World) : (Instr.field 64 (.agg #[.int .i64 a, .string b, .int .i64 c, .int .i64 d]) 1).run Tryd.prog w = .ok (.string b) w := by kernel_rfl

/-- A leaf's way out, a text stored to its box ahead of it. -/
theorem leaf_end2 {P : Nat} {lv : Value} {ts : List LX.Tok} {deep F : Nat} {s0 s : S} {w W : World} {o : Int} {n t : ByteArray} (h0 : PS P lv ts deep s0 w) (h : PS P lv ts deep s W) (hk : Keep (fun k => k = P) w W)
    (hx : Bx W w.heap.size (.int .i64 0) (.string ⟨#[]⟩) (.string ⟨#[]⟩) (.slice none 0 0)) (hF : w.heap.size ≤ F) (hFP : ¬ F = P) (hwF : ¬ w.heap.size = F) {a : Act} (ha : a.tmps[2]?.getD undef = .pointer (some ⟨w.heap.size, 0, none⟩)) (hd : a.defers = []) :
    bodyPost Tryd.prog Tryd.f62 (OneP P lv ts deep (.mk o n t [], s) w) Exit.ret a
      (((((W.setCell ⟨F, 2, none⟩ (.string t)).setCell ⟨w.heap.size, 0, none⟩ (.int .i64 o)).setCell ⟨w.heap.size, 1, none⟩ (.string n)).setCell ⟨w.heap.size, 2, none⟩ (.string t)).setCell ⟨w.heap.size, 3, none⟩ (.slice none 0 0)) := by
  have hk2 := hk.setCell (p := ⟨F, 2, none⟩) (.inl hF) (.string t)
  have hps : PS P lv ts deep s (W.setCell ⟨F, 2, none⟩ (.string t)) := PA.set h0 (h.cb.keep ((Keep.refl (fun k => k = F) W).setCell (p := ⟨F, 2, none⟩) (.inr rfl) _) (fun e => hFP e.symm)) hk2 h.lt h.low
  have hq := (hx.carry (Below.heap_setCell W ⟨F, 2, none⟩ (.string t) w.heap.size hwF)).all (.int .i64 o) (.string n) (.string t) (.slice none 0 0)
  unfold stored at hq
  obtain ⟨q0, q1, q2, q3, _, _, _, _⟩ := hq
  refine bodyPost_ret (v := .agg #[.int .i64 o, .string n, .string t, .slice none 0 0]) (by simp [results, Tryd.results62, go_sem, ha, q0, q1, q2, q3]) hd ?_
  exact one_leaf h0 hps hk2

set_option maxHeartbeats 8000000 in
set_option maxRecDepth 100000 in
theorem atom_leaf (P : Nat) (lv : Value) (ts : List LX.Tok) (deep : Nat) (he : PX.Ended ts) (s : S)
    (w : World) (h : PS P lv ts deep s w) (hn : SX.takes ts s PX.wNot = false) (ho : SX.takes ts s PX.wOpen = false) :
    Calls Tryd.prog 62 #[.pointer (some ⟨P, 0, none⟩)] w (OneP P lv ts deep (SX.leaf ts s) w) := by
  have hfd := field46
  have HS0 := Lib.hid h
  have hlt := h.cb.lt
  obtain ⟨W, hW⟩ : ∃ W, W = newF w := ⟨_, rfl⟩
  have hbx := newF_bx w
  have hlay := newF_lay w
  have hsz := newF_size w
  rw [← hW] at hbx hlay hsz
  have HBX := Lib.hid hbx
  have HLAY := Lib.hid hlay
  have HSZ := Lib.hid hsz
  have HW := Lib.hid (show w.alloc (.cells #[.int .i64 0, .string ⟨#[]⟩, .string ⟨#[]⟩, .slice none 0 0] 27) = W from hW.symm)
  have hs1 : PS P lv ts deep s W := PA.lay h hlay
  have x1 : w.cell? ⟨P, 1, none⟩ = some (.int .i64 (s.i : Nat)) := h.cb.cell 1
  have HT : Hid (Calls Tryd.prog 32 #[.pointer (some ⟨P, 0, none⟩), .string ⟨#[110, 111, 116]⟩] W fun r w' => r = .returned (.bool false) ∧ PS P lv ts deep (SX.next s false) w' ∧ Keep (fun k => k = P) W w') := Lib.hid (take_s P lv ts deep s PX.wNot false W hs1 he hn)
  have hne : ¬ w.heap.size = P := by omega
  clear h hW hbx hlay hsz hs1 hn
  obtain ⟨FIN, hFIN⟩ : ∃ FIN, FIN = SX.leaf ts s := ⟨_, rfl⟩
  rw [← hFIN]
  have HFIN := Lib.hid hFIN
  clear hFIN
  go_enter Tryd.func62, Tryd.ntmps62
  go_wp2_with fail
  rw [HW.out]
  go_at_call 32
  refine HT.out.mono ?_
  rintro e wa ⟨rfl, hpa, hka⟩
  have hpa' : PS P lv ts deep s wa := hpa
  have HT2 : Hid (Calls Tryd.prog 32 #[.pointer (some ⟨P, 0, none⟩), .string ⟨#[40]⟩] wa fun r w' => r = .returned (.bool false) ∧ PS P lv ts deep (SX.next s false) w' ∧ Keep (fun k => k = P) wa w') := Lib.hid (take_s P lv ts deep s PX.wOpen false wa hpa' he ho)
  have HKA := Lib.hid hka
  clear hpa hpa' hka HT ho
  go_wp2_with fail
  go_at_call 32
  refine HT2.out.mono ?_
  rintro e w1 ⟨rfl, hp1, hk1⟩
  have hk := Keep.trans HKA.out hk1
  have hp1' : PS P lv ts deep s w1 := hp1
  obtain ⟨L, hL⟩ : ∃ L, L = w1.heap.size := ⟨_, rfl⟩
  have hwL : w.heap.size + 1 ≤ L := by have h1 := hk.size; rw [HSZ.out] at h1; omega
  obtain ⟨W2, hW2⟩ : ∃ W2, W2 = w1.alloc (.cells #[.string ⟨#[116, 114, 117, 101]⟩, .string ⟨#[102, 97, 108, 115, 101]⟩, .string ⟨#[119, 111, 114, 100]⟩, .string ⟨#[104, 97, 115]⟩] 9) := ⟨_, rfl⟩
  have hl2 : CB W2 L 9 #[.string ⟨#[116, 114, 117, 101]⟩, .string ⟨#[102, 97, 108, 115, 101]⟩, .string ⟨#[119, 111, 114, 100]⟩, .string ⟨#[104, 97, 115]⟩] := by rw [hW2, hL]; exact CB.new w1 9 _
  have hp2 : PS P lv ts deep s W2 := by rw [hW2]; exact PA.lay hp1' ((Keep.refl _ w1).alloc _)
  have hk2 : Keep (fun k => k = P) w W2 := by rw [hW2]; exact (Keep.trans (Lay.keep HLAY.out) hk).alloc _
  have hx2 : Bx W2 w.heap.size (.int .i64 0) (.string ⟨#[]⟩) (.string ⟨#[]⟩) (.slice none 0 0) := by
    rw [hW2]; exact (HBX.out.carry (hk.block w.heap.size (by rw [HSZ.out]; omega) hne)).carry (Below.heap_alloc _ _ w.heap.size (by omega))
  have HL2 := Lib.hid hl2
  have HP2 := Lib.hid hp2
  have HK2 := Lib.hid hk2
  have HX2 := Lib.hid hx2
  have HW2 := Lib.hid hW2
  have HLL := Lib.hid hL
  have hLP : ¬ L = P := by have := hp1'.cb.lt; omega
  clear hp1 hp1' hk1 hk hl2 hp2 hk2 hx2 hW2 hL HT2 HKA HBX HLAY HSZ HW
  go_wp2_with fail
  rw [← HW2.out, ← HLL.out]
  go_loopw [61] (fun vk wr => ∃ k : Nat, vk = .int .i64 (k : Nat) ∧ k ≤ 4 ∧ (∀ j, j < k → SX.takes ts s (SX.wl j) = false) ∧ PS P lv ts deep s wr ∧ Keep (fun k => k = P) w wr ∧ Bx wr w.heap.size (.int .i64 0) (.string ⟨#[]⟩) (.string ⟨#[]⟩) (.slice none 0 0) ∧
    CB wr L 9 #[.string ⟨#[116, 114, 117, 101]⟩, .string ⟨#[102, 97, 108, 115, 101]⟩, .string ⟨#[119, 111, 114, 100]⟩, .string ⟨#[104, 97, 115]⟩]) (fun vk _ => 4 - (intOf vk).toNat)
  case atStart => exact ⟨0, rfl, by omega, fun j hj => by omega, HP2.out, HK2.out, HX2.out, HL2.out⟩
  case round =>
    obtain ⟨k, rfl, hk4, hpre, hp, hk, hx, hl⟩ := hrel
    have HP := Lib.hid hp
    have HK := Lib.hid hk
    have HX := Lib.hid hx
    have HL := Lib.hid hl
    have HPRE := Lib.hid hpre
    have hlL := hl.lt
    clear hp hk hx hl hpre HP2 HK2 HX2 HL2 HW2 HLL
    by_cases hk : k = 4
    · subst hk
      go_wp2_with fail
      go_at_call 29
      refine (want_run P lv ts deep s PX.wField wr HP.out he).mono ?_
      rintro e w3 ⟨⟨v3, rfl⟩, hp3, hk3⟩
      have HT3 := Lib.hid (token_run P lv ts deep _ 1 w3 hp3 he (by omega))
      have HK3 := Lib.hid (Keep.trans HK.out hk3)
      have HX3 := Lib.hid (HX.out.carry (hk3.block w.heap.size (by omega) hne))
      have hs3 : w.heap.size + 1 ≤ w3.heap.size := by have := hk3.size; omega
      have HF2 : Hid (FIN = SX.field ts s) := Lib.hid (HFIN.out.trans (SX.leaf_none ts s HPRE.out))
      clear hp3 hk3 HP HK HX HL HFIN HPRE
      go_wp2_with fail
      go_at_call 33
      refine HT3.out.mono ?_
      rintro e w4 ⟨rfl, hp4, hk4⟩
      obtain ⟨F, hF⟩ : ∃ F, F = w4.heap.size := ⟨_, rfl⟩
      have hs4 : w3.heap.size ≤ w4.heap.size := hk4.size
      have hP4 : P < w4.heap.size := hp4.cb.lt
      have hx4 := HX3.out.carry (hk4.block w.heap.size (by omega) hne)
      obtain ⟨W5, hW5⟩ : ∃ W5, W5 = w4.alloc (.cells #[.int .i64 5, .string ⟨(SX.tokV ts (SX.want ts s PX.wField) 1).says.toArray⟩, .string ⟨#[]⟩, .slice none 0 0] 27) := ⟨_, rfl⟩
      have hf5 : Bx W5 F (.int .i64 5) (.string ⟨(SX.tokV ts (SX.want ts s PX.wField) 1).says.toArray⟩) (.string ⟨#[]⟩) (.slice none 0 0) := by
        rw [hW5, hF]; exact ⟨by go_simp, by go_simp, by go_simp, by go_simp, by go_simp, by go_simp, by go_simp, by go_simp⟩
      have hx5 : Bx W5 w.heap.size (.int .i64 0) (.string ⟨#[]⟩) (.string ⟨#[]⟩) (.slice none 0 0) := by rw [hW5]; exact hx4.carry (Below.heap_alloc _ _ _ (by omega))
      have hp5 : PS P lv ts deep (SX.token ts (SX.want ts s PX.wField) 1) W5 := by rw [hW5]; exact PA.lay hp4 ((Keep.refl _ _).alloc _)
      have hk5 : Keep (fun k => k = P) w W5 := by rw [hW5]; exact (Keep.trans HK3.out hk4).alloc _
      have hs5 : W5.heap.size = F + 1 := by rw [hW5, hF]; simp
      have HWN : Hid (Calls Tryd.prog 29 #[.pointer (some ⟨P, 0, none⟩), .string ⟨#[61]⟩] W5 fun r w' => (∃ v, r = .returned v) ∧ PS P lv ts deep (SX.want ts (SX.token ts (SX.want ts s PX.wField) 1) PX.wEq) w' ∧ Keep (fun k => k = P) W5 w') := Lib.hid (want_run P lv ts deep _ PX.wEq W5 hp5 he)
      have HF5 := Lib.hid hf5
      have HX5 := Lib.hid hx5
      have HK5 := Lib.hid hk5
      have HW5 := Lib.hid hW5
      have HFF := Lib.hid hF
      have hFP : ¬ F = P := by omega
      have hwF : ¬ w.heap.size = F := by omega
      have hwl : w.heap.size < F := by omega
      unfold tokW
      clear hp4 hk4 HT3 HK3 HX3 hx4 hf5 hx5 hp5 hk5 hW5 hF
      go_wp2_with fail
      rw [← HW5.out]
      go_at_call 29
      refine HWN.out.mono ?_
      simp only [← HFF.out]
      rintro e w6 ⟨⟨v6, rfl⟩, hp6, hk6⟩
      have HT6 := Lib.hid (token_run P lv ts deep _ 4 w6 hp6 he (by omega))
      have HK6 := Lib.hid (Keep.trans HK5.out hk6)
      have HX6 := Lib.hid (HX5.out.carry (hk6.block w.heap.size (by omega) hne))
      have HF6 := Lib.hid (HF5.out.carry (hk6.block F (by omega) hFP))
      have hs6 : F < w6.heap.size := by have := hk6.size; omega
      clear hp6 hk6 HWN HK5 HX5 HF5 HW5 HFF
      go_wp2_with fail
      go_at_call 33
      refine HT6.out.mono ?_
      rintro e w7 ⟨rfl, hp7, hk7⟩
      have HP7 := Lib.hid hp7
      have HK7 := Lib.hid (Keep.trans HK6.out hk7)
      have hx7 := HX6.out.carry (hk7.block w.heap.size (by omega) hne)
      have hf7 := HF6.out.carry (hk7.block F hs6 hFP)
      have hs7 : F < w7.heap.size := by have := hk7.size; omega
      have HX7 := Lib.hid hx7
      obtain ⟨c0, c1, c2, c3, f0, f1, f2, f3⟩ := hx7
      obtain ⟨a0, a1, a2, a3, g0, g1, g2, g3⟩ := hf7
      have hw7 : w.heap.size < w7.heap.size := by omega
      unfold tokW
      clear hp7 hk7 HT6 HK6 HX6 HF6
      go_wp2_with fail
      rw [HF2.out]
      unfold SX.field PX.bs
      exact leaf_end2 HS0.out HP7.out HK7.out HX7.out (by omega) hFP hwF rfl rfl
    · have hk3 : (k : Int) < 4 := by omega
      have hcell : wr.cell? ⟨L, k, none⟩ = some (.string ⟨(SX.wl k).toArray⟩) := by
        obtain rfl | rfl | rfl | rfl : k = 0 ∨ k = 1 ∨ k = 2 ∨ k = 3 := by omega
        all_goals exact HL.out.cell _
      by_cases hy : SX.takes ts s (SX.wl k) = true
      · have HT := Lib.hid (take_s P lv ts deep s (SX.wl k) true wr HP.out he hy)
        go_wp2_with fail
        go_at_call 32
        refine HT.out.mono ?_
        rintro e w3 ⟨rfl, hp3, hk3⟩
        have hp3' : PS P lv ts deep (SX.next s true) w3 := hp3
        have hk3' := Keep.trans HK.out hk3
        have hx3 := HX.out.carry (hk3.block w.heap.size (by omega) hne)
        have hw3 : w.heap.size < w3.heap.size := by have := hk3.size; omega
        have hP3 := hp3'.cb.lt
        have hsum : IntKind.i64.wrap (1 + (k : Int)) = 1 + (k : Int) := IntWalk.i64_in _ (by omega)
        by_cases hk2 : k < 2
        · have hlf := SX.leaf_low ts s k hk2 HPRE.out hy
          have HF2 : Hid (FIN = (.mk (1 + (k : Int)) ⟨#[]⟩ ⟨#[]⟩ [], SX.next s true)) := Lib.hid (HFIN.out.trans hlf)
          have HP3 := Lib.hid hp3'
          have HK3 := Lib.hid hk3'
          have HX3 := Lib.hid hx3
          have hd2 : decide ((k : Int) ≥ 2) = false := by simp; omega
          have hlt2 : (k : Int) < 2 := by omega
          obtain ⟨c0, c1, c2, c3, f0, f1, f2, f3⟩ := hx3
          clear hlf HFIN HPRE hp3 hp3' hk3 hk3' HT HP HK HX HL hcell
          go_wp2_with fail
          rw [HF2.out]
          exact leaf_end HS0.out HP3.out HK3.out HX3.out hw3 rfl rfl
        · have hlf := SX.leaf_high ts s k ⟨by omega, by omega⟩ HPRE.out hy
          have HF2 := Lib.hid (HFIN.out.trans hlf)
          have hd2 : decide ((k : Int) ≥ 2) = true := by simp; omega
          have hge2 : ¬ (k : Int) < 2 := by omega
          obtain ⟨F, hF⟩ : ∃ F, F = w3.heap.size := ⟨_, rfl⟩
          obtain ⟨W4, hW4⟩ : ∃ W4, W4 = w3.alloc (.cells #[.int .i64 (1 + (k : Int)), .string ⟨#[]⟩, .string ⟨#[]⟩, .slice none 0 0] 27) := ⟨_, rfl⟩
          have hf4 : Bx W4 F (.int .i64 (1 + (k : Int))) (.string ⟨#[]⟩) (.string ⟨#[]⟩) (.slice none 0 0) := by
            rw [hW4, hF]; exact ⟨by go_simp, by go_simp, by go_simp, by go_simp, by go_simp, by go_simp, by go_simp, by go_simp⟩
          have hx4 : Bx W4 w.heap.size (.int .i64 0) (.string ⟨#[]⟩) (.string ⟨#[]⟩) (.slice none 0 0) := by rw [hW4]; exact hx3.carry (Below.heap_alloc _ _ _ hw3)
          have hp4 : PS P lv ts deep (SX.next s true) W4 := by rw [hW4]; exact PA.lay hp3' ((Keep.refl _ _).alloc _)
          have hk4' : Keep (fun k => k = P) w W4 := by rw [hW4]; exact hk3'.alloc _
          have hs4 : W4.heap.size = F + 1 := by rw [hW4, hF]; simp
          have HTK := Lib.hid (token_run P lv ts deep (SX.next s true) 4 W4 hp4 he (by omega))
          have HF4 := Lib.hid hf4
          have HX4 := Lib.hid hx4
          have HK4 := Lib.hid hk4'
          have HW4 := Lib.hid hW4
          have HFF := Lib.hid hF
          have hFP : ¬ F = P := by omega
          have hwF : ¬ w.heap.size = F := by omega
          have hwl : w.heap.size < F := by omega
          clear hlf HFIN HPRE hp3 hp3' hk3 hk3' HT HP HK HX HL hcell hx3 hf4 hx4 hp4 hk4' hW4 hF
          go_wp2_with fail
          rw [← HW4.out]
          go_at_call 33
          refine HTK.out.mono ?_
          simp only [← HFF.out]
          rintro e w5 ⟨rfl, hp5, hk5⟩
          have HP5 := Lib.hid hp5
          have HK5 := Lib.hid (Keep.trans HK4.out hk5)
          have hx5 := HX4.out.carry (hk5.block w.heap.size (by omega) hne)
          have hf5 := HF4.out.carry (hk5.block F (by omega) hFP)
          have hs5 : F < w5.heap.size := by have := hk5.size; omega
          have HX5 := Lib.hid hx5
          have HF5 := Lib.hid hf5
          obtain ⟨c0, c1, c2, c3, f0, f1, f2, f3⟩ := hx5
          obtain ⟨a0, a1, a2, a3, g0, g1, g2, g3⟩ := hf5
          have hw5 : w.heap.size < w5.heap.size := by omega
          unfold tokW
          clear hp5 hk5 HTK HK4 HX4 HF4 HW4 HFF
          go_wp2_with fail
          rw [HF2.out]
          exact leaf_end2 HS0.out HP5.out HK5.out HX5.out (by omega) hFP hwF rfl rfl
      · have hy' : SX.takes ts s (SX.wl k) = false := by simpa using hy
        have HT := Lib.hid (take_s P lv ts deep s (SX.wl k) false wr HP.out he hy')
        go_wp2_with fail
        go_at_call 32
        refine HT.out.mono ?_
        rintro e w3 ⟨rfl, hp3, hk3⟩
        have hp3' : PS P lv ts deep s w3 := hp3
        have HP3 := Lib.hid hp3'
        have HK3 := Lib.hid (Keep.trans HK.out hk3)
        have HX3 := Lib.hid (HX.out.carry (hk3.block w.heap.size (by omega) hne))
        have HL3 := Lib.hid (HL.out.keep hk3 hLP)
        have hsum := few64 (a := k) (by omega)
        have HPR3 : Hid (∀ j, j < k + 1 → SX.takes ts s (SX.wl j) = false) := Lib.hid (fun j hj => by
          by_cases hjk : j = k
          · rw [hjk]; exact hy'
          · exact HPRE.out j (by omega))
        clear hp3 hp3' hk3 HT HP HK HX HL HPRE hcell
        go_wp2_with fail
        go_roundw
        case rel => exact ⟨k + 1, by go_num, by omega, HPR3.out, HP3.out, HK3.out, HX3.out, HL3.out⟩
        case measure => simp [intOf]; omega
end Go.Proofs.YtmodiemmcdocdaaDoor

namespace Go.Proofs.YtmodiemmcdocdaaDoor
open Go.RowKit Go
open PX (tk isT)
open SX (S)

theorem atom_any (P : Nat) (lv : Value) (ts : List LX.Tok) (he : PX.Ended ts) : ∀ (d : Nat), d ≤ 8 → ∀ (s : S) (w : World), PS P lv ts (8 - d) s w → s.err = 0 →
    Calls Tryd.prog 62 #[.pointer (some ⟨P, 0, none⟩)] w (OneP P lv ts (8 - d) (SX.atom ts d s) w)
  | 0, _, s, w, h, h0 => by
    obtain ⟨i, err, pl⟩ := s
    obtain rfl : err = 0 := h0
    by_cases hn : SX.takes ts ⟨i, 0, pl⟩ PX.wNot = true
    · exact atom_not_bad P lv ts he i pl w h hn
    · have hn : SX.takes ts ⟨i, 0, pl⟩ PX.wNot = false := by simpa using hn
      by_cases ho : SX.takes ts ⟨i, 0, pl⟩ PX.wOpen = true
      · exact atom_open_bad P lv ts he i pl w h hn ho
      · have ho : SX.takes ts ⟨i, 0, pl⟩ PX.wOpen = false := by simpa using ho
        rw [SX.atom_leaf ts 0 _ hn ho]
        exact atom_leaf P lv ts _ he _ w h hn ho
  | d + 1, hd, s, w, h, h0 => by
    obtain ⟨i, err, pl⟩ := s
    obtain rfl : err = 0 := h0
    have hdd : 8 - d = (8 - (d + 1)) + 1 := by omega
    have IH := atom_any P lv ts he d (by omega)
    rw [hdd] at IH
    by_cases hn : SX.takes ts ⟨i, 0, pl⟩ PX.wNot = true
    · exact atom_not P lv ts _ d (by omega) he IH i pl w h hn
    · have hn : SX.takes ts ⟨i, 0, pl⟩ PX.wNot = false := by simpa using hn
      by_cases ho : SX.takes ts ⟨i, 0, pl⟩ PX.wOpen = true
      · exact atom_open P lv ts _ d (by omega) he (or_run P lv ts _ _ (SX.row_goes ts (SX.atom_goes ts d)) he (and_run P lv ts _ _ (SX.atom_goes ts d) he IH)) i pl w h hn ho
      · have ho : SX.takes ts ⟨i, 0, pl⟩ PX.wOpen = false := by simpa using ho
        rw [SX.atom_leaf ts (d + 1) _ hn ho]
        exact atom_leaf P lv ts _ he _ w h hn ho

/-- A filter, from the top. -/
theorem or_any (P : Nat) (lv : Value) (ts : List LX.Tok) (he : PX.Ended ts) (s : S) (w : World) (h : PS P lv ts 0 s w) (h0 : s.err = 0) :
    Calls Tryd.prog 34 #[.pointer (some ⟨P, 0, none⟩)] w (OneP P lv ts 0 (SX.row ts PX.wOr 8 (SX.row ts PX.wAnd 7 (SX.atom ts 8)) s) w) :=
  or_run P lv ts 0 _ (SX.row_goes ts (SX.atom_goes ts 8)) he (and_run P lv ts 0 _ (SX.atom_goes ts 8) he (atom_any P lv ts he 8 (Nat.le_refl _))) s w h h0

end Go.Proofs.YtmodiemmcdocdaaDoor
