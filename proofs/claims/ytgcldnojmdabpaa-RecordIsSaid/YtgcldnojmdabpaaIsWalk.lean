/-
  magpielaw04.RecordIs: the walk.
-/
import Derived.Test.YtgcldnojmdabpaaAlive
import Derived.Test.YtgcldnojmdabpaaInj
import Derived.Test.YtgcldnojmdabpaaRefStream
import Derived.Test.YtgcldnojmdabpaaRefGood
import Derived.Test.YtgcldnojmdabpaaRefName
import Derived.Test.YtgcldnojmdabpaaValue
import Derived.Test.YtgcldnojmdabpaaOpen
namespace Go.Proofs.Ytgcldnojmdabpaa
open Go.RowKit Go

theorem grown_layI {f : Nat} {args : Array Value} {w w0 : World} {v : Value} (hc : ∀ W, Lay w0 W → Calls Try.prog f args W fun e w' => e = .returned v ∧ Lay W w') (hl : Lay w0 w) (n : Nat) (os : Array Obj) :
    Calls Try.prog f args (Sort.grow (w.drewN n) os) fun e w'' => e = .returned v ∧ ∃ p : GrownBy, w'' = Sort.grow (w.drewN p.n) p.os :=
  grown_of_lay (hc _ (hl.trans (Lay.of_grown n os)))

theorem lay_keep {w0 W w' : World} {sv : Value} (h : Lay w0 W) (k : Keep (At sv) W w') (ha : ∀ b, At sv b → w0.heap.size ≤ b) : Lay w0 w' :=
  ⟨k.os.trans h.os, k.tape.trans h.tape, k.output.trans h.output, Nat.le_trans h.size k.size, Nat.le_trans h.drawn k.drawn, fun b hb _ =>
    (k.block b (Nat.lt_of_lt_of_le hb h.size) (fun hv => by have := ha b hv; omega)).trans (h.block hb)⟩

theorem bytes_by (w : World) (s : ByteArray) (hs : s.size ≤ 140737488355328) :
    ∃ v w', (convert 9 32 (.string s)).run Try.prog w = .ok v w' ∧ By (fun b => w.heap.size ≤ b) w' v s.data.toList ∧ Lay w w' := by
  have hrun := Lib.run_convert_string_bytes (P := Try.prog) w 9 32 5 s Try.underlying9 Try.underlying32 Try.underlying5
  have hge := grownCap_ge w s.size 0 5
  have hcl := grownCap_le_maxLen w s.size 0 5 (by unfold maxLen; omega)
  have e : s.data.toList.length = s.size := Array.length_toList
  have hcs : (Lib.bytesCells w 5 s).size = grownCap w s.size 0 5 := by
    have : s.data.size = s.size := rfl
    simp only [Lib.bytesCells, Array.size_append, Array.size_map, Array.size_replicate]
    omega
  have hat := Lib.bytesWorld_at_new w 5 s
  refine ⟨_, _, hrun, Bs.by (.inr ⟨w.heap.size, _, by rw [e], Nat.le_refl _, by rw [Lib.bytesWorld_size]; omega, by rw [e]; exact hge, hcl, fun j hj => ?_, fun j hj => ⟨?_, ?_⟩⟩), ⟨rfl, rfl, rfl, by rw [Lib.bytesWorld_size]; omega, Nat.le_succ _, fun k hk _ => Lib.bytesWorld_at_old w 5 s k hk⟩⟩
  · rw [Lib.bytesWorld_cell w 5 s j (by rw [← e]; exact hj)]
    simp only [cellsOf, List.getElem?_map, List.getElem?_eq_getElem hj, Option.map_some, List.getD, Option.getD_some]
  · simp only [World.cell?, hat]
    rw [if_neg (by simp), Array.getElem?_eq_getElem (by rw [hcs]; exact hj)]
    rfl
  · simp only [World.frozen?, hat, hcs]
    simp
    omega

/-- What the operations of the last region leave. -/
def IV (x : Ent) (b SX SB SR : ByteArray) (g : Value) (s0 : Nat) : Nat → Value → World → Prop
  | 0, v, _ => v = g
  | 1, v, _ => v = .string SX
  | 2, v, _ => v = g
  | 3, v, _ => v = .string SX
  | 4, v, _ => v = .bool true
  | 5, v, _ => v = .bool true
  | 6, v, _ => v = .string b
  | 7, v, W => By (fun k => s0 ≤ k) W v b.data.toList
  | 8, v, _ => v = g
  | 9, v, W => By (fun k => s0 ≤ k) W v (b.data.toList ++ x.bytes)
  | 10, v, _ => v = .string SR
  | 11, v, _ => v = .string b
  | 12, v, _ => v = g
  | 13, v, _ => v = .string SB
  | 14, v, _ => v = .string SR
  | _, v, _ => v = .bool true

theorem IV.lay {x : Ent} {b SX SB SR : ByteArray} {g : Value} {s0 j : Nat} {v : Value} {W W' : World} (h : IV x b SX SB SR g s0 j v W) (hl : j = 7 ∨ j = 9 → Lay W W') : IV x b SX SB SR g s0 j v W' := by
  by_cases j7 : j = 7
  · subst j7
    exact Rk.lay h (hl (.inl rfl))
  by_cases j9 : j = 9
  · subst j9
    exact Rk.lay h (hl (.inr rfl))
  · unfold IV at h ⊢
    split at h <;> first | exact h | exact absurd rfl j7 | exact absurd rfl j9

set_option maxHeartbeats 16000000 in
set_option maxRecDepth 100000 in
theorem is_walk (x : Ent) (xl : Value) (s b : ByteArray) (w : World) (hx : LabsAt (fun _ => True) w xl x.labs) (hwf : x.Wf) :
    Calls Try.prog 3 #[x.val xl, .string s, .string b] w fun e w' => e = .returned (.bool true) ∧ Below w.heap.size w w' := by
  obtain ⟨a, ca, rfl, hx63, _⟩ := id hx
  obtain ⟨W0, hW0⟩ : ∃ W0, W0 = w.alloc (.cells #[.int .i64 x.tm, .slice a x.labs.length ca, .string x.line] 24) := ⟨_, rfl⟩
  have hl0 : Lay w W0 := by rw [hW0]; exact (Keep.refl _ _).alloc _
  have hbox : ∀ W, Lay W0 W →
      W.cell? ⟨w.heap.size, 0, none⟩ = some (.int .i64 x.tm) ∧ W.cell? ⟨w.heap.size, 1, none⟩ = some (.slice a x.labs.length ca) ∧ W.cell? ⟨w.heap.size, 2, none⟩ = some (.string x.line) := by
    intro W hl
    rw [hW0] at hl
    refine ⟨(hl.cell (by simp; try omega)).trans ?_, (hl.cell (by simp; try omega)).trans ?_, (hl.cell (by simp; try omega)).trans ?_⟩
    all_goals go_simp
  have hsz : w.heap.size + 1 ≤ W0.heap.size := by rw [hW0]; simp
  have HBOX := Lib.hid hbox
  have HL0 := Lib.hid hl0
  have CX : Hid (∀ W, Lay W0 W → Calls Try.prog 11 #[.agg #[.int .i64 x.tm, .slice a x.labs.length ca, .string x.line]] W fun e w' => e = .returned (.bool x.big) ∧ Lay W w') := Lib.hid fun W hl => great_any (hx.lay (hl0.trans hl))
  have CV : Hid (∀ W, Lay W0 W → Calls Try.prog 12 #[.agg #[.int .i64 x.tm, .slice a x.labs.length ca, .string x.line], .string s] W fun e w' => e = .returned (.tuple #[.string (valOf s x.labs).1, .bool (valOf s x.labs).2]) ∧ Lay W w') := Lib.hid fun W hl => value_any s (hx.lay (hl0.trans hl))
  have CR : Hid (∀ W, Lay W0 W → Calls Try.prog 13 #[.agg #[.int .i64 x.tm, .slice a x.labs.length ca, .string x.line], .string s] W fun e w' => e = .returned (.tuple #[.string (valOf s x.labs).1, .bool (valOf s x.labs).2]) ∧ Lay W w') := Lib.hid fun W hl => refValue_any s (hx.lay (hl0.trans hl))
  have CG : Hid (∀ W, Lay W0 W → Calls Try.prog 14 #[.agg #[.int .i64 x.tm, .slice a x.labs.length ca, .string x.line]] W fun e w' => e = .returned (.bool x.ok) ∧ Lay W w') := Lib.hid fun W hl => good_any (hx.lay (hl0.trans hl))
  have CH : Hid (∀ W, Lay W0 W → Calls Try.prog 15 #[.agg #[.int .i64 x.tm, .slice a x.labs.length ca, .string x.line]] W fun e w' => e = .returned (.bool x.ok) ∧ Lay W w') := Lib.hid fun W hl => refGood_any (hx.lay (hl0.trans hl))
  have CN : Hid (∀ W, Lay W0 W → Calls Try.prog 16 #[.string s] W fun e w' => e = .returned (.bool (MW.name s.data.toList)) ∧ Lay W w') := Lib.hid fun W _ => name_any s W
  have CM : Hid (∀ W, Lay W0 W → Calls Try.prog 17 #[.string s] W fun e w' => e = .returned (.bool (MW.name s.data.toList)) ∧ Lay W w') := Lib.hid fun W _ => (refName_any s W).mono fun _ _ ⟨h1, h2⟩ => ⟨h1, h2 ▸ Keep.refl _ _⟩
  have CT : Hid (∀ W, Lay W0 W → Calls Try.prog 18 #[.int .i64 x.tm] W fun e w' => e = .returned (.bool (timeOK x.tm)) ∧ Lay W w') := Lib.hid fun W _ => (time_any x.tm W).mono fun _ _ ⟨h1, h2⟩ => ⟨h1, h2 ▸ Keep.refl _ _⟩
  obtain ⟨SX, hSX⟩ : ∃ S : ByteArray, S = ⟨(labsB x.labs).toArray⟩ := ⟨_, rfl⟩
  obtain ⟨SB, hSB⟩ : ∃ S : ByteArray, S = ⟨x.bytes.toArray⟩ := ⟨_, rfl⟩
  obtain ⟨SR, hSR⟩ : ∃ S : ByteArray, S = b ++ SB := ⟨_, rfl⟩
  have TX : Hid (x.big = false → ∀ W, Lay W0 W → Calls Try.prog 19 #[.agg #[.int .i64 x.tm, .slice a x.labs.length ca, .string x.line]] W fun e w' => e = .returned (.string SX) ∧ Lay W w') := Lib.hid fun hb W hl => stream_any (hx.lay (hl0.trans hl)) (mod_of ⟨hwf.lo, hwf.hi⟩ hb).1.labs SX (by rw [hSX])
  have TR : Hid (x.big = false → ∀ W, Lay W0 W → Calls Try.prog 20 #[.agg #[.int .i64 x.tm, .slice a x.labs.length ca, .string x.line]] W fun e w' => e = .returned (.string SX) ∧ Lay W w') := Lib.hid fun hb W hl => by rw [hSX]; exact refStream_any (hx.lay (hl0.trans hl)) (mod_of ⟨hwf.lo, hwf.hi⟩ hb).1.labs
  have TB : Hid (x.big = false → ∀ W, Lay W0 W → Calls Try.prog 22 #[.agg #[.int .i64 x.tm, .slice a x.labs.length ca, .string x.line]] W fun e w' => e = .returned (.string SB) ∧ Lay W w') := Lib.hid fun hb W hl => by rw [hSB]; exact refBytes_any (hx.lay (hl0.trans hl)) (mod_of ⟨hwf.lo, hwf.hi⟩ hb).1
  have PUT : Hid (x.big = false → b.size ≤ 200 → ∀ (W : World) (sv : Value) (B : Nat), Lay W0 W → By (fun k => B ≤ k) W sv b.data.toList → w.heap.size + 1 ≤ B → Calls Try.prog 21 #[sv, .agg #[.int .i64 x.tm, .slice a x.labs.length ca, .string x.line]] W (PutPost sv (b.data.toList ++ x.bytes) W)) := Lib.hid fun hb hbs W sv B hl hby hB =>
    put_any (G := fun k => k < w.heap.size) hby (by
      have h1 := hx.mono (H := fun k => k < w.heap.size) fun k _ h => h
      exact h1.lay (hl0.trans hl)) (fun k hk _ hat => by have := (hby.at hat).1; omega) (mod_of ⟨hwf.lo, hwf.hi⟩ hb).1 (by rw [dlen]; omega)
  have hadd : Hid (x.big = false → b.size ≤ 200 → ∀ W, (Op.stringOp .add b SB).run Try.prog W = .ok (.string SR) W) := Lib.hid fun hb hbs W => by
    have h1 := Ent.bytes_len (mod_of ⟨hwf.lo, hwf.hi⟩ hb).1
    rw [hSR]
    have h2 := mk_size x.bytes
    exact run_string_add_sum W _ _ (by rw [hSB, h2]; omega)
  have HSR : Hid (SR.data.toList = b.data.toList ++ x.bytes) := Lib.hid (by rw [hSR, append_data, hSB])
  generalize MW.name s.data.toList = nm at CN CM
  generalize x.ok = xok at CG CH
  generalize valOf s x.labs = vo at CV CR
  obtain ⟨vs, vb⟩ := vo
  have HTM : Hid ((x.tm ≤ 1099511627776 → -1099511627776 ≤ x.tm → timeOK x.tm = true) ∧ (¬ x.tm ≤ 1099511627776 → timeOK x.tm = false) ∧ (¬ -1099511627776 ≤ x.tm → timeOK x.tm = false)) := Lib.hid (by
    unfold timeOK
    exact ⟨fun h1 h2 => by rw [decide_eq_true h2, decide_eq_true h1]; rfl, fun h1 => by rw [decide_eq_false h1, Bool.and_false], fun h1 => by rw [decide_eq_false h1, Bool.false_and]⟩)
  have hmx : Try.prog.follows .mixedOrders = true := by kernel_rfl
  unfold Ent.val
  clear hx hbox hl0 hSX hSB hSR hwf
  go_enter Try.func3, Try.ntmps3
  go_wp2_with fail
  rw [← hW0]
  clear hW0
  refine (alive_any W0).mono ?_
  rintro e w1 ⟨rfl, hl1⟩
  have HL1 := Lib.hid hl1
  obtain ⟨x0, x1, x2⟩ := HBOX.out w1 hl1
  clear hl1
  cases hbx : x.big with
  | true =>
    rw [hbx] at CX
    go_wp2_with fail
    refine (CX.out _ HL1.out).mono ?_
    rintro e w2 ⟨rfl, hl2⟩
    have HL2 := Lib.hid (Keep.trans HL1.out hl2)
    clear hl2
    go_wp2_with fail
    go_ret
    exact ⟨rfl, Lay.below (Keep.trans HL0.out HL2.out)⟩
  | false =>
    rw [hbx] at CX
    by_cases hs1 : (200 : Int) < (s.size : Int)
    · go_wp2_with fail
      refine (CX.out _ HL1.out).mono ?_
      rintro e w2 ⟨rfl, hl2⟩
      have HL2 := Lib.hid (Keep.trans HL1.out hl2)
      clear hl2
      go_wp2_with fail
      go_ret
      exact ⟨rfl, Lay.below (Keep.trans HL0.out HL2.out)⟩
    · by_cases hb1 : (200 : Int) < (b.size : Int)
      · go_wp2_with fail
        refine (CX.out _ HL1.out).mono ?_
        rintro e w2 ⟨rfl, hl2⟩
        have HL2 := Lib.hid (Keep.trans HL1.out hl2)
        clear hl2
        go_wp2_with fail
        go_ret
        exact ⟨rfl, Lay.below (Keep.trans HL0.out HL2.out)⟩
      · have hb200 : b.size ≤ 200 := by omega
        have TX := Lib.hid (TX.out hbx)
        have TR := Lib.hid (TR.out hbx)
        have TB := Lib.hid (TB.out hbx)
        have PUT := Lib.hid (PUT.out hbx hb200)
        have HADD := Lib.hid (hadd.out hbx hb200)
        clear hadd
        go_wp2_with fail
        refine (CX.out _ HL1.out).mono ?_
        rintro e w2 ⟨rfl, hl2⟩
        have HL2 := Lib.hid (Keep.trans HL1.out hl2)
        obtain ⟨x0, x1, x2⟩ := HBOX.out w2 HL2.out
        clear hl2 CX
        go_wp2_with fail
        refine (CV.out _ HL2.out).mono ?_
        rintro e w3 ⟨rfl, hl3⟩
        have HL3 := Lib.hid (Keep.trans HL2.out hl3)
        obtain ⟨x0, x1, x2⟩ := HBOX.out w3 HL3.out
        clear hl3 CV
        go_wp2_with fail
        refine (CR.out _ HL3.out).mono ?_
        rintro e w4 ⟨rfl, hl4⟩
        have HL4 := Lib.hid (Keep.trans HL3.out hl4)
        obtain ⟨x0, x1, x2⟩ := HBOX.out w4 HL4.out
        have hs4 : w.heap.size < w4.heap.size := Nat.lt_of_lt_of_le hsz HL4.out.size
        clear hl4 CR
        have fx0 := cell_grown (w := w4) (a := ⟨w.heap.size, 0, none⟩) hs4 x0
        have fx1 := cell_grown (w := w4) (a := ⟨w.heap.size, 1, none⟩) hs4 x1
        have fx2 := cell_grown (w := w4) (a := ⟨w.heap.size, 2, none⟩) hs4 x2
        clear x0 x1 x2
        go_wp2_with fail
        have hmid : ∀ (K : Exit → Act → World → Prop) (A : Act) (_ : ∀ nq osq, ∃ A', K .normal A' (Sort.grow (w4.drewN nq) osq)), True := fun _ _ _ => trivial
        have htm : ∀ β, timeOK x.tm = β → ((x.tm ≤ 1099511627776 ∧ -1099511627776 ≤ x.tm ∧ β = true) ∨ (¬ x.tm ≤ 1099511627776 ∧ β = false) ∨ (x.tm ≤ 1099511627776 ∧ ¬ -1099511627776 ≤ x.tm ∧ β = false)) := by
          intro β hβ
          by_cases h1 : x.tm ≤ 1099511627776
          · by_cases h2 : -1099511627776 ≤ x.tm
            · exact .inl ⟨h1, h2, hβ.symm.trans (HTM.out.1 (by omega) (by omega))⟩
            · exact .inr (.inr ⟨h1, h2, hβ.symm.trans (HTM.out.2.2 (by omega))⟩)
          · exact .inr (.inl ⟨h1, hβ.symm.trans (HTM.out.2.1 (by omega))⟩)
        clear hmid HTM
        generalize htb : timeOK x.tm = β at CT
        have htm := htm β htb
        clear htb
        have G14 := grown_layI CG.out HL4.out
        have G15 := grown_layI CH.out HL4.out
        have G16 := grown_layI CN.out HL4.out
        have G17 := grown_layI CM.out HL4.out
        have G18 := grown_layI CT.out HL4.out
        clear CG CH CN CM CT
        rcases htm with ⟨h1, h2, rfl⟩ | ⟨h1, rfl⟩ | ⟨h1, h2, rfl⟩
        all_goals
          go_quiet_grown ((first | (go_at_call 14; with_reducible exact G14 _ _) | (go_at_call 15; with_reducible exact G15 _ _) | (go_at_call 16; with_reducible exact G16 _ _) | (go_at_call 17; with_reducible exact G17 _ _) | (go_at_call 18; with_reducible exact G18 _ _)))
          have HL9 := Lib.hid (Keep.trans HL4.out (Lay.of_grown nq osq))
          clear fx0 fx1 fx2 G14 G15 G16 G17 G18
          generalize Sort.grow (w4.drewN nq) osq = w9 at HL9 ⊢
          have HS9 : Hid (w.heap.size + 1 ≤ w9.heap.size) := Lib.hid (Nat.le_trans hsz HL9.out.size)
          clear h1 HL1 HL2 HL3 HL4 hs4
          try clear h2
          go_wp2_with fail
          refine wp_region_flow (by kernel_rfl) (fun W => Lay w9 W) (fun i W W' => i ≠ 9 → Lay W W') (IV x b SX SB SR (.agg #[.int .i64 x.tm, .slice a x.labs.length ca, .string x.line]) w9.heap.size) (fun j => j == 17) (by kernel_rfl) (by kernel_rfl) ?hst (Keep.refl _ _).drew ?step ?fin
          case hst =>
            intro i j v W W' hij _ hneed hV _ hR
            by_cases hi : i = 9
            · subst hi
              refine hV.lay fun hj => ?_
              rcases hj with rfl | rfl
              · exact absurd hneed (by intro h; have h2 : (false : Bool) = true := h; cases h2)
              · exact absurd rfl hij
            · exact hV.lay fun _ => hR hi
          case step =>
            refine ⟨?_, ?_, ?_, ?_, ?_, ?_, ?_, ?_, ?_, ?_, ?_, ?_, ?_, ?_, ?_, ?_, ?_, ?_, trivial⟩
            · intro ys A W hA hI hd K hK
              have e3 : A.tmps.getD 3 undef = .pointer (some ⟨w.heap.size, 0, none⟩) := hA 3 (Nat.le_of_ble_eq_true rfl)
              refine step_run (.inl rfl) ?_
              clear hA hd
              obtain ⟨k0, k1, k2⟩ := HBOX.out W (Keep.trans HL9.out hI)
              go_simp
              exact hK _ _ hI (fun _ => Keep.refl _ _) rfl
            · intro ys A W hA hI hd K hK
              have e73 : A.tmps.getD 73 undef = .agg #[.int .i64 x.tm, .slice a x.labs.length ca, .string x.line] := (hA 73 (Nat.le_of_ble_eq_true rfl)).trans (hd ⟨0, .data⟩ (by simp) rfl)
              refine step_run (.inl rfl) ?_
              clear hA hd
              go_simp
              refine (TX.out _ (Keep.trans HL9.out hI)).mono ?_
              rintro e w' ⟨rfl, hl⟩
              exact hK _ _ (Keep.trans hI hl) (fun _ => hl) rfl
            · intro ys A W hA hI hd K hK
              have e3 : A.tmps.getD 3 undef = .pointer (some ⟨w.heap.size, 0, none⟩) := hA 3 (Nat.le_of_ble_eq_true rfl)
              refine step_run (.inl rfl) ?_
              clear hA hd
              obtain ⟨k0, k1, k2⟩ := HBOX.out W (Keep.trans HL9.out hI)
              go_simp
              exact hK _ _ hI (fun _ => Keep.refl _ _) rfl
            · intro ys A W hA hI hd K hK
              have e75 : A.tmps.getD 75 undef = .agg #[.int .i64 x.tm, .slice a x.labs.length ca, .string x.line] := (hA 75 (Nat.le_of_ble_eq_true rfl)).trans (hd ⟨2, .data⟩ (by simp) rfl)
              refine step_run (.inl rfl) ?_
              clear hA hd
              go_simp
              refine (TR.out _ (Keep.trans HL9.out hI)).mono ?_
              rintro e w' ⟨rfl, hl⟩
              exact hK _ _ (Keep.trans hI hl) (fun _ => hl) rfl
            · intro ys A W hA hI hd K hK
              have e74 : A.tmps.getD 74 undef = .string SX := (hA 74 (Nat.le_of_ble_eq_true rfl)).trans (hd ⟨1, .data⟩ (by simp) rfl)
              have e76 : A.tmps.getD 76 undef = .string SX := (hA 76 (Nat.le_of_ble_eq_true rfl)).trans (hd ⟨3, .data⟩ (by simp) rfl)
              refine step_run (.inl rfl) ?_
              clear hA hd
              go_simp
              exact hK _ _ hI (fun _ => Keep.refl _ _) rfl
            · intro ys A W hA hI hd K hK
              have e77 : A.tmps.getD 77 undef = .bool true := (hA 77 (Nat.le_of_ble_eq_true rfl)).trans (hd ⟨4, .data⟩ (by simp) rfl)
              refine step_run (.inl rfl) ?_
              clear hA hd
              go_simp
              exact hK _ _ hI (fun _ => Keep.refl _ _) rfl
            · intro ys A W hA hI hd K hK
              have e2 : A.tmps.getD 2 undef = .string b := hA 2 (Nat.le_of_ble_eq_true rfl)
              refine step_run (.inr ⟨5, 78, true, rfl, rfl, (hA 78 (Nat.le_of_ble_eq_true rfl)).trans (hd ⟨5, .guard⟩ (by simp) rfl)⟩) ?_
              clear hA hd
              go_simp
              exact hK _ _ hI (fun _ => Keep.refl _ _) rfl
            · intro ys A W hA hI hd K hK
              have e79 : A.tmps.getD 79 undef = .string b := (hA 79 (Nat.le_of_ble_eq_true rfl)).trans (hd ⟨6, .data⟩ (by simp) rfl)
              refine step_run (.inr ⟨5, 78, true, rfl, rfl, (hA 78 (Nat.le_of_ble_eq_true rfl)).trans (hd ⟨5, .guard⟩ (by simp) rfl)⟩) ?_
              clear hA hd
              obtain ⟨v', w', hrun, hb, hl⟩ := bytes_by W b (by omega)
              go_simp
              exact hK _ _ (Keep.trans hI hl) (fun _ => hl) (hb.mono fun k hk _ => Nat.le_trans hI.size hk)
            · intro ys A W hA hI hd K hK
              have e3 : A.tmps.getD 3 undef = .pointer (some ⟨w.heap.size, 0, none⟩) := hA 3 (Nat.le_of_ble_eq_true rfl)
              refine step_run (.inr ⟨5, 78, true, rfl, rfl, (hA 78 (Nat.le_of_ble_eq_true rfl)).trans (hd ⟨5, .guard⟩ (by simp) rfl)⟩) ?_
              clear hA hd
              obtain ⟨k0, k1, k2⟩ := HBOX.out W (Keep.trans HL9.out hI)
              go_simp
              exact hK _ _ hI (fun _ => Keep.refl _ _) rfl
            · intro ys A W hA hI hd K hK
              have e80 : A.tmps.getD 80 undef = ys 7 := hA 80 (Nat.le_of_ble_eq_true rfl)
              have e81 : A.tmps.getD 81 undef = .agg #[.int .i64 x.tm, .slice a x.labs.length ca, .string x.line] := (hA 81 (Nat.le_of_ble_eq_true rfl)).trans (hd ⟨8, .data⟩ (by simp) rfl)
              have hb7 : By (fun k => w9.heap.size ≤ k) W (ys 7) b.data.toList := hd ⟨7, .data⟩ (by simp) rfl
              refine step_run (.inr ⟨5, 78, true, rfl, rfl, (hA 78 (Nat.le_of_ble_eq_true rfl)).trans (hd ⟨5, .guard⟩ (by simp) rfl)⟩) ?_
              clear hA hd
              go_simp
              refine (PUT.out _ _ _ (Keep.trans HL9.out hI) hb7 HS9.out).mono ?_
              rintro e w' ⟨v', rfl, hb, hk⟩
              exact hK _ _ (lay_keep hI hk (fun k hk => (hb7.at hk).1)) (fun h => absurd rfl h) (hb.mono fun k hk _ => hk.elim (fun h => (hb7.at h).1) (fun h => Nat.le_trans hI.size h))
            · intro ys A W hA hI hd K hK
              have e82 : A.tmps.getD 82 undef = ys 9 := hA 82 (Nat.le_of_ble_eq_true rfl)
              have hb9 : By (fun k => w9.heap.size ≤ k) W (ys 9) (b.data.toList ++ x.bytes) := hd ⟨9, .data⟩ (by simp) rfl
              refine step_run (.inr ⟨5, 78, true, rfl, rfl, (hA 78 (Nat.le_of_ble_eq_true rfl)).trans (hd ⟨5, .guard⟩ (by simp) rfl)⟩) ?_
              clear hA hd
              have hrun := bs_string_of hb9.bs SR HSR.out
              go_simp
              exact hK _ _ hI (fun _ => Keep.refl _ _) rfl
            · intro ys A W hA hI hd K hK
              have e2 : A.tmps.getD 2 undef = .string b := hA 2 (Nat.le_of_ble_eq_true rfl)
              refine step_run (.inr ⟨5, 78, true, rfl, rfl, (hA 78 (Nat.le_of_ble_eq_true rfl)).trans (hd ⟨5, .guard⟩ (by simp) rfl)⟩) ?_
              clear hA hd
              go_simp
              exact hK _ _ hI (fun _ => Keep.refl _ _) rfl
            · intro ys A W hA hI hd K hK
              have e3 : A.tmps.getD 3 undef = .pointer (some ⟨w.heap.size, 0, none⟩) := hA 3 (Nat.le_of_ble_eq_true rfl)
              refine step_run (.inr ⟨5, 78, true, rfl, rfl, (hA 78 (Nat.le_of_ble_eq_true rfl)).trans (hd ⟨5, .guard⟩ (by simp) rfl)⟩) ?_
              clear hA hd
              obtain ⟨k0, k1, k2⟩ := HBOX.out W (Keep.trans HL9.out hI)
              go_simp
              exact hK _ _ hI (fun _ => Keep.refl _ _) rfl
            · intro ys A W hA hI hd K hK
              have e85 : A.tmps.getD 85 undef = .agg #[.int .i64 x.tm, .slice a x.labs.length ca, .string x.line] := (hA 85 (Nat.le_of_ble_eq_true rfl)).trans (hd ⟨12, .data⟩ (by simp) rfl)
              refine step_run (.inr ⟨5, 78, true, rfl, rfl, (hA 78 (Nat.le_of_ble_eq_true rfl)).trans (hd ⟨5, .guard⟩ (by simp) rfl)⟩) ?_
              clear hA hd
              go_simp
              refine (TB.out _ (Keep.trans HL9.out hI)).mono ?_
              rintro e w' ⟨rfl, hl⟩
              exact hK _ _ (Keep.trans hI hl) (fun _ => hl) rfl
            · intro ys A W hA hI hd K hK
              have e84 : A.tmps.getD 84 undef = .string b := (hA 84 (Nat.le_of_ble_eq_true rfl)).trans (hd ⟨11, .data⟩ (by simp) rfl)
              have e86 : A.tmps.getD 86 undef = .string SB := (hA 86 (Nat.le_of_ble_eq_true rfl)).trans (hd ⟨13, .data⟩ (by simp) rfl)
              refine step_run (.inr ⟨5, 78, true, rfl, rfl, (hA 78 (Nat.le_of_ble_eq_true rfl)).trans (hd ⟨5, .guard⟩ (by simp) rfl)⟩) ?_
              clear hA hd
              have hrun := HADD.out W
              go_simp
              exact hK _ _ hI (fun _ => Keep.refl _ _) rfl
            · intro ys A W hA hI hd K hK
              have e83 : A.tmps.getD 83 undef = .string SR := (hA 83 (Nat.le_of_ble_eq_true rfl)).trans (hd ⟨10, .data⟩ (by simp) rfl)
              have e87 : A.tmps.getD 87 undef = .string SR := (hA 87 (Nat.le_of_ble_eq_true rfl)).trans (hd ⟨14, .data⟩ (by simp) rfl)
              refine step_run (.inr ⟨5, 78, true, rfl, rfl, (hA 78 (Nat.le_of_ble_eq_true rfl)).trans (hd ⟨5, .guard⟩ (by simp) rfl)⟩) ?_
              clear hA hd
              go_simp
              exact hK _ _ hI (fun _ => Keep.refl _ _) rfl
            · intro ys A W hA hI hd K hK
              have e78 : A.tmps.getD 78 undef = .bool true := (hA 78 (Nat.le_of_ble_eq_true rfl)).trans (hd ⟨5, .data⟩ (by simp) rfl)
              have e88 : A.tmps.getD 88 undef = .bool true := (hA 88 (Nat.le_of_ble_eq_true rfl)).trans (hd ⟨15, .data⟩ (by simp) rfl)
              refine step_run (.inl rfl) ?_
              clear hA hd
              go_simp
              exact hK _ _ hI (fun _ => Keep.refl _ _) rfl
            · intro ys A W hA hI hd K hK
              have e89 : A.tmps.getD 89 undef = .bool true := (hA 89 (Nat.le_of_ble_eq_true rfl)).trans (hd ⟨16, .data⟩ (by simp) rfl)
              refine step_run (.inl rfl) ?_
              clear hA hd
              go_simp
              exact hK _ _ hI (fun _ => Keep.refl _ _) rfl
          case fin =>
            intro ys W hI hF
            have hv : ys 17 = .bool true := hF 17 (Nat.le_of_ble_eq_true rfl) rfl
            have HI := Lib.hid hI
            clear hI hF
            simp only [putsFrom]
            simp only [hv, Act.put, List.setIfInBounds_toArray, List.set_cons_succ, List.set_cons_zero]
            go_wp2_with fail
            go_ret
            exact ⟨rfl, Lay.below (Keep.trans HL0.out (Keep.trans HL9.out HI.out))⟩

end Go.Proofs.Ytgcldnojmdabpaa
