/-
  magpielaw04.RecordReads: the walk.
-/
import Derived.Test.YtgcldnojmdabpaaAlive
import Derived.Test.YtgcldnojmdabpaaBackMath
import Derived.Test.YtgcldnojmdabpaaRefGet
namespace Go.Proofs.Ytgcldnojmdabpaa
open Go.RowKit Go

/-- What both Gets answer, in one form. -/
theorem got {B : Nat} {w' : World} {x : Ent} {lv : Value} (ok : Bool) (h : LabsAt (fun b => B ≤ b) w' lv x.labs) :
    ∃ a c, LabsAt (fun b => B ≤ b) w' (.slice a (if ok = true then x else eZ).labs.length c) (if ok = true then x else eZ).labs ∧
      (.tuple (if ok = true then #[x.val lv, .bool true] else #[eZ.val (.slice none 0 0), .bool false]) : Value) = .tuple #[.agg #[.int .i64 (if ok = true then x else eZ).tm, .slice a (if ok = true then x else eZ).labs.length c, .string (if ok = true then x else eZ).line], .bool ok] := by
  cases ok with
  | true =>
    obtain ⟨a, c, rfl, _⟩ := id h
    exact ⟨a, c, h, rfl⟩
  | false => exact ⟨none, 0, LabsAt.nil _ _, rfl⟩

set_option maxHeartbeats 16000000 in
set_option maxRecDepth 100000 in
theorem reads_walk (s : ByteArray) (w : World) : Calls Try.prog 6 #[.string s] w fun e w' => e = .returned (.bool true) ∧ Below w.heap.size w w' := by
  go_enter Try.func6, Try.ntmps6
  go_wp2_with fail
  refine (alive_any w).mono ?_
  rintro e w1 ⟨rfl, hl1⟩
  have HL1 := Lib.hid hl1
  clear hl1
  by_cases h2 : (2000 : Int) < (s.size : Int)
  · go_wp2_with fail
    go_ret
    exact ⟨rfl, Lay.below HL1.out⟩
  · have hS : s.size ≤ 2000 := by omega
    have HFROM := Lib.hid (from_any s (by omega) w1)
    go_wp2_with fail
    refine HFROM.out.mono ?_
    rintro e w5 ⟨rfl, hs5, hrd5, hbl5⟩
    have hww1 : w.heap.size ≤ w1.heap.size := HL1.out.size
    have HRD5 : Hid (Rd (w5.alloc (.cells #[.string s, .int .i64 0, .bool false] 49)) w1.heap.size s.data.toList false) := Lib.hid (hrd5.alloc _)
    have HRF5 : Hid (Rf (w5.alloc (.cells #[.string s, .int .i64 0, .bool false] 49)) w5.heap.size s 0 false) := Lib.hid ⟨by go_simp, by go_simp, by go_simp, by go_simp, by go_simp, by go_simp⟩
    have HBL5 : Hid (Below w.heap.size w (w5.alloc (.cells #[.string s, .int .i64 0, .bool false] 49))) := Lib.hid ((HL1.out.below.trans (hbl5.mono hww1)).alloc (by omega) _)
    have hg12 : ¬ w1.heap.size = w5.heap.size := by omega
    have hwg2 : w.heap.size ≤ w5.heap.size := by omega
    clear hs5 hrd5 hbl5 HFROM
    go_wp2_with fail
    generalize w5.alloc (.cells #[.string s, .int .i64 0, .bool false] 49) = w6 at HRD5 HRF5 HBL5 ⊢
    generalize w1.heap.size = g1 at HRD5 hww1 hg12 ⊢
    generalize w5.heap.size = g2 at HRF5 hwg2 hg12 ⊢
    go_loopw [5] (fun vi wr => ∃ (k : Nat) (l : List UInt8) (b : Bool) (pos : Nat), vi = .int .i64 k ∧ k ≤ 4 ∧ Rd wr g1 l b ∧ Rf wr g2 s pos b ∧ Left l b s pos ∧ Below w.heap.size w wr) (fun vi _ => 4 - (intOf vi).toNat)
    case atStart => exact ⟨0, s.data.toList, false, 0, rfl, by omega, HRD5.out, HRF5.out, fun _ => ⟨by simp, Nat.zero_le _⟩, HBL5.out⟩
    case round =>
      obtain ⟨k, l, b, pos, rfl, hk, hrd, hrf, hlf, hbl⟩ := hrel
      have HBL := Lib.hid hbl
      have hwr : w.heap.size ≤ wr.heap.size := hbl.size
      have hlt1 : g1 < wr.heap.size := hrd.lt
      have hlt2 : g2 < wr.heap.size := hrf.lt
      by_cases hlt : k < 4
      · have HG := Lib.hid (get_any g1 l b wr hrd)
        have HRF := Lib.hid hrf
        have HLF := Lib.hid hlf
        clear hrd hrf hlf hbl
        go_wp2_with fail
        refine HG.out.mono ?_
        rintro e w7 ⟨x, lv, l', b', hre, _, hrd7, hch7, hlab7, rfl⟩
        obtain ⟨ay, cy, hlaby, hval⟩ := got (!b' && x.ok) hlab7
        rw [hval]
        have hs7 : wr.heap.size ≤ w7.heap.size := hch7.size
        have HRE := Lib.hid hre
        have HRD7 := Lib.hid hrd7
        have HLY7 := Lib.hid hlaby
        have HBL7 : Hid (Below w.heap.size w w7) := Lib.hid (HBL.out.trans (hch7.below hww1 hwr))
        have HRF7 := Lib.hid (HRF.out.carry (hch7.block g2 hlt2 (fun e => hg12 e.symm)))
        obtain ⟨ok, hok⟩ : ∃ ok, ok = (!b' && x.ok) := ⟨_, rfl⟩
        rw [← hok] at hlaby HLY7 ⊢
        have HOK := Lib.hid hok
        obtain ⟨y, hy⟩ : ∃ y, y = (if ok = true then x else eZ) := ⟨_, rfl⟩
        rw [← hy] at hlaby HLY7 ⊢
        have HY := Lib.hid hy
        have HR := Lib.hid (ref_get_any g2 s hS pos l b (w7.alloc (.cells #[.int .i64 y.tm, .slice ay y.labs.length cy, .string y.line] 24)) (HRF7.out.carry (Below.heap_alloc _ _ _ (by omega))) HLF.out)
        clear hre hrd7 hch7 hlab7 hlaby hval hok hy HG HRF
        go_wp2_with fail
        refine HR.out.mono ?_
        rintro e w8 ⟨x2, lv2, l2, b2, pos2, hre2, hrf8, hlf8, hch8, hlab8, rfl⟩
        obtain ⟨rfl, rfl, rfl⟩ := HRE.out.same hre2
        obtain ⟨a2, c2, hlab2, hval2⟩ := got (!b' && x.ok) hlab8
        rw [hval2]
        rw [← HOK.out] at hlab2 ⊢
        rw [← HY.out] at hlab2 ⊢
        have hs8 : w7.heap.size + 1 ≤ w8.heap.size := by have := hch8.size; simpa using this
        have hbb := hch8.block w7.heap.size (by simp) (by omega)
        have y0 : w8.cell? ⟨w7.heap.size, 0, none⟩ = some (.int .i64 y.tm) := (World.cell?_of_block (a := ⟨w7.heap.size, 0, none⟩) hbb).trans (by go_simp)
        have y1 : w8.cell? ⟨w7.heap.size, 1, none⟩ = some (.slice ay y.labs.length cy) := (World.cell?_of_block (a := ⟨w7.heap.size, 1, none⟩) hbb).trans (by go_simp)
        have y2 : w8.cell? ⟨w7.heap.size, 2, none⟩ = some (.string y.line) := (World.cell?_of_block (a := ⟨w7.heap.size, 2, none⟩) hbb).trans (by go_simp)
        have hlt8 : w7.heap.size < w8.heap.size := by omega
        have hne8 : ¬ w7.heap.size = w8.heap.size := by omega
        have HLY8 : Hid (LabsAt (fun b => wr.heap.size ≤ b) w8 (.slice ay y.labs.length cy) y.labs) := Lib.hid ((HLY7.out.alloc _).carry hch8.size fun k hk hlt => hch8.block k hlt (by omega))
        have HRD8 : Hid (Rd w8 g1 l' b') := Lib.hid ((HRD7.out.alloc _).carry (hch8.block g1 (by simp; omega) hg12))
        have HRF8 := Lib.hid hrf8
        have HLF8 := Lib.hid hlf8
        have HBL8 : Hid (Below w.heap.size w w8) := Lib.hid ((HBL7.out.alloc (by omega) _).trans (hch8.below hwg2 (by simp; omega)))
        have HSAME : Hid (Calls Try.prog 33 #[.agg #[.int .i64 y.tm, .slice ay y.labs.length cy, .string y.line], .agg #[.int .i64 y.tm, .slice a2 y.labs.length c2, .string y.line]] (w8.alloc (.cells #[.int .i64 y.tm, .slice a2 y.labs.length c2, .string y.line] 24)) fun e w' => e = .returned (.bool true) ∧ Lay (w8.alloc (.cells #[.int .i64 y.tm, .slice a2 y.labs.length c2, .string y.line] 24)) w') := Lib.hid (by
          have h1 := same_any (x := y) (y := y) (HLY8.out.alloc (.cells #[.int .i64 y.tm, .slice a2 y.labs.length c2, .string y.line] 24)) (hlab2.alloc (.cells #[.int .i64 y.tm, .slice a2 y.labs.length c2, .string y.line] 24))
          rw [same_self] at h1
          exact h1)
        clear hre2 hrf8 hlf8 hch8 hlab8 hlab2 hval2 hbb HR HRE HY HOK
        cases ok with
        | false =>
          go_wp2_with fail
          refine HSAME.out.mono ?_
          rintro e w9 ⟨rfl, hl9⟩
          have HL9 := Lib.hid (Keep.trans ((Keep.refl _ w8).alloc _) hl9)
          clear hl9
          go_wp2_with fail
          go_ret
          exact ⟨rfl, below_lay HBL8.out HL9.out (by omega)⟩
        | true =>
          go_wp2_with fail
          refine HSAME.out.mono ?_
          rintro e w9 ⟨rfl, hl9⟩
          have HL9 := Lib.hid (Keep.trans ((Keep.refl _ w8).alloc _) hl9)
          have HRD9 := Lib.hid (HRD8.out.carry (Lay.block HL9.out HRD8.out.lt))
          have HRF9 := Lib.hid (HRF8.out.carry (Lay.block HL9.out HRF8.out.lt))
          have HE1 := Lib.hid (end_any g1 l' b' w9 HRD9.out)
          have HE2 := Lib.hid (ref_end_rd g2 s pos2 l' b' w9 HRF9.out HLF8.out)
          have hs9 : w.heap.size ≤ w9.heap.size := by have := HL9.out.size; omega
          clear hl9
          obtain ⟨en, hen⟩ : ∃ en, en = (!b' && l'.isEmpty) := ⟨_, rfl⟩
          rw [← hen] at HE1 HE2
          clear hen
          go_wp2_with fail
          refine HE1.out.mono ?_
          rintro e w10 ⟨rfl, rfl⟩
          go_wp2_with fail
          refine HE2.out.mono ?_
          rintro e w11 ⟨rfl, hbl11⟩
          have HBL11 : Hid (Below w.heap.size w w11) := Lib.hid ((below_lay HBL8.out HL9.out (by omega)).trans (hbl11.mono hs9))
          have HRD11 := Lib.hid (HRD9.out.below hbl11 HRD9.out.lt)
          have HRF11 := Lib.hid (HRF9.out.below hbl11 HRF9.out.lt)
          clear hbl11 HE1 HE2
          cases en
          all_goals
            go_wp2_with fail
            go_roundw
            case rel => exact ⟨k + 1, l', b', pos2, by go_num, by omega, HRD11.out, HRF11.out, HLF8.out, HBL11.out⟩
            case measure => simp [intOf]; omega
      · obtain rfl : k = 4 := by omega
        clear hrd hrf hlf hbl
        go_wp2_with fail
        go_ret
        exact ⟨rfl, HBL.out⟩

end Go.Proofs.Ytgcldnojmdabpaa
