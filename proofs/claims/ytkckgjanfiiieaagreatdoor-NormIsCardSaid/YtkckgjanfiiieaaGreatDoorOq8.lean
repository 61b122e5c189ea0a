/-
  PACKAGE lex: IsText, Quote.
-/
import Derived.Test.YtkckgjanfiiieaaGreatDoorOwB
import Derived.Test.YtkckgjanfiiieaaGreatDoorShelf
import Derived.Lib.FrozenHead2
import Derived.Laws.OwnMore
import Derived.Laws.IdiomStrings
namespace Go.Proofs.YtkckgjanfiiieaaGreatDoor
open Go.RowKit Go

theorem LX.esc_step {l : List UInt8} {pos c n : Nat} (hl : l.drop pos ≠ []) (hu : LX.U8 (l.drop pos)) (hd : MW.dec (l.drop pos) = (c, n)) :
    LX.U8 (l.drop (pos + n)) ∧ LX.esc (l.take (pos + n)) = LX.esc (l.take pos) ++ (if spec c = true then 92 :: Lib.encodeRune (c : Int) else Lib.encodeRune (c : Int)) := by
  obtain ⟨hb, hu3⟩ := hu.first hl
  rw [hd, List.drop_drop] at hu3
  refine ⟨hu3, ?_⟩
  have ht : l.take (pos + n) = l.take pos ++ (l.drop pos).take n := List.take_add
  rw [ht, LX.esc_append]
  congr 1
  rcases LX.rune_parts hl hb hd with ⟨b, q, e, hbc, hlt, rfl, hen⟩ | ⟨hge, hhi, hen, htl⟩
  · have hb1 : (l.drop pos).take 1 = [b] := by rw [e]; rfl
    rw [hb1, hen]
    have hs : spec c = true ↔ b = 34 ∨ b = 92 := by
      rw [spec_iff]
      constructor
      · rintro (h | h)
        · exact .inl (UInt8.toNat_inj.1 (hbc.trans h))
        · exact .inr (UInt8.toNat_inj.1 (hbc.trans h))
      · rintro (h | h)
        · exact .inl (by rw [← hbc, h]; rfl)
        · exact .inr (by rw [← hbc, h]; rfl)
    by_cases h : b = 34 ∨ b = 92
    · rw [if_pos (hs.2 h)]
      simp only [LX.esc, if_pos h]
    · rw [if_neg (fun e => h (hs.1 e))]
      simp only [LX.esc, if_neg h]
  · have hs : spec c = false := by
      rw [Bool.eq_false_iff]
      intro h
      have := (spec_iff c).1 h
      omega
    rw [hs, hen, LX.esc_high _ hhi]
    rfl

/-- A row of bytes that the call owns. -/
def Ow (B : Nat) (w : World) (v : Value) (l : List UInt8) : Prop := w.ownsRowF B 5 1 v l.length (Lib.byteCells l)

theorem Ow.off {B : Nat} {w : World} {v : Value} {l : List UInt8} (h : Ow B w v l) {k : Nat} {s : ByteArray} {p : Nat} (hk : w.heap[k]? = some (.stringIter s p)) : v.ownBlock ≠ some k := by
  rcases h.2 with ⟨rfl, _⟩ | ⟨g, cap, cur, fz, rfl, _, hg, _⟩
  · simp [Value.ownBlock]
  · intro e
    simp only [Value.ownBlock, Option.some.injEq] at e
    subst e
    rw [hk] at hg
    cases hg

theorem Ow.iterAt {B : Nat} {w : World} {v : Value} {l : List UInt8} (h : Ow B w v l) {k : Nat} {s : ByteArray} {p : Nat} (hk : w.heap[k]? = some (.stringIter s p)) (q : Nat) : Ow B (w.iterAt k s q) v l := by
  refine ⟨h.1, ?_⟩
  have ho := h.off hk
  rcases h.2 with hn | ⟨g, cap, cur, fz, rfl, hb, hg, rest⟩
  · exact .inl hn
  · refine .inr ⟨g, cap, cur, fz, rfl, hb, ?_, rest⟩
    rw [Lib.iterAt_other w k g s q (fun e => ho (by subst e; rfl))]
    exact hg

theorem Ow.new {B : Nat} (w : World) (b : UInt8) (n : Nat) (hn : b.toNat = n) (hB : B ≤ w.heap.size) : Ow B (w.alloc (.cells #[.int .u8 (n : Int)] 5)) (.slice (some ⟨w.heap.size, 0, none⟩) 1 1) [b] := by
  subst hn
  exact World.ownsRowF_of (World.ownsRow_lit w #[.int .u8 (b.toNat : Int)] 1 hB (by unfold maxLen; omega) rfl)

theorem grown_below {n : Nat} {a W w' : World} {row : Option Nat} (h : Below n a W) (hs : n ≤ W.heap.size) (hg : W.grownBy w' row) (hr : ∀ k, row = some k → n ≤ k) : Below n a w' :=
  h.trans ⟨hg.os, hg.tape, hg.output, hg.size, fun k hk => hg.block k (by omega) (fun e => by have := hr k e.symm; omega)⟩

theorem Ow.str {B : Nat} {w : World} {v : Value} {l : List UInt8} (h : Ow B w v l) : (convert 70 9 v).run Tryz.prog w = .ok (.string ⟨l.toArray⟩) w := by
  have hc : ∀ g, v.ownBlock = some g → ∀ j u, (Lib.byteCells l)[j]? = some u → w.cell? ((⟨g, 0, none⟩ : Addr).add j) = some u := fun g hg => World.ownsRowF.cells h hg
  rcases h.2 with ⟨rfl, h0⟩ | ⟨g, cap, cur, fz, rfl, _, hg, _⟩
  · obtain rfl : l = [] := List.eq_nil_of_length_eq_zero h0
    rw [run_convert_bytes_string w 70 9 5 none 0 0 Tryz.underlying70 Tryz.underlying5 Tryz.underlying9]
    simp [Conv.bytesToString]
    rfl
  · exact run_convert_bytes_back w 70 9 5 ⟨g, 0, none⟩ cap l Tryz.underlying70 Tryz.underlying5 Tryz.underlying9 (fun j hj => hc g rfl j _ (by simp [Lib.byteCells, List.getElem?_map, List.getElem?_eq_getElem hj]))

theorem info5 : (Tryz.prog.info? 5).map (fun i => (i.zero, i.size, i.bytes)) = some (some (.int .u8 0), 1, 1) := by kernel_rfl

theorem rune_cells (c : Nat) : Lib.byteCells (Lib.encodeRune (c : Int)) = Lib.runeCells (c : Int) := Lib.byteCells_encodeRune _

/-- AppendRune, onto such a row. -/
theorem appendRune_any {B : Nat} {v : Value} {l : List UInt8} (c : Nat) (hc : c ≤ 1114111) (w : World) (ho : Ow B w v l) (hlen : l.length ≤ 10000000) (hB : B ≤ w.heap.size) :
    Calls Tryz.prog 66 #[v, .int .i32 (c : Int)] w fun e w' => ∃ v', e = .returned v' ∧ Ow B w' v' (l ++ Lib.encodeRune (c : Int)) ∧ ∃ o, (w.alloc o).grownBy w' v.ownBlock := by
  refine (Tryz.utf8_AppendRune_row B v l.length (Lib.byteCells l) (c : Int) (by omega) (by omega) w ho (by omega) hB).mono ?_
  rintro e w' ⟨v', rfl, h1, h2⟩
  refine ⟨v', rfl, ?_, h2⟩
  unfold Ow
  have e1 : (l ++ Lib.encodeRune (c : Int)).length = l.length + (Lib.runeCells (c : Int)).length := by
    rw [List.length_append, ← rune_cells, Lib.byteCells, List.length_map]
  have e2 : Lib.byteCells (l ++ Lib.encodeRune (c : Int)) = Lib.byteCells l ++ Lib.runeCells (c : Int) := by
    rw [← rune_cells]
    unfold Lib.byteCells
    rw [List.map_append]
  rw [e1, e2]
  exact h1

theorem dec_max (l : List UInt8) : (MW.dec l).1 ≤ 1114111 := by
  rw [← LX.dec_L]
  exact Lib.decodeL_rune l

theorem Ow.app {B : Nat} {w : World} {v : Value} {l : List UInt8} {b : UInt8} {n : Nat} (hn : b.toNat = n) (h : w.ownsRowF B 5 1 v (l.length + 1) (Lib.byteCells l ++ [.int .u8 (n : Int)])) : Ow B w v (l ++ [b]) := by
  subst hn
  unfold Ow
  have e2 : Lib.byteCells (l ++ [b]) = Lib.byteCells l ++ [.int .u8 (b.toNat : Int)] := by
    unfold Lib.byteCells
    rw [List.map_append]
    rfl
  rw [List.length_append, e2]
  exact h

theorem size_alloc (w : World) (o : Obj) : (w.alloc o).heap.size = w.heap.size + 1 := by simp

/-- What an append leaves. -/
theorem Ow.after {n B k p : Nat} {w W w2 : World} {s : ByteArray} {v : Value} {l : List UInt8} {o : Obj} (hb : Below n w W) (hn : n ≤ B) (hB : B ≤ W.heap.size) (ho : Ow B W v l) (hk : W.heap[k]? = some (.stringIter s p)) (hg : (W.alloc o).grownBy w2 v.ownBlock) :
    Below n w w2 ∧ w2.heap[k]? = some (.stringIter s p) ∧ B ≤ w2.heap.size := by
  have hlt : k < W.heap.size := (Array.getElem?_eq_some_iff.1 hk).1
  have hs := hg.size
  simp only [size_alloc] at hs
  refine ⟨grown_below (hb.alloc (Nat.le_trans hn hB) o) (by simp; omega) hg (fun j hj => Nat.le_trans hn (World.ownsRowF.lt ho j hj).1), ?_, by omega⟩
  rw [hg.block k (by simp; omega) (fun e => ho.off hk e.symm), Below.heap_alloc W o k hlt]
  exact hk

set_option maxHeartbeats 2000000 in
set_option maxRecDepth 100000 in
/-- lex.IsText. -/
theorem own_isText_any (s : ByteArray) (hlen : s.size ≤ 1048576) (w : World) (hT : Lib.Utf8Tabs 4 5 w) :
    Calls Tryz.prog 64 #[.string s] w fun e w' => e = .returned (.bool (LX.isText s.data.toList)) ∧ Below w.heap.size w w' := by
  have hsz : s.data.toList.length = s.size := (Lib.size_eq s).symm
  have HBR := Lib.hid (broken_any s hlen w hT)
  clear hT
  obtain ⟨v, hv⟩ : ∃ v, LX.valid s.data.toList = v := ⟨_, rfl⟩
  have hte : LX.isText s.data.toList = (!s.data.toList.contains 10 && decide (v = s.size)) := by
    unfold LX.isText
    rw [hv, hsz]
  rw [hv] at HBR
  have HTE := Lib.hid hte
  clear hte hv hsz
  have HCO := Lib.hid (fun w => Tryz.strings_Contains_one s 10 w)
  rw [index_contains] at HCO
  by_cases h : v = s.size
  · subst h
    go_enter Tryz.func64, Tryz.ntmps64
    go_wp2_with fail
    refine HBR.out.mono ?_
    rintro e w1 ⟨rfl, hb1⟩
    go_wp2_with fail
    refine (HCO.out w1).mono ?_
    rintro e w2 ⟨rfl, rfl⟩
    go_wp2_with fail
    go_ret
    refine ⟨ret_bool ?_, hb1⟩
    rw [HTE.out]
    simp
  · have h' : ((v : Int) == (s.size : Int)) = false := by simp; omega
    go_enter Tryz.func64, Tryz.ntmps64
    go_wp2_with fail
    refine HBR.out.mono ?_
    rintro e w1 ⟨rfl, hb1⟩
    go_wp2_with fail
    go_ret
    refine ⟨ret_bool ?_, hb1⟩
    rw [HTE.out, decide_eq_false h, Bool.and_false]

set_option maxHeartbeats 4000000 in
set_option maxRecDepth 100000 in
/-- lex.Quote. -/
theorem own_quote_any (s : ByteArray) (hlen : s.size ≤ 1048576) (w : World) (hT : Lib.Utf8Tabs 4 5 w) :
    Calls Tryz.prog 46 #[.string s] w fun e w' => e = .returned (.string ⟨(LX.quote s.data.toList).toArray⟩) ∧ Below w.heap.size w w' := by
  obtain ⟨i5, hi5, hz5, hs5, hb5⟩ := info_parts info5
  have hsz : s.data.toList.length = s.size := (Lib.size_eq s).symm
  have HZ := Lib.hid hsz
  clear hsz
  have HIT := Lib.hid (own_isText_any s hlen w hT)
  clear hT
  cases hb : LX.isText s.data.toList with
  | false =>
    have HQ : Hid (LX.quote s.data.toList = []) := Lib.hid (by unfold LX.quote; rw [hb]; rfl)
    rw [hb] at HIT
    clear hb
    go_enter Tryz.func46, Tryz.ntmps46
    go_wp2_with fail
    refine HIT.out.mono ?_
    rintro e w1 ⟨rfl, hb1⟩
    go_wp2_with fail
    go_ret
    exact ⟨by rw [HQ.out]; rfl, hb1⟩
  | true =>
    have HQ := Lib.hid (LX.quote_of hb)
    have hu : LX.U8 s.data.toList := (LX.u8_iff _).1 (by
      unfold LX.isText at hb
      rw [Bool.and_eq_true] at hb
      exact of_decide_eq_true hb.2)
    have HU := Lib.hid hu
    rw [hb] at HIT
    clear hb hu
    go_enter Tryz.func46, Tryz.ntmps46
    go_wp2_with fail
    refine HIT.out.mono ?_
    rintro e w1 ⟨rfl, hb1⟩
    have HB1 := Lib.hid hb1
    have HB1S := Lib.hid hb1.size
    clear hb1 HIT
    go_wp2_with fail
    go_loopw [3] (fun v wr => ∃ (pos : Nat), wr.heap[w1.heap.size + 1]? = some (.stringIter s pos) ∧ Below w.heap.size w wr ∧ Ow w1.heap.size wr v (34 :: LX.esc (s.data.toList.take pos)) ∧ pos ≤ s.size ∧ LX.U8 (s.data.toList.drop pos)) (fun _ wr => s.size - wr.iterPos (w1.heap.size + 1))
    case atStart =>
      refine ⟨0, ?_, ?_, ?_, Nat.zero_le _, by rw [List.drop_zero]; exact HU.out⟩
      · have := World.iter_heap (w1.alloc (.cells #[.int .u8 34] 5)) s 0
        simp only [size_alloc] at this
        exact this
      · have h1 : Below w.heap.size w (w1.alloc (.cells #[.int .u8 34] 5)) := HB1.out.alloc HB1S.out _
        exact h1.alloc h1.size _
      · exact World.ownsRowF.alloc (Ow.new w1 34 34 rfl (Nat.le_refl _)) _
    case round =>
      obtain ⟨pos, hit, hb, ho, hp, hu⟩ := hrel
      have hel := (LX.esc_len (s.data.toList.take pos)).2
      have htl : (s.data.toList.take pos).length ≤ s.size := by rw [List.length_take, HZ.out]; omega
      obtain ⟨l, hl⟩ : ∃ l, l = 34 :: LX.esc (s.data.toList.take pos) := ⟨_, rfl⟩
      have hll : l.length ≤ 2097153 := by rw [hl, List.length_cons]; omega
      rw [← hl] at ho
      by_cases hlt : pos < s.size
      · obtain ⟨c, n, hd⟩ : ∃ c n, MW.dec (s.data.toList.drop pos) = (c, n) := ⟨_, _, rfl⟩
        have hn := MW.dec_drop (l := s.data.toList) (pos := pos) (by rw [HZ.out]; exact hlt)
        rw [hd, HZ.out] at hn
        simp only at hn
        have hne : s.data.toList.drop pos ≠ [] := by
          intro e
          have := congrArg List.length e
          rw [List.length_drop, HZ.out] at this
          simp at this
          omega
        have hcm := dec_max (s.data.toList.drop pos)
        rw [hd] at hcm
        obtain ⟨hu2, hes⟩ := LX.esc_step hne hu hd
        have hl2 : (34 : UInt8) :: LX.esc (s.data.toList.take (pos + n)) = l ++ (if spec c = true then 92 :: Lib.encodeRune (c : Int) else Lib.encodeRune (c : Int)) := by rw [hes, hl]; rfl
        have hnx := fun ty => next_at wr _ s pos ty hit hlt c n hd
        have hit1 := Lib.iterAt_heap wr _ s pos (pos + n) hit
        have hb1 := Lib.below_iterAt hb (k := w1.heap.size + 1) (Nat.le_trans HB1S.out (Nat.le_succ _)) s (pos + n)
        have ho1 := ho.iterAt hit (pos + n)
        obtain ⟨W, hW⟩ : ∃ W, W = wr.iterAt (w1.heap.size + 1) s (pos + n) := ⟨_, rfl⟩
        rw [← hW] at hit1 hb1 ho1
        have hwl : w1.heap.size + 1 < W.heap.size := (Array.getElem?_eq_some_iff.1 hit1).1
        have hnx' : ∀ ty, (Instr.next (.pointer (some ⟨w1.heap.size + 1, 0, none⟩)) true ty).run Tryz.prog wr = .ok (.tuple #[.bool true, .int .i64 (pos : Int), .int .i32 (c : Int)]) W := fun ty => by rw [hW]; exact hnx ty
        have HIT := Lib.hid hit1
        have HB := Lib.hid hb1
        have HO := Lib.hid ho1
        have HU2 := Lib.hid hu2
        have HL2 := Lib.hid hl2
        have HP0 := Lib.hid (iterPos_of hit)
        have HWL := Lib.hid hwl
        have HCM := Lib.hid hcm
        have HS := Lib.hid (special_any c W)
        obtain ⟨g, hg⟩ : ∃ g, spec c = g := ⟨_, rfl⟩
        rw [hg] at HS HL2
        clear hnx hd hne hit hb ho hu hit1 hb1 ho1 hu2 hes hl2 hwl hcm hg hW hl hel htl
        cases g with
        | true =>
          go_wp2_with fail
          refine HS.out.mono ?_
          rintro e w' ⟨rfl, rfl⟩
          go_wp2_with (at_builtin; refine wpList_append_ownF _ rfl _ _ 70 rfl w1.heap.size 5 i5 (.int .u8 0) 1 1 Tryz.underlying70 hi5 hz5 hs5 hb5 rfl (by decide) _ _ _ rfl (World.ownsRowF.alloc HO.out _) ⟨W.heap.size, 0, none⟩ 1 1 [.int .u8 92] rfl rfl ?c1 ?c2 ?c3 ?c4 ?c5 ?_)
          case c1 =>
            intro j u hj
            match j, hj with
            | 0, hj => simp at hj; subst hj; simp [Addr.add]
            | (j + 1), hj => simp at hj
          case c2 => intro u hu; simp at hu; subst hu; rfl
          case c3 => unfold maxLen; omega
          case c4 => omega
          case c5 => have := HWL.out; simp; omega
          intro v' w2 hown' hgrow _
          have ho2 := Ow.app (b := 92) rfl hown'
          obtain ⟨hb2, hi2, hB2⟩ := Ow.after HB.out HB1S.out (by have := HWL.out; omega) HO.out HIT.out hgrow
          have HO2 := Lib.hid ho2
          have HB2 := Lib.hid hb2
          have HI2 := Lib.hid hi2
          have HBS2 := Lib.hid hB2
          have HA := Lib.hid (appendRune_any c HCM.out w2 ho2 (by rw [List.length_append]; simp; omega) hB2)
          clear hown' hgrow ho2 hb2 hi2 hB2
          go_wp2_with fail
          refine HA.out.mono ?_
          rintro e w3 ⟨v3, rfl, ho3, o, hg3⟩
          obtain ⟨hb3, hi3, hB3⟩ := Ow.after HB2.out HB1S.out HBS2.out HO2.out HI2.out hg3
          have HO3 := Lib.hid ho3
          have HB3 := Lib.hid hb3
          have HI3 := Lib.hid hi3
          clear hg3 ho3 hb3 hi3 hB3
          go_wp2_with fail
          go_roundw
          case rel =>
            refine ⟨pos + n, HI3.out, HB3.out, ?_, by omega, HU2.out⟩
            rw [HL2.out]
            have := HO3.out
            rw [List.append_assoc] at this
            exact this
          case measure => rw [HP0.out, iterPos_of HI3.out]; omega
        | false =>
          have HA := Lib.hid (appendRune_any c HCM.out W HO.out (by omega) (by have := HWL.out; omega))
          go_wp2_with fail
          refine HS.out.mono ?_
          rintro e w' ⟨rfl, rfl⟩
          go_wp2_with fail
          refine HA.out.mono ?_
          rintro e w3 ⟨v3, rfl, ho3, o, hg3⟩
          obtain ⟨hb3, hi3, hB3⟩ := Ow.after HB.out HB1S.out (by have := HWL.out; omega) HO.out HIT.out hg3
          have HO3 := Lib.hid ho3
          have HB3 := Lib.hid hb3
          have HI3 := Lib.hid hi3
          clear hg3 ho3 hb3 hi3 hB3
          go_wp2_with fail
          go_roundw
          case rel =>
            refine ⟨pos + n, HI3.out, HB3.out, ?_, by omega, HU2.out⟩
            rw [HL2.out]
            exact HO3.out
          case measure => rw [HP0.out, iterPos_of HI3.out]; omega
      · obtain rfl : pos = s.size := by omega
        have hnx := fun ty => Lib.run_next_end_at (P := Tryz.prog) wr _ s s.size ty hit hlt
        have HL : Hid (LX.quote s.data.toList = l ++ [34]) := Lib.hid (by
          rw [HQ.out, hl, List.take_of_length_le (by rw [HZ.out]; exact Nat.le_refl _)]
          rfl)
        have hwl : w1.heap.size + 1 < wr.heap.size := (Array.getElem?_eq_some_iff.1 hit).1
        have HB := Lib.hid hb
        have HO := Lib.hid ho
        have HIT := Lib.hid hit
        have HWL := Lib.hid hwl
        clear hb hit ho hl hel htl hwl hu
        go_wp2_with (at_builtin; refine wpList_append_ownF _ rfl _ _ 70 rfl w1.heap.size 5 i5 (.int .u8 0) 1 1 Tryz.underlying70 hi5 hz5 hs5 hb5 rfl (by decide) _ _ _ rfl (World.ownsRowF.alloc HO.out _) ⟨wr.heap.size, 0, none⟩ 1 1 [.int .u8 34] rfl rfl ?d1 ?d2 ?d3 ?d4 ?d5 ?_)
        case d1 =>
          intro j u hj
          match j, hj with
          | 0, hj => simp at hj; subst hj; simp [Addr.add]
          | (j + 1), hj => simp at hj
        case d2 => intro u hu; simp at hu; subst hu; rfl
        case d3 => unfold maxLen; omega
        case d4 => omega
        case d5 => have := HWL.out; simp; omega
        intro v' w2 hown' hgrow _
        have ho2 := Ow.app (b := 34) rfl hown'
        obtain ⟨hb2, _, _⟩ := Ow.after HB.out HB1S.out (by have := HWL.out; omega) HO.out HIT.out hgrow
        have hcv := ho2.str
        have HB2 := Lib.hid hb2
        clear hown' hgrow hb2 ho2
        go_wp2_with fail
        go_ret
        exact ⟨by rw [HL.out]; rfl, HB2.out⟩

end Go.Proofs.YtkckgjanfiiieaaGreatDoor
