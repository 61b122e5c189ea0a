/-
  LETTERS, WORDS, NAMES: word.Letter, word.Is; record's plain, digit, Name.
  RUNES AND THEIR BYTES; A TEXT READ RUNE BY RUNE: no program in it.
  PACKAGE lex: special, letter, step; IsWord.
  PACKAGE lex: broken, IsText.
  PACKAGE lex: rowSize, number, row.
  PACKAGE lex: row.
  PACKAGE lex: text.
-/
import Derived.Test.YtkckgjanfiiieaaGreatDoorWdA
import Derived.Test.YtkckgjanfiiieaaGreatDoorLxA
import Derived.Lib.MapLaws
import Derived.Lib.RuneBytes
import Derived.Laws.Cover4
import Derived.Test.YtkckgjanfiiieaaGreatDoorLxS
import Derived.OwnWalk
import Derived.Test.YtkckgjanfiiieaaGreatDoorTab
namespace Go.Proofs.YtkckgjanfiiieaaGreatDoor
open Go.RowKit Go

theorem iterPos_of {w : World} {k : Nat} {s : ByteArray} {pos : Nat} (h : w.heap[k]? = some (.stringIter s pos)) : w.iterPos k = pos := by simp [World.iterPos, h]

theorem Lay.iterAt {a w : World} (h : Lay a w) {k : Nat} (hk : a.heap.size ≤ k) (s : ByteArray) (p : Nat) : Lay a (w.iterAt k s p) :=
  have b := Lib.below_iterAt (Lay.below h) (k := k) hk s p
  ⟨b.os, b.tape, b.output, b.size, h.drawn, fun k hk _ => b.block k hk⟩

/-- What a step of a range over a string hands over. -/
theorem next_at (w : World) (k : Nat) (s : ByteArray) (pos : Nat) (ty : TypeId) (hk : w.heap[k]? = some (.stringIter s pos)) (h : pos < s.size) (c n : Nat) (hd : MW.dec (s.data.toList.drop pos) = (c, n)) :
    (Instr.next (.pointer (some ⟨k, 0, none⟩)) true ty).run Tryz.prog w = .ok (.tuple #[.bool true, .int .i64 pos, .int .i32 c]) (w.iterAt k s (pos + n)) := by
  have := Lib.run_next_any_at (P := Tryz.prog) w k s pos ty hk h
  rw [MW.dec_at, hd] at this
  exact this

end Go.Proofs.YtkckgjanfiiieaaGreatDoor

namespace Go.Proofs.YtkckgjanfiiieaaGreatDoor.LX
open Go MW

theorem dec_L (l : List UInt8) : Lib.decodeL l = dec l := Lib.decodeL_N l

theorem enc_dec {l : List UInt8} (hl : l ≠ []) (h : bad l = false) {c n : Nat} (hd : dec l = (c, n)) : Lib.encodeRune (c : Int) = l.take n := by
  have hv : ¬ ((Lib.decodeL l).1 = 65533 ∧ (Lib.decodeL l).2 = 1) := fun ⟨a, b⟩ => by
    rw [dec_L] at a b
    unfold bad at h
    rw [a, b] at h
    simp at h
  have := Lib.encode_decode l hl hv
  rw [dec_L, hd] at this
  exact this

/-- The bytes of runes. -/
def enc (rs : List Nat) : List UInt8 := rs.flatMap fun r : Nat => Lib.encodeRune (r : Int)

theorem enc_snoc (rs : List Nat) (c : Nat) : enc (rs ++ [c]) = enc rs ++ Lib.encodeRune (c : Int) := by
  unfold enc
  rw [List.flatMap_append]
  simp

/-! ### A text, read rune by rune: 0 it goes on, 1 by what stands behind a stroke, 2 it is ended, 3 it is none -/

def stepN (st c : Nat) : Nat := if st = 1 ∧ (c = 34 ∨ c = 92) then 0 else if st = 1 ∨ c = 10 then 3 else if c = 92 then 1 else if c = 34 then 2 else 0

structure TI (l : List UInt8) (pos st : Nat) (rs : List Nat) : Prop where
  st1 : st ≤ 1
  u8 : U8 (l.drop pos)
  len : rs.length ≤ pos
  eq : text l = if st = 0 then (text (l.drop pos)).map (fun q => (enc rs ++ q.1, pos + q.2)) else (text (92 :: l.drop pos)).map fun q => (enc rs ++ q.1, pos + q.2 - 1)

theorem TI.none {l : List UInt8} {pos st : Nat} {rs : List Nat} (h : TI l pos st rs) (hd : l.drop pos = []) : text l = .none := by
  rw [h.eq, hd]
  split
  · rfl
  · rw [text_esc0]; rfl

/-- What a rune says of the bytes that it stands for. -/
theorem rune_parts {l : List UInt8} (hl : l ≠ []) (hb : bad l = false) {c n : Nat} (hd : dec l = (c, n)) :
    (∃ b q, l = b :: q ∧ b.toNat = c ∧ c < 128 ∧ n = 1 ∧ Lib.encodeRune (c : Int) = [b]) ∨ (128 ≤ c ∧ (∀ x ∈ l.take n, 128 ≤ x.toNat) ∧ Lib.encodeRune (c : Int) = l.take n ∧ (l.take n).length = n) := by
  have he := enc_dec hl hb hd
  have hk := (dec_keep l hl hb).2
  have hle := dec_le l hl
  have hp := dec_pos l
  rw [hd] at hk hle hp
  simp only at hk hle hp
  rcases hk with ⟨b, q, rfl, hlt, h1⟩ | hhi
  · have h2 := dec_low b q hlt
    rw [hd] at h2
    simp only [Prod.mk.injEq] at h2
    obtain ⟨rfl, rfl⟩ := h2
    exact .inl ⟨b, q, rfl, rfl, hlt, rfl, by rw [he]; rfl⟩
  · refine .inr ⟨?_, hhi, he, by rw [List.length_take]; omega⟩
    cases l with
    | nil => exact absurd rfl hl
    | cons b q =>
      have hb128 : 128 ≤ b.toNat := hhi b (by
        obtain ⟨k, rfl⟩ : ∃ k, n = k + 1 := ⟨n - 1, by omega⟩
        simp)
      by_cases hc : c < 128
      · exfalso
        have e1 := he
        unfold Lib.encodeRune at e1
        rw [Lib.encodeRuneZ_one (by omega) (by omega)] at e1
        obtain ⟨k, rfl⟩ : ∃ k, n = k + 1 := ⟨n - 1, by omega⟩
        simp only [List.map_cons, List.map_nil, List.take_succ_cons, List.cons.injEq] at e1
        have := congrArg UInt8.toNat e1.1
        have h3 : ((c : Int).toNat.toUInt8).toNat = c := by
          rw [Int.toNat_natCast]
          show (UInt8.ofNat c).toNat = c
          rw [UInt8.toNat_ofNat']
          omega
        rw [h3] at this
        omega
      · omega

theorem byte_ne {b k : UInt8} {c : Nat} (hb : b.toNat = c) (h : c ≠ k.toNat) : b ≠ k := fun e => h (by rw [← hb, e])

theorem U8.first {l : List UInt8} (h : U8 l) (hl : l ≠ []) : bad l = false ∧ U8 (l.drop (dec l).2) := by
  cases h with
  | nil => exact absurd rfl hl
  | step _ h2 h3 => exact ⟨h2, h3⟩

theorem TI.next {l : List UInt8} {pos st : Nat} {rs : List Nat} (h : TI l pos st rs) (hl : l.drop pos ≠ []) {c n : Nat} (hd : dec (l.drop pos) = (c, n)) :
    (stepN st c = 0 → TI l (pos + n) 0 (rs ++ [c])) ∧ (stepN st c = 1 → TI l (pos + n) 1 rs) ∧ (stepN st c = 2 → text l = some (enc rs, pos + 1)) ∧ (stepN st c = 3 → text l = .none) := by
  have hu := h.u8
  have hp := dec_pos (l.drop pos)
  rw [hd] at hp
  simp only at hp
  obtain ⟨hb, hu3⟩ : bad (l.drop pos) = false ∧ U8 (l.drop (pos + n)) := by
    have h := hu.first hl
    rw [hd, List.drop_drop] at h
    exact h
  have hlen := h.len
  have hlen1 : (rs ++ [c]).length ≤ pos + n := by rw [List.length_append, List.length_singleton]; omega
  have heq := h.eq
  have hst := h.st1
  have drop1 : ∀ {b : UInt8} {q : List UInt8}, l.drop pos = b :: q → l.drop (pos + 1) = q := fun e => by
    rw [← List.drop_drop, e]
    rfl
  rcases rune_parts hl hb hd with ⟨b, q, e, hbc, hlt, rfl, hen⟩ | ⟨hge, hhi, hen, htl⟩
  · have hq := drop1 e
    have one : ∀ k, k < 256 → c = k → b = UInt8.ofNat k := fun k hk hc => UInt8.toNat_inj.1 (by rw [hbc, UInt8.toNat_ofNat', hc]; omega)
    by_cases h1 : st = 1
    · subst h1
      rw [if_neg (by decide), e] at heq
      by_cases hs : c = 34 ∨ c = 92
      · have hbs : b = 34 ∨ b = 92 := hs.imp (one 34 (by omega)) (one 92 (by omega))
        have e0 : stepN 1 c = 0 := if_pos ⟨rfl, hs⟩
        rw [text_esc, if_pos hbs, Option.map_map] at heq
        refine ⟨fun _ => ⟨by omega, hu3, hlen1, ?_⟩, by rw [e0]; simp, by rw [e0]; simp, by rw [e0]; simp⟩
        rw [heq, if_pos rfl, hq]
        congr 1
        funext x
        simp only [Function.comp, enc_snoc, hen, List.append_assoc, List.singleton_append, Prod.mk.injEq, true_and]
        omega
      · have e0 : stepN 1 c = 3 := by
          unfold stepN
          rw [if_neg (fun h => hs h.2), if_pos (.inl rfl)]
        refine ⟨by rw [e0]; simp, by rw [e0]; simp, by rw [e0]; simp, fun _ => ?_⟩
        rw [heq, text_esc, if_neg]
        · rfl
        · rintro (h | h)
          · exact hs (.inl (by rw [← hbc, h]; rfl))
          · exact hs (.inr (by rw [← hbc, h]; rfl))
    · obtain rfl : st = 0 := by omega
      rw [if_pos rfl, e] at heq
      by_cases h10 : c = 10
      · have e0 : stepN 0 c = 3 := by subst h10; rfl
        refine ⟨by rw [e0]; simp, by rw [e0]; simp, by rw [e0]; simp, fun _ => ?_⟩
        rw [heq, one 10 (by omega) h10]
        show Option.map _ (text (10 :: q)) = _
        rw [text_lf]
        rfl
      by_cases h92 : c = 92
      · have e0 : stepN 0 c = 1 := by subst h92; rfl
        refine ⟨by rw [e0]; simp, fun _ => ⟨by omega, hu3, by omega, ?_⟩, by rw [e0]; simp, by rw [e0]; simp⟩
        rw [heq, if_neg (by decide), hq, one 92 (by omega) h92]
        show Option.map _ (text (92 :: q)) = _
        congr 1
        funext x
        simp only [Prod.mk.injEq, true_and]
        omega
      by_cases h34 : c = 34
      · have e0 : stepN 0 c = 2 := by subst h34; rfl
        refine ⟨by rw [e0]; simp, by rw [e0]; simp, fun _ => ?_, by rw [e0]; simp⟩
        rw [heq, one 34 (by omega) h34]
        show Option.map _ (text (34 :: q)) = _
        rw [text_end]
        simp
      · have e0 : stepN 0 c = 0 := by simp [stepN, h10, h92, h34]
        refine ⟨fun _ => ⟨by omega, hu3, hlen1, ?_⟩, by rw [e0]; simp, by rw [e0]; simp, by rw [e0]; simp⟩
        rw [heq, text_other b q (byte_ne hbc h10) (byte_ne hbc h34) (byte_ne hbc h92), if_pos rfl, hq, Option.map_map]
        congr 1
        funext x
        simp only [Function.comp, enc_snoc, hen, List.append_assoc, List.singleton_append, Prod.mk.injEq, true_and]
        omega
  · by_cases h1 : st = 1
    · subst h1
      rw [if_neg (by decide)] at heq
      have e0 : stepN 1 c = 3 := by
        unfold stepN
        rw [if_neg (by omega), if_pos (.inl rfl)]
      refine ⟨by rw [e0]; simp, by rw [e0]; simp, by rw [e0]; simp, fun _ => ?_⟩
      cases hq : l.drop pos with
      | nil => exact absurd hq hl
      | cons b q =>
        have hb128 : 128 ≤ b.toNat := hhi b (by
          rw [hq]
          obtain ⟨k, rfl⟩ : ∃ k, n = k + 1 := ⟨n - 1, by omega⟩
          simp)
        rw [heq, hq, text_esc, if_neg]
        · rfl
        · rintro (h | h)
          · rw [h] at hb128; exact absurd hb128 (by decide)
          · rw [h] at hb128; exact absurd hb128 (by decide)
    · obtain rfl : st = 0 := by omega
      rw [if_pos rfl] at heq
      have e0 : stepN 0 c = 0 := by
        unfold stepN
        rw [if_neg (by omega), if_neg (by omega), if_neg (by omega), if_neg (by omega)]
      refine ⟨fun _ => ⟨by omega, hu3, hlen1, ?_⟩, by rw [e0]; simp, by rw [e0]; simp, by rw [e0]; simp⟩
      have ht := text_high ((l.drop pos).drop n) _ hhi
      rw [List.take_append_drop, List.drop_drop, htl] at ht
      rw [heq, ht, if_pos rfl, Option.map_map]
      congr 1
      funext x
      simp only [Function.comp, enc_snoc, hen, List.append_assoc, Prod.mk.injEq, true_and]
      omega

end Go.Proofs.YtkckgjanfiiieaaGreatDoor.LX

namespace Go.Proofs.YtkckgjanfiiieaaGreatDoor
open Go.RowKit Go

def spec (c : Nat) : Bool := decide (c = 34) || decide (c = 92)

theorem spec_iff (c : Nat) : spec c = true ↔ c = 34 ∨ c = 92 := by unfold spec; simp

set_option maxHeartbeats 1000000 in
theorem special_any (c : Nat) (w : World) : Calls Tryz.prog 65 #[.int .i32 (c : Int)] w fun e w' => e = .returned (.bool (spec c)) ∧ w = w' := by
  go_enter Tryz.func65, Tryz.ntmps65
  go_wp2
  all_goals
    go_ret
    refine ⟨ret_bool ?_, rfl⟩
    rw [Bool.eq_iff_iff, spec_iff]
    simp
    try omega

open LX (stepN)

end Go.Proofs.YtkckgjanfiiieaaGreatDoor

namespace Go.Proofs.YtkckgjanfiiieaaGreatDoor
open Go.RowKit Go

set_option maxHeartbeats 2000000 in
set_option maxRecDepth 100000 in
theorem broken_any (s : ByteArray) (_hlen : s.size ≤ 1048576) (w : World) (hT : Lib.Utf8Tabs 4 5 w) :
    Calls Tryz.prog 80 #[.string s] w fun e w' => e = .returned (.int .i64 (LX.valid s.data.toList : Nat)) ∧ Below w.heap.size w w' := by
  have hsz : s.data.toList.length = s.size := (Lib.size_eq s).symm
  have HZ := Lib.hid hsz
  clear hsz
  have HT := Lib.hid hT
  clear hT
  go_enter Tryz.func80, Tryz.ntmps80
  go_wp2_with fail
  go_loopw [] (fun wr => ∃ pos : Nat, wr.heap[w.heap.size]? = some (.stringIter s pos) ∧ Below w.heap.size w wr ∧ pos ≤ s.size ∧ LX.valid s.data.toList = pos + LX.valid (s.data.toList.drop pos)) (fun wr => s.size - wr.iterPos w.heap.size)
  case atStart => exact ⟨0, World.iter_heap w s 0, (Below.refl _ _).alloc (Nat.le_refl _) _, Nat.zero_le _, by simp⟩
  case round =>
    obtain ⟨pos, hit, hb, hp, hv⟩ := hrel
    by_cases hlt : pos < s.size
    · obtain ⟨c, n, hd⟩ : ∃ c n, MW.dec (s.data.toList.drop pos) = (c, n) := ⟨_, _, rfl⟩
      have hn := MW.dec_drop (l := s.data.toList) (pos := pos) (by rw [HZ.out]; exact hlt)
      rw [hd, HZ.out] at hn
      simp only at hn
      have hne : s.data.toList.drop pos ≠ [] := by
        intro e
        have := congrArg List.length e
        rw [List.length_drop, HZ.out] at this
        simp at this
        omega
      have hbad : LX.bad (s.data.toList.drop pos) = (decide (c = 65533) && decide (n = 1)) := by unfold LX.bad; rw [hd]
      have hstep := LX.valid_step _ hne
      rw [hd, List.drop_drop] at hstep
      simp only at hstep
      have HV := Lib.hid hv
      have HBAD := Lib.hid hbad
      have HST := Lib.hid hstep
      have hit1 := Lib.iterAt_heap wr _ s pos (pos + n) hit
      have HIT := Lib.hid hit1
      have hnx := fun ty => next_at wr _ s pos ty hit hlt c n hd
      have hb1 := Lib.below_iterAt hb (k := w.heap.size) (Nat.le_refl _) s (pos + n)
      have HB := Lib.hid hb1
      have HP0 := Lib.hid (iterPos_of hit)
      have HP1 := Lib.hid (iterPos_of hit1)
      have HL := Lib.hid (show w.heap.size < (wr.iterAt w.heap.size s (pos + n)).heap.size from (Array.getElem?_eq_some_iff.1 hit1).1)
      have HC := Lib.hid (decode_call s pos hlt c n hd (wr.iterAt w.heap.size s (pos + n)) (Utf8Tabs_below HT.out hb1))
      clear hd hbad hstep hne hv hit hit1 hb hb1
      by_cases hc : c = 65533
      · subst hc
        by_cases h1 : n = 1
        · subst h1
          go_wp2_with fail
          refine HC.out.mono ?_
          rintro e w1 ⟨rfl, hb1⟩
          have HB1 := Lib.hid (HB.out.trans (hb1.mono HB.out.size))
          clear hb1
          go_wp2_with fail
          go_ret
          refine ⟨?_, HB1.out⟩
          rw [HV.out, LX.valid_bad _ (by rw [HBAD.out]; rfl)]
          rfl
        · have h1' : ((n : Int) == 1) = false := by simp; omega
          go_wp2_with fail
          refine HC.out.mono ?_
          rintro e w1 ⟨rfl, hb1⟩
          have HB1 := Lib.hid (HB.out.trans (hb1.mono HB.out.size))
          have HIT1 := Lib.hid ((hb1.block _ HL.out).trans HIT.out)
          clear hb1
          go_wp2_with fail
          go_roundw
          case rel => exact ⟨pos + n, HIT1.out, HB1.out, by omega, by rw [HV.out, HST.out (by rw [HBAD.out]; simp [h1])]; omega⟩
          case measure => rw [HP0.out, iterPos_of HIT1.out]; omega
      · have hc' : ((c : Int) == 65533) = false := by simp; omega
        go_wp2_with fail
        go_roundw
        case rel => exact ⟨pos + n, HIT.out, HB.out, by omega, by rw [HV.out, HST.out (by rw [HBAD.out]; simp [hc])]; omega⟩
        case measure => rw [HP0.out, HP1.out]; omega
    · obtain rfl : pos = s.size := by omega
      have hnx := fun ty => Lib.run_next_end_at (P := Tryz.prog) wr _ s s.size ty hit hlt
      have HV := Lib.hid hv
      have HB := Lib.hid hb
      clear hv hb hit
      go_wp2_with fail
      go_ret
      refine ⟨?_, HB.out⟩
      rw [HV.out, List.drop_of_length_le (by rw [HZ.out]; exact Nat.le_refl _)]
      rfl

theorem index_contains (l : List UInt8) (c : UInt8) : decide (0 ≤ Lib.indexByte l c) = l.contains c := by
  induction l with
  | nil => rfl
  | cons b r ih =>
    have hg := Lib.indexByte_ge r c
    rw [List.contains_cons, ← ih, Lib.indexByte]
    by_cases h : b = c
    · subst h
      simp
    · have h1 : (b == c) = false := by simpa using h
      have h2 : (c == b) = false := by simpa using fun e : c = b => h e.symm
      rw [h1, h2]
      simp only [Bool.false_eq_true, if_false, Bool.false_or]
      by_cases h3 : Lib.indexByte r c = -1
      · rw [h3]; rfl
      · have h4 : (Lib.indexByte r c == -1) = false := by simpa using h3
        rw [h4]
        simp only [Bool.false_eq_true, if_false]
        rw [decide_eq_true (by omega : 0 ≤ Lib.indexByte r c), decide_eq_true (by omega)]

end Go.Proofs.YtkckgjanfiiieaaGreatDoor

namespace Go.Proofs.YtkckgjanfiiieaaGreatDoor
open Go.RowKit Go

theorem own_itoa_call {w : World} (hT : Lib.TabIs Tryz.prog w "internal/strconv.uint64pow10" .u64 Lib.pow10Tab) (n : Int) (h0 : -9223372036854775808 ≤ n) (h1 : n ≤ 9223372036854775807) (W : World) (hb : Below w.heap.size w W) :
    Calls Tryz.prog 36 #[.int .i64 n] W fun e w' => e = .returned (.string ⟨(Lib.itoa n).toArray⟩) ∧ Lay W w' := by
  refine (Tryz.strconv_Itoa n h0 h1 W (Joins.tab_stays gPow hT hb (Nat.le_refl _))).mono ?_
  rintro e w' ⟨he, k, os, rfl⟩
  exact ⟨he, Lay.of_grown _ _⟩

end Go.Proofs.YtkckgjanfiiieaaGreatDoor

namespace Go.Proofs.YtkckgjanfiiieaaGreatDoor.Own
open Go.RowKit Go

/-- A block of four cells. -/
structure Bx (W : World) (k : Nat) (u0 u1 u2 u3 : Value) : Prop where
  c0 : W.cell? ⟨k, 0, none⟩ = some u0
  c1 : W.cell? ⟨k, 1, none⟩ = some u1
  c2 : W.cell? ⟨k, 2, none⟩ = some u2
  c3 : W.cell? ⟨k, 3, none⟩ = some u3
  f0 : W.frozen? ⟨k, 0, none⟩ = false
  f1 : W.frozen? ⟨k, 1, none⟩ = false
  f2 : W.frozen? ⟨k, 2, none⟩ = false
  f3 : W.frozen? ⟨k, 3, none⟩ = false

theorem Bx.carry {W W' : World} {k : Nat} {u0 u1 u2 u3 : Value} (h : Bx W k u0 u1 u2 u3) (hb : W'.heap[k]? = W.heap[k]?) : Bx W' k u0 u1 u2 u3 :=
  ⟨(World.cell?_of_block (a := ⟨k, 0, none⟩) hb).trans h.c0, (World.cell?_of_block (a := ⟨k, 1, none⟩) hb).trans h.c1, (World.cell?_of_block (a := ⟨k, 2, none⟩) hb).trans h.c2, (World.cell?_of_block (a := ⟨k, 3, none⟩) hb).trans h.c3,
   (World.frozen?_of_block (a := ⟨k, 0, none⟩) hb).trans h.f0, (World.frozen?_of_block (a := ⟨k, 1, none⟩) hb).trans h.f1, (World.frozen?_of_block (a := ⟨k, 2, none⟩) hb).trans h.f2, (World.frozen?_of_block (a := ⟨k, 3, none⟩) hb).trans h.f3⟩

theorem Bx.set0 {W : World} {k : Nat} {u0 u1 u2 u3 : Value} (h : Bx W k u0 u1 u2 u3) (u : Value) : Bx (W.setCell ⟨k, 0, none⟩ u) k u u1 u2 u3 := by
  obtain ⟨c0, c1, c2, c3, f0, f1, f2, f3⟩ := h
  exact ⟨by go_simp, by go_simp, by go_simp, by go_simp, by go_simp, by go_simp, by go_simp, by go_simp⟩
theorem Bx.set1 {W : World} {k : Nat} {u0 u1 u2 u3 : Value} (h : Bx W k u0 u1 u2 u3) (u : Value) : Bx (W.setCell ⟨k, 1, none⟩ u) k u0 u u2 u3 := by
  obtain ⟨c0, c1, c2, c3, f0, f1, f2, f3⟩ := h
  exact ⟨by go_simp, by go_simp, by go_simp, by go_simp, by go_simp, by go_simp, by go_simp, by go_simp⟩
theorem Bx.set2 {W : World} {k : Nat} {u0 u1 u2 u3 : Value} (h : Bx W k u0 u1 u2 u3) (u : Value) : Bx (W.setCell ⟨k, 2, none⟩ u) k u0 u1 u u3 := by
  obtain ⟨c0, c1, c2, c3, f0, f1, f2, f3⟩ := h
  exact ⟨by go_simp, by go_simp, by go_simp, by go_simp, by go_simp, by go_simp, by go_simp, by go_simp⟩
theorem Bx.set3 {W : World} {k : Nat} {u0 u1 u2 u3 : Value} (h : Bx W k u0 u1 u2 u3) (u : Value) : Bx (W.setCell ⟨k, 3, none⟩ u) k u0 u1 u2 u := by
  obtain ⟨c0, c1, c2, c3, f0, f1, f2, f3⟩ := h
  exact ⟨by go_simp, by go_simp, by go_simp, by go_simp, by go_simp, by go_simp, by go_simp, by go_simp⟩

/-- A token that was stored there. -/
def stored (W : World) (k : Nat) (u0 u1 u2 u3 : Value) : World := (((W.setCell ⟨k, 0, none⟩ u0).setCell ⟨k, 1, none⟩ u1).setCell ⟨k, 2, none⟩ u2).setCell ⟨k, 3, none⟩ u3

theorem Bx.all {W : World} {k : Nat} {u0 u1 u2 u3 : Value} (h : Bx W k u0 u1 u2 u3) (v0 v1 v2 v3 : Value) : Bx (stored W k v0 v1 v2 v3) k v0 v1 v2 v3 :=
  (((h.set0 v0).set1 v1).set2 v2).set3 v3

end Go.Proofs.YtkckgjanfiiieaaGreatDoor.Own

namespace Go.Proofs.YtkckgjanfiiieaaGreatDoor.Own
open Go.RowKit Go

end Go.Proofs.YtkckgjanfiiieaaGreatDoor.Own
