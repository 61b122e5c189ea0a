/-
  LETTERS, WORDS, NAMES: word.Letter, word.Is; record's plain, digit, Name.
  RUNES AND THEIR BYTES; A TEXT READ RUNE BY RUNE: no program in it.
  PACKAGE lex: special, letter, step; IsWord.
  PACKAGE lex: broken, IsText.
  PACKAGE lex: rowSize, number, row.
  PACKAGE lex: row.
  PACKAGE lex: text.
-/
import Derived.Test.YtmodiemmcdocdaaGreatDoorQWdA
import Derived.Test.YtmodiemmcdocdaaGreatDoorQLxA
import Derived.Lib.MapLaws
import Derived.Lib.RuneBytes
import Derived.Laws.Cover4
import Derived.Test.YtmodiemmcdocdaaGreatDoorQLxS
import Derived.OwnWalk
import Derived.Test.YtmodiemmcdocdaaGreatDoorQTab
namespace Go.Proofs.YtmodiemmcdocdaaGreatDoor
open Go.RowKit Go

theorem iterPos_of {w : World} {k : Nat} {s : ByteArray} {pos : Nat} (h : w.heap[k]? = some (.stringIter s pos)) : w.iterPos k = pos := by simp [World.iterPos, h]

theorem Lay.iterAt {a w : World} (h : Lay a w) {k : Nat} (hk : a.heap.size ≤ k) (s : ByteArray) (p : Nat) : Lay a (w.iterAt k s p) :=
  have b := Lib.below_iterAt (Lay.below h) (k := k) hk s p
  ⟨b.os, b.tape, b.output, b.size, h.drawn, fun k hk _ => b.block k hk⟩

def letterI (c : Int) : Bool := if 128 ≤ c then c != 65533 else (decide (97 ≤ c) && decide (c ≤ 122)) || (decide (65 ≤ c) && decide (c ≤ 90)) || (decide (48 ≤ c) && decide (c ≤ 57)) || c == 95
theorem letterI_nat (n : Nat) : letterI n = MW.letter n := by
  unfold letterI MW.letter
  by_cases h : 128 ≤ n
  · rw [if_pos h, if_pos (by omega)]
    rw [Bool.eq_iff_iff]; simp; omega
  · rw [if_neg h, if_neg (by omega)]
    rw [Bool.eq_iff_iff]; simp; omega

theorem letterI_iff (c : Int) : letterI c = true ↔ (128 ≤ c ∧ c ≠ 65533) ∨ (97 ≤ c ∧ c ≤ 122) ∨ (65 ≤ c ∧ c ≤ 90) ∨ (48 ≤ c ∧ c ≤ 57) ∨ c = 95 := by
  unfold letterI
  split
  · simp; omega
  · simp; omega

set_option maxHeartbeats 1000000 in
theorem own_letter_any (c : Int) (w : World) : Calls Tryz.prog 134 #[.int .i32 c] w fun e w' => e = .returned (.bool (letterI c)) ∧ w = w' := by
  go_enter Tryz.func134, Tryz.ntmps134
  go_wp2
  all_goals
    go_ret
    refine ⟨ret_bool ?_, rfl⟩
    rw [Bool.eq_iff_iff, letterI_iff]
    simp
    try omega

theorem own_letter_nat (c : Nat) (b : Bool) (h : MW.letter c = b) (w : World) : Calls Tryz.prog 134 #[.int .i32 c] w fun e w' => e = .returned (.bool b) ∧ w = w' := by
  rw [← h, ← letterI_nat]
  exact own_letter_any c w

/-- What a step of a range over a string hands over. -/
theorem next_at (w : World) (k : Nat) (s : ByteArray) (pos : Nat) (ty : TypeId) (hk : w.heap[k]? = some (.stringIter s pos)) (h : pos < s.size) (c n : Nat) (hd : MW.dec (s.data.toList.drop pos) = (c, n)) :
    (Instr.next (.pointer (some ⟨k, 0, none⟩)) true ty).run Tryz.prog w = .ok (.tuple #[.bool true, .int .i64 pos, .int .i32 c]) (w.iterAt k s (pos + n)) := by
  have := Lib.run_next_any_at (P := Tryz.prog) w k s pos ty hk h
  rw [MW.dec_at, hd] at this
  exact this

set_option maxHeartbeats 1000000 in
/-- word.Is. -/
theorem own_is_any (s : ByteArray) (_hlen : s.size ≤ 70368744177664) (w : World) : Calls Tryz.prog 130 #[.string s] w fun e w' => e = .returned (.bool (MW.is s.data.toList)) ∧ Lay w w' := by
  have hsz : s.data.toList.length = s.size := Array.length_toList
  have HZ := Lib.hid hsz
  clear hsz
  go_enter Tryz.func130, Tryz.ntmps130
  go_wp2
  go_loopw [] (fun wr => ∃ pos : Nat, wr.heap[w.heap.size]? = some (.stringIter s pos) ∧ Lay w wr ∧ pos ≤ s.size ∧ MW.all s.data.toList = MW.all (s.data.toList.drop pos)) (fun wr => s.size - wr.iterPos w.heap.size)
  case atStart => exact ⟨0, World.iter_heap w s 0, (Keep.refl _ _).alloc _, Nat.zero_le _, rfl⟩
  case round =>
    obtain ⟨pos, hit, hb, hp, ha⟩ := hrel
    by_cases hlt : pos < s.size
    · obtain ⟨c, n, hd⟩ : ∃ c n, MW.dec (s.data.toList.drop pos) = (c, n) := ⟨_, _, rfl⟩
      have hdd := MW.dec_drop (l := s.data.toList) (pos := pos) (by rw [HZ.out]; exact hlt)
      rw [hd, HZ.out] at hdd
      have hac := MW.all_cons (s.data.toList.drop pos) (fun e => by have := congrArg List.length e; simp at this; omega)
      rw [hd, List.drop_drop] at hac
      have HA := Lib.hid ha
      have HAC := Lib.hid hac
      have HIT := Lib.hid (Lib.iterAt_heap wr _ s pos (pos + n) hit)
      have hnx := fun ty => next_at wr _ s pos ty hit hlt c n hd
      have HB := Lib.hid (hb.iterAt (k := w.heap.size) (Nat.le_refl _) s (pos + n))
      have HP0 := Lib.hid (iterPos_of hit)
      have HP1 := Lib.hid (iterPos_of HIT.out)
      clear ha hac hd hit hb
      by_cases hl : MW.letter c = true
      · have HL := Lib.hid (own_letter_nat c true hl (wr.iterAt w.heap.size s (pos + n)))
        have HL0 := Lib.hid hl
        clear hl
        go_wp2_with (go_at_call 134; refine HL.out.mono ?_; rintro e w' ⟨rfl, rfl⟩)
        go_roundw
        case rel => exact ⟨pos + n, HIT.out, HB.out, hdd.2, by rw [HA.out, HAC.out, HL0.out]; rfl⟩
        case measure => rw [HP0.out, HP1.out]; omega
      · have hl := Bool.eq_false_iff.2 hl
        have HL := Lib.hid (own_letter_nat c false hl (wr.iterAt w.heap.size s (pos + n)))
        have HL0 := Lib.hid hl
        clear hl
        go_wp2_with (go_at_call 134; refine HL.out.mono ?_; rintro e w' ⟨rfl, rfl⟩)
        go_ret
        refine ⟨ret_bool ?_, HB.out⟩
        unfold MW.is
        rw [HA.out, HAC.out, HL0.out]
        rfl
    · obtain rfl : pos = s.size := by omega
      have hnx := fun ty => Lib.run_next_end_at (P := Tryz.prog) wr _ s s.size ty hit hlt
      have HA := Lib.hid ha
      have HB := Lib.hid hb
      clear ha hb hit
      go_wp2
      go_ret
      refine ⟨ret_bool ?_, HB.out⟩
      unfold MW.is
      rw [HA.out, List.drop_of_length_le (by rw [HZ.out]; exact Nat.le_refl _)]
      rw [ByteArray.toList_eq]
      rfl

set_option maxHeartbeats 1000000 in
theorem own_digit_any (c : UInt8) (w : World) : Calls Tryz.prog 132 #[.int .u8 c.toNat] w fun e w' => e = .returned (.bool (MW.dig c)) ∧ w' = w := by
  unfold MW.dig
  generalize c.toNat = n
  by_cases h1 : 48 ≤ n
  · by_cases h2 : n ≤ 57
    · go_enter Tryz.func132, Tryz.ntmps132
      go_wp2
      go_ret
      exact ⟨by simp [h1, h2]; omega, rfl⟩
    · go_enter Tryz.func132, Tryz.ntmps132
      go_wp2
      go_ret
      exact ⟨by simp [h1, h2]; omega, rfl⟩
  · go_enter Tryz.func132, Tryz.ntmps132
    go_wp2
    go_ret
    exact ⟨by simp, rfl⟩

set_option maxHeartbeats 1000000 in
set_option maxRecDepth 100000 in
theorem own_plain_any (s : ByteArray) (hs : s.size ≤ 1000000) (w : World) : Calls Tryz.prog 131 #[.string s] w fun e w' => e = .returned (.bool (s.data.toList.all MW.low)) ∧ w' = w := by
  go_enter Tryz.func131, Tryz.ntmps131
  go_wp2_with fail
  go_loopw [6] (fun vi wr => ∃ k : Nat, vi = .int .i64 k ∧ k ≤ s.size ∧ wr = w ∧ s.data.toList.all MW.low = (s.data.toList.drop k).all MW.low) (fun vi _ => s.size - (intOf vi).toNat)
  case atStart => exact ⟨0, rfl, Nat.zero_le _, rfl, by simp⟩
  case round =>
    obtain ⟨k, rfl, hk, rfl, hz⟩ := hrel
    have HZ := Lib.hid hz
    clear hz
    by_cases hlt : k < s.size
    · have HD := Lib.hid (byte_drop s k hlt)
      obtain ⟨c, hc⟩ : ∃ c, c = s[k] := ⟨_, rfl⟩
      obtain ⟨n, hn⟩ : ∃ n, s[k].toNat = n := ⟨_, rfl⟩
      have HN := Lib.hid hn
      have hix := fun w => idx_run s k n hlt hn w
      rw [← hc] at HD hn
      have HC := Lib.hid hn
      clear hc hn HN
      by_cases h : 128 ≤ n
      · go_wp2_with fail
        go_ret
        refine ⟨ret_bool ?_, rfl⟩
        rw [HZ.out, HD.out, List.all_cons, show MW.low c = false from by unfold MW.low; rw [HC.out]; simp; omega]
        rfl
      · go_wp2_with fail
        go_roundw
        case rel =>
          refine ⟨k + 1, by go_num, by omega, by trivial, ?_⟩
          rw [HZ.out, HD.out, List.all_cons, show MW.low c = true from by unfold MW.low; rw [HC.out]; simp; omega, Bool.true_and]
        case measure => simp [intOf]; omega
    · obtain rfl : k = s.size := by omega
      go_wp2_with fail
      go_ret
      refine ⟨?_, rfl⟩
      rw [HZ.out, List.drop_of_length_le (by rw [← Lib.size_eq]; exact Nat.le_refl _)]
      rfl

theorem own_is_empty (l : List UInt8) (h : MW.is l = true) : l ≠ [] := by
  rintro rfl
  cases h

set_option maxHeartbeats 2000000 in
/-- record.Name. -/
theorem own_name_any (s : ByteArray) (w : World) : Calls Tryz.prog 113 #[.string s] w fun e w' => e = .returned (.bool (MW.name s.data.toList)) ∧ Lay w w' := by
  have hsz : s.data.toList.length = s.size := (Lib.size_eq s).symm
  by_cases h20 : s.size ≤ 20
  · have h20' : s.data.toList.length ≤ 20 := by omega
    cases hI : MW.is s.data.toList with
    | false =>
      have HI := Lib.hid hI
      have hr : MW.name s.data.toList = false := by
        cases hl : s.data.toList.all MW.low with
        | false => exact MW.name_high _ hl
        | true => exact MW.name_is _ hl hI
      have HR := Lib.hid hr
      clear hI hr hsz h20'
      go_enter Tryz.func113, Tryz.ntmps113
      go_wp2_with (go_at_call 130; refine (own_is_any s (by omega) _).mono ?_; rw [HI.out]; rintro e w' ⟨rfl, hl⟩)
      go_ret
      exact ⟨by rw [HR.out]; rfl, hl⟩
    | true =>
      have HI := Lib.hid hI
      cases hl : s.data.toList.all MW.low with
      | false =>
        have HP := Lib.hid hl
        have hr := MW.name_high _ hl
        have HR := Lib.hid hr
        clear hI hr hl hsz h20'
        go_enter Tryz.func113, Tryz.ntmps113
        go_wp2_with (first | (go_at_call 130; refine (own_is_any s (by omega) _).mono ?_; rw [HI.out]; rintro e w' ⟨rfl, hl⟩) | (go_at_call 131; refine (own_plain_any s (by omega) _).mono ?_; rw [HP.out]; rintro e w' ⟨rfl, rfl⟩))
        go_ret
        exact ⟨by rw [HR.out]; rfl, hl⟩
      | true =>
        have HP := Lib.hid hl
        have hr := MW.name_of _ h20' hl
        rw [hI, Bool.true_and] at hr
        have h0 : 0 < s.size := by
          have := own_is_empty _ hI
          rw [← hsz]
          exact List.length_pos_iff.2 this
        have hd : s.data.toList.headD 0 = s[0] := by
          have := byte_drop s 0 h0
          rw [List.drop_zero] at this
          rw [this]
          rfl
        rw [hd] at hr
        have HR := Lib.hid hr
        obtain ⟨n, hn⟩ : ∃ n, s[0].toNat = n := ⟨_, rfl⟩
        have hix : ∀ w, (Instr.index 9 (.string s) (.int .i64 0)).run Tryz.prog w = .ok (.int .u8 (n : Int)) w := fun w => idx_run s 0 n h0 hn w
        have hD : ∀ w, Calls Tryz.prog 132 #[.int .u8 (n : Int)] w fun e w' => e = .returned (.bool (MW.dig s[0])) ∧ w' = w := fun w => by rw [← hn]; exact own_digit_any s[0] w
        have HD := Lib.hid hD
        clear hI hr hl hsz h20' hd hn hD
        cases hg : MW.dig s[0]
        all_goals
          rw [hg] at HD HR
          clear hg
          go_enter Tryz.func113, Tryz.ntmps113
          go_wp2_with (first | (go_at_call 130; refine (own_is_any s (by omega) _).mono ?_; rw [HI.out]; rintro e w' ⟨rfl, hl⟩) | (go_at_call 131; refine (own_plain_any s (by omega) _).mono ?_; rw [HP.out]; rintro e w' ⟨rfl, rfl⟩) | (go_at_call 132; refine (HD.out _).mono ?_; rintro e w' ⟨rfl, rfl⟩))
          go_ret
          exact ⟨by rw [HR.out]; rfl, hl⟩
  · have hr := MW.name_long s.data.toList (by omega)
    have HR := Lib.hid hr
    clear hr hsz
    go_enter Tryz.func113, Tryz.ntmps113
    go_wp2_with fail
    go_ret
    exact ⟨by rw [HR.out]; rfl, Keep.refl _ _⟩

end Go.Proofs.YtmodiemmcdocdaaGreatDoor

namespace Go.Proofs.YtmodiemmcdocdaaGreatDoor.LX
open Go MW

theorem dec_L (l : List UInt8) : Lib.decodeL l = dec l := Lib.decodeL_N l

theorem enc_dec {l : List UInt8} (hl : l ≠ []) (h : bad l = false) {c n : Nat} (hd : dec l = (c, n)) : Lib.encodeRune (c : Int) = l.take n := by
  have hv : ¬ ((Lib.decodeL l).1 = 65533 ∧ (Lib.decodeL l).2 = 1) := fun ⟨a, b⟩ => by
    rw [dec_L] at a b
    unfold bad at h
    rw [a, b] at h
    simp at h
  have := Lib.encode_decode l hl hv
  rw [dec_L, hd] at this
  exact this

/-- The bytes of runes. -/
def enc (rs : List Nat) : List UInt8 := rs.flatMap fun r : Nat => Lib.encodeRune (r : Int)

theorem enc_snoc (rs : List Nat) (c : Nat) : enc (rs ++ [c]) = enc rs ++ Lib.encodeRune (c : Int) := by
  unfold enc
  rw [List.flatMap_append]
  simp

theorem encode_rune (n : Nat) : (Utf8.encode (n : Int)).data.toList = Lib.encodeRune (n : Int) := by
  have hb : ∀ (b : Nat) (z : Int), z = (b : Int) → UInt8.ofNat b = z.toNat.toUInt8 := fun b z h => by
    subst h
    rfl
  unfold Utf8.encode Lib.encodeRune
  by_cases hv : Utf8.valid (n : Int) = true
  · have hv' : n < 55296 ∨ (57344 ≤ n ∧ n ≤ 1114111) := by
      unfold Utf8.valid at hv
      simp at hv
      omega
    simp only [hv, if_true, Int.toNat_natCast]
    by_cases h1 : n < 128
    · rw [if_pos h1, Lib.encodeRuneZ_one (by omega) (by omega)]
      simp only [List.map_cons, List.map_nil]
      rw [← hb n _ rfl]
    rw [if_neg h1]
    by_cases h2 : n < 2048
    · rw [if_pos h2, Lib.encodeRuneZ_two (by omega) (by omega)]
      simp only [List.map_cons, List.map_nil]
      rw [← hb (192 + n / 64) _ (by omega), ← hb (128 + n % 64) _ (by omega)]
    rw [if_neg h2]
    by_cases h3 : n < 65536
    · rw [if_pos h3, Lib.encodeRuneZ_three (by omega)]
      simp only [List.map_cons, List.map_nil]
      rw [← hb (224 + n / 4096) _ (by omega), ← hb (128 + n / 64 % 64) _ (by omega), ← hb (128 + n % 64) _ (by omega)]
    · rw [if_neg h3, Lib.encodeRuneZ_four (by omega) (by omega)]
      simp only [List.map_cons, List.map_nil]
      rw [← hb (240 + n / 262144) _ (by omega), ← hb (128 + n / 4096 % 64) _ (by omega), ← hb (128 + n / 64 % 64) _ (by omega), ← hb (128 + n % 64) _ (by omega)]
  · have hv' : (55296 ≤ n ∧ n ≤ 57343) ∨ 1114111 < n := by
      unfold Utf8.valid at hv
      simp at hv
      omega
    rw [Lib.encodeRuneZ_bad (by omega)]
    simp only [hv, Bool.false_eq_true, if_false]
    rfl

theorem runes_fold (rs : List Nat) : ∀ s : ByteArray, ((rs.map fun r : Nat => (r : Int)).foldl (fun r n => r ++ Utf8.encode n) s).data.toList = s.data.toList ++ enc rs := by
  induction rs with
  | nil => intro s; simp [enc]
  | cons c r ih =>
    intro s
    rw [List.map_cons, List.foldl_cons, ih, ByteArray.data_append]
    have e : enc (c :: r) = Lib.encodeRune (c : Int) ++ enc r := by
      unfold enc
      rw [List.flatMap_cons]
    rw [e, ← encode_rune]
    simp

theorem runes_bytes (rs : List Nat) : runesBytes (rs.map fun r : Nat => (r : Int)) = ⟨(enc rs).toArray⟩ := by
  have h := runes_fold rs ByteArray.empty
  unfold runesBytes
  generalize ((rs.map fun r : Nat => (r : Int)).foldl (fun r n => r ++ Utf8.encode n) ByteArray.empty) = x at h
  have h' : x.data.toList = enc rs := by rw [h]; rfl
  rw [← h']

def stepN (st c : Nat) : Nat := if st = 1 ∧ (c = 34 ∨ c = 92) then 0 else if st = 1 ∨ c = 10 then 3 else if c = 92 then 1 else if c = 34 then 2 else 0

structure TI (l : List UInt8) (pos st : Nat) (rs : List Nat) : Prop where
  st1 : st ≤ 1
  u8 : U8 (l.drop pos)
  len : rs.length ≤ pos
  eq : text l = if st = 0 then (text (l.drop pos)).map (fun q => (enc rs ++ q.1, pos + q.2)) else (text (92 :: l.drop pos)).map fun q => (enc rs ++ q.1, pos + q.2 - 1)

theorem TI.start {l : List UInt8} (h : U8 l) : TI l 0 0 [] :=
  ⟨by omega, by rw [List.drop_zero]; exact h, Nat.le_refl _, by
    rw [if_pos rfl, List.drop_zero]
    cases text l with
    | none => rfl
    | some q => simp [enc]⟩

theorem TI.none {l : List UInt8} {pos st : Nat} {rs : List Nat} (h : TI l pos st rs) (hd : l.drop pos = []) : text l = .none := by
  rw [h.eq, hd]
  split
  · rfl
  · rw [text_esc0]; rfl

/-- What a rune says of the bytes that it stands for. -/
theorem rune_parts {l : List UInt8} (hl : l ≠ []) (hb : bad l = false) {c n : Nat} (hd : dec l = (c, n)) :
    (∃ b q, l = b :: q ∧ b.toNat = c ∧ c < 128 ∧ n = 1 ∧ Lib.encodeRune (c : Int) = [b]) ∨ (128 ≤ c ∧ (∀ x ∈ l.take n, 128 ≤ x.toNat) ∧ Lib.encodeRune (c : Int) = l.take n ∧ (l.take n).length = n) := by
  have he := enc_dec hl hb hd
  have hk := (dec_keep l hl hb).2
  have hle := dec_le l hl
  have hp := dec_pos l
  rw [hd] at hk hle hp
  simp only at hk hle hp
  rcases hk with ⟨b, q, rfl, hlt, h1⟩ | hhi
  · have h2 := dec_low b q hlt
    rw [hd] at h2
    simp only [Prod.mk.injEq] at h2
    obtain ⟨rfl, rfl⟩ := h2
    exact .inl ⟨b, q, rfl, rfl, hlt, rfl, by rw [he]; rfl⟩
  · refine .inr ⟨?_, hhi, he, by rw [List.length_take]; omega⟩
    cases l with
    | nil => exact absurd rfl hl
    | cons b q =>
      have hb128 : 128 ≤ b.toNat := hhi b (by
        obtain ⟨k, rfl⟩ : ∃ k, n = k + 1 := ⟨n - 1, by omega⟩
        simp)
      by_cases hc : c < 128
      · exfalso
        have e1 := he
        unfold Lib.encodeRune at e1
        rw [Lib.encodeRuneZ_one (by omega) (by omega)] at e1
        obtain ⟨k, rfl⟩ : ∃ k, n = k + 1 := ⟨n - 1, by omega⟩
        simp only [List.map_cons, List.map_nil, List.take_succ_cons, List.cons.injEq] at e1
        have := congrArg UInt8.toNat e1.1
        have h3 : ((c : Int).toNat.toUInt8).toNat = c := by
          rw [Int.toNat_natCast]
          show (UInt8.ofNat c).toNat = c
          rw [UInt8.toNat_ofNat']
          omega
        rw [h3] at this
        omega
      · omega

theorem byte_ne {b k : UInt8} {c : Nat} (hb : b.toNat = c) (h : c ≠ k.toNat) : b ≠ k := fun e => h (by rw [← hb, e])

theorem U8.first {l : List UInt8} (h : U8 l) (hl : l ≠ []) : bad l = false ∧ U8 (l.drop (dec l).2) := by
  cases h with
  | nil => exact absurd rfl hl
  | step _ h2 h3 => exact ⟨h2, h3⟩

theorem TI.next {l : List UInt8} {pos st : Nat} {rs : List Nat} (h : TI l pos st rs) (hl : l.drop pos ≠ []) {c n : Nat} (hd : dec (l.drop pos) = (c, n)) :
    (stepN st c = 0 → TI l (pos + n) 0 (rs ++ [c])) ∧ (stepN st c = 1 → TI l (pos + n) 1 rs) ∧ (stepN st c = 2 → text l = some (enc rs, pos + 1)) ∧ (stepN st c = 3 → text l = .none) := by
  have hu := h.u8
  have hp := dec_pos (l.drop pos)
  rw [hd] at hp
  simp only at hp
  obtain ⟨hb, hu3⟩ : bad (l.drop pos) = false ∧ U8 (l.drop (pos + n)) := by
    have h := hu.first hl
    rw [hd, List.drop_drop] at h
    exact h
  have hlen := h.len
  have hlen1 : (rs ++ [c]).length ≤ pos + n := by rw [List.length_append, List.length_singleton]; omega
  have heq := h.eq
  have hst := h.st1
  have drop1 : ∀ {b : UInt8} {q : List UInt8}, l.drop pos = b :: q → l.drop (pos + 1) = q := fun e => by
    rw [← List.drop_drop, e]
    rfl
  rcases rune_parts hl hb hd with ⟨b, q, e, hbc, hlt, rfl, hen⟩ | ⟨hge, hhi, hen, htl⟩
  · have hq := drop1 e
    have one : ∀ k, k < 256 → c = k → b = UInt8.ofNat k := fun k hk hc => UInt8.toNat_inj.1 (by rw [hbc, UInt8.toNat_ofNat', hc]; omega)
    by_cases h1 : st = 1
    · subst h1
      rw [if_neg (by decide), e] at heq
      by_cases hs : c = 34 ∨ c = 92
      · have hbs : b = 34 ∨ b = 92 := hs.imp (one 34 (by omega)) (one 92 (by omega))
        have e0 : stepN 1 c = 0 := if_pos ⟨rfl, hs⟩
        rw [text_esc, if_pos hbs, Option.map_map] at heq
        refine ⟨fun _ => ⟨by omega, hu3, hlen1, ?_⟩, by rw [e0]; simp, by rw [e0]; simp, by rw [e0]; simp⟩
        rw [heq, if_pos rfl, hq]
        congr 1
        funext x
        simp only [Function.comp, enc_snoc, hen, List.append_assoc, List.singleton_append, Prod.mk.injEq, true_and]
        omega
      · have e0 : stepN 1 c = 3 := by
          unfold stepN
          rw [if_neg (fun h => hs h.2), if_pos (.inl rfl)]
        refine ⟨by rw [e0]; simp, by rw [e0]; simp, by rw [e0]; simp, fun _ => ?_⟩
        rw [heq, text_esc, if_neg]
        · rfl
        · rintro (h | h)
          · exact hs (.inl (by rw [← hbc, h]; rfl))
          · exact hs (.inr (by rw [← hbc, h]; rfl))
    · obtain rfl : st = 0 := by omega
      rw [if_pos rfl, e] at heq
      by_cases h10 : c = 10
      · have e0 : stepN 0 c = 3 := by subst h10; rfl
        refine ⟨by rw [e0]; simp, by rw [e0]; simp, by rw [e0]; simp, fun _ => ?_⟩
        rw [heq, one 10 (by omega) h10]
        show Option.map _ (text (10 :: q)) = _
        rw [text_lf]
        rfl
      by_cases h92 : c = 92
      · have e0 : stepN 0 c = 1 := by subst h92; rfl
        refine ⟨by rw [e0]; simp, fun _ => ⟨by omega, hu3, by omega, ?_⟩, by rw [e0]; simp, by rw [e0]; simp⟩
        rw [heq, if_neg (by decide), hq, one 92 (by omega) h92]
        show Option.map _ (text (92 :: q)) = _
        congr 1
        funext x
        simp only [Prod.mk.injEq, true_and]
        omega
      by_cases h34 : c = 34
      · have e0 : stepN 0 c = 2 := by subst h34; rfl
        refine ⟨by rw [e0]; simp, by rw [e0]; simp, fun _ => ?_, by rw [e0]; simp⟩
        rw [heq, one 34 (by omega) h34]
        show Option.map _ (text (34 :: q)) = _
        rw [text_end]
        simp
      · have e0 : stepN 0 c = 0 := by simp [stepN, h10, h92, h34]
        refine ⟨fun _ => ⟨by omega, hu3, hlen1, ?_⟩, by rw [e0]; simp, by rw [e0]; simp, by rw [e0]; simp⟩
        rw [heq, text_other b q (byte_ne hbc h10) (byte_ne hbc h34) (byte_ne hbc h92), if_pos rfl, hq, Option.map_map]
        congr 1
        funext x
        simp only [Function.comp, enc_snoc, hen, List.append_assoc, List.singleton_append, Prod.mk.injEq, true_and]
        omega
  · by_cases h1 : st = 1
    · subst h1
      rw [if_neg (by decide)] at heq
      have e0 : stepN 1 c = 3 := by
        unfold stepN
        rw [if_neg (by omega), if_pos (.inl rfl)]
      refine ⟨by rw [e0]; simp, by rw [e0]; simp, by rw [e0]; simp, fun _ => ?_⟩
      cases hq : l.drop pos with
      | nil => exact absurd hq hl
      | cons b q =>
        have hb128 : 128 ≤ b.toNat := hhi b (by
          rw [hq]
          obtain ⟨k, rfl⟩ : ∃ k, n = k + 1 := ⟨n - 1, by omega⟩
          simp)
        rw [heq, hq, text_esc, if_neg]
        · rfl
        · rintro (h | h)
          · rw [h] at hb128; exact absurd hb128 (by decide)
          · rw [h] at hb128; exact absurd hb128 (by decide)
    · obtain rfl : st = 0 := by omega
      rw [if_pos rfl] at heq
      have e0 : stepN 0 c = 0 := by
        unfold stepN
        rw [if_neg (by omega), if_neg (by omega), if_neg (by omega), if_neg (by omega)]
      refine ⟨fun _ => ⟨by omega, hu3, hlen1, ?_⟩, by rw [e0]; simp, by rw [e0]; simp, by rw [e0]; simp⟩
      have ht := text_high ((l.drop pos).drop n) _ hhi
      rw [List.take_append_drop, List.drop_drop, htl] at ht
      rw [heq, ht, if_pos rfl, Option.map_map]
      congr 1
      funext x
      simp only [Function.comp, enc_snoc, hen, List.append_assoc, Prod.mk.injEq, true_and]
      omega

end Go.Proofs.YtmodiemmcdocdaaGreatDoor.LX

namespace Go.Proofs.YtmodiemmcdocdaaGreatDoor
open Go.RowKit Go

def spec (c : Nat) : Bool := decide (c = 34) || decide (c = 92)

theorem spec_iff (c : Nat) : spec c = true ↔ c = 34 ∨ c = 92 := by unfold spec; simp

set_option maxHeartbeats 1000000 in
theorem special_any (c : Nat) (w : World) : Calls Tryz.prog 71 #[.int .i32 (c : Int)] w fun e w' => e = .returned (.bool (spec c)) ∧ w = w' := by
  go_enter Tryz.func71, Tryz.ntmps71
  go_wp2
  all_goals
    go_ret
    refine ⟨ret_bool ?_, rfl⟩
    rw [Bool.eq_iff_iff, spec_iff]
    simp
    try omega

/-- Is a rune a byte of a row? -/
def lett (c : Nat) : Bool := decide (c < 128) && MW.letter c

set_option maxHeartbeats 1000000 in
set_option maxRecDepth 100000 in
theorem lett_any (c : Nat) (w : World) : Calls Tryz.prog 115 #[.int .i32 (c : Int)] w fun e w' => e = .returned (.bool (lett c)) ∧ w = w' := by
  by_cases h : c < 128
  · obtain ⟨b, hb⟩ : ∃ b, MW.letter c = b := ⟨_, rfl⟩
    have HL := fun w => own_letter_nat c b hb w
    have e : lett c = b := by unfold lett; rw [hb, decide_eq_true h]; rfl
    rw [e]
    have HH := Lib.hid HL
    clear HL hb e
    go_enter Tryz.func115, Tryz.ntmps115
    go_wp2_with (go_at_call 134; refine (HH.out _).mono ?_; rintro e w' ⟨rfl, rfl⟩)
    go_ret
    exact ⟨rfl, rfl⟩
  · have e : lett c = false := by unfold lett; rw [decide_eq_false h]; rfl
    rw [e]
    clear e
    go_enter Tryz.func115, Tryz.ntmps115
    go_wp2_with fail
    go_ret
    exact ⟨rfl, rfl⟩

open LX (stepN)

set_option maxHeartbeats 2000000 in
theorem step_any (st c : Nat) (w : World) : Calls Tryz.prog 111 #[.int .i64 (st : Int), .int .i32 (c : Int)] w fun e w' => e = .returned (.int .i64 (stepN st c : Nat)) ∧ w = w' := by
  have HS := Lib.hid (special_any c)
  obtain ⟨b, hb⟩ : ∃ b, spec c = b := ⟨_, rfl⟩
  have HB : Hid (b = true ↔ c = 34 ∨ c = 92) := Lib.hid (by rw [← hb]; exact spec_iff c)
  rw [hb] at HS
  clear hb
  obtain ⟨r, hr⟩ : ∃ r, stepN st c = r := ⟨_, rfl⟩
  rw [hr]
  have HR := Lib.hid hr
  clear hr
  by_cases h1 : st = 1
  · subst h1
    cases b
    all_goals
      have hb := HB.out
      go_enter Tryz.func111, Tryz.ntmps111
      go_wp2_with (go_at_call 71; refine (HS.out _).mono ?_; rintro e w' ⟨rfl, rfl⟩)
      go_ret
      refine ⟨?_, rfl⟩
      rw [← HR.out]
      unfold stepN
      simp at hb
      simp [hb]
  · have h1' : ((st : Int) == 1) = false := by simp; omega
    by_cases h10 : c = 10
    · subst h10
      go_enter Tryz.func111, Tryz.ntmps111
      go_wp2_with fail
      go_ret
      refine ⟨?_, rfl⟩
      rw [← HR.out]
      simp [stepN, h1]
    have h10' : ((c : Int) == 10) = false := by simp; omega
    by_cases h92 : c = 92
    · subst h92
      go_enter Tryz.func111, Tryz.ntmps111
      go_wp2_with fail
      go_ret
      refine ⟨?_, rfl⟩
      rw [← HR.out]
      simp [stepN, h1]
    have h92' : ((c : Int) == 92) = false := by simp; omega
    by_cases h34 : c = 34
    · subst h34
      go_enter Tryz.func111, Tryz.ntmps111
      go_wp2_with fail
      go_ret
      refine ⟨?_, rfl⟩
      rw [← HR.out]
      simp [stepN, h1]
    · have h34' : ((c : Int) == 34) = false := by simp; omega
      go_enter Tryz.func111, Tryz.ntmps111
      go_wp2_with fail
      go_ret
      refine ⟨?_, rfl⟩
      rw [← HR.out]
      simp [stepN, h1, h10, h92, h34]

/-- One of a row of tests answers it. -/
theorem isWord_yes {l : List UInt8} (x : List UInt8) (hx : LX.words.contains x = true) (h : (l == x) = true) : LX.isWord l = true := by
  rw [eq_of_beq h]
  exact hx

set_option maxHeartbeats 4000000 in
set_option maxRecDepth 100000 in
/-- lex.IsWord. -/
theorem own_isWord_any (s : ByteArray) (w : World) : Calls Tryz.prog 112 #[.string s] w fun e w' => e = .returned (.bool (LX.isWord s.data.toList)) ∧ w' = w := by
  obtain ⟨b, hb⟩ : ∃ b, LX.isWord s.data.toList = b := ⟨_, rfl⟩
  rw [hb]
  rw [← Lib.toList_data] at hb
  have HB := Lib.hid hb
  clear hb
  go_enter Tryz.func112, Tryz.ntmps112
  go_wp2
  all_goals first
    | (rename_i h1 h2; exfalso; exact absurd (show true = false from h1.symm.trans h2) (by decide))
    | (rename_i h1 h2; go_ret; exact ⟨ret_bool ((isWord_yes _ (by decide) h1).symm.trans HB.out), rfl⟩)
    | (rename_i h1; go_ret; exact ⟨ret_bool ((isWord_yes _ (by decide) h1).symm.trans HB.out), rfl⟩)
    | (go_ret
       refine ⟨ret_bool (Eq.trans (Eq.symm ?_) HB.out), rfl⟩
       rw [Bool.eq_false_iff]
       intro h
       unfold LX.isWord LX.words at h
       simp_all)

end Go.Proofs.YtmodiemmcdocdaaGreatDoor

namespace Go.Proofs.YtmodiemmcdocdaaGreatDoor
open Go.RowKit Go

set_option maxHeartbeats 2000000 in
set_option maxRecDepth 100000 in
theorem broken_any (s : ByteArray) (_hlen : s.size ≤ 1048576) (w : World) (hT : Lib.Utf8Tabs 2 3 w) :
    Calls Tryz.prog 46 #[.string s] w fun e w' => e = .returned (.int .i64 (LX.valid s.data.toList : Nat)) ∧ Below w.heap.size w w' := by
  have hsz : s.data.toList.length = s.size := (Lib.size_eq s).symm
  have HZ := Lib.hid hsz
  clear hsz
  have HT := Lib.hid hT
  clear hT
  go_enter Tryz.func46, Tryz.ntmps46
  go_wp2_with fail
  go_loopw [] (fun wr => ∃ pos : Nat, wr.heap[w.heap.size]? = some (.stringIter s pos) ∧ Below w.heap.size w wr ∧ pos ≤ s.size ∧ LX.valid s.data.toList = pos + LX.valid (s.data.toList.drop pos)) (fun wr => s.size - wr.iterPos w.heap.size)
  case atStart => exact ⟨0, World.iter_heap w s 0, (Below.refl _ _).alloc (Nat.le_refl _) _, Nat.zero_le _, by simp⟩
  case round =>
    obtain ⟨pos, hit, hb, hp, hv⟩ := hrel
    by_cases hlt : pos < s.size
    · obtain ⟨c, n, hd⟩ : ∃ c n, MW.dec (s.data.toList.drop pos) = (c, n) := ⟨_, _, rfl⟩
      have hn := MW.dec_drop (l := s.data.toList) (pos := pos) (by rw [HZ.out]; exact hlt)
      rw [hd, HZ.out] at hn
      simp only at hn
      have hne : s.data.toList.drop pos ≠ [] := by
        intro e
        have := congrArg List.length e
        rw [List.length_drop, HZ.out] at this
        simp at this
        omega
      have hbad : LX.bad (s.data.toList.drop pos) = (decide (c = 65533) && decide (n = 1)) := by unfold LX.bad; rw [hd]
      have hstep := LX.valid_step _ hne
      rw [hd, List.drop_drop] at hstep
      simp only at hstep
      have HV := Lib.hid hv
      have HBAD := Lib.hid hbad
      have HST := Lib.hid hstep
      have hit1 := Lib.iterAt_heap wr _ s pos (pos + n) hit
      have HIT := Lib.hid hit1
      have hnx := fun ty => next_at wr _ s pos ty hit hlt c n hd
      have hb1 := Lib.below_iterAt hb (k := w.heap.size) (Nat.le_refl _) s (pos + n)
      have HB := Lib.hid hb1
      have HP0 := Lib.hid (iterPos_of hit)
      have HP1 := Lib.hid (iterPos_of hit1)
      have HL := Lib.hid (show w.heap.size < (wr.iterAt w.heap.size s (pos + n)).heap.size from (Array.getElem?_eq_some_iff.1 hit1).1)
      have HC := Lib.hid (decode_call s pos hlt c n hd (wr.iterAt w.heap.size s (pos + n)) (Utf8Tabs_below HT.out hb1))
      clear hd hbad hstep hne hv hit hit1 hb hb1
      by_cases hc : c = 65533
      · subst hc
        by_cases h1 : n = 1
        · subst h1
          go_wp2_with fail
          refine HC.out.mono ?_
          rintro e w1 ⟨rfl, hb1⟩
          have HB1 := Lib.hid (HB.out.trans (hb1.mono HB.out.size))
          clear hb1
          go_wp2_with fail
          go_ret
          refine ⟨?_, HB1.out⟩
          rw [HV.out, LX.valid_bad _ (by rw [HBAD.out]; rfl)]
          rfl
        · have h1' : ((n : Int) == 1) = false := by simp; omega
          go_wp2_with fail
          refine HC.out.mono ?_
          rintro e w1 ⟨rfl, hb1⟩
          have HB1 := Lib.hid (HB.out.trans (hb1.mono HB.out.size))
          have HIT1 := Lib.hid ((hb1.block _ HL.out).trans HIT.out)
          clear hb1
          go_wp2_with fail
          go_roundw
          case rel => exact ⟨pos + n, HIT1.out, HB1.out, by omega, by rw [HV.out, HST.out (by rw [HBAD.out]; simp [h1])]; omega⟩
          case measure => rw [HP0.out, iterPos_of HIT1.out]; omega
      · have hc' : ((c : Int) == 65533) = false := by simp; omega
        go_wp2_with fail
        go_roundw
        case rel => exact ⟨pos + n, HIT.out, HB.out, by omega, by rw [HV.out, HST.out (by rw [HBAD.out]; simp [hc])]; omega⟩
        case measure => rw [HP0.out, HP1.out]; omega
    · obtain rfl : pos = s.size := by omega
      have hnx := fun ty => Lib.run_next_end_at (P := Tryz.prog) wr _ s s.size ty hit hlt
      have HV := Lib.hid hv
      have HB := Lib.hid hb
      clear hv hb hit
      go_wp2_with fail
      go_ret
      refine ⟨?_, HB.out⟩
      rw [HV.out, List.drop_of_length_le (by rw [HZ.out]; exact Nat.le_refl _)]
      rfl

theorem index_contains (l : List UInt8) (c : UInt8) : decide (0 ≤ Lib.indexByte l c) = l.contains c := by
  induction l with
  | nil => rfl
  | cons b r ih =>
    have hg := Lib.indexByte_ge r c
    rw [List.contains_cons, ← ih, Lib.indexByte]
    by_cases h : b = c
    · subst h
      simp
    · have h1 : (b == c) = false := by simpa using h
      have h2 : (c == b) = false := by simpa using fun e : c = b => h e.symm
      rw [h1, h2]
      simp only [Bool.false_eq_true, if_false, Bool.false_or]
      by_cases h3 : Lib.indexByte r c = -1
      · rw [h3]; rfl
      · have h4 : (Lib.indexByte r c == -1) = false := by simpa using h3
        rw [h4]
        simp only [Bool.false_eq_true, if_false]
        rw [decide_eq_true (by omega : 0 ≤ Lib.indexByte r c), decide_eq_true (by omega)]

end Go.Proofs.YtmodiemmcdocdaaGreatDoor

namespace Go.Proofs.YtmodiemmcdocdaaGreatDoor
open Go.RowKit Go

theorem rune_byte (b : UInt8) (q : List UInt8) : (b.toNat < 128 ∧ MW.dec (b :: q) = (b.toNat, 1)) ∨ (128 ≤ b.toNat ∧ 128 ≤ (MW.dec (b :: q)).1) := by
  by_cases h : b.toNat < 128
  · exact .inl ⟨h, MW.dec_low b q h⟩
  · refine .inr ⟨by omega, ?_⟩
    unfold MW.dec
    simp only [List.getD_cons_zero]
    rcases Lib.decodeN_shape (b :: q).length b.toNat ((b :: q).getD 1 0).toNat ((b :: q).getD 2 0).toNat ((b :: q).getD 3 0).toNat with ⟨h0, _⟩ | ⟨_, _, _, h1, e⟩ | ⟨_, _, _, _, h1, _, e⟩ | ⟨_, _, _, _, _, h1, _, e⟩ | e
    · omega
    all_goals rw [e]; simp only; omega

/-- What a rune says of the byte that it begins with. -/
theorem rune_at {b : UInt8} {q : List UInt8} {c n : Nat} (h : MW.dec (b :: q) = (c, n)) : lett c = MW.ch b ∧ (c = 45 ↔ b = 45) ∧ (b.toNat < 128 → n = 1 ∧ c = b.toNat) := by
  have h45 : b = 45 ↔ b.toNat = 45 := ⟨fun e => by rw [e]; rfl, fun e => UInt8.toNat_inj.1 e⟩
  rcases rune_byte b q with ⟨h1, h2⟩ | ⟨h1, h2⟩
  · rw [h] at h2
    simp only [Prod.mk.injEq] at h2
    obtain ⟨rfl, rfl⟩ := h2
    refine ⟨?_, h45.symm, fun _ => ⟨rfl, rfl⟩⟩
    unfold lett
    rw [decide_eq_true h1, Bool.true_and, MW.letter_ch b h1]
  · rw [h] at h2
    simp only at h2
    refine ⟨?_, ?_, fun h => by omega⟩
    · unfold lett
      rw [decide_eq_false (by omega), Bool.false_and, Eq.comm, Bool.eq_false_iff]
      intro hc
      have := of_decide_eq_true (MW.ch_low b hc)
      omega
    · rw [h45]
      omega

/-- How many bytes the row has that letters begin with. -/
def rsz : List UInt8 → Nat
  | [] => 0
  | c :: r => if c = 45 then 1 + (LX.run r).length else (LX.run (c :: r)).length

theorem run_cons (b : UInt8) (q : List UInt8) : LX.run (b :: q) = if MW.ch b = true then b :: LX.run q else [] := by
  unfold LX.run
  rw [List.takeWhile_cons]

set_option maxHeartbeats 2000000 in
set_option maxRecDepth 100000 in
theorem rowSize_any (s : ByteArray) (hlen : s.size ≤ 1048576) (w : World) :
    Calls Tryz.prog 81 #[.string s] w fun e w' => e = .returned (.int .i64 (rsz s.data.toList : Nat)) ∧ Below w.heap.size w w' := by
  have hsz : s.data.toList.length = s.size := (Lib.size_eq s).symm
  have HZ := Lib.hid hsz
  clear hsz
  go_enter Tryz.func81, Tryz.ntmps81
  go_wp2_with fail
  go_loopw [] (fun wr => ∃ pos : Nat, wr.heap[w.heap.size]? = some (.stringIter s pos) ∧ Below w.heap.size w wr ∧ pos ≤ s.size ∧ (pos ≠ 0 → rsz s.data.toList = pos + (LX.run (s.data.toList.drop pos)).length)) (fun wr => s.size - wr.iterPos w.heap.size)
  case atStart => exact ⟨0, World.iter_heap w s 0, (Below.refl _ _).alloc (Nat.le_refl _) _, Nat.zero_le _, fun h => absurd rfl h⟩
  case round =>
    obtain ⟨pos, hit, hb, hp, hv⟩ := hrel
    by_cases hlt : pos < s.size
    · obtain ⟨c, n, hd⟩ : ∃ c n, MW.dec (s.data.toList.drop pos) = (c, n) := ⟨_, _, rfl⟩
      have hbd := byte_drop s pos hlt
      obtain ⟨b, hbb⟩ : ∃ b, b = s[pos] := ⟨_, rfl⟩
      rw [← hbb] at hbd
      have hd' := hd
      rw [hbd] at hd'
      obtain ⟨k1, k2, k3⟩ := rune_at hd'
      have hn := MW.dec_drop (l := s.data.toList) (pos := pos) (by rw [HZ.out]; exact hlt)
      rw [hd, HZ.out] at hn
      simp only at hn
      have hzero : pos = 0 → rsz s.data.toList = if b = 45 then 1 + (LX.run (s.data.toList.drop 1)).length else (LX.run (s.data.toList.drop 0)).length := fun e => by
        subst e
        have e1 : s.data.toList = b :: s.data.toList.drop 1 := by
          rw [List.drop_zero] at hbd
          exact hbd
        rw [List.drop_zero]
        conv => lhs; rw [e1]
        conv => rhs; rw [e1]
        rw [rsz]
        simp only [List.drop_succ_cons, List.drop_zero]
      have hrun := run_cons b (s.data.toList.drop (pos + 1))
      rw [← hbd] at hrun
      have HV := Lib.hid hv
      have HZR := Lib.hid hzero
      have HRUN := Lib.hid hrun
      have HK1 := Lib.hid k1
      have HK2 := Lib.hid k2
      have HK3 := Lib.hid (fun h => k3 (of_decide_eq_true (MW.ch_low b h)))
      have HK4 := Lib.hid (fun e : b = 45 => k3 (by rw [e]; decide))
      have hit1 := Lib.iterAt_heap wr _ s pos (pos + n) hit
      have HIT := Lib.hid hit1
      have hnx := fun ty => next_at wr _ s pos ty hit hlt c n hd
      have hb1 := Lib.below_iterAt hb (k := w.heap.size) (Nat.le_refl _) s (pos + n)
      have HB := Lib.hid hb1
      have HP0 := Lib.hid (iterPos_of hit)
      have HP1 := Lib.hid (iterPos_of hit1)
      have HL := Lib.hid (lett_any c)
      rw [k1] at HL
      obtain ⟨g, hg⟩ : ∃ g, MW.ch b = g := ⟨_, rfl⟩
      rw [hg] at HL HK1 HK3 HRUN
      clear hd hd' hit hit1 hb hb1 k1 k2 k3 hv hzero hrun hbd hbb hg
      by_cases hs : pos = 0 ∧ c = 45
      · obtain ⟨rfl, rfl⟩ := hs
        have hb45 := HK2.out.1 rfl
        have hn1 := (HK4.out hb45).1
        subst hn1
        go_wp2_with fail
        go_roundw
        case rel =>
          refine ⟨0 + 1, HIT.out, HB.out, by omega, fun _ => ?_⟩
          rw [HZR.out rfl, if_pos hb45]
        case measure => rw [HP0.out, HP1.out]; omega
      · have fin : Hid (rsz s.data.toList = pos + (LX.run (s.data.toList.drop pos)).length) := Lib.hid (by
          by_cases h0 : pos = 0
          · rw [HZR.out h0, if_neg (fun e => hs ⟨h0, HK2.out.2 e⟩), h0, Nat.zero_add]
          · exact HV.out h0)
        cases g with
        | true =>
          have hn1 := (HK3.out rfl).1
          subst hn1
          by_cases h0 : pos = 0
          · subst h0
            have hc : ((c : Int) == 45) = false := by simp; omega
            go_wp2_with fail
            refine (HL.out _).mono ?_
            rintro e w' ⟨rfl, rfl⟩
            go_wp2_with fail
            go_roundw
            case rel => exact ⟨0 + 1, HIT.out, HB.out, by omega, fun _ => by rw [fin.out, HRUN.out, if_pos trivial, List.length_cons]; omega⟩
            case measure => rw [HP0.out, HP1.out]; omega
          · have h0' : ((pos : Int) == 0) = false := by simp; omega
            go_wp2_with fail
            refine (HL.out _).mono ?_
            rintro e w' ⟨rfl, rfl⟩
            go_wp2_with fail
            go_roundw
            case rel => exact ⟨pos + 1, HIT.out, HB.out, by omega, fun _ => by rw [fin.out, HRUN.out, if_pos trivial, List.length_cons]; omega⟩
            case measure => rw [HP0.out, HP1.out]; omega
        | false =>
          have HF : Hid (rsz s.data.toList = pos) := Lib.hid (by rw [fin.out, HRUN.out]; rfl)
          by_cases h0 : pos = 0
          · subst h0
            have hc : ((c : Int) == 45) = false := by simp; omega
            go_wp2_with fail
            refine (HL.out _).mono ?_
            rintro e w' ⟨rfl, rfl⟩
            go_wp2_with fail
            go_ret
            exact ⟨by rw [HF.out]; rfl, by have := HB.out; rw [Nat.zero_add] at this; exact this⟩
          · have h0' : ((pos : Int) == 0) = false := by simp; omega
            go_wp2_with fail
            refine (HL.out _).mono ?_
            rintro e w' ⟨rfl, rfl⟩
            go_wp2_with fail
            go_ret
            exact ⟨by rw [HF.out]; rfl, HB.out⟩
    · obtain rfl : pos = s.size := by omega
      have hnx := fun ty => Lib.run_next_end_at (P := Tryz.prog) wr _ s s.size ty hit hlt
      have HV : Hid (rsz s.data.toList = s.size) := Lib.hid (by
        by_cases h0 : s.size = 0
        · rw [h0]
          have : s.data.toList = [] := List.eq_nil_of_length_eq_zero (by rw [HZ.out]; exact h0)
          rw [this]
          rfl
        · rw [hv h0, List.drop_of_length_le (by rw [HZ.out]; exact Nat.le_refl _)]
          rfl)
      have HB := Lib.hid hb
      clear hv hb hit
      go_wp2_with fail
      go_ret
      exact ⟨by rw [HV.out]; rfl, HB.out⟩

/-- strconv.Atoi, in one. -/
theorem atoi_any (s : ByteArray) (hs : s.size ≤ 1048576) (w : World) (hT : Tabs w) :
    Calls Tryz.prog 133 #[.string s] w fun e w' => Below w.heap.size w w' ∧ ((∃ v, Lib.atoiAll s.data.toList = .ok v ∧ e = .returned (.tuple #[.int .i64 v, .nilIface])) ∨ ((∀ v, Lib.atoiAll s.data.toList ≠ .ok v) ∧ ∃ x t p, e = .returned (.tuple #[.int .i64 x, .iface t p]))) := by
  rcases h : Lib.atoiAll s.data.toList with v | _ | _
  · refine (Tryz.strconv_Atoi_ok s (by omega) v h w).mono ?_
    rintro e w' ⟨rfl, hw⟩
    refine ⟨?_, .inl ⟨v, rfl, rfl⟩⟩
    rcases hw with rfl | ⟨t, rfl⟩
    · exact Below.refl _ _
    · exact Lib.bytesWorld_below _ _ _
  · obtain ⟨tp, p, hc⟩ := hT.synCell
    refine (Any.strconv_Atoi_syntax Tryz.laysC172 s (by omega) h _ w hc (.inr ⟨tp, p, rfl⟩)).mono ?_
    rintro e w' ⟨N, rfl, _, _, hb⟩
    exact ⟨hb, .inr ⟨(fun v h => by cases h), _, _, _, rfl⟩⟩
  · obtain ⟨tp, p, hc⟩ := hT.rngCell
    refine (Tryz.strconv_Atoi_range s (by omega) h _ w hc (.inr ⟨tp, p, rfl⟩)).mono ?_
    rintro e w' ⟨N, rfl, _, _, hb⟩
    exact ⟨hb, .inr ⟨(fun v h => by cases h), _, _, _, rfl⟩⟩

theorem own_itoa_call {w : World} (hT : Lib.TabIs Tryz.prog w "internal/strconv.uint64pow10" .u64 Lib.pow10Tab) (n : Int) (h0 : -9223372036854775808 ≤ n) (h1 : n ≤ 9223372036854775807) (W : World) (hb : Below w.heap.size w W) :
    Calls Tryz.prog 17 #[.int .i64 n] W fun e w' => e = .returned (.string ⟨(Lib.itoa n).toArray⟩) ∧ Lay W w' := by
  refine (Tryz.strconv_Itoa n h0 h1 W (Joins.tab_stays gPow hT hb (Nat.le_refl _))).mono ?_
  rintro e w' ⟨he, k, os, rfl⟩
  exact ⟨he, Lay.of_grown _ _⟩

/-- What number answers. -/
def numV : Option Int → Value
  | some v => .tuple #[.int .i64 v, .bool true]
  | none => .tuple #[.int .i64 0, .bool false]

set_option maxHeartbeats 2000000 in
set_option maxRecDepth 100000 in
theorem number_any (s : ByteArray) (hs : s.size ≤ 1048576) (w : World) (hT : Tabs w) :
    Calls Tryz.prog 114 #[.string s] w fun e w' => e = .returned (numV (LX.num s.data.toList)) ∧ Below w.heap.size w w' := by
  have HT := Lib.hid hT
  have HA := Lib.hid (atoi_any s hs w hT)
  clear hT
  go_enter Tryz.func114, Tryz.ntmps114
  go_wp2_with fail
  refine HA.out.mono ?_
  rintro e w1 ⟨hb1, ⟨v, hv, rfl⟩ | ⟨hn, x, t, p, rfl⟩⟩
  · have hbd := Lib.atoiAll_bounds hv
    have HI := Lib.hid (own_itoa_call HT.out.pow v hbd.1 hbd.2 w1 hb1)
    have HB1 := Lib.hid hb1
    have HV := Lib.hid hv
    have HBD := Lib.hid hbd
    obtain ⟨X, hX⟩ : ∃ X : ByteArray, X = ⟨(Lib.itoa v).toArray⟩ := ⟨_, rfl⟩
    rw [← hX] at HI
    have HX : Hid (X.toList = Lib.itoa v) := Lib.hid (by rw [hX, Lib.toList_data])
    clear hb1 hv hbd hX HA
    by_cases he : X.toList = s.toList
    · have hbe : (X.toList == s.toList) = true := by simpa using he
      have HR : Hid (LX.num s.data.toList = some v) := Lib.hid (LX.num_of_atoi HV.out (by rw [← HX.out, he, Lib.toList_data]) HBD.out)
      clear he
      go_wp2_with fail
      refine HI.out.mono ?_
      rintro e w2 ⟨rfl, hl2⟩
      have HB2 := Lib.hid (HB1.out.trans ((Lay.below hl2).mono HB1.out.size))
      clear hl2
      go_wp2_with fail
      go_ret2
      exact ⟨by rw [HR.out]; rfl, HB2.out⟩
    · have hbe : (X.toList == s.toList) = false := by simpa using he
      have HR : Hid (LX.num s.data.toList = none) := Lib.hid (LX.num_none fun u hu e => he (by
        have : v = u := by
          have := HV.out.symm.trans hu
          cases this
          rfl
        subst this
        rw [HX.out, e, Lib.toList_data]))
      clear he
      go_wp2_with fail
      refine HI.out.mono ?_
      rintro e w2 ⟨rfl, hl2⟩
      have HB2 := Lib.hid (HB1.out.trans ((Lay.below hl2).mono HB1.out.size))
      clear hl2
      go_wp2_with fail
      go_ret2
      exact ⟨by rw [HR.out]; rfl, HB2.out⟩
  · have HR : Hid (LX.num s.data.toList = none) := Lib.hid (LX.num_none fun u hu _ => hn u hu)
    have HB1 := Lib.hid hb1
    clear hb1 hn HA
    go_wp2_with fail
    go_ret2
    exact ⟨by rw [HR.out]; rfl, HB1.out⟩

end Go.Proofs.YtmodiemmcdocdaaGreatDoor

namespace Go.Proofs.YtmodiemmcdocdaaGreatDoor.Own
open Go.RowKit Go

/-- A block of four cells. -/
structure Bx (W : World) (k : Nat) (u0 u1 u2 u3 : Value) : Prop where
  c0 : W.cell? ⟨k, 0, none⟩ = some u0
  c1 : W.cell? ⟨k, 1, none⟩ = some u1
  c2 : W.cell? ⟨k, 2, none⟩ = some u2
  c3 : W.cell? ⟨k, 3, none⟩ = some u3
  f0 : W.frozen? ⟨k, 0, none⟩ = false
  f1 : W.frozen? ⟨k, 1, none⟩ = false
  f2 : W.frozen? ⟨k, 2, none⟩ = false
  f3 : W.frozen? ⟨k, 3, none⟩ = false

theorem Bx.carry {W W' : World} {k : Nat} {u0 u1 u2 u3 : Value} (h : Bx W k u0 u1 u2 u3) (hb : W'.heap[k]? = W.heap[k]?) : Bx W' k u0 u1 u2 u3 :=
  ⟨(World.cell?_of_block (a := ⟨k, 0, none⟩) hb).trans h.c0, (World.cell?_of_block (a := ⟨k, 1, none⟩) hb).trans h.c1, (World.cell?_of_block (a := ⟨k, 2, none⟩) hb).trans h.c2, (World.cell?_of_block (a := ⟨k, 3, none⟩) hb).trans h.c3,
   (World.frozen?_of_block (a := ⟨k, 0, none⟩) hb).trans h.f0, (World.frozen?_of_block (a := ⟨k, 1, none⟩) hb).trans h.f1, (World.frozen?_of_block (a := ⟨k, 2, none⟩) hb).trans h.f2, (World.frozen?_of_block (a := ⟨k, 3, none⟩) hb).trans h.f3⟩

theorem Bx.set0 {W : World} {k : Nat} {u0 u1 u2 u3 : Value} (h : Bx W k u0 u1 u2 u3) (u : Value) : Bx (W.setCell ⟨k, 0, none⟩ u) k u u1 u2 u3 := by
  obtain ⟨c0, c1, c2, c3, f0, f1, f2, f3⟩ := h
  exact ⟨by go_simp, by go_simp, by go_simp, by go_simp, by go_simp, by go_simp, by go_simp, by go_simp⟩
theorem Bx.set1 {W : World} {k : Nat} {u0 u1 u2 u3 : Value} (h : Bx W k u0 u1 u2 u3) (u : Value) : Bx (W.setCell ⟨k, 1, none⟩ u) k u0 u u2 u3 := by
  obtain ⟨c0, c1, c2, c3, f0, f1, f2, f3⟩ := h
  exact ⟨by go_simp, by go_simp, by go_simp, by go_simp, by go_simp, by go_simp, by go_simp, by go_simp⟩
theorem Bx.set2 {W : World} {k : Nat} {u0 u1 u2 u3 : Value} (h : Bx W k u0 u1 u2 u3) (u : Value) : Bx (W.setCell ⟨k, 2, none⟩ u) k u0 u1 u u3 := by
  obtain ⟨c0, c1, c2, c3, f0, f1, f2, f3⟩ := h
  exact ⟨by go_simp, by go_simp, by go_simp, by go_simp, by go_simp, by go_simp, by go_simp, by go_simp⟩
theorem Bx.set3 {W : World} {k : Nat} {u0 u1 u2 u3 : Value} (h : Bx W k u0 u1 u2 u3) (u : Value) : Bx (W.setCell ⟨k, 3, none⟩ u) k u0 u1 u2 u := by
  obtain ⟨c0, c1, c2, c3, f0, f1, f2, f3⟩ := h
  exact ⟨by go_simp, by go_simp, by go_simp, by go_simp, by go_simp, by go_simp, by go_simp, by go_simp⟩

/-- A token that was stored there. -/
def stored (W : World) (k : Nat) (u0 u1 u2 u3 : Value) : World := (((W.setCell ⟨k, 0, none⟩ u0).setCell ⟨k, 1, none⟩ u1).setCell ⟨k, 2, none⟩ u2).setCell ⟨k, 3, none⟩ u3

theorem Bx.all {W : World} {k : Nat} {u0 u1 u2 u3 : Value} (h : Bx W k u0 u1 u2 u3) (v0 v1 v2 v3 : Value) : Bx (stored W k v0 v1 v2 v3) k v0 v1 v2 v3 :=
  (((h.set0 v0).set1 v1).set2 v2).set3 v3

theorem below_stored {n : Nat} {w W : World} {k : Nat} (h : Below n w W) (hk : n ≤ k) (u0 u1 u2 u3 : Value) : Below n w (stored W k u0 u1 u2 u3) :=
  (((h.setCell (p := ⟨k, 0, none⟩) hk u0).setCell (p := ⟨k, 1, none⟩) hk u1).setCell (p := ⟨k, 2, none⟩) hk u2).setCell (p := ⟨k, 3, none⟩) hk u3

/-- A new token. -/
def newTok (w : World) : World := w.alloc (.cells #[.int .i64 0, .string ⟨#[]⟩, .int .i64 0, .int .i64 0] 93)

theorem newTok_bx (w : World) : Bx (newTok w) w.heap.size (.int .i64 0) (.string ⟨#[]⟩) (.int .i64 0) (.int .i64 0) := by
  unfold newTok
  exact ⟨by go_simp, by go_simp, by go_simp, by go_simp, by go_simp, by go_simp, by go_simp, by go_simp⟩
theorem newTok_below (w : World) : Below w.heap.size w (newTok w) := (Below.refl _ _).alloc (Nat.le_refl _) _
theorem newTok_size (w : World) : (newTok w).heap.size = w.heap.size + 1 := by unfold newTok; simp

/-- What row answers. -/
def rowV (s : ByteArray) : Option (Nat × Int) → Value
  | some (k, n) => .tuple #[.agg #[.int .i64 (k : Nat), .string s, .int .i64 n, .int .i64 0], .int .i64 (s.size : Nat)]
  | none => .tuple #[.agg #[.int .i64 0, .string ⟨#[]⟩, .int .i64 0, .int .i64 0], .int .i64 0]

set_option maxHeartbeats 4000000 in
set_option maxRecDepth 100000 in
theorem row_any (s : ByteArray) (hs : s.size ≤ 1048576) (w : World) (hT : Tabs w) :
    Calls Tryz.prog 80 #[.string s] w fun e w' => e = .returned (rowV s (LX.kindOf s.data.toList)) ∧ Below w.heap.size w w' := by
  have HT := Lib.hid hT
  obtain ⟨W, hW⟩ : ∃ W, W = newTok w := ⟨_, rfl⟩
  have hbx := newTok_bx w
  have hbw := newTok_below w
  have hsz := newTok_size w
  rw [← hW] at hbx hbw hsz
  have HBX := Lib.hid hbx
  have HBW := Lib.hid hbw
  have HSZ := Lib.hid hsz
  have hW' : w.alloc (.cells #[.int .i64 0, .string ⟨#[]⟩, .int .i64 0, .int .i64 0] 93) = W := hW.symm
  have HW := Lib.hid hW'
  have HI := Lib.hid (own_isWord_any s W)
  have HN := Lib.hid (own_name_any s W)
  obtain ⟨K, hK⟩ : ∃ K, LX.kindOf s.data.toList = K := ⟨_, rfl⟩
  have hK' : K = if LX.isWord s.data.toList = true then some (2, 0) else if MW.name s.data.toList = true then some (1, 0) else (LX.num s.data.toList).map fun n => (3, n) := by rw [← hK]; rfl
  rw [hK]
  have HK := Lib.hid hK'
  clear hT hbx hbw hsz hW hK hK' hW'
  cases hi : LX.isWord s.data.toList with
  | true =>
    rw [hi] at HI HK
    clear hi
    go_enter Tryz.func80, Tryz.ntmps80
    go_wp2_with fail
    rw [HW.out]
    refine HI.out.mono ?_
    rintro e w1 ⟨rfl, rfl⟩
    obtain ⟨c0, c1, c2, c3, f0, f1, f2, f3⟩ := HBX.out
    go_wp2_with fail
    have hq := HBX.out.all (.int .i64 2) (.string s) (.int .i64 0) (.int .i64 0)
    unfold stored at hq
    obtain ⟨q0, q1, q2, q3, _, _, _, _⟩ := hq
    refine bodyPost_ret (v := .tuple #[.agg #[.int .i64 2, .string s, .int .i64 0, .int .i64 0], .int .i64 (s.size : Nat)]) (by simp [results, Tryz.results80, go_sem, q0, q1, q2, q3]) rfl ?_
    exact ⟨by rw [HK.out]; rfl, below_stored HBW.out (Nat.le_refl _) _ _ _ _⟩
  | false =>
    rw [hi] at HI HK
    clear hi
    cases hn : MW.name s.data.toList with
    | true =>
      rw [hn] at HN HK
      clear hn
      go_enter Tryz.func80, Tryz.ntmps80
      go_wp2_with fail
      rw [HW.out]
      refine HI.out.mono ?_
      rintro e w1 ⟨rfl, rfl⟩
      go_wp2_with fail
      refine HN.out.mono ?_
      rintro e w2 ⟨rfl, hl2⟩
      have HB2 := Lib.hid (HBW.out.trans ((Lay.below hl2).mono HBW.out.size))
      have HX2 := Lib.hid (HBX.out.carry (hl2.block (by have := HSZ.out; omega)))
      clear hl2
      obtain ⟨c0, c1, c2, c3, f0, f1, f2, f3⟩ := HX2.out
      go_wp2_with fail
      have hq := HX2.out.all (.int .i64 1) (.string s) (.int .i64 0) (.int .i64 0)
      unfold stored at hq
      obtain ⟨q0, q1, q2, q3, _, _, _, _⟩ := hq
      refine bodyPost_ret (v := .tuple #[.agg #[.int .i64 1, .string s, .int .i64 0, .int .i64 0], .int .i64 (s.size : Nat)]) (by simp [results, Tryz.results80, go_sem, q0, q1, q2, q3]) rfl ?_
      exact ⟨by rw [HK.out]; rfl, below_stored HB2.out (Nat.le_refl _) _ _ _ _⟩
    | false =>
      rw [hn] at HN HK
      clear hn
      obtain ⟨R, hR⟩ : ∃ R, LX.num s.data.toList = R := ⟨_, rfl⟩
      rw [hR] at HK
      have HR := Lib.hid hR
      clear hR
      go_enter Tryz.func80, Tryz.ntmps80
      go_wp2_with fail
      rw [HW.out]
      refine HI.out.mono ?_
      rintro e w1 ⟨rfl, rfl⟩
      go_wp2_with fail
      refine HN.out.mono ?_
      rintro e w2 ⟨rfl, hl2⟩
      have HB2 := Lib.hid (HBW.out.trans ((Lay.below hl2).mono HBW.out.size))
      have HX2 := Lib.hid (HBX.out.carry (hl2.block (by have := HSZ.out; omega)))
      have HZ2 := Lib.hid (show w.heap.size < w2.heap.size from Nat.lt_of_lt_of_le (by have := HSZ.out; omega) hl2.size)
      have hNU := number_any s hs w2 (HT.out.next HB2.out)
      rw [HR.out] at hNU
      have HNU := Lib.hid hNU
      clear hl2 hNU
      go_wp2_with fail
      refine HNU.out.mono ?_
      rintro e w3 ⟨rfl, hb3⟩
      have HB3 := Lib.hid (HB2.out.trans (hb3.mono HB2.out.size))
      have HX3 := Lib.hid (HX2.out.carry (hb3.block _ HZ2.out))
      clear hb3
      obtain ⟨c0, c1, c2, c3, f0, f1, f2, f3⟩ := HX3.out
      cases R with
      | some n =>
        unfold numV
        go_wp2_with fail
        have hq := HX3.out.all (.int .i64 3) (.string s) (.int .i64 n) (.int .i64 0)
        unfold stored at hq
        obtain ⟨q0, q1, q2, q3, _, _, _, _⟩ := hq
        refine bodyPost_ret (v := .tuple #[.agg #[.int .i64 3, .string s, .int .i64 n, .int .i64 0], .int .i64 (s.size : Nat)]) (by simp [results, Tryz.results80, go_sem, q0, q1, q2, q3]) rfl ?_
        exact ⟨by rw [HK.out]; rfl, below_stored HB3.out (Nat.le_refl _) _ _ _ _⟩
      | none =>
        unfold numV
        go_wp2_with fail
        have hq := HX3.out.all (.int .i64 0) (.string ⟨#[]⟩) (.int .i64 0) (.int .i64 0)
        unfold stored at hq
        obtain ⟨q0, q1, q2, q3, _, _, _, _⟩ := hq
        refine bodyPost_ret (v := .tuple #[.agg #[.int .i64 0, .string ⟨#[]⟩, .int .i64 0, .int .i64 0], .int .i64 0]) (by simp [results, Tryz.results80, go_sem, q0, q1, q2, q3]) rfl ?_
        exact ⟨by rw [HK.out]; rfl, below_stored HB3.out (Nat.le_refl _) _ _ _ _⟩

end Go.Proofs.YtmodiemmcdocdaaGreatDoor.Own

namespace Go.Proofs.YtmodiemmcdocdaaGreatDoor.Own
open Go.RowKit Go

theorem info21 : (Tryz.prog.info? 21).map (fun i => (i.zero, i.size, i.bytes)) = some (some (.int .i32 0), 1, 4) := by kernel_rfl

theorem elem21 : ∃ i z, Elem Tryz.prog 178 21 i z 1 4 := by
  obtain ⟨i, hi, hz, hs, hb⟩ := info_parts info21
  exact ⟨i, _, Tryz.underlying178, hi, hz, hs, hb, by kernel_rfl⟩

theorem src_rune (w : World) (g : Nat) (hg : g = w.heap.size) (c : Nat) : Src Tryz.prog 1 178 (.slice (some ⟨g, 0, none⟩) 1 1) 1 [.int .i32 (c : Int)] (w.alloc (.cells #[.int .i32 (c : Int)] 21)) := by
  subst hg
  refine Src.ofSlice _ Tryz.underlying178 ⟨w.heap.size, 0, none⟩ 1 1 _ rfl (fun j u hu => ?_) (fun u hu => ?_)
  · rw [add_lit0]
    rw [World.cell?_alloc_new]
    simpa using hu
  · simp only [List.mem_singleton] at hu
    subst hu
    rfl

/-- Runes, as they lie. -/
def runeC (rs : List Nat) : List Value := rs.map fun r : Nat => Value.int .i32 (r : Int)

theorem runeC_snoc (rs : List Nat) (c : Nat) : runeC (rs ++ [c]) = runeC rs ++ [.int .i32 (c : Int)] := by
  unfold runeC
  rw [List.map_append]
  rfl

theorem convert_runes {G : Nat → Prop} {w : World} {v : Value} {rs : List Nat} (h : Rk 1 G w v rs.length (runeC rs)) : (convert 178 9 v).run Tryz.prog w = .ok (.string ⟨(LX.enc rs).toArray⟩) w := by
  obtain ⟨_, ⟨rfl, h0⟩ | ⟨g, cap, rfl, _, hlt, _, _, hc, _⟩⟩ := h
  · obtain rfl : rs = [] := List.eq_nil_of_length_eq_zero h0
    exact run_convert_runes_nil w 178 9 21 0 0 Tryz.underlying178 Tryz.underlying21 Tryz.underlying9
  · have := run_convert_runes (P := Tryz.prog) w 178 9 21 ⟨g, 0, none⟩ rs.length cap (rs.map fun r : Nat => (r : Int)) (by simp) Tryz.underlying178 Tryz.underlying21 Tryz.underlying9 (fun j hj => by
      have hj' : j < rs.length := by simpa using hj
      rw [add_lit0, hc j (by simpa [runeC] using hj')]
      simp [runeC, List.getElem?_map, List.getD_eq_getElem?_getD, List.getElem?_eq_getElem hj'])
    rw [this, List.take_of_length_le (by simp), LX.runes_bytes]

/-- What text answers. -/
def textV : Option (List UInt8 × Nat) → Value
  | some q => .tuple #[.agg #[.int .i64 4, .string ⟨q.1.toArray⟩, .int .i64 0, .int .i64 0], .int .i64 ((q.2 : Nat) + 1)]
  | none => .tuple #[.agg #[.int .i64 0, .string ⟨#[]⟩, .int .i64 0, .int .i64 0], .int .i64 0]

theorem textV_some (a : List UInt8) (n : Nat) : textV (some (a, n + 1)) = .tuple #[.agg #[.int .i64 4, .string ⟨a.toArray⟩, .int .i64 0, .int .i64 0], .int .i64 ((n : Int) + 2)] := by
  unfold textV
  simp only
  rw [show (((n + 1 : Nat) : Int) + 1) = (n : Int) + 2 by omega]

/-- Behind the append of a rune. -/
theorem rune_app {B : Nat} {X : Nat → Prop} {w W w2 : World} {o : Obj} {v v' : Value} {rs : List Nat} {c : Nat} (hb : Below w.heap.size w W) (hrk : Rk 1 (fun b => B ≤ b) W v rs.length (runeC rs)) (hB : w.heap.size ≤ B) (hBW : B ≤ W.heap.size)
    (h2 : Rk 1 (fun b => B ≤ b ∧ X b) w2 v' (rs.length + 1) (runeC rs ++ [.int .i32 (c : Int)])) (hk : Keep (At v) (W.alloc o) w2) :
    Rk 1 (fun b => B ≤ b) w2 v' (rs ++ [c]).length (runeC (rs ++ [c])) ∧ Below w.heap.size w w2 ∧ ∀ b, b < B → w2.heap[b]? = W.heap[b]? := by
  rw [← runeC_snoc] at h2
  refine ⟨by rw [List.length_append]; exact h2.mono fun b h _ => h.1, ?_, fun b hbB => ?_⟩
  · have h3 : Below w.heap.size w (W.alloc o) := hb.alloc hb.size _
    exact h3.trans (hk.below (fun b ha => Nat.le_trans hB (hrk.at ha).1) h3.size)
  · rw [hk.block b (by simp; omega) (fun ha => by have := (hrk.at ha).1; omega)]
    exact Below.heap_alloc W o b (by omega)

theorem stepN_le (st c : Nat) : LX.stepN st c ≤ 3 := by
  unfold LX.stepN
  repeat' split
  all_goals omega

set_option maxHeartbeats 4000000 in
set_option maxRecDepth 100000 in
theorem text_any (s : ByteArray) (hs : s.size ≤ 1048576) (hu : LX.U8 s.data.toList) (w : World) :
    Calls Tryz.prog 79 #[.string s] w fun e w' => e = .returned (textV (LX.text s.data.toList)) ∧ Below w.heap.size w w' := by
  obtain ⟨i21, z21, E21⟩ := elem21
  have hsz : s.data.toList.length = s.size := (Lib.size_eq s).symm
  have HZ := Lib.hid hsz
  have HU := Lib.hid hu
  have HBX := Lib.hid (newTok_bx w)
  have HBW := Lib.hid (newTok_below w)
  have HSW := Lib.hid (newTok_size w)
  clear hsz hu
  go_enter Tryz.func79, Tryz.ntmps79
  go_wp2_with fail
  go_loopw [4, 5] (fun v vs wr => ∃ (pos st : Nat) (rs : List Nat), vs = .int .i64 (st : Int) ∧ wr.heap[w.heap.size + 1]? = some (.stringIter s pos) ∧ Below w.heap.size w wr ∧ Bx wr w.heap.size (.int .i64 0) (.string ⟨#[]⟩) (.int .i64 0) (.int .i64 0) ∧
    Rk 1 (fun b => w.heap.size + 2 ≤ b) wr v rs.length (runeC rs) ∧ pos ≤ s.size ∧ LX.TI s.data.toList pos st rs) (fun _ _ wr => s.size - wr.iterPos (w.heap.size + 1))
  case atStart =>
    refine ⟨0, 0, [], rfl, ?_, HBW.out.alloc HBW.out.size _, HBX.out.carry (Below.heap_alloc _ _ _ (by simp)), Rk.nil 1 _ _, Nat.zero_le _, LX.TI.start HU.out⟩
    have := World.iter_heap (newTok w) s 0
    rw [HSW.out] at this
    exact this
  case round =>
    obtain ⟨pos, st, rs, rfl, hit, hb, hbx, hrk, hp, hti⟩ := hrel
    by_cases hlt : pos < s.size
    · obtain ⟨c, n, hd⟩ : ∃ c n, MW.dec (s.data.toList.drop pos) = (c, n) := ⟨_, _, rfl⟩
      have hn := MW.dec_drop (l := s.data.toList) (pos := pos) (by rw [HZ.out]; exact hlt)
      rw [hd, HZ.out] at hn
      simp only at hn
      have hne : s.data.toList.drop pos ≠ [] := by
        intro e
        have := congrArg List.length e
        rw [List.length_drop, HZ.out] at this
        simp at this
        omega
      have hnext := hti.next hne hd
      have hnx := fun ty => next_at wr _ s pos ty hit hlt c n hd
      have hit1 := Lib.iterAt_heap wr _ s pos (pos + n) hit
      have hb1 := Lib.below_iterAt hb (k := w.heap.size + 1) (Nat.le_succ _) s (pos + n)
      have hoth : ∀ b, b ≠ w.heap.size + 1 → (wr.iterAt (w.heap.size + 1) s (pos + n)).heap[b]? = wr.heap[b]? := fun b h => Lib.iterAt_other wr _ b s (pos + n) h
      have hsz1 := Lib.iterAt_size wr (w.heap.size + 1) s (pos + n)
      have hrl := hti.len
      obtain ⟨W, hW⟩ : ∃ W, W = wr.iterAt (w.heap.size + 1) s (pos + n) := ⟨_, rfl⟩
      rw [← hW] at hit1 hb1 hoth hsz1
      have hwl : w.heap.size + 2 ≤ W.heap.size := (Array.getElem?_eq_some_iff.1 hit1).1
      have HIT := Lib.hid hit1
      have HB := Lib.hid hb1
      have HX := Lib.hid (hbx.carry (hoth _ (by omega)))
      have HRK := Lib.hid (hrk.carry (Nat.le_of_eq hsz1.symm) (fun b hb _ _ => hoth b (by omega)))
      have HN := Lib.hid hnext
      have HP0 := Lib.hid (iterPos_of hit)
      have HWL := Lib.hid hwl
      have HS := Lib.hid (step_any st c W)
      obtain ⟨ao, co, rfl⟩ := hrk.shape
      obtain ⟨r, hr⟩ : ∃ r, LX.stepN st c = r := ⟨_, rfl⟩
      have hr3 := stepN_le st c
      rw [hr] at HN HS hr3
      have hnx' : ∀ ty, (Instr.next (.pointer (some ⟨w.heap.size + 1, 0, none⟩)) true ty).run Tryz.prog wr = .ok (.tuple #[.bool true, .int .i64 (pos : Int), .int .i32 (c : Int)]) W := fun ty => by rw [hW]; exact hnx ty
      clear hnx hd hne hnext hit hb hbx hrk hit1 hb1 hoth hsz1 hwl hr hti hW
      obtain rfl | rfl | rfl | rfl : r = 0 ∨ r = 1 ∨ r = 2 ∨ r = 3 := by omega
      · go_wp2_with fail
        refine HS.out.mono ?_
        rintro e w' ⟨rfl, rfl⟩
        go_wp2_with (at_builtin; refine wpList_append_rk E21 _ rfl _ _ 178 rfl (G := fun b => w.heap.size + 2 ≤ b) rfl (Rk.alloc HRK.out _) ?c1 (.slice (some ⟨W.heap.size, 0, none⟩) 1 1) 1 [.int .i32 (c : Int)] rfl (src_rune _ _ rfl c) ?c2 ?c3 ?_)
        case c1 => intro b h; have := HWL.out; simp at h; omega
        case c2 => omega
        case c3 => omega
        intro v' w2 hrk2 hk2
        obtain ⟨hr3, hb3, ho3⟩ := rune_app HB.out HRK.out (Nat.le_add_right _ _) HWL.out hrk2 hk2
        have HR3 := Lib.hid hr3
        have HB3 := Lib.hid hb3
        have HX3 := Lib.hid (HX.out.carry (ho3 _ (by omega)))
        have HIT3 := Lib.hid ((ho3 _ (by omega)).trans HIT.out)
        clear hrk2 hk2 hr3 hb3 ho3
        go_wp2_with fail
        go_roundw
        case rel => exact ⟨pos + n, 0, rs ++ [c], rfl, HIT3.out, HB3.out, HX3.out, HR3.out, by omega, HN.out.1 trivial⟩
        case measure => rw [HP0.out, iterPos_of HIT3.out]; omega
      · go_wp2_with fail
        refine HS.out.mono ?_
        rintro e w' ⟨rfl, rfl⟩
        go_wp2_with fail
        go_roundw
        case rel => exact ⟨pos + n, 1, rs, rfl, HIT.out, HB.out, HX.out, HRK.out, by omega, HN.out.2.1 trivial⟩
        case measure => rw [HP0.out, iterPos_of HIT.out]; omega
      · have hcv := convert_runes HRK.out
        have HT : Hid (LX.text s.data.toList = some (LX.enc rs, pos + 1)) := Lib.hid (HN.out.2.2.1 rfl)
        obtain ⟨c0, c1, c2, c3, f0, f1, f2, f3⟩ := HX.out
        go_wp2_with fail
        refine HS.out.mono ?_
        rintro e w' ⟨rfl, rfl⟩
        go_wp2_with fail
        have hq := HX.out.all (.int .i64 4) (.string ⟨(LX.enc rs).toArray⟩) (.int .i64 0) (.int .i64 0)
        unfold stored at hq
        obtain ⟨q0, q1, q2, q3, _, _, _, _⟩ := hq
        refine bodyPost_ret (v := .tuple #[.agg #[.int .i64 4, .string ⟨(LX.enc rs).toArray⟩, .int .i64 0, .int .i64 0], .int .i64 ((pos : Int) + 2)]) (by simp [results, Tryz.results79, go_sem, q0, q1, q2, q3]) rfl ?_
        refine ⟨?_, below_stored HB.out (Nat.le_refl _) _ _ _ _⟩
        rw [HT.out, textV_some]
      · have HT : Hid (LX.text s.data.toList = none) := Lib.hid (HN.out.2.2.2 rfl)
        obtain ⟨c0, c1, c2, c3, f0, f1, f2, f3⟩ := HX.out
        go_wp2_with fail
        refine HS.out.mono ?_
        rintro e w' ⟨rfl, rfl⟩
        go_wp2_with fail
        have hq := HX.out.all (.int .i64 0) (.string ⟨#[]⟩) (.int .i64 0) (.int .i64 0)
        unfold stored at hq
        obtain ⟨q0, q1, q2, q3, _, _, _, _⟩ := hq
        refine bodyPost_ret (v := .tuple #[.agg #[.int .i64 0, .string ⟨#[]⟩, .int .i64 0, .int .i64 0], .int .i64 0]) (by simp [results, Tryz.results79, go_sem, q0, q1, q2, q3]) rfl ?_
        exact ⟨by rw [HT.out]; rfl, below_stored HB.out (Nat.le_refl _) _ _ _ _⟩
    · obtain rfl : pos = s.size := by omega
      have hnx := fun ty => Lib.run_next_end_at (P := Tryz.prog) wr _ s s.size ty hit hlt
      have HT : Hid (LX.text s.data.toList = none) := Lib.hid (hti.none (List.drop_of_length_le (by rw [HZ.out]; exact Nat.le_refl _)))
      have HB := Lib.hid hb
      have HX := Lib.hid hbx
      obtain ⟨c0, c1, c2, c3, f0, f1, f2, f3⟩ := hbx
      clear hb hit hrk hti
      go_wp2_with fail
      have hq := HX.out.all (.int .i64 0) (.string ⟨#[]⟩) (.int .i64 0) (.int .i64 0)
      unfold stored at hq
      obtain ⟨q0, q1, q2, q3, _, _, _, _⟩ := hq
      refine bodyPost_ret (v := .tuple #[.agg #[.int .i64 0, .string ⟨#[]⟩, .int .i64 0, .int .i64 0], .int .i64 0]) (by simp [results, Tryz.results79, go_sem, q0, q1, q2, q3]) rfl ?_
      exact ⟨by rw [HT.out]; rfl, below_stored HB.out (Nat.le_refl _) _ _ _ _⟩

end Go.Proofs.YtmodiemmcdocdaaGreatDoor.Own
