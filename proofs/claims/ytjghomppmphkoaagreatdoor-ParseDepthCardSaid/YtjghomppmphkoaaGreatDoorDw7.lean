/-
  NOTS AND BRACKETS WITHIN ONE ANOTHER: the law's walk.
-/
import Derived.Test.YtjghomppmphkoaaGreatDoorDp7
import Derived.Test.YtjghomppmphkoaaGreatDoorPrE
namespace Go.Proofs.YtjghomppmphkoaaGreatDoor
open Go.RowKit Go
open PX (tk isT)

def dbits (n : Int) (k : Nat) : List Bool := (List.range k).map fun j => decide (n / 2 ^ j % 2 = 1)
theorem dbits_succ (n : Int) (k : Nat) : dbits n (k + 1) = dbits n k ++ [decide (n / 2 ^ k % 2 = 1)] := by
  unfold dbits
  rw [List.range_succ, List.map_append]
  rfl
theorem dbits_length (n : Int) (k : Nat) : (dbits n k).length = k := by simp [dbits]
theorem dbits_take (n : Int) (k : Nat) (h : 8 ≤ k) : (dbits n k).take 8 = dbits n 8 := by
  unfold dbits
  rw [← List.map_take, List.take_range, Nat.min_eq_left h]

/-- One more: what is written ahead. -/
theorem dbits_head {n : Int} {k : Nat} {s : ByteArray} (h : s.data.toList = PX.deepHead ++ PX.hTs (dbits n k)) (b : Bool) (hb : decide (n / 2 ^ k % 2 = 1) = b) (t : ByteArray) (ht : t.data.toList = PX.hT b) :
    (s ++ t).data.toList = PX.deepHead ++ PX.hTs (dbits n (k + 1)) := by
  rw [dbits_succ, hb, PX.hTs_append, ← List.append_assoc, ← h]
  simp [PX.hTs, ht]
theorem dbits_size {n : Int} {k : Nat} {s : ByteArray} (h : s.data.toList = PX.deepHead ++ PX.hTs (dbits n k)) (hk : k ≤ 20) : s.size = 17 + (PX.hTs (dbits n k)).length ∧ s.size ≤ 97 := by
  have h1 := PX.hTs_length (dbits n k)
  rw [dbits_length] at h1
  have h2 : s.size = 17 + (PX.hTs (dbits n k)).length := by rw [Lib.size_eq, h, List.length_append]; rfl
  exact ⟨h2, by omega⟩
theorem dbits_esize {n : Int} {k : Nat} {s : ByteArray} (h : s.data.toList = List.replicate (PX.opens (dbits n k)) 41) (hk : k ≤ 20) : s.size ≤ 20 := by
  have h1 := PX.opens_le (dbits n k)
  rw [dbits_length] at h1
  rw [Lib.size_eq, h, List.length_replicate]
  omega
theorem dbits_end {n : Int} {k : Nat} {s : ByteArray} (h : s.data.toList = List.replicate (PX.opens (dbits n k)) 41) (hb : decide (n / 2 ^ k % 2 = 1) = false) :
    (s ++ ⟨#[41]⟩).data.toList = List.replicate (PX.opens (dbits n (k + 1))) 41 := by
  rw [dbits_succ, hb, PX.opens_append, show PX.opens [false] = 1 from rfl, List.replicate_succ', ← h]
  simp
theorem dbits_end0 {n : Int} {k : Nat} {s : ByteArray} (h : s.data.toList = List.replicate (PX.opens (dbits n k)) 41) (hb : decide (n / 2 ^ k % 2 = 1) = true) :
    s.data.toList = List.replicate (PX.opens (dbits n (k + 1))) 41 := by
  rw [dbits_succ, hb, PX.opens_append, show PX.opens [true] = 0 from rfl, Nat.add_zero, ← h]

set_option maxHeartbeats 8000000 in
set_option maxRecDepth 100000 in
theorem depth_walk (d n : Int) (hd0 : -9223372036854775808 ≤ d) (hd1 : d < 9223372036854775808) (hn0 : 0 ≤ n) (hn1 : n < 18446744073709551616) (w : World) (hT : Tabs w) :
    Calls Tryz.prog 8 #[.int .i64 d, .int .u64 n] w fun e w' => e = .returned (.bool true) ∧ Below w.heap.size w w' := by
  have HA := Lib.hid (alive_own w hT)
  have HT := Lib.hid hT
  clear hT
  go_enter Tryz.func8, Tryz.ntmps8
  go_wp2_with fail
  refine HA.out.mono ?_
  rintro e w1 ⟨rfl, hb1⟩
  have HB1 := Lib.hid hb1
  clear hb1 HA
  by_cases h0 : d < 0
  · have d0 : decide (d < 0) = true := by simpa using h0
    go_wp2_with fail
    go_ret
    exact ⟨rfl, HB1.out⟩
  have d0 : decide (d < 0) = false := by simpa using h0
  by_cases h1 : 20 < d
  · have d1 : decide (20 < d) = true := by simpa using h1
    go_wp2_with fail
    go_ret
    exact ⟨rfl, HB1.out⟩
  have d1 : decide (20 < d) = false := by simpa using h1
  obtain ⟨D, rfl⟩ : ∃ D : Nat, d = (D : Int) := ⟨d.toNat, by omega⟩
  have hD : D ≤ 20 := by omega
  have HD := Lib.hid hD
  clear h0 h1 hd0 hd1
  go_wp2_with fail
  go_loopw [5, 6, 7, 8] (fun v5 v6 v7 v8 wr => ∃ (k : Nat) (s5 s6 : ByteArray), k ≤ D ∧ v8 = .int .i64 (k : Int) ∧ v5 = .string s5 ∧ v6 = .string s6 ∧ Hid (s5.data.toList = PX.deepHead ++ PX.hTs (dbits n k)) ∧ Hid (s6.data.toList = List.replicate (PX.opens (dbits n k)) 41) ∧ v7 = .int .i64 (if 8 < k then ((17 + (PX.hTs (dbits n 8)).length + 1 : Nat) : Int) else 0) ∧ wr = w1) (fun _ _ _ v8 _ => D - (intOf v8).toNat)
  case atStart => exact ⟨0, _, _, Nat.zero_le _, rfl, rfl, rfl, Lib.hid (by rfl), Lib.hid (by rfl), rfl, rfl⟩
  case round =>
    obtain ⟨k, s5, s6, hk, rfl, rfl, rfl, H5, H6, rfl, rfl⟩ := hrel
    have hk20 : k ≤ 20 := by have := HD.out; omega
    have hs5 := (dbits_size H5.out hk20).2
    have hs6 := dbits_esize H6.out hk20
    by_cases hlt : k < D
    · have dl : decide ((k : Int) < (D : Int)) = true := by simpa using hlt
      by_cases h8 : k = 8
      · subst h8
        have HS5 := Lib.hid (dbits_size H5.out hk20).1
        by_cases hb : n / 256 % 2 = 1
        · have eb : (n / 256 % 2 == 1) = true := by simpa using hb
          have HB : Hid (decide (n / 2 ^ 8 % 2 = 1) = true) := Lib.hid (by simpa using hb)
          clear hb
          go_wp2_with fail
          go_roundw
          case rel =>
            refine ⟨9, _, _, by omega, rfl, rfl, rfl, Lib.hid (dbits_head H5.out true HB.out _ rfl), Lib.hid (dbits_end0 H6.out HB.out), ?_, trivial⟩
            rw [if_pos (by omega), HS5.out]
            rfl
          case measure =>
            have := HD.out
            simp [intOf]
            omega
        · have eb : (n / 256 % 2 == 1) = false := by simpa using hb
          have HB : Hid (decide (n / 2 ^ 8 % 2 = 1) = false) := Lib.hid (by simpa using hb)
          clear hb
          go_wp2_with fail
          go_roundw
          case rel =>
            refine ⟨9, _, _, by omega, rfl, rfl, rfl, Lib.hid (dbits_head H5.out false HB.out _ rfl), Lib.hid (dbits_end H6.out HB.out), ?_, trivial⟩
            rw [if_pos (by omega), HS5.out]
            rfl
          case measure =>
            have := HD.out
            simp [intOf]
            omega
      · have e8 : ((k : Int) == 8) = false := by simp; omega
        obtain ⟨at7, h7⟩ : ∃ at7 : Int, at7 = (if 8 < k then ((17 + (PX.hTs (dbits n 8)).length + 1 : Nat) : Int) else 0) := ⟨_, rfl⟩
        rw [← h7]
        have H7 := Lib.hid h7
        have N8 := Lib.hid h8
        clear h7 h8
        have htm : (n / 2 ^ k).tmod 2 = n / 2 ^ k % 2 := Int.tmod_eq_emod_of_nonneg (Int.ediv_nonneg hn0 (Int.le_of_lt (Int.pow_pos (by decide))))
        by_cases hb : n / 2 ^ k % 2 = 1
        · have eb : ((n / 2 ^ k).tmod 2 == 1) = true := by rw [htm]; simpa using hb
          have HB : Hid (decide (n / 2 ^ k % 2 = 1) = true) := Lib.hid (by simpa using hb)
          clear hb htm
          go_wp2_with fail
          go_roundw
          case rel =>
            refine ⟨k + 1, _, _, by omega, rfl, rfl, rfl, Lib.hid (dbits_head H5.out true HB.out _ rfl), Lib.hid (dbits_end0 H6.out HB.out), ?_, trivial⟩
            rw [H7.out]
            congr 1
            have := N8.out
            by_cases h : 8 < k
            · rw [if_pos h, if_pos (by omega)]
            · rw [if_neg h, if_neg (by omega)]
          case measure =>
            have := HD.out
            simp [intOf]
            omega
        · have eb : ((n / 2 ^ k).tmod 2 == 1) = false := by rw [htm]; simpa using hb
          have HB : Hid (decide (n / 2 ^ k % 2 = 1) = false) := Lib.hid (by simpa using hb)
          clear hb
          go_wp2_with fail
          go_roundw
          case rel =>
            refine ⟨k + 1, _, _, by omega, rfl, rfl, rfl, Lib.hid (dbits_head H5.out false HB.out _ rfl), Lib.hid (dbits_end H6.out HB.out), ?_, trivial⟩
            rw [H7.out]
            congr 1
            have := N8.out
            by_cases h : 8 < k
            · rw [if_pos h, if_pos (by omega)]
            · rw [if_neg h, if_neg (by omega)]
          case measure =>
            have := HD.out
            simp [intOf]
            omega
    · obtain rfl : k = D := by have := hk; omega
      have dl : decide ((k : Int) < (k : Int)) = false := by simp
      have H7 : Hid (∃ a : Int, a = (if 8 < k then ((17 + (PX.hTs (dbits n 8)).length + 1 : Nat) : Int) else 0)) := Lib.hid ⟨_, rfl⟩
      obtain ⟨at7, h7⟩ := H7.out
      rw [← h7]
      have H7 := Lib.hid h7
      clear h7 dl
      obtain ⟨S, hS⟩ : ∃ S : ByteArray, S = s5 ++ ⟨#[116, 114, 117, 101]⟩ ++ s6 ++ ⟨#[32, 108, 105, 109, 105, 116, 32, 49]⟩ := ⟨_, rfl⟩
      have HSL : Hid (S.data.toList = PX.spell (PX.deepL (dbits n k))) := Lib.hid (by rw [hS, PX.deep_spell, ← H5.out, ← H6.out]; simp)
      have HSS : Hid (S.size ≤ 1048576) := Lib.hid (by rw [hS]; simp [ByteArray.size_append]; rw [show (ByteArray.mk #[116, 114, 117, 101]).size = 4 from rfl, show (ByteArray.mk #[32, 108, 105, 109, 105, 116, 32, 49]).size = 8 from rfl]; omega)
      have hpd := PX.parse_deep (dbits n k) (by rw [dbits_length]; exact hk20)
      rw [dbits_length] at hpd
      have HPD := Lib.hid hpd
      clear hpd
      by_cases h8 : 8 < k
      · have d8 : decide (8 < (k : Int)) = true := by simp; omega
        have HP := Lib.hid (parse_no HSL.out HSS.out (HPD.out.2 h8) wr (HT.out.next HB1.out))
        have h7 := H7.out
        rw [dbits_take n k (by omega)] at HP
        rw [if_pos h8] at h7
        generalize 17 + (PX.hTs (dbits n 8)).length + 1 = A at HP h7
        subst h7
        clear H7 h8
        go_wp2_with fail
        rw [← hS]
        refine HP.out.mono ?_
        rintro e w5 ⟨rfl, hb5⟩
        have HB5 := Lib.hid (fun u v => (HB1.out.trans (hb5.mono HB1.out.size)).trans ((Lay.below (((Keep.refl (fun _ => False) w5).alloc u).alloc v)).mono (HB1.out.trans (hb5.mono HB1.out.size)).size))
        clear hb5 HP hS
        simp only [zeroQ]
        go_wp2_with fail
        go_ret
        exact ⟨rfl, HB5.out _ _⟩
      · have d8 : decide (8 < (k : Int)) = false := by simp; omega
        obtain ⟨f, hf⟩ := HPD.out.1 (by omega)
        have HP := Lib.hid (parse_ok HSL.out HSS.out hf wr (HT.out.next HB1.out))
        clear hf h8
        go_wp2_with fail
        rw [← hS]
        refine HP.out.mono ?_
        rintro e w5 ⟨am, cm, ak, ck, rfl, _, _, hb5⟩
        simp only [Qy.val, List.length_nil]
        have HB5 := Lib.hid (fun u v => (HB1.out.trans (hb5.mono HB1.out.size)).trans ((Lay.below (((Keep.refl (fun _ => False) w5).alloc u).alloc v)).mono (HB1.out.trans (hb5.mono HB1.out.size)).size))
        clear hb5 HP hS
        go_wp2_with fail
        go_ret
        exact ⟨rfl, HB5.out _ _⟩

end Go.Proofs.YtjghomppmphkoaaGreatDoor
