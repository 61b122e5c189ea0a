/-
  magpielaw02.SumTurned: the walk.
-/
import Derived.Test.YtacekhjmfjcppaaAlive
namespace Go.Proofs.Ytacekhjmfjcppaa
open Go.RowKit Go

/-- The cells of block g are the bytes l, and may be written. -/
structure Row (g cap : Nat) (w : World) (l : List UInt8) : Prop where
  lt : g < w.heap.size
  le : l.length ≤ cap
  max : cap ≤ maxLen
  cell : ∀ j, j < l.length → w.cell? ⟨g, j, none⟩ = (cellsOf l)[j]?
  free : ∀ j, j < cap → (w.cell? ⟨g, j, none⟩).isSome = true ∧ w.frozen? ⟨g, j, none⟩ = false

theorem Bs.row {G : Nat → Prop} {w : World} {v : Value} {l : List UInt8} (h : Bs G w v l) (hl : 0 < l.length) : ∃ g cap, v = .slice (some ⟨g, 0, none⟩) l.length cap ∧ G g ∧ Row g cap w l := by
  rcases h with ⟨_, rfl⟩ | ⟨g, cap, hv, hG, h1, h2, h3, h4, h5⟩
  · simp at hl
  · exact ⟨g, cap, hv, hG, h1, h2, h3, h4, h5⟩

theorem Row.bs {g cap : Nat} {w : World} {l : List UInt8} (h : Row g cap w l) : Bs (fun k => k = g) w (.slice (some ⟨g, 0, none⟩) l.length cap) l :=
  .inr ⟨g, cap, rfl, rfl, h.lt, h.le, h.max, h.cell, h.free⟩

theorem Row.at {g cap : Nat} {w : World} {l : List UInt8} (h : Row g cap w l) {j : Nat} (hj : j < l.length) : w.cell? ⟨g, j, none⟩ = some (.int .u8 l[j].toNat) := by
  rw [h.cell j hj]
  simp [cellsOf, hj]

theorem Row.set {g cap : Nat} {w : World} {l : List UInt8} (h : Row g cap w l) {j : Nat} (hj : j < l.length) (b : UInt8) : Row g cap (w.setCell ⟨g, j, none⟩ (.int .u8 b.toNat)) (l.set j b) := by
  have hs : (w.setCell ⟨g, j, none⟩ (.int .u8 b.toNat)).heap.size = w.heap.size := by simp [World.setCell]
  have hsome := (h.free j (Nat.lt_of_lt_of_le hj h.le)).1
  have hcell : ∀ i, i ≠ j → (w.setCell ⟨g, j, none⟩ (.int .u8 b.toNat)).cell? ⟨g, i, none⟩ = w.cell? ⟨g, i, none⟩ := fun i hi => by
    refine World.cell?_setCell_other w _ _ _ ?_
    intro e
    have : (⟨g, j, none⟩ : Addr).off = (⟨g, i, none⟩ : Addr).off := by rw [e]
    exact hi this.symm
  refine ⟨by rw [hs]; exact h.lt, by rw [List.length_set]; exact h.le, h.max, fun i hi => ?_, fun i hi => ⟨?_, ?_⟩⟩
  · rw [List.length_set] at hi
    by_cases e : i = j
    · subst e
      rw [World.cell?_setCell_same' _ _ _ hsome]
      simp [cellsOf, hj]
    · rw [hcell i e, h.cell i hi]
      simp [cellsOf, List.getElem?_set_ne (Ne.symm e)]
  · by_cases e : i = j
    · subst e
      rw [World.cell?_setCell_same' _ _ _ hsome]
      rfl
    · rw [hcell i e]
      exact (h.free i hi).1
  · rw [World.frozen?_setCell]
    exact (h.free i hi).2

theorem xor_pow (c : UInt8) (i : Nat) (hi : i < 8) : bits .xor .u8 (c.toNat : Int) (2 ^ i % 256) = (((UInt8.ofNat (c.toNat ^^^ 2 ^ i)).toNat : Nat) : Int) ∧ (UInt8.ofNat (c.toNat ^^^ 2 ^ i)).toNat = c.toNat ^^^ 2 ^ i := by
  have h1 : (2 : Nat) ^ i < 256 := by
    have : (2 : Nat) ^ i ≤ 2 ^ 7 := Nat.pow_le_pow_right (by decide) (by omega)
    omega
  have h2 : c.toNat ^^^ 2 ^ i < 256 := Nat.xor_lt_two_pow (n := 8) c.toNat_lt h1
  have h3 : (UInt8.ofNat (c.toNat ^^^ 2 ^ i)).toNat = c.toNat ^^^ 2 ^ i := by
    rw [UInt8.toNat_ofNat']
    exact Nat.mod_eq_of_lt h2
  have h4 : (2 : Int) ^ i % 256 = ((2 ^ i : Nat) : Int) := by
    rw [show (2 : Int) ^ i = ((2 ^ i : Nat) : Int) by simp]
    generalize (2 : Nat) ^ i = y at h1
    omega
  rw [h4, h3]
  exact ⟨u8_xor_nat _ _ c.toNat_lt h1, rfl⟩

set_option maxHeartbeats 4000000 in
theorem turned_walk (s : ByteArray) (at_ : Int) (x : Nat) (hx : x < 4294967296) (ha0 : -9223372036854775808 ≤ at_) (ha1 : at_ ≤ 9223372036854775807) (w : World) :
    Calls Try.prog 5 #[.string s, .int .i64 at_, .int .u32 x] w fun e w' => e = .returned (.bool true) ∧ Below w.heap.size w w' := by
  by_cases hlen : 1024 < s.size
  · go_enter Try.func5, Try.ntmps5
    go_wp2_with fail
    refine (alive_any w).mono ?_
    rintro e w1 ⟨rfl, hb1⟩
    go_wp2
    go_ret
    exact ⟨rfl, hb1⟩
  by_cases hx0 : x = 0
  · subst hx0
    go_enter Try.func5, Try.ntmps5
    go_wp2_with fail
    refine (alive_any w).mono ?_
    rintro e w1 ⟨rfl, hb1⟩
    go_wp2
    go_ret
    exact ⟨rfl, hb1⟩
  have hx1 : ((x : Int) == 0) = false := by simp; omega
  have hls : s.size ≤ 1024 := by omega
  have HX0 := Lib.hid hx0
  clear hlen hx0
  go_enter Try.func5, Try.ntmps5
  go_wp2_with fail
  refine (alive_any w).mono ?_
  rintro e w1 ⟨rfl, hb1⟩
  obtain ⟨v0, w2, hc0, hs0, hb2⟩ := bytes_bs w1 s (by omega)
  have HS0 := Lib.hid hs0
  clear hs0
  go_wp2_with fail
  have hsl : s.data.toList.length = s.size := (Lib.size_eq s).symm
  have hb2w : Below w.heap.size w w2 := hb1.trans (hb2.mono hb1.size)
  have hw1 := hb1.size
  have hw2 := hb2w.size
  refine (shut_any (From w.heap.size) v0 _ w2 (HS0.out.mono (fun k hk => by simp only [From]; omega)) (fun k hk => by simp only [From]; omega) (by omega)).mono ?_
  rintro e w3 ⟨v1, rfl, hs1, hk3⟩
  have hb3 : Below w.heap.size w w3 := hb2w.trans (hk3.from hw2)
  have hN : (M.shut s.data.toList).length = s.size + 4 := by rw [M.shut_length, hsl]
  obtain ⟨g, cap, rfl, hg, hrow⟩ := hs1.row (by omega)
  rw [hN]
  have HG : w.heap.size ≤ g := hg
  have HROW := Lib.hid hrow
  have HB3 := Lib.hid hb3
  have HN := Lib.hid hN
  clear hs1 hk3 hb1 hb2 hb2w hw1 hw2 hrow hb3 hsl hc0 HS0 hg hN
  by_cases hneg : at_ < 0
  · go_wp2
    go_ret
    exact ⟨rfl, HB3.out⟩
  obtain ⟨a, rfl⟩ := Int.eq_ofNat_of_zero_le (Int.not_lt.1 hneg)
  by_cases hbig : 8 * (s.size + 4) - 32 < a
  · have hb' : (8 * ((s.size : Int) + 4) - 32 < (a : Int)) := by omega
    clear hneg
    go_wp2
    go_ret
    exact ⟨rfl, HB3.out⟩
  have ha : a ≤ 8 * s.size := by omega
  clear hneg hbig
  go_wp2_with fail
  go_loopw [8] (fun vk wr => ∃ (k : Nat) (l : List UInt8), vk = .int .i64 k ∧ k ≤ 32 ∧ l.length = s.size + 4 ∧ Row g cap wr l ∧ M.crc 4294967295 l = M.steps 32 4294967295 ^^^ M.steps (8 * (s.size + 4) - a) (x % 2 ^ k) ∧ Below w.heap.size w wr) (fun vk _ => 32 - (intOf vk).toNat)
  case atStart =>
    refine ⟨0, _, rfl, by omega, HN.out, HROW.out, ?_, HB3.out⟩
    rw [M.crc_shut, Nat.pow_zero, Nat.mod_one, M.steps_zero, Nat.xor_zero]
  case round =>
    obtain ⟨k, l, rfl, hk, hll, hrow, hcrc, hbel⟩ := hrel
    have HC := Lib.hid hcrc
    have HR := Lib.hid hrow
    have HW := Lib.hid hbel
    have HLL := Lib.hid hll
    clear hcrc hbel hrow hll
    by_cases hk32 : k < 32
    · by_cases hbit : x / 2 ^ k % 2 = 1
      · have e1 : ((x : Int) / 2 ^ k).tmod 2 = 1 := by
          rw [show ((x : Int) / 2 ^ k) = ((x / 2 ^ k : Nat) : Int) by simp, Int.tmod_eq_emod_of_nonneg (Int.natCast_nonneg _)]
          generalize x / 2 ^ k = y at hbit
          omega
        have hjl : (a + k) / 8 < l.length := by rw [HLL.out]; omega
        have hcell := HR.out.at hjl
        have hfree := (HR.out.free _ (Nat.lt_of_lt_of_le hjl HR.out.le)).2
        have HBIT := Lib.hid hbit
        have HJL := Lib.hid hjl
        have HXP := Lib.hid (xor_pow l[(a + k) / 8] ((a + k) % 8) (by omega))
        clear hbit
        go_wp2_with fail
        generalize hy : bits .xor .u8 _ _ = y
        obtain rfl := hy.symm.trans HXP.out.1
        refine ⟨⟨k + 1, _, by go_num, by omega, ?_, HR.out.set HJL.out _, M.turn_next l _ (a + k) a k x HLL.out rfl (by omega) hk32 HC.out HBIT.out HJL.out _ HXP.out.2, HW.out.setCell (p := ⟨g, (a + k) / 8, none⟩) HG _⟩, ?_⟩
        · rw [List.length_set]; exact HLL.out
        · simp [intOf]; omega
      · have e1 : ((x : Int) / 2 ^ k).tmod 2 = 0 := by
          rw [show ((x : Int) / 2 ^ k) = ((x / 2 ^ k : Nat) : Int) by simp, Int.tmod_eq_emod_of_nonneg (Int.natCast_nonneg _)]
          generalize x / 2 ^ k = y at hbit
          omega
        have HBIT := Lib.hid hbit
        clear hbit
        go_wp2_with fail
        refine ⟨⟨k + 1, l, by go_num, by omega, HLL.out, HR.out, ?_, HW.out⟩, ?_⟩
        · rw [M.turn_none _ _ HBIT.out]
          exact HC.out
        · simp [intOf]; omega
    · obtain rfl : k = 32 := by omega
      have hno : ∀ t, l ≠ M.shut t := fun t => M.not_shut l t _ x hx HX0.out HC.out
      have HNO := Lib.hid hno
      obtain ⟨p, hp⟩ := text_of l
      have hc := bs_string_of HR.out.bs p hp
      rw [HLL.out] at hc
      have HP := Lib.hid hp
      have hps : p.size ≤ 1028 := by rw [Lib.size_eq, hp, HLL.out]; omega
      clear hno hp
      go_wp2_with fail
      refine (open_any p (by omega) wr).mono ?_
      rintro e w4 ⟨⟨t, b, rfl, hor⟩, hb4⟩
      have HB4 := Lib.hid (HW.out.trans (hb4.mono HW.out.size))
      obtain rfl : b = false := by
        rcases hor with ⟨_, h⟩ | ⟨h, _⟩
        · exact absurd (HP.out.symm.trans h) (HNO.out _)
        · exact h
      clear hor hb4
      go_wp2
      go_ret
      exact ⟨rfl, HB4.out⟩

end Go.Proofs.Ytacekhjmfjcppaa
