/-
  THE DOCUMENT'S ANSWERS: magpieref02.Of, Seal, Open.
-/
import Derived.Test.YtacekhjmfjcppaaOpen
namespace Go.Proofs.Ytacekhjmfjcppaa
open Go.RowKit Go

set_option maxHeartbeats 1000000 in
theorem refOf_any (s : ByteArray) (hlen : s.size ≤ 70368744177664) (w : World) :
    Calls Try.prog 11 #[.string s] w fun e w' => e = .returned (.int .u32 (M.of s.data.toList : Nat)) ∧ w = w' := by
  have hsz : s.data.toList.length = s.size := (Lib.size_eq s).symm
  have HZ := Lib.hid hsz
  clear hsz
  go_enter Try.func11, Try.ntmps11
  go_wp2
  go_loop [3, 4, 5, 6] (fun vn vi _ _ => ∃ k c : Nat, vi = .int .i64 k ∧ k ≤ s.size ∧ vn = .int .u32 c ∧ c < 4294967296 ∧ c = M.crc 4294967295 (s.data.toList.take k)) (fun _ vi _ _ => s.size - (intOf vi).toNat)
  case atStart => exact ⟨0, 4294967295, rfl, by omega, rfl, by decide, rfl⟩
  case round =>
    obtain ⟨k, c, rfl, hk, rfl, hc, hs⟩ := hrel
    have HS := Lib.hid hs
    clear hs
    by_cases hks : k < s.size
    · have hX : bits .xor .u32 (c : Int) ((s[k].toNat : Int) % 4294967296) = ((c ^^^ s[k].toNat : Nat) : Int) := by
        have hlt := s[k].toNat_lt
        rw [Int.emod_eq_of_lt (by omega) (by omega)]
        exact u32_xor_nat c s[k].toNat hc (by omega)
      have HX := Lib.hid hX
      clear hX
      obtain ⟨x, hx⟩ : ∃ x, x = c ^^^ s[k].toNat := ⟨_, rfl⟩
      have hxl : x < 4294967296 := by rw [hx]; exact M.xor_byte_lt hc _
      have HX2 := Lib.hid hx
      obtain ⟨N, hN⟩ : ∃ N, N = M.steps 8 x := ⟨_, rfl⟩
      have HN := Lib.hid hN
      have HLT := Lib.hid (M.steps_lt 8 hxl)
      clear hN hx
      have hkl : k < s.data.toList.length := by rw [HZ.out]; exact hks
      have hb : s[k]'hks = s.data.toList[k]'hkl := rfl
      have HT := Lib.hid (crc_take s.data.toList k hkl 4294967295)
      have HE := Lib.hid hb
      clear hb
      go_wp2
      rw [HX.out, ← HX2.out]
      go_loop [3, 5, 6] (fun vn vi _ => ∃ j m : Nat, vi = .int .i64 j ∧ j ≤ 8 ∧ vn = .int .u32 m ∧ m < 4294967296 ∧ N = M.steps (8 - j) m) (fun _ vi _ => 8 - (intOf vi).toNat)
      case atStart => exact ⟨0, x, rfl, by omega, rfl, hxl, HN.out⟩
      case round =>
        obtain ⟨j, m, rfl, hj, rfl, hm, hs⟩ := hrel
        have HJ := Lib.hid hs
        clear hs
        by_cases hj8 : j < 8
        · have hs1 : M.steps (8 - j) m = M.steps (8 - (j + 1)) (M.step m) := by
            rw [show 8 - j = (8 - (j + 1)) + 1 by omega]
            rfl
          have H1 := Lib.hid hs1
          have H2 := Lib.hid (M.step_lt hm)
          clear hs1
          by_cases hodd : m % 2 = 1
          · have e1 : (m : Int) % 2 = 1 := by omega
            have H3 := Lib.hid (step_odd hm hodd)
            clear hodd
            go_wp2
            refine ⟨⟨j + 1, M.step m, by go_num, by omega, by rw [H3.out], H2.out, by rw [HJ.out, H1.out]⟩, ?_⟩
            simp [intOf]; omega
          · have e1 : (m : Int) % 2 = 0 := by omega
            have H3 : Hid (m / 2 = M.step m) := by
              show m / 2 = M.step m
              unfold M.step
              rw [if_neg hodd]
            clear hodd
            go_wp2
            refine ⟨⟨j + 1, M.step m, by go_num, by omega, by rw [← H3.out]; rfl, H2.out, by rw [HJ.out, H1.out]⟩, ?_⟩
            simp [intOf]; omega
        · obtain rfl : j = 8 := by omega
          have hN8 : N = m := HJ.out
          subst hN8
          go_wp2
          refine ⟨⟨k + 1, N, by go_num, by omega, rfl, hm, by rw [HT.out, HN.out, HX2.out, HS.out, HE.out]⟩, ?_⟩
          simp [intOf]; omega
    · obtain rfl : k = s.size := by omega
      go_wp2
      go_ret
      refine ⟨?_, rfl⟩
      have e : s.data.toList.take s.size = s.data.toList := List.take_of_length_le (by rw [HZ.out]; omega)
      have e2 : c = M.crc 4294967295 s.data.toList := by rw [HS.out, e]
      unfold M.of
      rw [← e2]
      have e3 : (4294967295 : Int) - c = ((4294967295 - c : Nat) : Int) := by omega
      exact congrArg (fun x => Ending.returned (Value.int .u32 x)) e3

/-- A slice that the call made of the cells that are written. -/
theorem bs_new (w : World) (C : Array Value) (l : List UInt8) (hC : C.toList = cellsOf l) (hl : l.length ≤ 1000) : Bs (fun k => k = w.heap.size) (w.alloc (.cells C 5)) (.slice (some ⟨w.heap.size, 0, none⟩) l.length l.length) l := by
  have hsz : C.size = l.length := by rw [← Array.length_toList, hC, cellsOf_length]
  have hat : (w.alloc (.cells C 5)).heap[w.heap.size]? = some (.cells C 5) := heap_alloc_new w _
  refine .inr ⟨w.heap.size, l.length, rfl, rfl, by simp, Nat.le_refl _, by unfold maxLen; omega, fun j hj => ?_, fun j hj => ⟨?_, ?_⟩⟩
  · simp only [World.cell?, hat]
    rw [if_neg (by simp), ← hC, Array.getElem?_toList]
  · simp only [World.cell?, hat]
    rw [if_neg (by simp), Array.getElem?_eq_getElem (by omega)]
    rfl
  · unfold World.frozen?
    rw [hat]
    simp

theorem le4_cells (n : Nat) (hn : n < 4294967296) : (#[Value.int .u8 ((n : Int) % 256), Value.int .u8 ((n : Int) / 256 % 256), Value.int .u8 ((n : Int) / 65536 % 256), Value.int .u8 ((n : Int) / 16777216)] : Array Value).toList = cellsOf (M.le 4 n) := by
  have e0 : ((n : Int) % 256) = (((UInt8.ofNat n).toNat : Nat) : Int) := by simp
  have e1 : ((n : Int) / 256 % 256) = (((UInt8.ofNat (n / 256)).toNat : Nat) : Int) := by simp
  have e2 : ((n : Int) / 65536 % 256) = (((UInt8.ofNat (n / 256 / 256)).toNat : Nat) : Int) := by simp; omega
  have e3 : ((n : Int) / 16777216) = (((UInt8.ofNat (n / 256 / 256 / 256)).toNat : Nat) : Int) := by simp; omega
  rw [e0, e1, e2, e3]
  rfl

theorem append_data (a b : ByteArray) : (a ++ b).data.toList = a.data.toList ++ b.data.toList := by
  rw [ByteArray.data_append, Array.toList_append]

set_option maxHeartbeats 1000000 in
theorem refShut_any (s : ByteArray) (hlen : s.size ≤ 1000000) (w : World) :
    Calls Try.prog 13 #[.string s] w fun e w' => (∃ p : ByteArray, e = .returned (.string p) ∧ p.data.toList = M.shut s.data.toList) ∧ Below w.heap.size w w' := by
  have hO := refOf_any s (by omega) w
  obtain ⟨n, hn⟩ : ∃ n, n = M.of s.data.toList := ⟨_, rfl⟩
  have hnl : n < 4294967296 := by rw [hn]; exact M.of_lt _
  rw [← hn] at hO
  have HO := Lib.hid hO
  have HN := Lib.hid hn
  obtain ⟨p, hp⟩ := text_of (M.le 4 n)
  have hbs := bs_new w _ (M.le 4 n) (le4_cells n hnl) (by rw [M.le_length]; decide)
  rw [M.le_length] at hbs
  have hc := bs_string_of hbs p hp
  have HP := Lib.hid hp
  have hpl : p.size = 4 := by rw [Lib.size_eq, hp, M.le_length]
  clear hO hn hp hbs
  go_enter Try.func13, Try.ntmps13
  go_wp2_with (go_at_call 11; refine HO.out.mono ?_; rintro e w' ⟨rfl, rfl⟩)
  go_ret
  refine ⟨⟨_, rfl, ?_⟩, (Below.refl _ _).alloc (Nat.le_refl _) _⟩
  rw [append_data, HP.out, HN.out]
  rfl

set_option maxHeartbeats 400000 in
theorem refOpen_short (s : ByteArray) (h : s.size < 4) (w : World) :
    Calls Try.prog 9 #[.string s] w fun e w' => e = .returned (.tuple #[.string ⟨#[]⟩, .bool false]) ∧ w = w' := by
  go_enter Try.func9, Try.ntmps9
  go_wp2
  go_ret2
  exact ⟨rfl, rfl⟩

set_option maxHeartbeats 1000000 in
theorem refOpen_long (s : ByteArray) (m : Nat) (h : s.size = m + 4) (hm : m ≤ 1000000) (w : World) :
    Calls Try.prog 9 #[.string s] w fun e w' => (∃ (t : ByteArray) (b : Bool), e = .returned (.tuple #[.string t, .bool b]) ∧ OpenR s t b) ∧ Below w.heap.size w w' := by
  have H := Lib.hid h
  have HT : Hid ((s.extract 0 m).data.toList = s.data.toList.take m) := by
    show (s.extract 0 m).data.toList = s.data.toList.take m
    rw [Lib.extract_data]; simp
  go_enter Try.func9, Try.ntmps9
  go_wp2_with fail
  refine (refShut_any _ (by simp; omega) w).mono ?_
  rintro e w1 ⟨⟨p, rfl, hp⟩, hb⟩
  have HP : Hid (p.toList = M.shut (s.extract 0 m).data.toList) := by
    show p.toList = M.shut (s.extract 0 m).data.toList
    rw [Lib.toList_data]; exact hp
  have HB := Lib.hid hb
  clear hp hb
  go_wp2_with fail
  · rename_i hne
    have HN := Lib.hid (neq_yes (hne.resolve_left (by omega)))
    clear hne
    go_ret2
    refine ⟨⟨_, _, rfl, openR_no H.out fun e => HN.out ?_⟩, HB.out⟩
    rw [HP.out, HT.out, Lib.toList_data]
    unfold M.shut
    rw [e, List.take_append_drop]
  · rename_i hne
    have HN := Lib.hid (neq_no hne.2)
    clear hne
    go_ret2
    refine ⟨⟨_, _, rfl, .inl ⟨rfl, ?_⟩⟩, HB.out⟩
    rw [← HP.out, HN.out, Lib.toList_data]

/-- magpieref02.Open. -/
theorem refOpen_any (s : ByteArray) (hs : s.size ≤ 1000000) (w : World) :
    Calls Try.prog 9 #[.string s] w fun e w' => (∃ (t : ByteArray) (b : Bool), e = .returned (.tuple #[.string t, .bool b]) ∧ OpenR s t b) ∧ Below w.heap.size w w' := by
  by_cases h : s.size < 4
  · refine (refOpen_short s h w).mono ?_
    rintro e w' ⟨rfl, rfl⟩
    exact ⟨⟨_, _, rfl, openR_short h⟩, Below.refl _ _⟩
  · exact refOpen_long s (s.size - 4) (by omega) (by omega) w

end Go.Proofs.Ytacekhjmfjcppaa
