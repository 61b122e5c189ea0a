/-
  magpielaw01.alive ANSWERS TRUE, and turns nothing that was there.
-/
import Derived.Test.YtfmmcgbgpncoiaaRead
import Derived.Lib.SlBytesConst
namespace Go.Proofs.Ytfmmcgbgpncoiaa
open Go.RowKit Go

/-- What was put is read. -/
theorem ru_put {most x : Nat} (hx : x < 18446744073709551616) (hm : x ≤ most) {r l : List UInt8} (hl : l = Lib.uvarint x ++ r) {n : Nat} {l' : List UInt8} {bad' : Bool} (h : RU most l false n l' bad') : n = x ∧ l' = r ∧ bad' = false := by
  obtain ⟨l0, c, e, hn, hlow⟩ := M.isNum_of x hx
  rw [e, List.append_assoc] at hl
  cases h with
  | good m0 d t hm0 _ =>
    obtain ⟨rfl, rfl, rfl⟩ := M.parts_unique hm0.cont hm0.last hn.cont hn.last hl
    exact ⟨hlow, rfl, rfl⟩
  | none _ hno =>
    have := hno l0 c r hn hl
    omega

/-- A slice that the call made of one constant byte string. -/
theorem bs_marked (w : World) (C : Array Value) (l : List UInt8) (hC : C.toList = cellsOf l) (hl : l.length ≤ 1000) : Bs w.heap.size (w.alloc (.cells C 5 (C.size, C.size + 1))) (.slice (some ⟨w.heap.size, 0, none⟩) l.length l.length) l := by
  have hsz : C.size = l.length := by rw [← Array.length_toList, hC, cellsOf_length]
  have hat : (w.alloc (.cells C 5 (C.size, C.size + 1))).heap[w.heap.size]? = some (.cells C 5 (C.size, C.size + 1)) := heap_alloc_new w _
  refine .inr ⟨w.heap.size, l.length, rfl, Nat.le_refl _, by simp, Nat.le_refl _, by unfold maxLen; omega, fun j hj => ?_, fun j hj => ⟨?_, ?_⟩⟩
  · simp only [World.cell?, hat]
    rw [if_neg (by simp), ← hC, Array.getElem?_toList]
  · simp only [World.cell?, hat]
    rw [if_neg (by simp), Array.getElem?_eq_getElem (by omega)]
    rfl
  · unfold World.frozen?
    rw [hat]
    simp
    omega

theorem uv300 : Lib.uvarint 300 = [172, 2] := by
  rw [Lib.uvarint_big (by decide), Lib.uvarint_small (by decide)]
  rfl
theorem uv1 : Lib.uvarint 1 = [1] := by
  rw [Lib.uvarint_small (by decide)]
  rfl

set_option maxHeartbeats 1000000 in
theorem alive_any (w : World) : Calls Try.prog 9 #[] w fun e w' => e = .returned (.bool true) ∧ Below w.heap.size w w' := by
  have kc := fun (w : World) (C : Array Value) (n c : Nat) => Lib.run_convert_bytes_const (P := Try.prog) w 24 5 C n c Try.underlying24 Try.underlying5
  go_enter Try.func9, Try.ntmps9
  go_wp2_with fail
  refine (from_any _ (by decide) _).mono ?_
  rintro e w1 ⟨rfl, hz1, hr1, hb1⟩
  have h10 := uint_any w1.heap.size 300 (by decide) _ [] w1 (Bs.nil _ _) (Nat.le_refl _) (by simp)
  have H10 := Lib.hid h10
  have HZ1 := Lib.hid hz1
  have HR1 := Lib.hid hr1
  clear h10 hz1 hr1
  go_wp2_with fail
  refine H10.out.mono ?_
  rintro e w2 ⟨v2, rfl, hs2, hb2⟩
  rw [uv300, List.nil_append] at hs2
  have hconv := bs_string hs2
  clear hs2
  go_wp2_with fail
  have hbs : Bs w2.heap.size (w2.alloc (.cells #[.int .u8 97] 5 (1, 2))) (.slice (some ⟨w2.heap.size, 0, none⟩) 1 1) [97] := bs_marked w2 #[.int .u8 97] [97] rfl (by decide)
  refine (int_any w2.heap.size (-1) (by decide) (by decide) _ [97] _ hbs (by simp) (by decide)).mono ?_
  rintro e w3 ⟨v3, rfl, hs3, hb3⟩
  rw [show Lib.zigzag (-1) = 1 from rfl, uv1] at hs3
  have hconv3 := bs_string hs3
  have hb13 : Below w1.heap.size w1 w3 := hb2.trans (((Below.refl _ _).alloc hb2.size _).trans (hb3.mono hb2.size))
  have hr3 : Rd w3 w.heap.size [172, 2, 1] false := HR1.out.below hb13 (by rw [HZ1.out]; omega)
  clear hs3 hb2 hconv hbs
  go_wp2_with fail
  refine (uint_rd 300 w.heap.size [172, 2, 1] false w3 hr3).mono ?_
  rintro e w4 ⟨n, l', bad', rfl, hru, hr4, ho4⟩
  obtain ⟨rfl, rfl, rfl⟩ := ru_put (x := 300) (r := [1]) (by decide) (by decide) (by rw [uv300]; rfl) hru
  clear hru
  go_wp2_with fail
  refine (int_rd w.heap.size [1] false w4 hr4).mono ?_
  rintro e w5 ⟨n, l', bad', rfl, hru, hr5, ho5⟩
  obtain ⟨rfl, rfl, rfl⟩ := ru_put (x := 1) (r := []) (by decide) (by decide) (by rw [uv1]; rfl) hru
  rw [show Lib.unzigzag 1 = -1 from rfl]
  clear hru
  go_wp2_with fail
  refine (end_any w.heap.size [] false w5 hr5).mono ?_
  rintro e w6 ⟨rfl, rfl⟩
  go_wp2_with fail
  go_ret
  refine ⟨rfl, ?_⟩
  have hs1 := HZ1.out
  exact hb1.trans ((hb13.mono (by omega)).trans ((ho4.below (Nat.le_refl _)).trans (ho5.below (Nat.le_refl _))))

end Go.Proofs.Ytfmmcgbgpncoiaa
