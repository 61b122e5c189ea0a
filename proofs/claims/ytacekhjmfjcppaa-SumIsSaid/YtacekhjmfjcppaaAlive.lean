/-
  magpielaw02.alive ANSWERS TRUE, and turns nothing that was there.
-/
import Derived.Test.YtacekhjmfjcppaaOpen
import Derived.Lib.SlBytesConst
namespace Go.Proofs.Ytacekhjmfjcppaa
open Go.RowKit Go

/-- A slice that the call made of one constant byte string. -/
theorem bs_marked (w : World) (C : Array Value) (l : List UInt8) (hC : C.toList = cellsOf l) (hl : l.length ≤ 1000) : Bs (fun k => k = w.heap.size) (w.alloc (.cells C 5 (C.size, C.size + 1))) (.slice (some ⟨w.heap.size, 0, none⟩) l.length l.length) l := by
  have hsz : C.size = l.length := by rw [← Array.length_toList, hC, cellsOf_length]
  have hat : (w.alloc (.cells C 5 (C.size, C.size + 1))).heap[w.heap.size]? = some (.cells C 5 (C.size, C.size + 1)) := heap_alloc_new w _
  refine .inr ⟨w.heap.size, l.length, rfl, rfl, by simp, Nat.le_refl _, by unfold maxLen; omega, fun j hj => ?_, fun j hj => ⟨?_, ?_⟩⟩
  · simp only [World.cell?, hat]
    rw [if_neg (by simp), ← hC, Array.getElem?_toList]
  · simp only [World.cell?, hat]
    rw [if_neg (by simp), Array.getElem?_eq_getElem (by omega)]
    rfl
  · unfold World.frozen?
    rw [hat]
    simp
    omega

theorem of_nine : M.of [49, 50, 51, 52, 53, 54, 55, 56, 57] = 3421780262 := by decide +kernel

/-- What is sealed is opened to the same. -/
theorem OpenR.back {s t : ByteArray} {b : Bool} {l : List UInt8} (h : OpenR s t b) (hs : s.data.toList = M.shut l) : t.data.toList = l ∧ b = true := by
  rcases h with ⟨rfl, h⟩ | ⟨_, _, h⟩
  · exact ⟨M.shut_inj (h.symm.trans hs), rfl⟩
  · exact absurd hs (h l)

set_option maxHeartbeats 1000000 in
theorem alive_any (w : World) : Calls Try.prog 7 #[] w fun e w' => e = .returned (.bool true) ∧ Below w.heap.size w w' := by
  have kc := fun (w : World) (C : Array Value) (n c : Nat) => Lib.run_convert_bytes_const (P := Try.prog) w 27 5 C n c Try.underlying27 Try.underlying5
  have hbs : Bs (fun k => k = w.heap.size) (w.alloc (.cells #[.int .u8 97, .int .u8 98] 5 (2, 3))) (.slice (some ⟨w.heap.size, 0, none⟩) 2 2) [97, 98] := bs_marked w #[.int .u8 97, .int .u8 98] [97, 98] rfl (by decide)
  have HS := Lib.hid (shut_any (From w.heap.size) _ [97, 98] _ (hbs.mono (fun k hk => Nat.le_of_eq hk.symm)) (fun k hk => by simp at hk; simp only [From]; omega) (by decide))
  have HB0 := Lib.hid ((Below.refl w.heap.size w).alloc (Nat.le_refl _) (.cells #[.int .u8 97, .int .u8 98] 5 (2, 3)))
  clear hbs
  go_enter Try.func7, Try.ntmps7
  go_wp2_with fail
  refine HS.out.mono ?_
  rintro e w1 ⟨v1, rfl, hs1, hb1⟩
  obtain ⟨p, hp⟩ := text_of (M.shut [97, 98])
  have hc := bs_string_of hs1 p hp
  have hps : p.size = 6 := by rw [Lib.size_eq, hp, M.shut_length]; rfl
  have HP := Lib.hid hp
  have HB1 := Lib.hid (HB0.out.trans (hb1.from (by simp)))
  clear hs1 hp hb1
  go_wp2_with fail
  refine (open_any p (by omega) w1).mono ?_
  rintro e w2 ⟨⟨t, b, rfl, hor⟩, hb2⟩
  obtain ⟨ht, rfl⟩ := hor.back HP.out
  obtain rfl : t = ⟨#[97, 98]⟩ := bytes_ext ht
  have HB2 := Lib.hid (HB1.out.trans (hb2.mono HB1.out.size))
  clear hor ht hb2
  have hO := of_any ⟨#[49, 50, 51, 52, 53, 54, 55, 56, 57]⟩ (by decide) w2
  have HO := Lib.hid hO
  clear hO
  go_wp2_with fail
  refine HO.out.mono ?_
  rintro e w' ⟨rfl, rfl⟩
  rw [show M.of (ByteArray.mk #[49, 50, 51, 52, 53, 54, 55, 56, 57]).data.toList = 3421780262 from of_nine]
  go_wp2
  go_ret
  exact ⟨rfl, HB2.out⟩

end Go.Proofs.Ytacekhjmfjcppaa
