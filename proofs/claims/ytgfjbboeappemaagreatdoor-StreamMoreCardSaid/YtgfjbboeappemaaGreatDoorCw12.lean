/-
  slices.ContainsFunc AT WORDS, AT ROWS OF WORDS.
-/
import Derived.Test.YtgfjbboeappemaaGreatDoorTy12
import Derived.Test.YtgfjbboeappemaaGreatDoorLb9
namespace Go.Proofs.YtgfjbboeappemaaGreatDoor.E4
open Go.RowKit Go

set_option maxHeartbeats 2000000 in
set_option maxRecDepth 100000 in
theorem index_strs (g : Nat) (lb : Array Value) (eg : ∀ args w, (callFunc g args).run Tryz.prog w = .ok (.enter g args) w) (p : ByteArray → Bool) (k : List (ByteArray)) (a : Option Addr) (c : Nat) (w : World) (hks : StrsAt w (.slice a k.length c) k)
    (hp : ∀ (W : World) (x : ByteArray), Below w.heap.size w W → Calls Tryz.prog g (#[.string x] ++ lb) W fun e w' => e = .returned (.bool (p x)) ∧ Below W.heap.size W w') :
    Calls Tryz.prog 101 #[.slice a k.length c, .func (.func g) #[] lb] w fun e w' => ∃ r : Int, e = .returned (.int .i64 r) ∧ (0 ≤ r ↔ k.any p = true) ∧ Below w.heap.size w w' := by
  obtain ⟨a', cap, he, hl63, hks⟩ := hks
  obtain ⟨rfl, rfl⟩ : a' = a ∧ cap = c := by simpa [eq_comm] using he
  have HK := Lib.hid hks
  have HP := Lib.hid hp
  clear hks hp he
  go_enter Tryz.func101, Tryz.ntmps101
  go_wp2_with fail
  go_loopw [5, 8] (fun _ vi wr => ∃ i : Nat, vi = .int .i64 i ∧ i ≤ k.length ∧ (k.take i).any p = false ∧ Below w.heap.size w wr) (fun _ vi _ => k.length - (intOf vi).toNat)
  case atStart => exact ⟨0, rfl, Nat.zero_le _, rfl, Below.refl _ w⟩
  case round =>
    obtain ⟨i, rfl, hi, hn, hb⟩ := hrel
    have HB := Lib.hid hb
    have HN := Lib.hid hn
    clear hn
    by_cases hlt : i < k.length
    · rcases HK.out with h0 | ⟨b, off, rfl, hbl, hka⟩
      · exact absurd hlt (by rw [h0]; simp)
      have x0 := (hb.cell (p := ⟨b, off + i, none⟩) hbl).trans (hka i hlt)
      have HT : Hid ((k.take (i + 1)).any p = ((k.take i).any p || p k[i])) := Lib.hid (by rw [List.take_succ_eq_append_getElem hlt, List.any_append, List.any_cons, List.any_nil, Bool.or_false])
      have HM : Hid (p k[i] = true → k.any p = true) := Lib.hid fun h => List.any_eq_true.2 ⟨_, List.getElem_mem hlt, h⟩
      generalize k[i] = x at x0 HT HM
      have HC := Lib.hid (HP.out wr x HB.out)
      clear hka hb
      cases hpx : p x with
      | true =>
        rw [hpx] at HC HM
        have HM2 := Lib.hid (HM.out rfl)
        clear HM hpx
        go_wp2_with (go_at_fn g; refine HC.out.mono ?_; rintro e w' ⟨rfl, hb'⟩)
        go_ret
        exact ⟨_, rfl, ⟨fun _ => HM2.out, fun _ => by omega⟩, HB.out.trans (hb'.mono HB.out.size)⟩
      | false =>
        rw [hpx] at HC HT
        clear hpx
        go_wp2_with (go_at_fn g; refine HC.out.mono ?_; rintro e w' ⟨rfl, hb'⟩)
        go_roundw
        case rel => exact ⟨i + 1, by go_num, by omega, by rw [HT.out, HN.out]; rfl, HB.out.trans (hb'.mono HB.out.size)⟩
        case measure => simp [intOf]; omega
    · obtain rfl : i = k.length := by omega
      have hn := HN.out
      rw [List.take_length] at hn
      have HE := Lib.hid hn
      clear hb hn
      go_wp2_with fail
      go_ret
      exact ⟨_, rfl, by rw [HE.out]; simp, HB.out⟩

set_option maxHeartbeats 2000000 in
theorem contains_strs (g : Nat) (lb : Array Value) (eg : ∀ args w, (callFunc g args).run Tryz.prog w = .ok (.enter g args) w) (p : ByteArray → Bool) (k : List (ByteArray)) (a : Option Addr) (c : Nat) (w : World) (hks : StrsAt w (.slice a k.length c) k)
    (hp : ∀ (W : World) (x : ByteArray), Below w.heap.size w W → Calls Tryz.prog g (#[.string x] ++ lb) W fun e w' => e = .returned (.bool (p x)) ∧ Below W.heap.size W w') :
    Calls Tryz.prog 72 #[.slice a k.length c, .func (.func g) #[] lb] w fun e w' => e = .returned (.bool (k.any p)) ∧ Below w.heap.size w w' := by
  have HI := Lib.hid (index_strs g lb eg p k a c w hks hp)
  clear hks hp
  generalize k.any p = b at HI ⊢
  go_enter Tryz.func72, Tryz.ntmps72
  go_wp2_with (go_at_call 101; refine HI.out.mono ?_; rintro e w' ⟨r, rfl, hr, hb'⟩)
  go_ret
  refine ⟨?_, hb'⟩
  congr 2

set_option maxHeartbeats 2000000 in
set_option maxRecDepth 100000 in
theorem index_rows (g : Nat) (lb : Array Value) (eg : ∀ args w, (callFunc g args).run Tryz.prog w = .ok (.enter g args) w) (p : List ByteArray → Bool) (k : List (List ByteArray)) (a : Option Addr) (c : Nat) (w : World) (hks : TextsAt w (.slice a k.length c) k)
    (hp : ∀ (W : World) (x : List ByteArray) (rv : Value), Below w.heap.size w W → StrsAt W rv x → Calls Tryz.prog g (#[rv] ++ lb) W fun e w' => e = .returned (.bool (p x)) ∧ Below W.heap.size W w') :
    Calls Tryz.prog 102 #[.slice a k.length c, .func (.func g) #[] lb] w fun e w' => ∃ r : Int, e = .returned (.int .i64 r) ∧ (0 ≤ r ↔ k.any p = true) ∧ Below w.heap.size w w' := by
  obtain ⟨a', cap, he, hl63, hks⟩ := hks
  obtain ⟨rfl, rfl⟩ : a' = a ∧ cap = c := by simpa [eq_comm] using he
  have HK := Lib.hid hks
  have HP := Lib.hid hp
  clear hks hp he
  go_enter Tryz.func102, Tryz.ntmps102
  go_wp2_with fail
  go_loopw [5, 8] (fun _ vi wr => ∃ i : Nat, vi = .int .i64 i ∧ i ≤ k.length ∧ (k.take i).any p = false ∧ Below w.heap.size w wr) (fun _ vi _ => k.length - (intOf vi).toNat)
  case atStart => exact ⟨0, rfl, Nat.zero_le _, rfl, Below.refl _ w⟩
  case round =>
    obtain ⟨i, rfl, hi, hn, hb⟩ := hrel
    have HB := Lib.hid hb
    have HN := Lib.hid hn
    clear hn
    by_cases hlt : i < k.length
    · rcases HK.out with h0 | ⟨b, off, rfl, hbl, hka⟩
      · exact absurd hlt (by rw [h0]; simp)
      obtain ⟨rv, y0, y1⟩ := hka i hlt
      have x0 := (hb.cell (p := ⟨b, off + i, none⟩) hbl).trans y0
      have y2 := y1.below hb
      have HT : Hid ((k.take (i + 1)).any p = ((k.take i).any p || p k[i])) := Lib.hid (by rw [List.take_succ_eq_append_getElem hlt, List.any_append, List.any_cons, List.any_nil, Bool.or_false])
      have HM : Hid (p k[i] = true → k.any p = true) := Lib.hid fun h => List.any_eq_true.2 ⟨_, List.getElem_mem hlt, h⟩
      generalize k[i] = x at y1 y2 HT HM
      have HC := Lib.hid (HP.out wr x rv HB.out y2)
      clear hka y0 y1 y2 hb
      cases hpx : p x with
      | true =>
        rw [hpx] at HC HM
        have HM2 := Lib.hid (HM.out rfl)
        clear HM hpx
        go_wp2_with (go_at_fn g; refine HC.out.mono ?_; rintro e w' ⟨rfl, hb'⟩)
        go_ret
        exact ⟨_, rfl, ⟨fun _ => HM2.out, fun _ => by omega⟩, HB.out.trans (hb'.mono HB.out.size)⟩
      | false =>
        rw [hpx] at HC HT
        clear hpx
        go_wp2_with (go_at_fn g; refine HC.out.mono ?_; rintro e w' ⟨rfl, hb'⟩)
        go_roundw
        case rel => exact ⟨i + 1, by go_num, by omega, by rw [HT.out, HN.out]; rfl, HB.out.trans (hb'.mono HB.out.size)⟩
        case measure => simp [intOf]; omega
    · obtain rfl : i = k.length := by omega
      have hn := HN.out
      rw [List.take_length] at hn
      have HE := Lib.hid hn
      clear hb hn
      go_wp2_with fail
      go_ret
      exact ⟨_, rfl, by rw [HE.out]; simp, HB.out⟩

set_option maxHeartbeats 2000000 in
theorem contains_rows (g : Nat) (lb : Array Value) (eg : ∀ args w, (callFunc g args).run Tryz.prog w = .ok (.enter g args) w) (p : List ByteArray → Bool) (k : List (List ByteArray)) (a : Option Addr) (c : Nat) (w : World) (hks : TextsAt w (.slice a k.length c) k)
    (hp : ∀ (W : World) (x : List ByteArray) (rv : Value), Below w.heap.size w W → StrsAt W rv x → Calls Tryz.prog g (#[rv] ++ lb) W fun e w' => e = .returned (.bool (p x)) ∧ Below W.heap.size W w') :
    Calls Tryz.prog 73 #[.slice a k.length c, .func (.func g) #[] lb] w fun e w' => e = .returned (.bool (k.any p)) ∧ Below w.heap.size w w' := by
  have HI := Lib.hid (index_rows g lb eg p k a c w hks hp)
  clear hks hp
  generalize k.any p = b at HI ⊢
  go_enter Tryz.func73, Tryz.ntmps73
  go_wp2_with (go_at_call 102; refine HI.out.mono ?_; rintro e w' ⟨r, rfl, hr, hb'⟩)
  go_ret
  refine ⟨?_, hb'⟩
  congr 2

end Go.Proofs.YtgfjbboeappemaaGreatDoor.E4
