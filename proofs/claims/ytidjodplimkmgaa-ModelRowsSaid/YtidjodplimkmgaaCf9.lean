/-
  slices.ContainsFunc OVER A FILTER'S KIDS: is there one of which the closure says so? (Whatever closure, that leaves what was there as it was.) And a line's pieces.
-/
import Derived.Test.YtidjodplimkmgaaKe9
import Derived.Test.YtidjodplimkmgaaShelf
import Derived.WalkKit
import Derived.Lib.QuietBelow
namespace Go.Proofs.Ytidjodplimkmgaa
open Go.RowKit Go

theorem shaped_below {w w' : World} (h : w.ShapedOpen Try.prog) (hb : Below w.heap.size w w') : w'.ShapedOpen Try.prog :=
  h.keptBut (hb.frame (fun _ => False)) (fun _ h => h.elim)

set_option maxHeartbeats 2000000 in
set_option maxRecDepth 100000 in
theorem index_kids (g : Nat) (lb : Array Value) (eg : ∀ args w, (callFunc g args).run Try.prog w = .ok (.enter g args) w) (p : Ft → Bool) (o : Int) (n t : ByteArray) (k : List Ft) (a : Option Addr) (c : Nat) (w : World) (hks : KsAt w (.slice a k.length c) (.mk o n t k))
    (hp : ∀ (W : World) (x : Ft) (kv : Value), Below w.heap.size w W → x ∈ k → KsAt W kv x → Calls Try.prog g (#[x.val kv] ++ lb) W fun e w' => e = .returned (.bool (p x)) ∧ Below W.heap.size W w') :
    Calls Try.prog 48 #[.slice a k.length c, .func (.func g) #[] lb] w fun e w' => ∃ r : Int, e = .returned (.int .i64 r) ∧ (0 ≤ r ↔ k.any p = true) ∧ Below w.heap.size w w' := by
  rw [KsAt] at hks
  obtain ⟨a', cap, he, hl63, hks⟩ := hks
  obtain ⟨rfl, rfl⟩ : a' = a ∧ cap = c := by simpa [eq_comm] using he
  have HK := Lib.hid hks
  have HP := Lib.hid hp
  clear hks hp he
  go_enter Try.func48, Try.ntmps48
  go_wp2_with fail
  go_loopw [5, 8] (fun _ vi wr => ∃ i : Nat, vi = .int .i64 i ∧ i ≤ k.length ∧ (k.take i).any p = false ∧ Below w.heap.size w wr) (fun _ vi _ => k.length - (intOf vi).toNat)
  case atStart => exact ⟨0, rfl, Nat.zero_le _, rfl, Below.refl _ w⟩
  case round =>
    obtain ⟨i, rfl, hi, hn, hb⟩ := hrel
    have HB := Lib.hid hb
    have HN := Lib.hid hn
    clear hn
    by_cases hlt : i < k.length
    · rcases HK.out with h0 | ⟨b, off, rfl, hbl, hka⟩
      · exact absurd hlt (by rw [h0]; simp)
      obtain ⟨kv, x0, x1, x2, x3, x4⟩ := KAt.get (KAt.below hb b hbl off k hka) i hlt
      have HT : Hid ((k.take (i + 1)).any p = ((k.take i).any p || p k[i])) := Lib.hid (by rw [List.take_succ_eq_append_getElem hlt, List.any_append, List.any_cons, List.any_nil, Bool.or_false])
      have HM : Hid (p k[i] = true → k.any p = true) := Lib.hid fun h => List.any_eq_true.2 ⟨_, List.getElem_mem hlt, h⟩
      have hmem : k[i] ∈ k := List.getElem_mem hlt
      generalize k[i] = x at x0 x1 x2 x3 x4 HT HM hmem
      obtain ⟨ak, ck, rfl⟩ := x4.shape
      have HC := Lib.hid (HP.out wr x _ HB.out hmem x4)
      clear hb hka x4
      simp only [Ft.val] at HC
      cases hpx : p x with
      | true =>
        rw [hpx] at HC HM
        have HM2 := Lib.hid (HM.out rfl)
        clear HM
        go_wp2_with (go_at_fn g; refine HC.out.mono ?_; rintro e w' ⟨rfl, hb'⟩)
        go_ret
        exact ⟨_, rfl, ⟨fun _ => HM2.out, fun _ => by omega⟩, HB.out.trans (hb'.mono HB.out.size)⟩
      | false =>
        rw [hpx] at HC HT
        go_wp2_with (go_at_fn g; refine HC.out.mono ?_; rintro e w' ⟨rfl, hb'⟩)
        go_roundw
        case rel => exact ⟨i + 1, by go_num, by omega, by rw [HT.out, HN.out]; rfl, HB.out.trans (hb'.mono HB.out.size)⟩
        case measure => simp [intOf]; omega
    · obtain rfl : i = k.length := by omega
      have hn := HN.out
      rw [List.take_length] at hn
      have HE := Lib.hid hn
      clear hb hn
      go_wp2_with fail
      go_ret
      exact ⟨_, rfl, by rw [HE.out]; simp, HB.out⟩

set_option maxHeartbeats 2000000 in
theorem contains_kids (g : Nat) (lb : Array Value) (eg : ∀ args w, (callFunc g args).run Try.prog w = .ok (.enter g args) w) (p : Ft → Bool) (o : Int) (n t : ByteArray) (k : List Ft) (a : Option Addr) (c : Nat) (w : World) (hks : KsAt w (.slice a k.length c) (.mk o n t k))
    (hp : ∀ (W : World) (x : Ft) (kv : Value), Below w.heap.size w W → x ∈ k → KsAt W kv x → Calls Try.prog g (#[x.val kv] ++ lb) W fun e w' => e = .returned (.bool (p x)) ∧ Below W.heap.size W w') :
    Calls Try.prog 36 #[.slice a k.length c, .func (.func g) #[] lb] w fun e w' => e = .returned (.bool (k.any p)) ∧ Below w.heap.size w w' := by
  have HI := Lib.hid (index_kids g lb eg p o n t k a c w hks hp)
  clear hks hp
  generalize k.any p = b at HI ⊢
  go_enter Try.func36, Try.ntmps36
  go_wp2_with (go_at_call 48; refine HI.out.mono ?_; rintro e w' ⟨r, rfl, hr, hb'⟩)
  go_ret
  refine ⟨?_, hb'⟩
  congr 2

/-- What strings.Cut answers at a blank, and what is left to look at. -/
theorem cut_call (l want : ByteArray) (hs : l.size ≤ 100000) (w : World) (hSh : w.ShapedOpen Try.prog) : ∃ (X Y : ByteArray) (m : Bool),
    (Calls Try.prog 47 #[.string l, .string ⟨#[32]⟩] w fun e w' => e = .returned (.tuple #[.string X, .string Y, .bool m]) ∧ ∃ n, w' = w.drewN n) ∧ Y.size ≤ 100000 ∧ (m = true → Y.size < l.size) ∧
    ((pcs [] l.data.toList).any fun p => decide (p = want.data.toList)) = (decide (X = want) || if m then ((pcs [] Y.data.toList).any fun p => decide (p = want.data.toList)) else false) := by
  have hc := Try.strings_Cut_shaped l ⟨#[32]⟩ w hSh (by omega)
  have hst : l.data.toList.length = l.size := Array.length_toList
  have hx : ∀ X : ByteArray, decide (X.data.toList = want.data.toList) = decide (X = want) := fun X => by
    rw [Bool.eq_iff_iff, decide_eq_true_iff, decide_eq_true_iff]
    exact ⟨fun h => ByteArray.ext (Array.toList_inj.1 h), fun h => by rw [h]⟩
  rcases cut_blank l.data.toList with ⟨h1, h2⟩ | ⟨a, b, h1, h2, h3⟩
  · rw [show (⟨#[32]⟩ : ByteArray).data.toList = [32] from rfl, h2] at hc
    refine ⟨l, ⟨#[]⟩, false, by simpa using hc, Nat.zero_le _, (fun h => by cases h), ?_⟩
    rw [pcs_none _ [] h1, ← hx l]
    simp
  · rw [show (⟨#[32]⟩ : ByteArray).data.toList = [32] from rfl, h3] at hc
    have hl : b.length < l.size := by rw [← hst, h1, List.length_append, List.length_cons]; omega
    refine ⟨⟨a.toArray⟩, ⟨b.toArray⟩, true, hc, ?_, (fun _ => ?_), ?_⟩
    · show b.toArray.size ≤ _
      simp; omega
    · show b.toArray.size < _
      simpa using hl
    · rw [h1, pcs_split a b [] h2, ← hx ⟨a.toArray⟩]
      simp

set_option maxHeartbeats 2000000 in
set_option maxRecDepth 100000 in
/-- match.hasPiece: does a text stand between a line's blanks, or its ends? -/
theorem piece_any (line want : ByteArray) (hs : line.size ≤ 100000) (w : World) (hSh : w.ShapedOpen Try.prog) :
    Calls Try.prog 35 #[.string line, .string want] w fun e w' => e = .returned (.bool (hasPiece line want)) ∧ Below w.heap.size w w' := by
  have HSH := Lib.hid hSh
  clear hSh
  unfold hasPiece
  generalize hA : ((pcs [] line.data.toList).any fun p => decide (p = want.data.toList)) = A
  have hst : line.data.toList.length = line.size := Array.length_toList
  go_enter Try.func35, Try.ntmps35
  go_wp2_with fail
  go_loopw [0, 5] (fun vl vm wr => ∃ (l : ByteArray) (m : Bool), vl = .string l ∧ vm = .bool m ∧ l.size ≤ 100000 ∧ (if m then ((pcs [] l.data.toList).any fun p => decide (p = want.data.toList)) else false) = A ∧ Below w.heap.size w wr) (fun vl vm _ => match vl, vm with | .string l, .bool true => l.size + 1 | _, _ => 0)
  case atStart => exact ⟨line, true, rfl, rfl, hs, by simpa using hA, Below.refl _ w⟩
  case round =>
    obtain ⟨l, m, rfl, rfl, hls, hm, hb⟩ := hrel
    cases m with
    | false =>
      have HM := Lib.hid hm
      have HB := Lib.hid hb
      clear hm hb hA
      go_wp2_with fail
      go_ret
      exact ⟨by rw [← HM.out]; rfl, HB.out⟩
    | true =>
      obtain ⟨X, Y, m, hc, hy, hlt, he⟩ := cut_call l want hls wr (shaped_below HSH.out hb)
      rw [if_pos rfl, he] at hm
      have HC := Lib.hid hc
      have HB := Lib.hid hb
      have HLT := Lib.hid hlt
      clear hc hb he hlt hA hst
      by_cases hX : X = want
      · have hq := H3.bytes_eq hX
        rw [decide_eq_true hX, Bool.true_or] at hm
        have HM := Lib.hid hm
        clear hm hX
        go_wp2_with (go_at_call 47; refine HC.out.mono ?_; rintro e w' ⟨rfl, q, rfl⟩)
        go_ret
        exact ⟨by rw [← HM.out]; rfl, below_drewN HB.out q⟩
      · have hq := H3.bytes_ne hX
        rw [decide_eq_false hX, Bool.false_or] at hm
        have HM := Lib.hid hm
        clear hm hX
        go_wp2_with (go_at_call 47; refine HC.out.mono ?_; rintro e w' ⟨rfl, q, rfl⟩)
        go_roundw
        case rel => exact ⟨Y, m, rfl, rfl, hy, HM.out, below_drewN HB.out q⟩
        case measure =>
          have := HLT.out
          cases m
          · simp
          · simp at this ⊢
            omega
end Go.Proofs.Ytidjodplimkmgaa
