/-
  The document's own reader: Text, End.
-/
import Derived.Test.YtgcldnojmdabpaaRefAll
namespace Go.Proofs.Ytgcldnojmdabpaa
open Go.RowKit Go

theorem Below.drewN0 (w : World) (n : Nat) : Below w.heap.size w (w.drewN n) := ⟨rfl, rfl, rfl, Nat.le_refl _, fun _ _ => rfl⟩

/-- What the document's Text leaves. -/
def RefText (most g : Nat) (S : ByteArray) (l : List UInt8) (bad : Bool) (w : World) (e : Ending) (w' : World) : Prop :=
  ∃ (s : ByteArray) (l' : List UInt8) (bad' : Bool) (pos' : Nat), e = .returned (.string s) ∧ RT most l bad s.data.toList l' bad' ∧ Rf w' g S pos' bad' ∧ Left l' bad' S pos' ∧ Chg g w w'

set_option maxHeartbeats 2000000 in
theorem ref_text_rd (most g : Nat) (hm : most < 9223372036854775808) (S : ByteArray) (hS : S.size ≤ 2000) (pos : Nat) (l : List UInt8) (bad : Bool) (w : World) (h : Rf w g S pos bad) (hl : Left l bad S pos) (mo : Int) (hmo : mo = (most : Int)) :
    Calls Try.prog 64 #[.pointer (some ⟨g, 0, none⟩), .int .i64 mo] w (RefText most g S l bad w) := by
  have hU := ref_rd most g S hS pos l bad w h hl
  have hw : IntKind.u64.wrap mo = (most : Int) := by rw [hmo, IntKind.wrap_u64]; omega
  have h0 : 0 ≤ mo := by omega
  rw [← hw] at hU
  have HU := Lib.hid hU
  clear hU hmo hw hl h
  go_enter Try.func64, Try.ntmps64
  go_wp2_with fail
  refine HU.out.mono ?_
  rintro e w' ⟨n, l', bad', pos', rfl, hr, hd, hle, ho⟩
  have hlt := hr.lt
  have HR := Lib.hid hr
  have HO := Lib.hid ho
  clear hr ho
  have hs0 := hd.str
  have hs1 := hd.posn
  have hs2 := hd.isBad
  have hf1 := hd.f1
  have hf2 := hd.f2
  have HD := Lib.hid hd
  clear hd
  cases bad'
  · obtain ⟨hl', hp⟩ := hle rfl
    have hsz : S.data.toList.length = S.size := (Lib.size_eq S).symm
    have hll : l'.length = S.size - pos' := by rw [hl', List.length_drop, hsz]
    have HL := Lib.hid hl'
    have HLL := Lib.hid hll
    have e1 : IntKind.i64.wrap ((S.size : Int) - pos') = (S.size : Int) - pos' := by rw [IntKind.wrap_i64]; omega
    have e2 : IntKind.u64.wrap ((S.size : Int) - pos') = (S.size : Int) - pos' := by rw [IntKind.wrap_u64]; omega
    clear hle hl' hsz
    by_cases hn : n ≤ l'.length
    · have hns : decide ((n : Int) > (S.size : Int) - pos') = false := by simp; omega
      have hni : IntKind.i64.wrap (n : Int) = n := by rw [IntKind.wrap_i64]; omega
      have e3 : IntKind.i64.wrap ((pos' : Int) + n) = (pos' : Int) + n := by rw [IntKind.wrap_i64]; omega
      have hp1 : (0 : Int) ≤ (pos' : Int) + n := by omega
      have hp2 : (pos' : Int) ≤ (pos' : Int) + n := by omega
      have hp3 : ((pos' : Int) + n).toNat = pos' + n := by omega
      have hp4 : pos' + n ≤ S.size := by omega
      have HN := Lib.hid hn
      clear hll hn
      go_wp2_with fail
      go_quiet (fail)
      go_wp2_with fail
      go_quiet (fail)
      go_wp2_with fail
      go_ret
      have hext : (S.extract pos' (pos' + n)).data.toList = l'.take n := by
        rw [Lib.extract_data, HL.out, Nat.add_sub_cancel_left]
      refine ⟨S.extract pos' (pos' + n), l'.drop n, false, pos' + n, rfl, ?_, ?_, ?_, ?_⟩
      · rw [hext]
        exact .good n l' HR.out HN.out
      · rw [← Int.natCast_add]
        exact (HD.out.drewN _).setPos (pos' + n)
      · exact fun _ => ⟨by rw [HL.out, List.drop_drop], hp4⟩
      · exact (HO.out.drewN _).trans (Chg.setCell g 1 _ _)
    · have hns : decide ((n : Int) > (S.size : Int) - pos') = true := by simp; omega
      have HN := Lib.hid hn
      clear hll hn
      go_wp2_with fail
      go_quiet (fail)
      go_wp2_with fail
      go_ret
      exact ⟨⟨#[]⟩, [], true, pos', rfl, .short n l' HR.out (by have := HN.out; omega), (HD.out.drewN _).setBad true, Left.bad _ _ _, (HO.out.drewN _).trans (Chg.setCell g 2 _ _)⟩
  · go_wp2_with fail
    go_quiet (fail)
    go_wp2_with fail
    go_ret
    exact ⟨⟨#[]⟩, l', true, pos', rfl, .bad n l' HR.out, (HD.out.drewN _).setBad true, Left.bad _ _ _, (HO.out.drewN _).trans (Chg.setCell g 2 _ _)⟩

set_option maxHeartbeats 2000000 in
theorem ref_end_rd (g : Nat) (S : ByteArray) (pos : Nat) (l : List UInt8) (bad : Bool) (w : World) (h : Rf w g S pos bad) (hl : Left l bad S pos) :
    Calls Try.prog 35 #[.pointer (some ⟨g, 0, none⟩)] w fun e w' => e = .returned (.bool (!bad && l.isEmpty)) ∧ Below w.heap.size w w' := by
  have hs0 := h.str
  have hs1 := h.posn
  have hs2 := h.isBad
  cases bad
  · obtain ⟨hl', hp⟩ := hl rfl
    have hsz : S.data.toList.length = S.size := (Lib.size_eq S).symm
    have hll : l.length = S.size - pos := by rw [hl', List.length_drop, hsz]
    have he : ((pos : Int) == (S.size : Int)) = l.isEmpty := by
      rw [Bool.eq_iff_iff, List.isEmpty_iff_length_eq_zero, beq_iff_eq, hll]
      omega
    have HE := Lib.hid he
    clear he hll hl' hl h hsz
    go_enter Try.func35, Try.ntmps35
    go_wp2_with fail
    go_quiet (fail)
    go_wp2_with fail
    go_ret
    refine ⟨?_, Below.drewN0 _ _⟩
    rw [← HE.out]
    rfl
  · clear h hl
    go_enter Try.func35, Try.ntmps35
    go_wp2_with fail
    go_quiet (fail)
    go_wp2_with fail
    go_ret
    exact ⟨rfl, Below.drewN0 _ _⟩

end Go.Proofs.Ytgcldnojmdabpaa
