/-
  magpielaw03.WordStands: the walk.
-/
import Derived.Test.YtgjlbcmejanfaaaDoorRefHas
import Derived.ChangeAgain
namespace Go.Proofs.YtgjlbcmejanfaaaDoor
open Go.RowKit Go

/-- What the library's calls lean on. -/
theorem shaped_below {w w' : World} (h : w.ShapedOpen Tryd.prog) (hb : Below w.heap.size w w') : w'.ShapedOpen Tryd.prog :=
  h.keptBut (hb.frame (fun _ => False)) (fun _ h => h.elim)

theorem contains_of {s sub : List UInt8} {i : Nat} (hi : i ≤ s.length) (h : Lib.occAt s sub i = true) : Lib.contains s sub = true := by
  unfold Lib.contains
  rw [decide_eq_true_eq]
  rcases Lib.index_spec s sub with ⟨h1, h2⟩ | ⟨i, h1, _⟩
  · rw [h2 i hi] at h; cases h
  · omega

theorem word_contained {s x : ByteArray} (hx : x ∈ wordsB s) : Lib.contains s.data.toList x.data.toList = true := by
  unfold wordsB at hx
  obtain ⟨⟨a, b⟩, hp, rfl⟩ := List.mem_map.1 hx
  obtain ⟨h1, h2⟩ := M.places_fits _ _ hp
  have h1 : a < b := h1
  have h2 : b ≤ s.data.toList.length := h2
  refine contains_of (i := a) (by omega) ?_
  unfold Lib.occAt pc
  rw [bs_data, List.isPrefixOf_iff_prefix]
  unfold M.piece
  rw [List.drop_take]
  exact List.take_prefix _ _

theorem contains_call {s x : ByteArray} (hx : x ∈ wordsB s) (hs : s.size ≤ 1048576) (w : World) (h : w.ShapedOpen Tryd.prog) :
    Calls Tryd.prog 16 #[.string s, .string x] w fun e w' => e = .returned (.bool true) ∧ w = w' := by
  have := Tryd.strings_Contains_shaped s x w h (by omega)
  rw [word_contained hx] at this
  exact this.mono fun _ _ h => ⟨h.1, h.2.symm⟩

theorem has_call {s x : ByteArray} (hx : x ∈ wordsB s) (hs : s.size ≤ 1048576) (w : World) :
    Calls Tryd.prog 12 #[.string s, .string x] w fun e w' => e = .returned (.bool true) ∧ Below w.heap.size w w' := by
  have := has_any s x (by omega) w
  rwa [(hasB_iff s x).2 hx] at this

theorem size_blank (a b : ByteArray) : (a ++ ⟨#[32]⟩ ++ b).size = a.size + 1 + b.size := by
  rw [ByteArray.size_append, ByteArray.size_append]
  rfl

set_option maxHeartbeats 4000000 in
theorem stands_walk (s t : ByteArray) (w : World) (hT : Lib.Utf8Tabs 1 2 w) (hSh : w.ShapedOpen Tryd.prog) :
    Calls Tryd.prog 4 #[.string s, .string t] w fun e w' => e = .returned (.bool true) ∧ Below w.heap.size w w' := by
  by_cases ha : 512 < s.size
  · go_enter Tryd.func4, Tryd.ntmps4
    go_wp2_with fail
    refine (alive_any w).mono ?_
    rintro e w1 ⟨rfl, hb1⟩
    go_wp2
    go_ret
    exact ⟨rfl, hb1⟩
  by_cases hb : 512 < t.size
  · go_enter Tryd.func4, Tryd.ntmps4
    go_wp2_with fail
    refine (alive_any w).mono ?_
    rintro e w1 ⟨rfl, hb1⟩
    go_wp2
    go_ret
    exact ⟨rfl, hb1⟩
  have hda : decide ((512 : Int) < (s.size : Int)) = false := by simp; omega
  have hdb : decide ((512 : Int) < (t.size : Int)) = false := by simp; omega
  have HT := Lib.hid hT
  have HSH := Lib.hid hSh
  clear hT hSh
  go_enter Tryd.func4, Tryd.ntmps4
  go_wp2_with fail
  refine (alive_any w).mono ?_
  rintro e w1 ⟨rfl, hb1⟩
  have HB1 := Lib.hid hb1
  clear hb1
  go_wp2_with (go_at_call 10; refine (words_any _ _).mono ?_; rintro e w' ⟨rfl, rfl⟩)
  refine (gone_all s w1 600 (by omega) (by omega)).mono ?_
  rintro e w2 ⟨v, rfl, hr, hb2⟩
  have HB2 := Lib.hid (HB1.out.trans (hb2.mono HB1.out.size))
  obtain ⟨L, hL⟩ : ∃ L, L = wordsB s := ⟨_, rfl⟩
  rw [← hL] at hr
  have hll : L.length ≤ 512 := by rw [hL]; have := wordsB_length s; omega
  have HL := Lib.hid hL
  obtain ⟨n, hn⟩ : ∃ n, n = L.length := ⟨_, rfl⟩
  obtain ⟨a, c, hv⟩ : ∃ a c, v = .slice a n c := by
    have := hr.shape
    rwa [strs_length, ← hn] at this
  subst hv
  have HN := Lib.hid hn
  have hnb : n ≤ 512 := by omega
  have HR : Hid (Rs (From w.heap.size) w2 (.slice a n c) (strs L)) := Lib.hid (hr.mono fun k h _ => Nat.le_trans HB1.out.size h)
  clear hr hb2 hL hn
  go_wp2_with fail
  go_loopw [21] (fun vi wr => ∃ k : Nat, vi = .int .i64 k ∧ k ≤ n ∧ Rs (From w.heap.size) wr (.slice a n c) (strs L) ∧ Below w.heap.size w wr) (fun vi _ => n - (intOf vi).toNat)
  case atStart => exact ⟨0, rfl, Nat.zero_le _, HR.out, HB2.out⟩
  case round =>
    obtain ⟨k, rfl, hk, hr, hbl⟩ := hrel
    have HR := Lib.hid hr
    have HBL := Lib.hid hbl
    clear hr hbl
    by_cases hkn : k < n
    · have hkl : k < L.length := by rw [← HN.out]; exact hkn
      obtain ⟨g, c', hgc⟩ := HR.out.block (by omega)
      obtain rfl : a = some ⟨g, 0, none⟩ := by injection hgc
      have hc := HR.out.at_cell (Keep.refl _ _) k hkl
      obtain ⟨x, hx⟩ : ∃ x, x = L[k] := ⟨_, rfl⟩
      rw [← hx] at hc
      have hxs : x ∈ wordsB s := by rw [← HL.out, hx]; exact List.getElem_mem hkl
      have HXS := Lib.hid hxs
      have HX1 : Hid (x ∈ wordsB (s ++ ⟨#[32]⟩ ++ t)) := by
        show x ∈ wordsB (s ++ ⟨#[32]⟩ ++ t)
        rw [wordsB_blank]
        exact List.mem_append.2 (.inl hxs)
      have HX2 : Hid (x ∈ wordsB (t ++ ⟨#[32]⟩ ++ s)) := by
        show x ∈ wordsB (t ++ ⟨#[32]⟩ ++ s)
        rw [wordsB_blank]
        exact List.mem_append.2 (.inr hxs)
      clear hxs hx hgc
      go_wp2_with (go_at_call 16; refine (contains_call HXS.out (by omega) _ (shaped_below HSH.out HBL.out)).mono ?_; rintro e w' ⟨rfl, rfl⟩)
      refine (has_call HXS.out (by omega) _).mono ?_
      rintro e w3 ⟨rfl, hb3⟩
      have HB3 := Lib.hid (HBL.out.trans (hb3.mono HBL.out.size))
      have HR3 := Lib.hid (HR.out.below (Nat.le_refl _) hb3)
      clear hb3
      go_wp2_with fail
      refine (has_call HX1.out (by rw [size_blank]; omega) _).mono ?_
      rintro e w4 ⟨rfl, hb4⟩
      have HB4 := Lib.hid (HB3.out.trans (hb4.mono HB3.out.size))
      have HR4 := Lib.hid (HR3.out.below (Nat.le_refl _) hb4)
      clear hb4
      go_wp2_with fail
      refine (has_call HX2.out (by rw [size_blank]; omega) _).mono ?_
      rintro e w5 ⟨rfl, hb5⟩
      have HB5 := Lib.hid (HB4.out.trans (hb5.mono HB4.out.size))
      have HR5 := Lib.hid (HR4.out.below (Nat.le_refl _) hb5)
      clear hb5
      go_wp2_with fail
      go_roundw
      case rel => exact ⟨k + 1, by go_num, by omega, HR5.out, HB5.out⟩
      case measure => simp [intOf]; omega
    · obtain rfl : k = n := by omega
      by_cases hit : M.is t.data.toList = true
      · have hI := refIs_any t (by omega) wr (Utf8Tabs_below HT.out HBL.out)
        rw [hit] at hI
        have HI := Lib.hid hI
        have HX : Hid (t ∈ wordsB (s ++ ⟨#[32]⟩ ++ t)) := by
          show t ∈ wordsB (s ++ ⟨#[32]⟩ ++ t)
          rw [wordsB_blank, (is_words t).1 hit]
          simp
        clear hI hit
        go_wp2_with fail
        refine HI.out.mono ?_
        rintro e w3 ⟨rfl, hb3⟩
        have HB3 := Lib.hid (HBL.out.trans (hb3.mono HBL.out.size))
        clear hb3
        go_wp2_with fail
        refine (has_call HX.out (by rw [size_blank]; omega) _).mono ?_
        rintro e w4 ⟨rfl, hb4⟩
        have HB4 := Lib.hid (HB3.out.trans (hb4.mono HB3.out.size))
        clear hb4
        go_wp2_with fail
        go_ret
        exact ⟨rfl, HB4.out⟩
      · have hI := refIs_any t (by omega) wr (Utf8Tabs_below HT.out HBL.out)
        rw [Bool.eq_false_iff.2 hit] at hI
        have HI := Lib.hid hI
        clear hI hit
        go_wp2_with fail
        refine HI.out.mono ?_
        rintro e w3 ⟨rfl, hb3⟩
        have HB3 := Lib.hid (HBL.out.trans (hb3.mono HBL.out.size))
        clear hb3
        go_wp2_with fail
        go_ret
        exact ⟨rfl, HB3.out⟩

end Go.Proofs.YtgjlbcmejanfaaaDoor
