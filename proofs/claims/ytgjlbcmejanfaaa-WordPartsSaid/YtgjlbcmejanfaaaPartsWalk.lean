/-
  magpielaw03.WordParts: the walk.
-/
import Derived.Test.YtgjlbcmejanfaaaAlive
namespace Go.Proofs.Ytgjlbcmejanfaaa
open Go.RowKit Go

theorem bs_data (l : List UInt8) : (bs l).data.toList = l := rfl
theorem bs_self (s : ByteArray) : bs s.data.toList = s := rfl

theorem wordsB_eq (s : ByteArray) : wordsB s = (M.words s.data.toList).map bs := by
  unfold wordsB
  rw [← M.places_words, List.map_map]
  rfl

theorem wordsB_blank (a b : ByteArray) : wordsB (a ++ ⟨#[32]⟩ ++ b) = wordsB a ++ wordsB b := by
  rw [wordsB_eq, wordsB_eq, wordsB_eq, ← List.map_append, ← M.words_blank]
  congr 2
  simp [ByteArray.data_append]

theorem wordsB_length (s : ByteArray) : (wordsB s).length ≤ s.size := by
  rw [wordsB_eq, List.length_map]
  have h := M.words_length s.data.toList
  have e : s.data.toList.length = s.size := Array.length_toList
  omega

theorem wordsB_word {s x : ByteArray} (h : x ∈ wordsB s) : M.is x.data.toList = true ∧ wordsB x = [x] := by
  rw [wordsB_eq] at h
  obtain ⟨l, hl, rfl⟩ := List.mem_map.1 h
  rw [wordsB_eq, bs_data]
  exact ⟨M.word_is hl, by rw [M.words_word hl]; rfl⟩

theorem wordsB_size {s x : ByteArray} (h : x ∈ wordsB s) : x.size ≤ s.size := by
  unfold wordsB at h
  obtain ⟨p, hp, rfl⟩ := List.mem_map.1 h
  have e : (pc s p).size = (M.piece s.data.toList p).length := by
    unfold pc bs
    exact List.size_toArray
  have e2 : s.data.toList.length = s.size := Array.length_toList
  rw [e]
  unfold M.piece
  rw [List.length_drop, List.length_take]
  omega

theorem takeAll {s : ByteArray} {m : Int} (h : (s.size : Int) ≤ m) : (wordsB s).take m.toNat = wordsB s :=
  List.take_of_length_le (by have := wordsB_length s; omega)

/-- All words of a short text. -/
theorem gone_all (s : ByteArray) (w : World) (m : Int) (hm : m ≤ 2000) (h : (s.size : Int) ≤ m) :
    Calls Try.prog 9 #[.func (.func 14) #[] #[.pointer (some ⟨w.heap.size, 0, none⟩)], .int .i64 m] (w.alloc (.cells #[.string s] 9)) fun e w' => ∃ v, e = .returned v ∧ Rs (From w.heap.size) w' v (strs (wordsB s)) ∧ Below w.heap.size w w' := by
  have := gone_words s (by omega) w m hm
  rwa [takeAll h] at this

/-- A word's words are it alone. -/
theorem gone_word {s x : ByteArray} (hx : x ∈ wordsB s) (hs : s.size ≤ 70368744177664) (w : World) :
    Calls Try.prog 9 #[.func (.func 14) #[] #[.pointer (some ⟨w.heap.size, 0, none⟩)], .int .i64 9] (w.alloc (.cells #[.string x] 9)) fun e w' => ∃ v, e = .returned v ∧ Rs (From w.heap.size) w' v (strs [x]) ∧ Below w.heap.size w w' := by
  have hsz := wordsB_size hx
  have := gone_words x (by omega) w 9 (by omega)
  rwa [(wordsB_word hx).2] at this

set_option maxHeartbeats 4000000 in
theorem parts_walk (a b : ByteArray) (w : World) :
    Calls Try.prog 4 #[.string a, .string b] w fun e w' => e = .returned (.bool true) ∧ Below w.heap.size w w' := by
  obtain ⟨i9, E9⟩ := elem9
  by_cases ha : 512 < a.size
  · go_enter Try.func4, Try.ntmps4
    go_wp2_with fail
    refine (alive_any w).mono ?_
    rintro e w1 ⟨rfl, hb1⟩
    go_wp2
    go_ret
    exact ⟨rfl, hb1⟩
  by_cases hb : 512 < b.size
  · go_enter Try.func4, Try.ntmps4
    go_wp2_with fail
    refine (alive_any w).mono ?_
    rintro e w1 ⟨rfl, hb1⟩
    go_wp2
    go_ret
    exact ⟨rfl, hb1⟩
  have hda : decide ((512 : Int) < (a.size : Int)) = false := by simp; omega
  have hdb : decide ((512 : Int) < (b.size : Int)) = false := by simp; omega
  go_enter Try.func4, Try.ntmps4
  go_wp2_with fail
  refine (alive_any w).mono ?_
  rintro e w1 ⟨rfl, hb1⟩
  have HB1 := Lib.hid hb1
  clear hb1
  go_wp2_with (go_at_call 10; refine (words_any _ _).mono ?_; rintro e w' ⟨rfl, rfl⟩)
  refine (gone_all a w1 600 (by omega) (by omega)).mono ?_
  rintro e w2 ⟨v1, rfl, hr1, hb2⟩
  have HB2 := Lib.hid (HB1.out.trans (hb2.mono HB1.out.size))
  have HR1 := Lib.hid hr1
  have HSZ := Lib.hid hb2.size
  clear hb2 hr1
  go_wp2_with (go_at_call 10; refine (words_any _ _).mono ?_; rintro e w' ⟨rfl, rfl⟩)
  refine (gone_all b w2 600 (by omega) (by omega)).mono ?_
  rintro e w3 ⟨v2, rfl, hr2, hb3⟩
  have HB3 := Lib.hid (HB2.out.trans (hb3.mono HB2.out.size))
  have HR1' := Lib.hid (HR1.out.below (Nat.le_refl _) hb3)
  have HR2 := Lib.hid hr2
  have hmono : w1.heap.size ≤ w3.heap.size := Nat.le_trans HSZ.out hb3.size
  clear hb3 hr2
  have HLA := Lib.hid (strs_length (wordsB a))
  have HLB := Lib.hid (strs_length (wordsB b))
  have hla := wordsB_length a
  have hlb := wordsB_length b
  have HB12 : Hid (w1.heap.size ≤ w3.heap.size) := Lib.hid hmono
  clear hmono
  go_wp2_with (at_builtin; refine wpList_append_rs E9 _ rfl _ _ 25 rfl rfl HR1'.out ?c1 v2 _ rfl (HR2.out.src Try.underlying25 (strs_one _)) ?c2 ?c3 ?_)
  case c1 => intro k hk; exact Nat.le_trans HB12.out hk
  case c2 => rw [HLA.out, HLB.out]; omega
  case c3 => rw [HLA.out, HLB.out]; omega
  intro v3 w4 hr3 hk3
  obtain ⟨L, hL⟩ : ∃ L, L = wordsB a ++ wordsB b := ⟨_, rfl⟩
  have HB4 := Lib.hid (HB3.out.trans (hk3.below (fun k h => Nat.le_trans HB1.out.size (HR1'.out.at h).1) HB3.out.size))
  have hr3' : Rs (From w.heap.size) w4 v3 (strs L) := by
    rw [hL]
    unfold strs
    rw [List.map_append]
    exact hr3.mono fun k h _ => Nat.le_trans HB1.out.size h.1
  obtain ⟨a3, c3, hv3⟩ : ∃ a c, v3 = .slice a L.length c := by
    have := hr3'.shape
    rwa [strs_length] at this
  obtain ⟨n, hn⟩ : ∃ n, n = L.length := ⟨_, rfl⟩
  rw [← hn] at hv3
  subst hv3
  have HN := Lib.hid hn
  have HR3 := Lib.hid hr3'
  have hLL : L.length ≤ 1024 := by
    rw [hL, List.length_append]
    have h1 := wordsB_length a
    have h2 := wordsB_length b
    omega
  have HL := Lib.hid hL
  have hnn : n ≤ 1024 := by omega
  clear hr3 hk3 hr3' hL hn
  go_wp2_with (go_at_call 10; refine (words_any _ _).mono ?_; rintro e w' ⟨rfl, rfl⟩)
  have hg := gone_all (a ++ ⟨#[32]⟩ ++ b) w4 2000 (by omega) (by rw [ByteArray.size_append, ByteArray.size_append]; have : (ByteArray.mk #[32]).size = 1 := rfl; omega)
  rw [wordsB_blank, ← HL.out] at hg
  refine hg.mono ?_
  clear hg
  rintro e w5 ⟨v4, rfl, hr4, hb5⟩
  have HB5 := Lib.hid (HB4.out.trans (hb5.mono HB4.out.size))
  have HR5 := Lib.hid (HR3.out.below (Nat.le_refl _) hb5)
  have HS := Lib.hid (same_true hr4 HR5.out (by omega))
  clear hb5 hr4
  go_wp2_with fail
  refine HS.out.mono ?_
  rintro e w6 ⟨rfl, hs6⟩
  have HB6 := Lib.hid (HB5.out.trans (hs6.below.mono HB5.out.size))
  have HR6 := Lib.hid (HR5.out.below (Nat.le_refl _) hs6.below)
  clear hs6
  go_wp2_with fail
  go_loopw [36] (fun vi wr => ∃ k : Nat, vi = .int .i64 k ∧ k ≤ n ∧ Rs (From w.heap.size) wr (.slice a3 n c3) (strs L) ∧ Below w.heap.size w wr) (fun vi _ => n - (intOf vi).toNat)
  case atStart => exact ⟨0, rfl, by omega, HR6.out, HB6.out⟩
  case round =>
    obtain ⟨k, rfl, hk, hr, hbl⟩ := hrel
    have HR := Lib.hid hr
    have HBL := Lib.hid hbl
    clear hr hbl
    by_cases hkn : k < n
    · have hkl : k < L.length := by rw [← HN.out]; exact hkn
      obtain ⟨g, c, hgc⟩ := HR.out.block (by omega)
      obtain rfl : a3 = some ⟨g, 0, none⟩ := by injection hgc
      have hc := HR.out.at_cell (Keep.refl _ _) k hkl
      obtain ⟨x, hx⟩ : ∃ x, x = L[k] := ⟨_, rfl⟩
      rw [← hx] at hc
      have hmem : x ∈ wordsB a ++ wordsB b := by rw [← HL.out, hx]; exact List.getElem_mem hkl
      have hin : ∃ s, x ∈ wordsB s ∧ s.size ≤ 512 := by
        rcases List.mem_append.1 hmem with h | h
        · exact ⟨a, h, by omega⟩
        · exact ⟨b, h, by omega⟩
      obtain ⟨s, hxs, hss⟩ := hin
      have hxsz := wordsB_size hxs
      have hI := is_any x (by omega) wr
      rw [(wordsB_word hxs).1] at hI
      have HI := Lib.hid hI
      have HXS := Lib.hid hxs
      clear hI hxs hmem hx hgc
      go_wp2_with (go_at_call 8; refine HI.out.mono ?_; rintro e w7 ⟨rfl, hb7⟩; have HB7 := Lib.hid (HBL.out.trans (hb7.mono HBL.out.size)); have HR7 := Lib.hid (HR.out.below (Nat.le_refl _) hb7); clear hb7)
      refine (words_any x w7).mono ?_
      rintro e w' ⟨rfl, rfl⟩
      go_wp2_with fail
      refine (gone_word HXS.out (by omega) w7).mono ?_
      rintro e w8 ⟨v8, rfl, hr8, hb8⟩
      have hb9 := HB7.out.trans (hb8.mono HB7.out.size)
      have HB9 := Lib.hid (hb9.alloc hb9.size (.cells #[.string x] 9))
      have HR9 := Lib.hid ((HR7.out.below (Nat.le_refl _) hb8).alloc (.cells #[.string x] 9))
      have HS8 := Lib.hid (same_true (hr8.alloc (.cells #[.string x] 9)) (rs_new (P := Try.prog) w8 (strs [x]) 9 (by simp [strs])) (by simp))
      clear hr8 hb8 hb9
      go_wp2_with fail
      refine HS8.out.mono ?_
      rintro e w9 ⟨rfl, hs9⟩
      have HB10 := Lib.hid (HB9.out.trans (hs9.below.mono HB9.out.size))
      have HR10 := Lib.hid (HR9.out.below (Nat.le_refl _) hs9.below)
      clear hs9
      go_wp2_with fail
      go_roundw
      case rel => exact ⟨k + 1, by go_num, by omega, HR10.out, HB10.out⟩
      case measure => simp [intOf]; omega
    · obtain rfl : k = n := by omega
      go_wp2
      go_ret
      exact ⟨rfl, HBL.out⟩

end Go.Proofs.Ytgjlbcmejanfaaa
