/-
  PACKAGE lex: rowSize, number, row.
-/
import Derived.Test.YtpchlnikcdhklaaDoorOwnValid
import Derived.Test.YtpchlnikcdhklaaDoorNumFn
import Derived.Test.YtpchlnikcdhklaaDoorTab
import Derived.Lib.MapLaws
namespace Go.Proofs.YtpchlnikcdhklaaDoor
open Go.RowKit Go

theorem rune_byte (b : UInt8) (q : List UInt8) : (b.toNat < 128 ∧ MW.dec (b :: q) = (b.toNat, 1)) ∨ (128 ≤ b.toNat ∧ 128 ≤ (MW.dec (b :: q)).1) := by
  by_cases h : b.toNat < 128
  · exact .inl ⟨h, MW.dec_low b q h⟩
  · refine .inr ⟨by omega, ?_⟩
    unfold MW.dec
    simp only [List.getD_cons_zero]
    rcases Lib.decodeN_shape (b :: q).length b.toNat ((b :: q).getD 1 0).toNat ((b :: q).getD 2 0).toNat ((b :: q).getD 3 0).toNat with ⟨h0, _⟩ | ⟨_, _, _, h1, e⟩ | ⟨_, _, _, _, h1, _, e⟩ | ⟨_, _, _, _, _, h1, _, e⟩ | e
    · omega
    all_goals rw [e]; simp only; omega

/-- What a rune says of the byte that it begins with. -/
theorem rune_at {b : UInt8} {q : List UInt8} {c n : Nat} (h : MW.dec (b :: q) = (c, n)) : lett c = MW.ch b ∧ (c = 45 ↔ b = 45) ∧ (b.toNat < 128 → n = 1 ∧ c = b.toNat) := by
  have h45 : b = 45 ↔ b.toNat = 45 := ⟨fun e => by rw [e]; rfl, fun e => UInt8.toNat_inj.1 e⟩
  rcases rune_byte b q with ⟨h1, h2⟩ | ⟨h1, h2⟩
  · rw [h] at h2
    simp only [Prod.mk.injEq] at h2
    obtain ⟨rfl, rfl⟩ := h2
    refine ⟨?_, h45.symm, fun _ => ⟨rfl, rfl⟩⟩
    unfold lett
    rw [decide_eq_true h1, Bool.true_and, MW.letter_ch b h1]
  · rw [h] at h2
    simp only at h2
    refine ⟨?_, ?_, fun h => by omega⟩
    · unfold lett
      rw [decide_eq_false (by omega), Bool.false_and, Eq.comm, Bool.eq_false_iff]
      intro hc
      have := of_decide_eq_true (MW.ch_low b hc)
      omega
    · rw [h45]
      omega

/-- How many bytes the row has that letters begin with. -/
def rsz : List UInt8 → Nat
  | [] => 0
  | c :: r => if c = 45 then 1 + (LX.run r).length else (LX.run (c :: r)).length

theorem run_cons (b : UInt8) (q : List UInt8) : LX.run (b :: q) = if MW.ch b = true then b :: LX.run q else [] := by
  unfold LX.run
  rw [List.takeWhile_cons]

set_option maxHeartbeats 2000000 in
set_option maxRecDepth 100000 in
theorem rowSize_any (s : ByteArray) (hlen : s.size ≤ 1048576) (w : World) :
    Calls Tryd.prog 40 #[.string s] w fun e w' => e = .returned (.int .i64 (rsz s.data.toList : Nat)) ∧ Below w.heap.size w w' := by
  have hsz : s.data.toList.length = s.size := (Lib.size_eq s).symm
  have HZ := Lib.hid hsz
  clear hsz
  go_enter Tryd.func40, Tryd.ntmps40
  go_wp2_with fail
  go_loopw [] (fun wr => ∃ pos : Nat, wr.heap[w.heap.size]? = some (.stringIter s pos) ∧ Below w.heap.size w wr ∧ pos ≤ s.size ∧ (pos ≠ 0 → rsz s.data.toList = pos + (LX.run (s.data.toList.drop pos)).length)) (fun wr => s.size - wr.iterPos w.heap.size)
  case atStart => exact ⟨0, World.iter_heap w s 0, (Below.refl _ _).alloc (Nat.le_refl _) _, Nat.zero_le _, fun h => absurd rfl h⟩
  case round =>
    obtain ⟨pos, hit, hb, hp, hv⟩ := hrel
    by_cases hlt : pos < s.size
    · obtain ⟨c, n, hd⟩ : ∃ c n, MW.dec (s.data.toList.drop pos) = (c, n) := ⟨_, _, rfl⟩
      have hbd := byte_drop s pos hlt
      obtain ⟨b, hbb⟩ : ∃ b, b = s[pos] := ⟨_, rfl⟩
      rw [← hbb] at hbd
      have hd' := hd
      rw [hbd] at hd'
      obtain ⟨k1, k2, k3⟩ := rune_at hd'
      have hn := MW.dec_drop (l := s.data.toList) (pos := pos) (by rw [HZ.out]; exact hlt)
      rw [hd, HZ.out] at hn
      simp only at hn
      have hzero : pos = 0 → rsz s.data.toList = if b = 45 then 1 + (LX.run (s.data.toList.drop 1)).length else (LX.run (s.data.toList.drop 0)).length := fun e => by
        subst e
        have e1 : s.data.toList = b :: s.data.toList.drop 1 := by
          rw [List.drop_zero] at hbd
          exact hbd
        rw [List.drop_zero]
        conv => lhs; rw [e1]
        conv => rhs; rw [e1]
        rw [rsz]
        simp only [List.drop_succ_cons, List.drop_zero]
      have hrun := run_cons b (s.data.toList.drop (pos + 1))
      rw [← hbd] at hrun
      have HV := Lib.hid hv
      have HZR := Lib.hid hzero
      have HRUN := Lib.hid hrun
      have HK1 := Lib.hid k1
      have HK2 := Lib.hid k2
      have HK3 := Lib.hid (fun h => k3 (of_decide_eq_true (MW.ch_low b h)))
      have HK4 := Lib.hid (fun e : b = 45 => k3 (by rw [e]; decide))
      have hit1 := Lib.iterAt_heap wr _ s pos (pos + n) hit
      have HIT := Lib.hid hit1
      have hnx := fun ty => next_at wr _ s pos ty hit hlt c n hd
      have hb1 := Lib.below_iterAt hb (k := w.heap.size) (Nat.le_refl _) s (pos + n)
      have HB := Lib.hid hb1
      have HP0 := Lib.hid (iterPos_of hit)
      have HP1 := Lib.hid (iterPos_of hit1)
      have HL := Lib.hid (lett_any c)
      rw [k1] at HL
      obtain ⟨g, hg⟩ : ∃ g, MW.ch b = g := ⟨_, rfl⟩
      rw [hg] at HL HK1 HK3 HRUN
      clear hd hd' hit hit1 hb hb1 k1 k2 k3 hv hzero hrun hbd hbb hg
      by_cases hs : pos = 0 ∧ c = 45
      · obtain ⟨rfl, rfl⟩ := hs
        have hb45 := HK2.out.1 rfl
        have hn1 := (HK4.out hb45).1
        subst hn1
        go_wp2_with fail
        go_roundw
        case rel =>
          refine ⟨0 + 1, HIT.out, HB.out, by omega, fun _ => ?_⟩
          rw [HZR.out rfl, if_pos hb45]
        case measure => rw [HP0.out, HP1.out]; omega
      · have fin : Hid (rsz s.data.toList = pos + (LX.run (s.data.toList.drop pos)).length) := Lib.hid (by
          by_cases h0 : pos = 0
          · rw [HZR.out h0, if_neg (fun e => hs ⟨h0, HK2.out.2 e⟩), h0, Nat.zero_add]
          · exact HV.out h0)
        cases g with
        | true =>
          have hn1 := (HK3.out rfl).1
          subst hn1
          by_cases h0 : pos = 0
          · subst h0
            have hc : ((c : Int) == 45) = false := by simp; omega
            go_wp2_with fail
            refine (HL.out _).mono ?_
            rintro e w' ⟨rfl, rfl⟩
            go_wp2_with fail
            go_roundw
            case rel => exact ⟨0 + 1, HIT.out, HB.out, by omega, fun _ => by rw [fin.out, HRUN.out, if_pos trivial, List.length_cons]; omega⟩
            case measure => rw [HP0.out, HP1.out]; omega
          · have h0' : ((pos : Int) == 0) = false := by simp; omega
            go_wp2_with fail
            refine (HL.out _).mono ?_
            rintro e w' ⟨rfl, rfl⟩
            go_wp2_with fail
            go_roundw
            case rel => exact ⟨pos + 1, HIT.out, HB.out, by omega, fun _ => by rw [fin.out, HRUN.out, if_pos trivial, List.length_cons]; omega⟩
            case measure => rw [HP0.out, HP1.out]; omega
        | false =>
          have HF : Hid (rsz s.data.toList = pos) := Lib.hid (by rw [fin.out, HRUN.out]; rfl)
          by_cases h0 : pos = 0
          · subst h0
            have hc : ((c : Int) == 45) = false := by simp; omega
            go_wp2_with fail
            refine (HL.out _).mono ?_
            rintro e w' ⟨rfl, rfl⟩
            go_wp2_with fail
            go_ret
            exact ⟨by rw [HF.out]; rfl, by have := HB.out; rw [Nat.zero_add] at this; exact this⟩
          · have h0' : ((pos : Int) == 0) = false := by simp; omega
            go_wp2_with fail
            refine (HL.out _).mono ?_
            rintro e w' ⟨rfl, rfl⟩
            go_wp2_with fail
            go_ret
            exact ⟨by rw [HF.out]; rfl, HB.out⟩
    · obtain rfl : pos = s.size := by omega
      have hnx := fun ty => Lib.run_next_end_at (P := Tryd.prog) wr _ s s.size ty hit hlt
      have HV : Hid (rsz s.data.toList = s.size) := Lib.hid (by
        by_cases h0 : s.size = 0
        · rw [h0]
          have : s.data.toList = [] := List.eq_nil_of_length_eq_zero (by rw [HZ.out]; exact h0)
          rw [this]
          rfl
        · rw [hv h0, List.drop_of_length_le (by rw [HZ.out]; exact Nat.le_refl _)]
          rfl)
      have HB := Lib.hid hb
      clear hv hb hit
      go_wp2_with fail
      go_ret
      exact ⟨by rw [HV.out]; rfl, HB.out⟩

/-- strconv.Atoi, in one. -/
theorem atoi_any (s : ByteArray) (hs : s.size ≤ 1048576) (w : World) (hT : Tabs w) :
    Calls Tryd.prog 62 #[.string s] w fun e w' => Below w.heap.size w w' ∧ ((∃ v, Lib.atoiAll s.data.toList = .ok v ∧ e = .returned (.tuple #[.int .i64 v, .nilIface])) ∨ ((∀ v, Lib.atoiAll s.data.toList ≠ .ok v) ∧ ∃ x t p, e = .returned (.tuple #[.int .i64 x, .iface t p]))) := by
  rcases h : Lib.atoiAll s.data.toList with v | _ | _
  · refine (Tryd.strconv_Atoi_ok s (by omega) v h w).mono ?_
    rintro e w' ⟨rfl, hw⟩
    refine ⟨?_, .inl ⟨v, rfl, rfl⟩⟩
    rcases hw with rfl | ⟨t, rfl⟩
    · exact Below.refl _ _
    · exact Lib.bytesWorld_below _ _ _
  · obtain ⟨tp, p, hc⟩ := hT.synCell
    refine (Any.strconv_Atoi_syntax Tryd.laysC172 s (by omega) h _ w hc (.inr ⟨tp, p, rfl⟩)).mono ?_
    rintro e w' ⟨N, rfl, _, _, hb⟩
    exact ⟨hb, .inr ⟨(fun v h => by cases h), _, _, _, rfl⟩⟩
  · obtain ⟨tp, p, hc⟩ := hT.rngCell
    refine (Tryd.strconv_Atoi_range s (by omega) h _ w hc (.inr ⟨tp, p, rfl⟩)).mono ?_
    rintro e w' ⟨N, rfl, _, _, hb⟩
    exact ⟨hb, .inr ⟨(fun v h => by cases h), _, _, _, rfl⟩⟩

theorem own_itoa_call {w : World} (hT : Lib.TabIs Tryd.prog w "internal/strconv.uint64pow10" .u64 Lib.pow10Tab) (n : Int) (h0 : -9223372036854775808 ≤ n) (h1 : n ≤ 9223372036854775807) (W : World) (hb : Below w.heap.size w W) :
    Calls Tryd.prog 17 #[.int .i64 n] W fun e w' => e = .returned (.string ⟨(Lib.itoa n).toArray⟩) ∧ Lay W w' := by
  refine (Tryd.strconv_Itoa n h0 h1 W (Joins.tab_stays gPow hT hb (Nat.le_refl _))).mono ?_
  rintro e w' ⟨he, k, os, rfl⟩
  exact ⟨he, Lay.of_grown _ _⟩

/-- What number answers. -/
def numV : Option Int → Value
  | some v => .tuple #[.int .i64 v, .bool true]
  | none => .tuple #[.int .i64 0, .bool false]

set_option maxHeartbeats 2000000 in
set_option maxRecDepth 100000 in
theorem number_any (s : ByteArray) (hs : s.size ≤ 1048576) (w : World) (hT : Tabs w) :
    Calls Tryd.prog 51 #[.string s] w fun e w' => e = .returned (numV (LX.num s.data.toList)) ∧ Below w.heap.size w w' := by
  have HT := Lib.hid hT
  have HA := Lib.hid (atoi_any s hs w hT)
  clear hT
  go_enter Tryd.func51, Tryd.ntmps51
  go_wp2_with fail
  refine HA.out.mono ?_
  rintro e w1 ⟨hb1, ⟨v, hv, rfl⟩ | ⟨hn, x, t, p, rfl⟩⟩
  · have hbd := Lib.atoiAll_bounds hv
    have HI := Lib.hid (own_itoa_call HT.out.pow v hbd.1 hbd.2 w1 hb1)
    have HB1 := Lib.hid hb1
    have HV := Lib.hid hv
    have HBD := Lib.hid hbd
    obtain ⟨X, hX⟩ : ∃ X : ByteArray, X = ⟨(Lib.itoa v).toArray⟩ := ⟨_, rfl⟩
    rw [← hX] at HI
    have HX : Hid (X.toList = Lib.itoa v) := Lib.hid (by rw [hX, Lib.toList_data])
    clear hb1 hv hbd hX HA
    by_cases he : X.toList = s.toList
    · have hbe : (X.toList == s.toList) = true := by simpa using he
      have HR : Hid (LX.num s.data.toList = some v) := Lib.hid (LX.num_of_atoi HV.out (by rw [← HX.out, he, Lib.toList_data]) HBD.out)
      clear he
      go_wp2_with fail
      refine HI.out.mono ?_
      rintro e w2 ⟨rfl, hl2⟩
      have HB2 := Lib.hid (HB1.out.trans ((Lay.below hl2).mono HB1.out.size))
      clear hl2
      go_wp2_with fail
      go_ret2
      exact ⟨by rw [HR.out]; rfl, HB2.out⟩
    · have hbe : (X.toList == s.toList) = false := by simpa using he
      have HR : Hid (LX.num s.data.toList = none) := Lib.hid (LX.num_none fun u hu e => he (by
        have : v = u := by
          have := HV.out.symm.trans hu
          cases this
          rfl
        subst this
        rw [HX.out, e, Lib.toList_data]))
      clear he
      go_wp2_with fail
      refine HI.out.mono ?_
      rintro e w2 ⟨rfl, hl2⟩
      have HB2 := Lib.hid (HB1.out.trans ((Lay.below hl2).mono HB1.out.size))
      clear hl2
      go_wp2_with fail
      go_ret2
      exact ⟨by rw [HR.out]; rfl, HB2.out⟩
  · have HR : Hid (LX.num s.data.toList = none) := Lib.hid (LX.num_none fun u hu _ => hn u hu)
    have HB1 := Lib.hid hb1
    clear hb1 hn HA
    go_wp2_with fail
    go_ret2
    exact ⟨by rw [HR.out]; rfl, HB1.out⟩

end Go.Proofs.YtpchlnikcdhklaaDoor
