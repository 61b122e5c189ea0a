/-
  A QUERY'S TEXT THAT BREAKS OFF: the law's walk.
-/
import Derived.Test.YtmodiemmcdocdaaGreatDoorKc7
import Derived.Test.YtmodiemmcdocdaaGreatDoorKn7
import Derived.Test.YtmodiemmcdocdaaGreatDoorPrE
import Derived.Test.YtmodiemmcdocdaaGreatDoorLxR
namespace Go.Proofs.YtmodiemmcdocdaaGreatDoor
open Go.RowKit Go
open PX (tk isT)

theorem take_extract (s : ByteArray) (p : Nat) : (s.extract 0 p).data.toList = s.data.toList.take p := by simp

theorem limit_eq (s : List UInt8) : decide ((⟨s.toArray⟩ : ByteArray) = ⟨#[108, 105, 109, 105, 116]⟩) = decide (s = PX.wLimit) := by
  by_cases h : s = PX.wLimit
  · subst h; rfl
  · rw [decide_eq_false h, decide_eq_false]
    intro e
    have := congrArg (fun b : ByteArray => b.data.toList) e
    exact h (by simpa [PX.wLimit] using this)

set_option maxHeartbeats 8000000 in
set_option maxRecDepth 100000 in
theorem cuts_walk (s : ByteArray) (n : Int) (hn0 : -9223372036854775808 ≤ n) (hn1 : n < 9223372036854775808) (w : World) (hT : Tabs w) : Calls Tryz.prog 5 #[.string s, .int .i64 n] w fun e w' => e = .returned (.bool true) ∧ Below w.heap.size w w' := by
  have HA := Lib.hid (alive_own w hT)
  have HT := Lib.hid hT
  clear hT
  go_enter Tryz.func5, Tryz.ntmps5
  go_wp2_with fail
  refine HA.out.mono ?_
  rintro e w1 ⟨rfl, hb1⟩
  have HB1 := Lib.hid hb1
  clear hb1 HA
  by_cases hs : 300 < s.size
  · have d0 : decide (300 < (s.size : Int)) = true := by simp; omega
    go_wp2_with fail
    go_ret
    exact ⟨rfl, HB1.out⟩
  have d0 : decide (300 < (s.size : Int)) = false := by simp; omega
  have HSS : Hid (s.size ≤ 300) := Lib.hid (by omega)
  clear hs
  rcases hp : PX.parse s.data.toList with p | q
  · have HP := Lib.hid (parse_no rfl (by have := HSS.out; omega) hp w1 (HT.out.next HB1.out))
    have hz := PX.parse_nz hp
    have z1 : ((p.1 : Int) == 0) = false := by simp; omega
    have z2 : ((p.1 : Int) != 0) = true := by simp; omega
    clear hp hz
    go_wp2_with fail
    refine HP.out.mono ?_
    rintro e w2 ⟨rfl, hb2⟩
    simp only [zeroQ]
    have HB2 := Lib.hid (fun u v => (HB1.out.trans (hb2.mono HB1.out.size)).trans ((Lay.below (((Keep.refl (fun _ => False) w2).alloc u).alloc v)).mono (HB1.out.trans (hb2.mono HB1.out.size)).size))
    clear hb2 HP
    go_wp2_with fail
    go_ret
    exact ⟨rfl, HB2.out _ _⟩
  have HP := Lib.hid (parse_ok rfl (by have := HSS.out; omega) hp w1 (HT.out.next HB1.out))
  obtain ⟨ts, hlx⟩ : ∃ ts, LX.lex s.data.toList = .ok ts := by
    unfold PX.parse at hp
    split at hp
    · cases hp
    · exact ⟨_, by assumption⟩
  have HCUT := Lib.hid (fun a => PX.parse_cut hp hlx (a := a))
  have HLX := Lib.hid (fun W (h : Tabs W) => ref_ok rfl (by have := HSS.out; omega) hlx W h.utf)
  have hne := lex_some hlx
  have hcnt := LX.lex_count hlx
  clear hp hlx
  go_wp2_with fail
  refine HP.out.mono ?_
  rintro e w2 ⟨am, cm, ak, ck, rfl, _, _, hb2⟩
  simp only [Qy.val]
  have HB2 := Lib.hid (fun u v => (HB1.out.trans (hb2.mono HB1.out.size)).trans ((Lay.below (((Keep.refl (fun _ => False) w2).alloc u).alloc v)).mono (HB1.out.trans (hb2.mono HB1.out.size)).size))
  clear hb2 HP
  go_wp2_with fail
  refine (HLX.out _ (HT.out.next (HB2.out _ _))).mono ?_
  rintro e w3 ⟨v, rfl, hrk, hb3⟩
  have htk := TkAt.of hrk hne
  have HB3 := Lib.hid ((HB2.out _ _).trans (hb3.mono (HB2.out _ _).size))
  obtain ⟨g, cap, rfl, hgl, _⟩ := id htk
  have HTK := Lib.hid htk
  clear hrk hb3 htk HLX HB2
  by_cases hn : n < 0 ∨ (ts.length : Int) ≤ n
  · have hn' : decide (n < 0) = true ∨ (decide (n < 0) = false ∧ decide ((ts.length : Int) ≤ n) = true) := by
      simp
      omega
    rcases hn' with h1 | ⟨h1, h2⟩
    all_goals
      clear hn
      go_wp2_with fail
      go_ret
      exact ⟨rfl, HB3.out⟩
  obtain ⟨a, rfl⟩ := Int.eq_ofNat_of_zero_le (by omega : 0 ≤ n)
  have hal : a < ts.length := by omega
  have h1 : decide ((a : Int) < 0) = false := by simp
  have h2 : decide ((ts.length : Int) ≤ (a : Int)) = false := by simp; omega
  have HAL := Lib.hid hal
  clear hn hn0 hn1
  go_wp2_with fail
  go_loopw [10] (fun vi wr => ∃ k : Nat, vi = .int .i64 k ∧ k ≤ a ∧ Hid (∀ i, i < k → (tk ts i).kind = 2 → (tk ts i).says = PX.wLimit → ¬ (i + 1 < a)) ∧ Hid (Below w.heap.size w wr) ∧ Hid (TkAt wr (.slice (some ⟨g, 0, none⟩) ts.length cap) ts)) (fun vi _ => a - (intOf vi).toNat)
  case atStart => exact ⟨0, rfl, Nat.zero_le _, Lib.hid (fun i hi => absurd hi (by omega)), HB3, HTK⟩
  case round =>
    obtain ⟨k, rfl, hk, HN, HB, HTR⟩ := hrel
    obtain ⟨g', cap', hv, hgw, hc⟩ := id HTR.out
    simp only [Value.slice.injEq, Option.some.injEq, Addr.mk.injEq, and_true, true_and] at hv
    obtain ⟨rfl, rfl⟩ := hv
    by_cases hlt : k < a
    · have hkt : k < ts.length := by omega
      obtain ⟨x0, x1, _, _⟩ := hc k hkt
      have HK : Hid (tk ts k = ts[k]) := Lib.hid (PX.tk_get hkt)
      generalize ts[k] = t at x0 x1 HK
      obtain ⟨kd, says, nn, pl⟩ := t
      simp only at x0 x1
      have hle := limit_eq says
      obtain ⟨z, hz⟩ : ∃ z : ByteArray, z = ⟨says.toArray⟩ := ⟨_, rfl⟩
      rw [← hz] at x1 hle
      have dl : decide ((k : Int) < (a : Int)) = true := by simpa using hlt
      have HZ : Hid (z.data.toList = says) := Lib.hid (by rw [hz])
      clear hc hle hz
      by_cases h2 : kd = 2
      · subst h2
        by_cases h3 : says = PX.wLimit
        · have e3 : (z.toList == [108, 105, 109, 105, 116]) = true := by rw [ByteArray.toList_eq, HZ.out, h3]; rfl
          by_cases h4 : k + 1 < a
          · have e4 : decide ((k : Int) + 1 < (a : Int)) = true := by simp; omega
            go_wp2_with fail
            go_ret
            exact ⟨rfl, HB.out⟩
          · have e4 : decide ((k : Int) + 1 < (a : Int)) = false := by simp; omega
            go_wp2_with fail
            go_roundw
            case rel =>
              refine ⟨k + 1, by go_num, by omega, Lib.hid (fun i hi => ?_), HB, HTR⟩
              rcases Nat.lt_succ_iff_lt_or_eq.1 hi with hi | rfl
              · exact HN.out i hi
              · rw [HK.out]
                exact fun _ _ => h4
            case measure => simp [intOf]; omega
        · have e3 : (z.toList == [108, 105, 109, 105, 116]) = false := by
            rw [ByteArray.toList_eq, HZ.out, beq_eq_false_iff_ne]
            exact h3
          go_wp2_with fail
          go_roundw
          case rel =>
            refine ⟨k + 1, by go_num, by omega, Lib.hid (fun i hi => ?_), HB, HTR⟩
            rcases Nat.lt_succ_iff_lt_or_eq.1 hi with hi | rfl
            · exact HN.out i hi
            · rw [HK.out]
              exact fun _ e => absurd e h3
          case measure => simp [intOf]; omega
      · have e2 : ((kd : Int) == 2) = false := by simp; omega
        go_wp2_with fail
        go_roundw
        case rel =>
          refine ⟨k + 1, by go_num, by omega, Lib.hid (fun i hi => ?_), HB, HTR⟩
          rcases Nat.lt_succ_iff_lt_or_eq.1 hi with hi | rfl
          · exact HN.out i hi
          · rw [HK.out]
            exact fun e => absurd e h2
        case measure => simp [intOf]; omega
    · obtain rfl : k = a := by omega
      obtain ⟨_, _, _, x3⟩ := hc k HAL.out
      obtain ⟨p, hp1, hp2, hp3⟩ := HCUT.out k HAL.out HN.out
      rw [PX.tk_get HAL.out] at hp1
      rw [hp1] at x3
      have hps : p ≤ s.size := by rw [Lib.size_eq]; exact hp2
      obtain ⟨t, ht⟩ : ∃ t, t = s.extract 0 p := ⟨_, rfl⟩
      have htl : t.data.toList = s.data.toList.take p := by rw [ht]; exact take_extract s p
      have hts : t.size = p := by rw [Lib.size_eq, htl, List.length_take, ← Lib.size_eq]; omega
      have HP := Lib.hid (parse_no htl (by have := HSS.out; omega) hp3 wr (HT.out.next HB.out))
      have HTS := Lib.hid hts
      have dl : decide ((k : Int) < (k : Int)) = false := by simp
      have hw64 : wrap64 (p : Int) = p := by
        have := HSS.out
        unfold wrap64
        omega
      clear hc hp1 hp3 htl hts hp2
      go_wp2_with fail
      rw [← ht]
      refine HP.out.mono ?_
      rintro e w5 ⟨rfl, hb5⟩
      have HB5 := Lib.hid (fun u v => (HB.out.trans (hb5.mono HB.out.size)).trans ((Lay.below (((Keep.refl (fun _ => False) w5).alloc u).alloc v)).mono (HB.out.trans (hb5.mono HB.out.size)).size))
      have hts := HTS.out
      clear hb5 HP ht hw64 HTS x3
      subst hts
      have hts : t.size ≤ 300 := by have := HSS.out; omega
      clear hps
      simp only [zeroQ]
      go_wp2_with fail
      go_ret
      exact ⟨rfl, HB5.out _ _⟩
end Go.Proofs.YtmodiemmcdocdaaGreatDoor
