/-
  magpielaw07.ParseNumbers: the walk.
-/
import Derived.Test.YtmodiemmcdocdaaGreatDoorPrE
import Derived.Test.YtmodiemmcdocdaaGreatDoorPxB
import Derived.Lib.SmallJoins
import Derived.Lib.ItoaMem
namespace Go.Proofs.YtmodiemmcdocdaaGreatDoor
open Go.RowKit Go
open PX (tk isT)

theorem itoa_call (n : Int) (h0 : -9223372036854775808 ≤ n) (h1 : n ≤ 9223372036854775807) (W : World) (hT : Tabs W) :
    Calls Tryz.prog 17 #[.int .i64 n] W fun e w' => e = .returned (.string ⟨(Lib.itoa n).toArray⟩) ∧ Lay W w' := by
  refine (Tryz.strconv_Itoa n h0 h1 W hT.pow).mono ?_
  rintro e w' ⟨he, k, os, rfl⟩
  exact ⟨he, Lay.of_grown _ _⟩

set_option maxHeartbeats 8000000 in
set_option maxRecDepth 100000 in
theorem numbers_walk (f t n : Int) (hf0 : -9223372036854775808 ≤ f) (hf1 : f ≤ 9223372036854775807) (ht0 : -9223372036854775808 ≤ t) (ht1 : t ≤ 9223372036854775807) (hn0 : -9223372036854775808 ≤ n) (hn1 : n ≤ 9223372036854775807) (w : World) (hT : Tabs w) :
    Calls Tryz.prog 6 #[.int .i64 f, .int .i64 t, .int .i64 n] w fun e w' => e = .returned (.bool true) ∧ Below w.heap.size w w' := by
  have HT := Lib.hid hT
  have HA := Lib.hid (alive_own w hT)
  have HIf := Lib.hid (fun W h => itoa_call f hf0 hf1 W h)
  have HIt := Lib.hid (fun W h => itoa_call t ht0 ht1 W h)
  have HIn := Lib.hid (fun W h => itoa_call n hn0 hn1 W h)
  obtain ⟨F, hF⟩ : ∃ X : ByteArray, X = ⟨(Lib.itoa f).toArray⟩ := ⟨_, rfl⟩
  obtain ⟨T, hTT⟩ : ∃ X : ByteArray, X = ⟨(Lib.itoa t).toArray⟩ := ⟨_, rfl⟩
  obtain ⟨N, hN⟩ : ∃ X : ByteArray, X = ⟨(Lib.itoa n).toArray⟩ := ⟨_, rfl⟩
  have hFl : F.data.toList = Lib.itoa f := by rw [hF]
  have hTl : T.data.toList = Lib.itoa t := by rw [hTT]
  have hNl : N.data.toList = Lib.itoa n := by rw [hN]
  have hFs : F.size ≤ 20 := by rw [Lib.size_eq, hFl]; exact (LX.itoa_parts f hf0 hf1).2.1
  have hTs : T.size ≤ 20 := by rw [Lib.size_eq, hTl]; exact (LX.itoa_parts t ht0 ht1).2.1
  have hNs : N.size ≤ 20 := by rw [Lib.size_eq, hNl]; exact (LX.itoa_parts n hn0 hn1).2.1
  rw [← hF] at HIf
  rw [← hTT] at HIt
  rw [← hN] at HIn
  clear hF hTT hN hT
  go_enter Tryz.func6, Tryz.ntmps6
  go_wp2_with fail
  refine HA.out.mono ?_
  rintro e w1 ⟨rfl, hb1⟩
  have HB1 := Lib.hid hb1
  clear hb1
  go_wp2_with fail
  refine (HIf.out w1 (HT.out.next HB1.out)).mono ?_
  rintro e w2 ⟨rfl, hl2⟩
  have HB2 := Lib.hid (HB1.out.trans (hl2.below.mono HB1.out.size))
  clear hl2
  go_wp2_with fail
  refine (HIt.out w2 (HT.out.next HB2.out)).mono ?_
  rintro e w3 ⟨rfl, hl3⟩
  have HB3 := Lib.hid (HB2.out.trans (hl3.below.mono HB2.out.size))
  clear hl3
  go_wp2_with fail
  refine (HIn.out w3 (HT.out.next HB3.out)).mono ?_
  rintro e w4 ⟨rfl, hl4⟩
  have HB4 := Lib.hid (HB3.out.trans (hl4.below.mono HB3.out.size))
  clear hl4
  go_wp2_with fail
  obtain ⟨A, hA⟩ : ∃ A : ByteArray, A = ⟨#[102, 114, 111, 109, 32]⟩ ++ F ++ ⟨#[32]⟩ := ⟨_, rfl⟩
  obtain ⟨B, hB⟩ : ∃ B : ByteArray, B = A ++ ⟨#[116, 111, 32]⟩ ++ T ++ ⟨#[32]⟩ := ⟨_, rfl⟩
  obtain ⟨S, hS⟩ : ∃ S : ByteArray, S = B ++ ⟨#[108, 105, 109, 105, 116, 32]⟩ ++ N := ⟨_, rfl⟩
  rw [← hA, ← hB, ← hS]
  have hAs : A.size = F.size + 6 := by rw [hA]; simp [ByteArray.size_append]; rw [show (ByteArray.mk #[102, 114, 111, 109, 32]).size = 5 from rfl, show (ByteArray.mk #[32]).size = 1 from rfl]; omega
  have hBs : B.size = F.size + T.size + 10 := by rw [hB]; simp [ByteArray.size_append]; rw [hAs, show (ByteArray.mk #[116, 111, 32]).size = 3 from rfl, show (ByteArray.mk #[32]).size = 1 from rfl]; omega
  have hSl : S.data.toList = PX.spell (PX.nums f t n) := by
    rw [hS, hB, hA]
    simp [PX.nums, PX.spell, PX.lts, PX.kW, PX.kI, hFl, hTl, hNl]
    rfl
  have hSs : S.size ≤ 1048576 := by rw [hS]; simp [ByteArray.size_append]; rw [hBs, show (ByteArray.mk #[108, 105, 109, 105, 116, 32]).size = 6 from rfl]; omega
  have hpn : PX.parse (PX.spell (PX.nums f t n)) = PX.numsIs f t n := PX.parse_nums (PX.num_it f hf0 hf1) (PX.num_it t ht0 ht1) (PX.num_it n hn0 hn1) (by rw [← hSl, ← Lib.size_eq, hS]; simp [ByteArray.size_append]; rw [hBs, show (ByteArray.mk #[108, 105, 109, 105, 116, 32]).size = 6 from rfl]; omega)
  have HS := Lib.hid hSl
  have HSS := Lib.hid hSs
  have HPN := Lib.hid hpn
  have hFL : F.size = (Lib.itoa f).length := by rw [Lib.size_eq, hFl]
  have hTL : T.size = (Lib.itoa t).length := by rw [Lib.size_eq, hTl]
  have HAS := Lib.hid hAs
  have HBS := Lib.hid hBs
  have HFL := Lib.hid hFL
  have HTL := Lib.hid hTL
  have hAb : A.size ≤ 26 := by omega
  have hBb : B.size ≤ 50 := by omega
  clear hA hB hS hSl hSs hpn hFl hTl hNl hAs hBs hFL hTL HIf HIt HIn HA
  by_cases h1 : 1099511627776 < f
  · have d1 : decide (1099511627776 < f) = true := by simpa using h1
    obtain ⟨k, hk⟩ : ∃ k : Nat, k = 6 := ⟨_, rfl⟩
    have HP := Lib.hid (parse_no HS.out HSS.out (p := (6, k)) (by rw [HPN.out, hk]; unfold PX.numsIs; rw [if_pos (.inr h1)]) w4 (HT.out.next HB4.out))
    have hkk : ((k : Int) == 6) = true := by simp [hk]
    clear hk
    refine HP.out.mono ?_
    rintro e w5 ⟨rfl, hb5⟩
    have HB5 := Lib.hid (fun u v => (HB4.out.trans (hb5.mono HB4.out.size)).trans ((Lay.below (((Keep.refl (fun _ => False) w5).alloc (.cells #[.int .i64 0, .int .i64 0, .slice none 0 0, .int .i64 0, .string ⟨#[]⟩, .string ⟨#[]⟩, .slice none 0 0, .bool false, .int .i64 0, .string ⟨#[]⟩] 28)).alloc (.cells #[u, v] 31))).mono (Nat.le_trans HB4.out.size hb5.size)))
    clear hb5 HP
    simp only [zeroQ]
    go_wp2_with fail
    go_ret
    exact ⟨rfl, HB5.out _ _⟩
  have d1 : decide (1099511627776 < f) = false := by simpa using h1
  by_cases h2 : f < -1099511627776
  · have d2 : decide (f < -1099511627776) = true := by simpa using h2
    obtain ⟨k, hk⟩ : ∃ k : Nat, k = 6 := ⟨_, rfl⟩
    have HP := Lib.hid (parse_no HS.out HSS.out (p := (6, k)) (by rw [HPN.out, hk]; unfold PX.numsIs; rw [if_pos (.inl h2)]) w4 (HT.out.next HB4.out))
    have hkk : ((k : Int) == 6) = true := by simp [hk]
    clear hk
    refine HP.out.mono ?_
    rintro e w5 ⟨rfl, hb5⟩
    have HB5 := Lib.hid (fun u v => (HB4.out.trans (hb5.mono HB4.out.size)).trans ((Lay.below (((Keep.refl (fun _ => False) w5).alloc (.cells #[.int .i64 0, .int .i64 0, .slice none 0 0, .int .i64 0, .string ⟨#[]⟩, .string ⟨#[]⟩, .slice none 0 0, .bool false, .int .i64 0, .string ⟨#[]⟩] 28)).alloc (.cells #[u, v] 31))).mono (Nat.le_trans HB4.out.size hb5.size)))
    clear hb5 HP
    simp only [zeroQ]
    go_wp2_with fail
    go_ret
    exact ⟨rfl, HB5.out _ _⟩
  have d2 : decide (f < -1099511627776) = false := by simpa using h2
  have hff : ¬ (f < -1099511627776 ∨ 1099511627776 < f) := fun h => h.elim h2 h1
  by_cases h3 : 1099511627776 < t
  · have d3 : decide (1099511627776 < t) = true := by simpa using h3
    obtain ⟨k, hk⟩ : ∃ k : Nat, k = (Lib.itoa f).length + 10 := ⟨_, rfl⟩
    have HP := Lib.hid (parse_no HS.out HSS.out (p := (6, k)) (by rw [HPN.out, hk]; unfold PX.numsIs; rw [if_neg hff, if_pos (.inr h3)]) w4 (HT.out.next HB4.out))
    have hkk : ((k : Int) == (A.size : Int) + 4) = true := by have := HAS.out; have := HFL.out; simp; omega
    clear hk
    refine HP.out.mono ?_
    rintro e w5 ⟨rfl, hb5⟩
    have HB5 := Lib.hid (fun u v => (HB4.out.trans (hb5.mono HB4.out.size)).trans ((Lay.below (((Keep.refl (fun _ => False) w5).alloc (.cells #[.int .i64 0, .int .i64 0, .slice none 0 0, .int .i64 0, .string ⟨#[]⟩, .string ⟨#[]⟩, .slice none 0 0, .bool false, .int .i64 0, .string ⟨#[]⟩] 28)).alloc (.cells #[u, v] 31))).mono (Nat.le_trans HB4.out.size hb5.size)))
    clear hb5 HP
    simp only [zeroQ]
    go_wp2_with fail
    go_ret
    exact ⟨rfl, HB5.out _ _⟩
  have d3 : decide (1099511627776 < t) = false := by simpa using h3
  by_cases h4 : t < -1099511627776
  · have d4 : decide (t < -1099511627776) = true := by simpa using h4
    obtain ⟨k, hk⟩ : ∃ k : Nat, k = (Lib.itoa f).length + 10 := ⟨_, rfl⟩
    have HP := Lib.hid (parse_no HS.out HSS.out (p := (6, k)) (by rw [HPN.out, hk]; unfold PX.numsIs; rw [if_neg hff, if_pos (.inl h4)]) w4 (HT.out.next HB4.out))
    have hkk : ((k : Int) == (A.size : Int) + 4) = true := by have := HAS.out; have := HFL.out; simp; omega
    clear hk
    refine HP.out.mono ?_
    rintro e w5 ⟨rfl, hb5⟩
    have HB5 := Lib.hid (fun u v => (HB4.out.trans (hb5.mono HB4.out.size)).trans ((Lay.below (((Keep.refl (fun _ => False) w5).alloc (.cells #[.int .i64 0, .int .i64 0, .slice none 0 0, .int .i64 0, .string ⟨#[]⟩, .string ⟨#[]⟩, .slice none 0 0, .bool false, .int .i64 0, .string ⟨#[]⟩] 28)).alloc (.cells #[u, v] 31))).mono (Nat.le_trans HB4.out.size hb5.size)))
    clear hb5 HP
    simp only [zeroQ]
    go_wp2_with fail
    go_ret
    exact ⟨rfl, HB5.out _ _⟩
  have d4 : decide (t < -1099511627776) = false := by simpa using h4
  have htt : ¬ (t < -1099511627776 ∨ 1099511627776 < t) := fun h => h.elim h4 h3
  by_cases h5 : t < f
  · have d5 : decide (t < f) = true := by simpa using h5
    obtain ⟨k, hk⟩ : ∃ k : Nat, k = (Lib.itoa f).length + 7 := ⟨_, rfl⟩
    have HP := Lib.hid (parse_no HS.out HSS.out (p := (7, k)) (by rw [HPN.out, hk]; unfold PX.numsIs; rw [if_neg hff, if_neg htt, if_pos h5]) w4 (HT.out.next HB4.out))
    have hkk : ((k : Int) == (A.size : Int) + 1) = true := by have := HAS.out; have := HFL.out; simp; omega
    clear hk
    refine HP.out.mono ?_
    rintro e w5 ⟨rfl, hb5⟩
    have HB5 := Lib.hid (fun u v => (HB4.out.trans (hb5.mono HB4.out.size)).trans ((Lay.below (((Keep.refl (fun _ => False) w5).alloc (.cells #[.int .i64 0, .int .i64 0, .slice none 0 0, .int .i64 0, .string ⟨#[]⟩, .string ⟨#[]⟩, .slice none 0 0, .bool false, .int .i64 0, .string ⟨#[]⟩] 28)).alloc (.cells #[u, v] 31))).mono (Nat.le_trans HB4.out.size hb5.size)))
    clear hb5 HP
    simp only [zeroQ]
    go_wp2_with fail
    go_ret
    exact ⟨rfl, HB5.out _ _⟩
  have d5 : decide (t < f) = false := by simpa using h5
  by_cases h6 : n < 1
  · have d6 : decide (n < 1) = true := by simpa using h6
    obtain ⟨k, hk⟩ : ∃ k : Nat, k = (Lib.itoa f).length + (Lib.itoa t).length + 17 := ⟨_, rfl⟩
    have HP := Lib.hid (parse_no HS.out HSS.out (p := (6, k)) (by rw [HPN.out, hk]; unfold PX.numsIs; rw [if_neg hff, if_neg htt, if_neg h5, if_pos (.inl h6)]) w4 (HT.out.next HB4.out))
    have hkk : ((k : Int) == (B.size : Int) + 7) = true := by have := HBS.out; have := HFL.out; have := HTL.out; simp; omega
    clear hk
    refine HP.out.mono ?_
    rintro e w5 ⟨rfl, hb5⟩
    have HB5 := Lib.hid (fun u v => (HB4.out.trans (hb5.mono HB4.out.size)).trans ((Lay.below (((Keep.refl (fun _ => False) w5).alloc (.cells #[.int .i64 0, .int .i64 0, .slice none 0 0, .int .i64 0, .string ⟨#[]⟩, .string ⟨#[]⟩, .slice none 0 0, .bool false, .int .i64 0, .string ⟨#[]⟩] 28)).alloc (.cells #[u, v] 31))).mono (Nat.le_trans HB4.out.size hb5.size)))
    clear hb5 HP
    simp only [zeroQ]
    go_wp2_with fail
    go_ret
    exact ⟨rfl, HB5.out _ _⟩
  have d6 : decide (n < 1) = false := by simpa using h6
  by_cases h7 : 50 < n
  · have d7 : decide (50 < n) = true := by simpa using h7
    obtain ⟨k, hk⟩ : ∃ k : Nat, k = (Lib.itoa f).length + (Lib.itoa t).length + 17 := ⟨_, rfl⟩
    have HP := Lib.hid (parse_no HS.out HSS.out (p := (6, k)) (by rw [HPN.out, hk]; unfold PX.numsIs; rw [if_neg hff, if_neg htt, if_neg h5, if_pos (.inr h7)]) w4 (HT.out.next HB4.out))
    have hkk : ((k : Int) == (B.size : Int) + 7) = true := by have := HBS.out; have := HFL.out; have := HTL.out; simp; omega
    clear hk
    refine HP.out.mono ?_
    rintro e w5 ⟨rfl, hb5⟩
    have HB5 := Lib.hid (fun u v => (HB4.out.trans (hb5.mono HB4.out.size)).trans ((Lay.below (((Keep.refl (fun _ => False) w5).alloc (.cells #[.int .i64 0, .int .i64 0, .slice none 0 0, .int .i64 0, .string ⟨#[]⟩, .string ⟨#[]⟩, .slice none 0 0, .bool false, .int .i64 0, .string ⟨#[]⟩] 28)).alloc (.cells #[u, v] 31))).mono (Nat.le_trans HB4.out.size hb5.size)))
    clear hb5 HP
    simp only [zeroQ]
    go_wp2_with fail
    go_ret
    exact ⟨rfl, HB5.out _ _⟩
  have d7 : decide (50 < n) = false := by simpa using h7
  have HP := Lib.hid (parse_ok HS.out HSS.out (by rw [HPN.out]; unfold PX.numsIs; rw [if_neg hff, if_neg htt, if_neg h5, if_neg (fun h => h.elim h6 h7)]) w4 (HT.out.next HB4.out))
  clear hff htt h1 h2 h3 h4 h5 h6 h7
  refine HP.out.mono ?_
  rintro e w5 ⟨am, cm, ak, ck, rfl, _, _, hb5⟩
  have HB5 := Lib.hid ((HB4.out.trans (hb5.mono HB4.out.size)).trans ((Lay.below (((Keep.refl (fun _ => False) w5).alloc (.cells #[.int .i64 f, .int .i64 t, .slice am 0 cm, .int .i64 1, .string ⟨#[]⟩, .string ⟨#[]⟩, .slice ak 0 ck, .bool false, .int .i64 n, .string ⟨#[]⟩] 28)).alloc (.cells #[.int .i64 0, .int .i64 0] 31))).mono (Nat.le_trans HB4.out.size hb5.size)))
  have HC5 : Hid (CB ((w5.alloc (.cells #[.int .i64 f, .int .i64 t, .slice am 0 cm, .int .i64 1, .string ⟨#[]⟩, .string ⟨#[]⟩, .slice ak 0 ck, .bool false, .int .i64 n, .string ⟨#[]⟩] 28)).alloc (.cells #[.int .i64 0, .int .i64 0] 31)) w5.heap.size 28 #[.int .i64 f, .int .i64 t, .slice am 0 cm, .int .i64 1, .string ⟨#[]⟩, .string ⟨#[]⟩, .slice ak 0 ck, .bool false, .int .i64 n, .string ⟨#[]⟩]) := Lib.hid ((CB.new w5 28 #[.int .i64 f, .int .i64 t, .slice am 0 cm, .int .i64 1, .string ⟨#[]⟩, .string ⟨#[]⟩, .slice ak 0 ck, .bool false, .int .i64 n, .string ⟨#[]⟩]).keep ((Keep.refl (fun _ => False) _).alloc _) (fun h => h))
  clear hb5 HP
  simp only [Qy.val, Ft.op, Ft.name, Ft.text, Ft.kids, List.length_nil]
  have c0 := HC5.out.cell 0
  have c1 := HC5.out.cell 1
  have c8 := HC5.out.cell 8
  go_wp2_with fail
  go_ret
  exact ⟨rfl, HB5.out⟩
end Go.Proofs.YtmodiemmcdocdaaGreatDoor
