/-
  THE DOCUMENT'S OWN Name.
-/
import Derived.Test.YtjghomppmphkoaaGreatDoorStrs
namespace Go.Proofs.YtjghomppmphkoaaGreatDoor
open Go.RowKit Go

theorem ch_yes {c : UInt8} {n : Nat} (h : c.toNat = n) (hn : n = 95 ∨ (48 ≤ n ∧ n ≤ 57) ∨ (97 ≤ n ∧ n ≤ 122) ∨ (65 ≤ n ∧ n ≤ 90)) : MW.ch c = true := by
  unfold MW.ch
  have h95 : (c == 95) = decide (n = 95) := by
    rw [Bool.eq_iff_iff]
    simp only [beq_iff_eq, decide_eq_true_eq]
    exact ⟨fun e => by rw [← h, e]; rfl, fun e => UInt8.toNat_inj.1 (by rw [h, e]; rfl)⟩
  rw [h95, h]
  simp
  omega
theorem ch_no {c : UInt8} {n : Nat} (h : c.toNat = n) (hn : n < 48 ∨ (57 < n ∧ n < 65) ∨ (90 < n ∧ n < 95) ∨ n = 96 ∨ 122 < n) : MW.ch c = false := by
  unfold MW.ch
  have h95 : (c == 95) = decide (n = 95) := by
    rw [Bool.eq_iff_iff]
    simp only [beq_iff_eq, decide_eq_true_eq]
    exact ⟨fun e => by rw [← h, e]; rfl, fun e => UInt8.toNat_inj.1 (by rw [h, e]; rfl)⟩
  rw [h95, h, Bool.eq_false_iff]
  simp
  omega

theorem name_ch (l : List UInt8) (h0 : l ≠ []) (h : l.length ≤ 20) (hd : MW.dig (l.headD 0) = false) : MW.name l = l.all MW.ch := by
  unfold MW.name
  rw [hd]
  cases l with
  | nil => exact absurd rfl h0
  | cons a r =>
    have : (a :: r).isEmpty = false := rfl
    rw [this, decide_eq_true h]
    rfl

set_option maxHeartbeats 4000000 in
set_option maxRecDepth 100000 in
/-- The document's Name. -/
theorem refName_any (s : ByteArray) (w : World) : Calls Tryz.prog 36 #[.string s] w fun e w' => e = .returned (.bool (MW.name s.data.toList)) ∧ w' = w := by
  have hsz : s.data.toList.length = s.size := (Lib.size_eq s).symm
  by_cases h0 : s.size = 0
  · obtain rfl : s = ⟨#[]⟩ := toList_inj _ _ (by rw [Lib.toList_data, Lib.toList_data]; exact List.eq_nil_of_length_eq_zero (by omega))
    go_enter Tryz.func36, Tryz.ntmps36
    go_wp2_with fail
    go_ret
    exact ⟨rfl, rfl⟩
  have hne : s ≠ ⟨#[]⟩ := fun e => h0 (by rw [e]; rfl)
  have hne' : s.toList.isEmpty = false := by
    rw [Bool.eq_false_iff]
    intro e
    refine hne (toList_inj _ _ ?_)
    rw [List.isEmpty_iff.1 e, Lib.toList_data]
  by_cases h20 : s.size ≤ 20
  · have hp : 0 < s.size := by omega
    obtain ⟨n, hn⟩ : ∃ n, s[0].toNat = n := ⟨_, rfl⟩
    have hix0 : ∀ w, (Instr.index 9 (.string s) (.int .i64 0)).run Tryz.prog w = .ok (.int .u8 (n : Int)) w := fun w => idx_run s 0 n hp hn w
    have hd : s.data.toList.headD 0 = s[0] := by
      have := byte_drop s 0 hp
      rw [List.drop_zero] at this
      rw [this]
      rfl
    have hdd : MW.dig (s.data.toList.headD 0) = (decide (48 ≤ n) && decide (n ≤ 57)) := by rw [hd]; unfold MW.dig; rw [hn]
    have HDD := Lib.hid hdd
    have HSZ := Lib.hid hsz
    clear hd hn hdd hsz h0 hne
    have d20 : decide (20 < (s.size : Int)) = false := by simp; omega
    by_cases hdg : 48 ≤ n ∧ n ≤ 57
    · obtain ⟨h1, h2⟩ := hdg
      have d48 : decide (48 ≤ (n : Int)) = true := by simp; omega
      have d57 : decide ((n : Int) ≤ 57) = true := by simp; omega
      have hr : MW.name s.data.toList = false := by
        unfold MW.name
        rw [HDD.out]
        simp [h1, h2]
      have HR := Lib.hid hr
      clear hr
      go_enter Tryz.func36, Tryz.ntmps36
      go_wp2_with fail
      go_ret
      exact ⟨by rw [HR.out]; rfl, rfl⟩
    · have hr := name_ch s.data.toList (by intro e; have := HSZ.out; rw [e] at this; simp at this; omega) (by rw [HSZ.out]; exact h20) (by rw [HDD.out]; simp; omega)
      have HR := Lib.hid hr
      have hdg' : decide (48 ≤ (n : Int)) = false ∨ (decide (48 ≤ (n : Int)) = true ∧ decide ((n : Int) ≤ 57) = false) := by simp; omega
      clear hr hdg
      rcases hdg' with hdg | ⟨hdg1, hdg⟩
      all_goals
        go_enter Tryz.func36, Tryz.ntmps36
        go_wp2_with fail
        go_loopw [3] (fun vi wr => ∃ k : Nat, vi = .int .i64 k ∧ k ≤ s.size ∧ wr = w ∧ s.data.toList.all MW.ch = (s.data.toList.drop k).all MW.ch) (fun vi _ => s.size - (intOf vi).toNat)
        case atStart => exact ⟨0, rfl, Nat.zero_le _, rfl, by simp⟩
        case round =>
          clear hix0 hne'
          try clear hdg1
          obtain ⟨k, rfl, hk, rfl, hz⟩ := hrel
          have HZ := Lib.hid hz
          clear hz
          by_cases hlt : k < s.size
          · have HD := Lib.hid (byte_drop s k hlt)
            obtain ⟨c, hc⟩ : ∃ c, c = s[k] := ⟨_, rfl⟩
            obtain ⟨m, hm⟩ : ∃ m, s[k].toNat = m := ⟨_, rfl⟩
            have hix := fun w => idx_run s k m hlt hm w
            rw [← hc] at HD hm
            have HC := Lib.hid hm
            clear hc hm hdg d20
            have hcase : (m < 48) ∨ (48 ≤ m ∧ m ≤ 57) ∨ (57 < m ∧ m < 65) ∨ (65 ≤ m ∧ m ≤ 90) ∨ (90 < m ∧ m < 95) ∨ (m = 95) ∨ (m = 96) ∨ (97 ≤ m ∧ m ≤ 122) ∨ (122 < m) := by omega
            rcases hcase with hm | hm | hm | hm | hm | hm | hm | hm | hm
            · have HY := Lib.hid (ch_no HC.out (by omega))
              have fa : ((m : Int) != 95) = true := by simp; omega
              have fb : decide (48 ≤ (m : Int)) = false := by simp; omega
              have fc : decide ((m : Int) ≤ 57) = true := by simp; omega
              have fd : decide (97 ≤ (m : Int)) = false := by simp; omega
              have fe : decide ((m : Int) ≤ 122) = true := by simp; omega
              have ff : decide (65 ≤ (m : Int)) = false := by simp; omega
              have fg : decide ((m : Int) ≤ 90) = true := by simp; omega
              clear hm
              go_wp2_with fail
              go_ret
              refine ⟨ret_bool ?_, rfl⟩
              rw [HR.out, HZ.out, HD.out, List.all_cons, HY.out]
              rfl
            · have HY := Lib.hid (ch_yes HC.out (by omega))
              have fa : ((m : Int) != 95) = true := by simp; omega
              have fb : decide (48 ≤ (m : Int)) = true := by simp; omega
              have fc : decide ((m : Int) ≤ 57) = true := by simp; omega
              have fd : decide (97 ≤ (m : Int)) = false := by simp; omega
              have fe : decide ((m : Int) ≤ 122) = true := by simp; omega
              have ff : decide (65 ≤ (m : Int)) = false := by simp; omega
              have fg : decide ((m : Int) ≤ 90) = true := by simp; omega
              clear hm
              go_wp2_with fail
              go_roundw
              case rel => exact ⟨k + 1, by go_num, by omega, by trivial, by rw [HZ.out, HD.out, List.all_cons, HY.out, Bool.true_and]⟩
              case measure => simp [intOf]; omega
            · have HY := Lib.hid (ch_no HC.out (by omega))
              have fa : ((m : Int) != 95) = true := by simp; omega
              have fb : decide (48 ≤ (m : Int)) = true := by simp; omega
              have fc : decide ((m : Int) ≤ 57) = false := by simp; omega
              have fd : decide (97 ≤ (m : Int)) = false := by simp; omega
              have fe : decide ((m : Int) ≤ 122) = true := by simp; omega
              have ff : decide (65 ≤ (m : Int)) = false := by simp; omega
              have fg : decide ((m : Int) ≤ 90) = true := by simp; omega
              clear hm
              go_wp2_with fail
              go_ret
              refine ⟨ret_bool ?_, rfl⟩
              rw [HR.out, HZ.out, HD.out, List.all_cons, HY.out]
              rfl
            · have HY := Lib.hid (ch_yes HC.out (by omega))
              have fa : ((m : Int) != 95) = true := by simp; omega
              have fb : decide (48 ≤ (m : Int)) = true := by simp; omega
              have fc : decide ((m : Int) ≤ 57) = false := by simp; omega
              have fd : decide (97 ≤ (m : Int)) = false := by simp; omega
              have fe : decide ((m : Int) ≤ 122) = true := by simp; omega
              have ff : decide (65 ≤ (m : Int)) = true := by simp; omega
              have fg : decide ((m : Int) ≤ 90) = true := by simp; omega
              clear hm
              go_wp2_with fail
              go_roundw
              case rel => exact ⟨k + 1, by go_num, by omega, by trivial, by rw [HZ.out, HD.out, List.all_cons, HY.out, Bool.true_and]⟩
              case measure => simp [intOf]; omega
            · have HY := Lib.hid (ch_no HC.out (by omega))
              have fa : ((m : Int) != 95) = true := by simp; omega
              have fb : decide (48 ≤ (m : Int)) = true := by simp; omega
              have fc : decide ((m : Int) ≤ 57) = false := by simp; omega
              have fd : decide (97 ≤ (m : Int)) = false := by simp; omega
              have fe : decide ((m : Int) ≤ 122) = true := by simp; omega
              have ff : decide (65 ≤ (m : Int)) = true := by simp; omega
              have fg : decide ((m : Int) ≤ 90) = false := by simp; omega
              clear hm
              go_wp2_with fail
              go_ret
              refine ⟨ret_bool ?_, rfl⟩
              rw [HR.out, HZ.out, HD.out, List.all_cons, HY.out]
              rfl
            · have HY := Lib.hid (ch_yes HC.out (by omega))
              have fa : ((m : Int) != 95) = false := by simp; omega
              have fb : decide (48 ≤ (m : Int)) = true := by simp; omega
              have fc : decide ((m : Int) ≤ 57) = false := by simp; omega
              have fd : decide (97 ≤ (m : Int)) = false := by simp; omega
              have fe : decide ((m : Int) ≤ 122) = true := by simp; omega
              have ff : decide (65 ≤ (m : Int)) = true := by simp; omega
              have fg : decide ((m : Int) ≤ 90) = false := by simp; omega
              clear hm
              go_wp2_with fail
              go_roundw
              case rel => exact ⟨k + 1, by go_num, by omega, by trivial, by rw [HZ.out, HD.out, List.all_cons, HY.out, Bool.true_and]⟩
              case measure => simp [intOf]; omega
            · have HY := Lib.hid (ch_no HC.out (by omega))
              have fa : ((m : Int) != 95) = true := by simp; omega
              have fb : decide (48 ≤ (m : Int)) = true := by simp; omega
              have fc : decide ((m : Int) ≤ 57) = false := by simp; omega
              have fd : decide (97 ≤ (m : Int)) = false := by simp; omega
              have fe : decide ((m : Int) ≤ 122) = true := by simp; omega
              have ff : decide (65 ≤ (m : Int)) = true := by simp; omega
              have fg : decide ((m : Int) ≤ 90) = false := by simp; omega
              clear hm
              go_wp2_with fail
              go_ret
              refine ⟨ret_bool ?_, rfl⟩
              rw [HR.out, HZ.out, HD.out, List.all_cons, HY.out]
              rfl
            · have HY := Lib.hid (ch_yes HC.out (by omega))
              have fa : ((m : Int) != 95) = true := by simp; omega
              have fb : decide (48 ≤ (m : Int)) = true := by simp; omega
              have fc : decide ((m : Int) ≤ 57) = false := by simp; omega
              have fd : decide (97 ≤ (m : Int)) = true := by simp; omega
              have fe : decide ((m : Int) ≤ 122) = true := by simp; omega
              have ff : decide (65 ≤ (m : Int)) = true := by simp; omega
              have fg : decide ((m : Int) ≤ 90) = false := by simp; omega
              clear hm
              go_wp2_with fail
              go_roundw
              case rel => exact ⟨k + 1, by go_num, by omega, by trivial, by rw [HZ.out, HD.out, List.all_cons, HY.out, Bool.true_and]⟩
              case measure => simp [intOf]; omega
            · have HY := Lib.hid (ch_no HC.out (by omega))
              have fa : ((m : Int) != 95) = true := by simp; omega
              have fb : decide (48 ≤ (m : Int)) = true := by simp; omega
              have fc : decide ((m : Int) ≤ 57) = false := by simp; omega
              have fd : decide (97 ≤ (m : Int)) = true := by simp; omega
              have fe : decide ((m : Int) ≤ 122) = false := by simp; omega
              have ff : decide (65 ≤ (m : Int)) = true := by simp; omega
              have fg : decide ((m : Int) ≤ 90) = false := by simp; omega
              clear hm
              go_wp2_with fail
              go_ret
              refine ⟨ret_bool ?_, rfl⟩
              rw [HR.out, HZ.out, HD.out, List.all_cons, HY.out]
              rfl
          · obtain rfl : k = s.size := by omega
            go_wp2_with fail
            go_ret
            refine ⟨ret_bool ?_, rfl⟩
            rw [HR.out, HZ.out, List.drop_of_length_le (by rw [HSZ.out]; exact Nat.le_refl _)]
            rfl
  · have hr := MW.name_long s.data.toList (by omega)
    have HR := Lib.hid hr
    clear hr hsz hne h0
    have d20 : decide (20 < (s.size : Int)) = true := by simp; omega
    go_enter Tryz.func36, Tryz.ntmps36
    go_wp2_with fail
    go_ret
    exact ⟨by rw [HR.out]; rfl, rfl⟩

end Go.Proofs.YtjghomppmphkoaaGreatDoor
