/-
  magpielaw05.LexBlanks: the walk; what package lex's calls do stands ahead of it ('LexCalls').
-/
import Derived.Test.YtpchlnikcdhklaaDoorLexed
import Derived.Test.YtpchlnikcdhklaaDoorBlanksMath
namespace Go.Proofs.YtpchlnikcdhklaaDoor
open Go.RowKit Go

theorem three (b : Nat) (h0 : 1 ≤ b) (h : b ≤ 3) : ((⟨#[32, 32, 32]⟩ : ByteArray).extract 0 b).data.toList = List.replicate b 32 := by
  have hb : b = 1 ∨ b = 2 ∨ b = 3 := by omega
  rcases hb with rfl | rfl | rfl <;> rfl

set_option maxHeartbeats 8000000 in
set_option maxRecDepth 100000 in
theorem blanks_walk (H : LexCalls) (s : ByteArray) (n : Int) (w : World) (hT : Tabs w) : Calls Tryd.prog 5 #[.string s, .int .i64 n] w fun e w' => e = .returned (.bool true) ∧ Below w.heap.size w w' := by
  have HT := Lib.hid hT
  have HH := Lib.hid H
  have hmx : Tryd.prog.follows .mixedOrders = true := by kernel_rfl
  have HA := Lib.hid (alive_any H w hT)
  clear hT
  by_cases hg : 300 < s.size ∨ n < 1 ∨ 3 < n
  · have hg' : decide (300 < (s.size : Int)) = true ∨ (decide (300 < (s.size : Int)) = false ∧ decide (n < 1) = true) ∨ (decide (300 < (s.size : Int)) = false ∧ decide (n < 1) = false ∧ decide (3 < n) = true) := by
      simp
      omega
    rcases hg' with hd | ⟨hd, hd1⟩ | ⟨hd, hd1, hd2⟩
    all_goals
      go_enter Tryd.func5, Tryd.ntmps5
      go_wp2_with (go_at_call 8; refine HA.out.mono ?_; rintro e w1 ⟨rfl, hb1⟩)
      go_ret
      exact ⟨rfl, hb1⟩
  obtain ⟨b, rfl⟩ := Int.eq_ofNat_of_zero_le (by omega : 0 ≤ n)
  have hb1 : 1 ≤ b := by omega
  have hb3 : b ≤ 3 := by omega
  have hs300 : s.size ≤ 300 := by omega
  have hd : decide (300 < (s.size : Int)) = false := by simp; omega
  have hd1 : decide ((b : Int) < 1) = false := by simp; omega
  have hd2 : decide (3 < (b : Int)) = false := by simp; omega
  clear hg
  cases hL : LX.lex s.data.toList with
  | error p =>
    obtain ⟨p1, p2⟩ := p
    have hp : p1 = 6 ∨ p1 = 4 := by
      unfold LX.lex at hL
      split at hL
      · cases hL; exact .inl rfl
      split at hL
      · cases hL; exact .inr rfl
      split at hL
      · cases hL; exact .inr rfl
      · cases hL
    have hp1 : ((p1 : Int) == 0) = false := by simp; omega
    have hp2 : ((p1 : Int) != 0) = true := by simp; omega
    have HL := Lib.hid hL
    clear hL
    go_enter Tryd.func5, Tryd.ntmps5
    go_wp2_with (go_at_call 8; refine HA.out.mono ?_; rintro e w1 ⟨rfl, hbz⟩)
    refine (HH.out.err rfl (by omega) HL.out _ (Tabs.next HT.out hbz)).mono ?_
    rintro e w2 ⟨a, c, rfl, hb2⟩
    have HB2 := Lib.hid (hbz.trans (hb2.mono hbz.size))
    clear hbz hb2
    go_wp2_with fail
    go_ret
    exact ⟨rfl, HB2.out.alloc HB2.out.size _⟩
  | ok ts =>
    have HL := Lib.hid hL
    have HLET := Lib.hid (LX.lex_letters hL)
    have hcount := LX.lex_count hL
    have HGL := Lib.hid (LX.glue_len b hb3 ts fun t ht => (LX.lex_letters hL t ht).1)
    have HGB := Lib.hid (LX.lex_glue hL b hb1)
    have H3 := Lib.hid (three b hb1 hb3)
    clear hL
    go_enter Tryd.func5, Tryd.ntmps5
    go_wp2_with (go_at_call 8; refine HA.out.mono ?_; rintro e w1 ⟨rfl, hbz⟩)
    refine (HH.out.ok rfl (by omega) HL.out _ (Tabs.next HT.out hbz)).mono ?_
    rintro e w2 ⟨v, rfl, ht, hb2⟩
    have HB2 := Lib.hid (hbz.trans (hb2.mono hbz.size))
    have HT2 := Lib.hid ht
    obtain ⟨a2, c2, rfl, _⟩ := ht
    clear hbz hb2
    obtain ⟨W3, hW3⟩ : ∃ W3, W3 = w2.alloc (.cells #[.int .i64 0, .int .i64 0] 26) := ⟨_, rfl⟩
    have hb3' : Below w2.heap.size w2 W3 := by rw [hW3]; exact (Below.refl _ _).alloc (Nat.le_refl _) _
    have HB3 := Lib.hid (HB2.out.trans (hb3'.mono HB2.out.size))
    have HT3 := Lib.hid (HT2.out.next hb3')
    clear hb3' HT2
    go_wp2_with fail
    rw [← hW3]
    clear hW3
    go_loopw [7, 40] (fun vt vi wr => ∃ (k : Nat) (t : ByteArray), vi = .int .i64 k ∧ vt = .string t ∧ k ≤ ts.length ∧ t.data.toList = LX.glue b (ts.take k) ∧ Below w.heap.size w wr ∧ ToksAt wr (.slice a2 ts.length c2) ts) (fun _ vi _ => ts.length - (intOf vi).toNat)
    case atStart => exact ⟨0, ⟨#[]⟩, rfl, rfl, Nat.zero_le _, rfl, HB3.out, HT3.out⟩
    case round =>
      obtain ⟨k, t, rfl, rfl, hk, ht, hb, htk⟩ := hrel
      have htl : t.size ≤ 1027 * 1025 := by
        have h1 := LX.glue_len b hb3 (ts.take k) fun x hx => (HLET.out x (List.mem_of_mem_take hx)).1
        have h2 : (ts.take k).length ≤ 1025 := by rw [List.length_take]; omega
        rw [Lib.size_eq, ht]
        exact Nat.le_trans h1 (Nat.mul_le_mul_left _ h2)
      have HTL := Lib.hid ht
      have HB := Lib.hid hb
      have HTK := Lib.hid htk
      by_cases hlt : k < ts.length
      · obtain ⟨_, _, hv, h0 | ⟨bx, ox, rfl, hbx, hcx⟩⟩ := htk
        · rw [h0] at hlt; simp at hlt
        simp only [Value.slice.injEq] at hv
        obtain ⟨rfl, -, rfl⟩ := hv
        obtain ⟨x0, x1, x2, x3⟩ := hcx k hlt
        have hlet := HLET.out ts[k] (List.getElem_mem hlt)
        have HSN : Hid (LX.glue b (ts.take (k + 1)) = LX.glue b (ts.take k) ++ (ts[k].letters ++ List.replicate b 32)) := Lib.hid (by
          rw [List.take_succ_eq_append_getElem hlt, LX.glue_snoc])
        generalize ts[k] = x at x0 x1 x2 x3 hlet HSN
        obtain ⟨kd, says, nn, pl⟩ := x
        simp only at x0 x1 x2 x3 hlet
        obtain ⟨z, hz⟩ : ∃ z : ByteArray, z = ⟨says.toArray⟩ := ⟨_, rfl⟩
        have HZ : Hid (z.data.toList = says) := Lib.hid (by rw [hz])
        rw [← hz] at x1
        have hzs : z.size ≤ 1024 := by rw [Lib.size_eq, HZ.out]; exact hlet.2
        have hbs : ((⟨#[32, 32, 32]⟩ : ByteArray).extract 0 b).size = b := by rw [Lib.size_eq, H3.out, List.length_replicate]
        clear hcx hb ht hz
        by_cases h4 : kd = 4
        · subst h4
          have HSN2 := HSN.out
          simp only [LX.Tok.letters, if_true] at HSN2 hlet
          obtain ⟨Q, hQ⟩ : ∃ Q : ByteArray, Q = ⟨(LX.quote says).toArray⟩ := ⟨_, rfl⟩
          have HQ : Hid (Q.data.toList = LX.quote says) := Lib.hid (by rw [hQ])
          have hqs : Q.size ≤ 1024 := by rw [Lib.size_eq, HQ.out]; exact hlet.1
          have CQ := fun W hT => quote_any z (by omega) W hT
          rw [HZ.out, ← hQ] at CQ
          have HBA := HB.out.alloc HB.out.size (.cells #[.int .i64 ((4 : Nat) : Int), .string z, .int .i64 nn, .int .i64 (pl : Nat)] 34)
          have hbA : Below wr.heap.size wr (wr.alloc (.cells #[.int .i64 ((4 : Nat) : Int), .string z, .int .i64 nn, .int .i64 (pl : Nat)] 34)) := (Below.refl _ _).alloc (Nat.le_refl _) _
          have HBAA := Lib.hid HBA
          have HTA := Lib.hid (HTK.out.next hbA)
          clear hQ HSN HBA hbA
          go_wp2_with fail
          refine (CQ _ (Tabs.next HT.out HBAA.out).utf).mono ?_
          rintro e w5 ⟨rfl, hb5⟩
          have HB5 := Lib.hid (HBAA.out.trans (hb5.mono HBAA.out.size))
          have HT5 := Lib.hid (HTA.out.next hb5)
          clear hb5 CQ
          go_wp2_with fail
          go_roundw
          case rel =>
            refine ⟨k + 1, _, by go_num, rfl, by omega, ?_, HB5.out, HT5.out⟩
            rw [add_data, add_data, HTL.out, HQ.out, H3.out, HSN2, List.append_assoc]
          case measure => simp [intOf]; omega
        · have h4' : ((kd : Int) == 4) = false := by simp; omega
          have HSN2 := HSN.out
          simp only [LX.Tok.letters, if_neg h4] at HSN2
          have HBA := Lib.hid (HB.out.alloc HB.out.size (.cells #[.int .i64 (kd : Nat), .string z, .int .i64 nn, .int .i64 (pl : Nat)] 34))
          have HTA := Lib.hid (HTK.out.next ((Below.refl _ _).alloc (Nat.le_refl _) (.cells #[.int .i64 (kd : Nat), .string z, .int .i64 nn, .int .i64 (pl : Nat)] 34)))
          clear HSN
          go_wp2_with fail
          go_roundw
          case rel =>
            refine ⟨k + 1, _, by go_num, rfl, by omega, ?_, HBA.out, HTA.out⟩
            rw [add_data, add_data, HTL.out, HZ.out, H3.out, HSN2, List.append_assoc]
          case measure => simp [intOf]; omega
      · obtain rfl : k = ts.length := by omega
        rw [List.take_length] at ht
        by_cases h1024 : 1024 < t.size
        · have hd1024 : decide (1024 < (t.size : Int)) = true := by simp; omega
          clear hb htk ht
          go_wp2_with fail
          go_ret
          exact ⟨rfl, HB.out⟩
        · have hd1024 : decide (1024 < (t.size : Int)) = false := by simp; omega
          obtain ⟨ts', hl', hbare⟩ := HGB.out (by rw [← ht, ← Lib.size_eq]; omega)
          have hlen : ts'.length = ts.length := by
            have := congrArg List.length hbare
            simpa using this
          have CL := fun W hT => HH.out.ok ht (by omega) hl' W hT
          have HBARE := Lib.hid hbare
          clear hb htk ht hl' hbare
          go_wp2_with fail
          refine (CL _ (Tabs.next HT.out HB.out)).mono ?_
          rintro e w6 ⟨v6, rfl, ht6, hb6⟩
          have HB6 := Lib.hid (HB.out.trans (hb6.mono HB.out.size))
          have HX6 := Lib.hid (HTK.out.next hb6)
          have HY6 := Lib.hid ht6
          obtain ⟨a6, c6, rfl, _⟩ := ht6
          have hbA : Below w6.heap.size w6 (w6.alloc (.cells #[.int .i64 0, .int .i64 0] 26)) := (Below.refl _ _).alloc (Nat.le_refl _) _
          obtain ⟨W7, hW7⟩ : ∃ W7, W7 = w6.alloc (.cells #[.int .i64 0, .int .i64 0] 26) := ⟨_, rfl⟩
          have HB7 : Hid (Below w.heap.size w W7) := Lib.hid (by rw [hW7]; exact HB6.out.alloc HB6.out.size _)
          have HX7 : Hid (ToksAt W7 (.slice a2 ts.length c2) ts) := Lib.hid (by rw [hW7]; exact HX6.out.next hbA)
          have HY7 : Hid (ToksAt W7 (.slice a6 ts'.length c6) ts') := Lib.hid (by rw [hW7]; exact HY6.out.next hbA)
          rw [hlen] at HY7
          clear hb6 CL hbA HX6 HY6
          rw [hlen]
          go_wp2_with fail
          rw [← hW7]
          clear hW7
          go_loopw [78] (fun vi wr => ∃ k : Nat, vi = .int .i64 k ∧ k ≤ ts.length ∧ Below W7.heap.size W7 wr) (fun vi _ => ts.length - (intOf vi).toNat)
          case atStart => exact ⟨0, rfl, Nat.zero_le _, Below.refl _ _⟩
          case round =>
            obtain ⟨k, rfl, hk, hb⟩ := hrel
            have HBB := Lib.hid hb
            by_cases hlt : k < ts.length
            · obtain ⟨_, _, hv, h0 | ⟨bx, ox, rfl, hbx, hcx⟩⟩ := HX7.out.next hb
              · rw [h0] at hlt; simp at hlt
              simp only [Value.slice.injEq] at hv
              obtain ⟨rfl, -, rfl⟩ := hv
              obtain ⟨_, _, hv, h0 | ⟨by', oy, rfl, hby, hcy⟩⟩ := HY7.out.next hb
              · rw [h0] at hlen; rw [← hlen] at hlt; simp at hlt
              simp only [Value.slice.injEq] at hv
              obtain ⟨rfl, -, rfl⟩ := hv
              obtain ⟨x0, x1, x2, _⟩ := hcx k hlt
              obtain ⟨y0, y1, y2, _⟩ := hcy k (by omega)
              obtain ⟨e0, e1, e2⟩ := LX.bare_at HBARE.out hlt (by omega)
              rw [e0] at y0
              rw [e1] at y1
              rw [e2] at y2
              generalize ts[k] = t at x0 x1 x2 y0 y1 y2
              obtain ⟨kd, says, n, pl⟩ := t
              simp only at x0 x1 x2 y0 y1 y2
              generalize (⟨says.toArray⟩ : ByteArray) = z at x1 y1
              clear hcx hcy hb e0 e1 e2
              go_wp2_with fail
              go_quiet (fail)
              go_wp2_with fail
              go_roundw
              case rel => exact ⟨k + 1, by go_num, by omega, below_drewN HBB.out _⟩
              case measure => simp [intOf]; omega
            · obtain rfl : k = ts.length := by omega
              clear hb
              go_wp2_with fail
              go_ret
              exact ⟨rfl, HB7.out.trans (HBB.out.mono HB7.out.size)⟩

end Go.Proofs.YtpchlnikcdhklaaDoor
