/-
  magpielaw05.LexNames: the walk; what package lex's calls do stands ahead of it ('LexCalls').
-/
import Derived.Test.YtpchlnikcdhklaaDoorGrown
namespace Go.Proofs.YtpchlnikcdhklaaDoor
open Go.RowKit Go

set_option maxHeartbeats 8000000 in
set_option maxRecDepth 100000 in
theorem names_walk (H : LexCalls) (s : ByteArray) (w : World) (hT : Tabs w) : Calls Tryd.prog 7 #[.string s] w fun e w' => e = .returned (.bool true) ∧ Below w.heap.size w w' := by
  have HT := Lib.hid hT
  have HH := Lib.hid H
  have hmx : Tryd.prog.follows .mixedOrders = true := by kernel_rfl
  have HA := Lib.hid (alive_any H w hT)
  clear hT
  by_cases h100 : 100 < s.size
  · have hd : decide (100 < (s.size : Int)) = true := by simp; omega
    go_enter Tryd.func7, Tryd.ntmps7
    go_wp2_with (go_at_call 8; refine HA.out.mono ?_; rintro e w1 ⟨rfl, hb1⟩)
    go_ret
    exact ⟨rfl, hb1⟩
  have hd : decide (100 < (s.size : Int)) = false := by simp; omega
  have CM : ∀ w, Calls Tryd.prog 18 #[.string s] w fun e w' => e = .returned (.bool (MW.name s.data.toList)) ∧ w = w' := fun w => (refName_any s w).mono fun _ _ h => ⟨h.1, h.2.symm⟩
  cases hL : LX.lex s.data.toList with
  | error p =>
    obtain ⟨p1, p2⟩ := p
    have hp := lex_err hL
    simp only at hp
    have hp1 : ((p1 : Int) == 0) = false := by simp; omega
    have hnm : MW.name s.data.toList = false := by
      rw [Bool.eq_false_iff]
      intro h
      rw [LX.lex_name h] at hL
      cases hL
    rw [hnm] at CM
    have HL := Lib.hid hL
    clear hL hnm
    go_enter Tryd.func7, Tryd.ntmps7
    go_wp2_with (go_at_call 8; refine HA.out.mono ?_; rintro e w1 ⟨rfl, hb1⟩)
    refine (HH.out.err rfl (by omega) HL.out w1 (Tabs.next HT.out hb1)).mono ?_
    rintro e w2 ⟨a, c, rfl, hb2⟩
    have HB2 := Lib.hid (hb1.trans (hb2.mono hb1.size))
    clear hb1 hb2
    go_wp2_with fail
    go_quiet (fail)
    go_wp2_with (go_at_call 18; refine (CM _).mono ?_; rintro e w' ⟨rfl, rfl⟩)
    go_ret
    exact ⟨rfl, below_drewN (HB2.out.alloc HB2.out.size _) _⟩
  | ok ts =>
    have HL := Lib.hid hL
    cases hnm : MW.name s.data.toList with
    | true =>
      rw [hnm] at CM
      have h2 := LX.lex_name hnm
      rw [hL] at h2
      simp only [Except.ok.injEq] at h2
      have HW : ∀ w, Calls Tryd.prog 13 #[.string s] w fun e w' => e = .returned (.bool (LX.isWord s.data.toList)) ∧ Lay w w' := fun w => isWord_any s w
      generalize LX.isWord s.data.toList = bw at h2 HW
      clear hL hnm
      cases bw with
      | true =>
        simp only [if_true] at h2
        subst h2
        go_enter Tryd.func7, Tryd.ntmps7
        go_wp2_with (go_at_call 8; refine HA.out.mono ?_; rintro e w1 ⟨rfl, hb1⟩)
        refine (HH.out.ok rfl (by omega) HL.out w1 (Tabs.next HT.out hb1)).mono ?_
        rintro e w2 ⟨v, rfl, ht, hb2⟩
        have HB2 := Lib.hid (hb1.trans (hb2.mono hb1.size))
        obtain ⟨a, c, rfl, h0 | ⟨b, off, rfl, hlt, hc⟩⟩ := ht
        · cases h0
        have t0 := (hc 0 (by simp)).1
        have t1 := (hc 0 (by simp)).2.1
        have es : (⟨s.data.toList.toArray⟩ : ByteArray) = s := Lib.mk_data s
        simp only [List.getElem_cons_zero, Nat.zero_mul, Nat.add_zero] at t0 t1
        rw [es] at t1
        obtain ⟨W3, hW3⟩ : ∃ W3, W3 = w2.alloc (.cells #[.int .i64 0, .int .i64 0] 26) := ⟨_, rfl⟩
        have HB3 : Hid (Below w.heap.size w W3) := Lib.hid (by rw [hW3]; exact HB2.out.alloc HB2.out.size _)
        have u0 : W3.cell? ⟨b, off, none⟩ = some (.int .i64 2) := by rw [hW3, World.cell?_of_block (a := ⟨b, off, none⟩) (Below.heap_alloc _ _ _ hlt)]; exact t0
        have u1 : W3.cell? ⟨b, off + 1, none⟩ = some (.string s) := by rw [hW3, World.cell?_of_block (a := ⟨b, off + 1, none⟩) (Below.heap_alloc _ _ _ hlt)]; exact t1
        have hs3 : b < W3.heap.size := by rw [hW3]; simp; omega
        have q0 : W3.cell? ⟨w2.heap.size, 0, none⟩ = some (.int .i64 0) := by rw [hW3]; exact World.cell?_alloc_new ..
        have q1 : W3.cell? ⟨w2.heap.size, 1, none⟩ = some (.int .i64 0) := by rw [hW3]; exact World.cell?_alloc_new ..
        clear hb1 hb2 hc es u1
        go_wp2_with fail
        clear q0 q1 t0 t1
        simp only [← hW3]
        clear hW3 hlt
        have fu0 := cell_grown (w := W3) (a := ⟨b, off, none⟩) hs3 u0
        have hS : ∀ n os, Calls Tryd.prog 13 #[.string s] (Sort.grow (W3.drewN n) os) fun e w'' => e = .returned (.bool true) ∧ ∃ p : GrownBy, w'' = Sort.grow (W3.drewN p.n) p.os := fun n os => grown_of_lay (HW _)
        go_quiet_grown ((go_at_call 13; with_reducible exact hS _ _))
        go_wp2_with (go_at_call 18; refine (CM _).mono ?_; rintro e w' ⟨rfl, rfl⟩)
        go_ret
        exact ⟨rfl, HB3.out.trans (((Lay.of_grown (w := W3) nq osq).below).mono HB3.out.size)⟩
      | false =>
        simp only [Bool.false_eq_true, if_false] at h2
        subst h2
        go_enter Tryd.func7, Tryd.ntmps7
        go_wp2_with (go_at_call 8; refine HA.out.mono ?_; rintro e w1 ⟨rfl, hb1⟩)
        refine (HH.out.ok rfl (by omega) HL.out w1 (Tabs.next HT.out hb1)).mono ?_
        rintro e w2 ⟨v, rfl, ht, hb2⟩
        have HB2 := Lib.hid (hb1.trans (hb2.mono hb1.size))
        obtain ⟨a, c, rfl, h0 | ⟨b, off, rfl, hlt, hc⟩⟩ := ht
        · cases h0
        have t0 := (hc 0 (by simp)).1
        have t1 := (hc 0 (by simp)).2.1
        have es : (⟨s.data.toList.toArray⟩ : ByteArray) = s := Lib.mk_data s
        simp only [List.getElem_cons_zero, Nat.zero_mul, Nat.add_zero] at t0 t1
        rw [es] at t1
        obtain ⟨W3, hW3⟩ : ∃ W3, W3 = w2.alloc (.cells #[.int .i64 0, .int .i64 0] 26) := ⟨_, rfl⟩
        have HB3 : Hid (Below w.heap.size w W3) := Lib.hid (by rw [hW3]; exact HB2.out.alloc HB2.out.size _)
        have u0 : W3.cell? ⟨b, off, none⟩ = some (.int .i64 1) := by rw [hW3, World.cell?_of_block (a := ⟨b, off, none⟩) (Below.heap_alloc _ _ _ hlt)]; exact t0
        have u1 : W3.cell? ⟨b, off + 1, none⟩ = some (.string s) := by rw [hW3, World.cell?_of_block (a := ⟨b, off + 1, none⟩) (Below.heap_alloc _ _ _ hlt)]; exact t1
        have hs3 : b < W3.heap.size := by rw [hW3]; simp; omega
        have q0 : W3.cell? ⟨w2.heap.size, 0, none⟩ = some (.int .i64 0) := by rw [hW3]; exact World.cell?_alloc_new ..
        have q1 : W3.cell? ⟨w2.heap.size, 1, none⟩ = some (.int .i64 0) := by rw [hW3]; exact World.cell?_alloc_new ..
        clear hb1 hb2 hc es u1
        go_wp2_with fail
        clear q0 q1 t0 t1
        simp only [← hW3]
        clear hW3 hlt
        have fu0 := cell_grown (w := W3) (a := ⟨b, off, none⟩) hs3 u0
        have hS : ∀ n os, Calls Tryd.prog 13 #[.string s] (Sort.grow (W3.drewN n) os) fun e w'' => e = .returned (.bool false) ∧ ∃ p : GrownBy, w'' = Sort.grow (W3.drewN p.n) p.os := fun n os => grown_of_lay (HW _)
        go_quiet_grown ((go_at_call 13; with_reducible exact hS _ _))
        go_wp2_with (go_at_call 18; refine (CM _).mono ?_; rintro e w' ⟨rfl, rfl⟩)
        go_ret
        exact ⟨rfl, HB3.out.trans (((Lay.of_grown (w := W3) nq osq).below).mono HB3.out.size)⟩
    | false =>
      rw [hnm] at CM
      have HNO : Hid (∀ t ∈ ts, t.says = s.data.toList → t.kind = 1 ∨ t.kind = 2 → False) := Lib.hid fun t ht h1 h2 => by
        have := LX.name_lex hL ht h1 h2
        rw [hnm] at this
        cases this
      have hcount := LX.lex_count hL
      clear hL hnm
      by_cases h2 : ts.length = 2
      · obtain ⟨t0, t1, rfl⟩ : ∃ t0 t1, ts = [t0, t1] := by
          match ts, h2 with
          | [a, b], _ => exact ⟨a, b, rfl⟩
        go_enter Tryd.func7, Tryd.ntmps7
        go_wp2_with (go_at_call 8; refine HA.out.mono ?_; rintro e w1 ⟨rfl, hb1⟩)
        refine (HH.out.ok rfl (by omega) HL.out w1 (Tabs.next HT.out hb1)).mono ?_
        rintro e w2 ⟨v, rfl, ht, hb2⟩
        have HB2 := Lib.hid (hb1.trans (hb2.mono hb1.size))
        obtain ⟨a, c, rfl, h0 | ⟨b, off, rfl, hlt, hc⟩⟩ := ht
        · cases h0
        have u0 := (hc 0 (by simp)).1
        have u1 := (hc 0 (by simp)).2.1
        simp only [List.getElem_cons_zero, Nat.zero_mul, Nat.add_zero] at u0 u1
        have HNO0 := Lib.hid (HNO.out t0 (by simp))
        obtain ⟨kd, says, n, pl⟩ := t0
        simp only at u0 u1
        clear hb1 hb2 hc HNO
        obtain ⟨z, hz⟩ : ∃ z : ByteArray, z = ⟨says.toArray⟩ := ⟨_, rfl⟩
        rw [← hz] at u1
        have HZ := Lib.hid hz
        clear hz
        by_cases hzs : z = s
        · have hz1 : (z.toList == s.toList) = true := by rw [hzs]; simp
          have hk : kd ≠ 1 ∧ kd ≠ 2 := by
            have hsays : says = s.data.toList := by rw [← hzs, HZ.out]
            exact ⟨fun e => HNO0.out hsays (.inl e), fun e => HNO0.out hsays (.inr e)⟩
          have hk1 : ((kd : Int) == 1) = false := by simp; omega
          have hk2 : ((kd : Int) == 2) = false := by simp; omega
          clear HNO0
          go_wp2_with fail
          go_quiet (fail)
          go_wp2_with (go_at_call 18; refine (CM _).mono ?_; rintro e w' ⟨rfl, rfl⟩)
          go_ret
          exact ⟨rfl, below_drewN (HB2.out.alloc HB2.out.size _) _⟩
        · have hz1 : (z.toList == s.toList) = false := by
            rw [beq_eq_false_iff_ne]
            exact fun e => hzs (toList_inj _ _ e)
          clear HNO0
          go_wp2_with fail
          go_quiet (fail)
          go_wp2_with (go_at_call 18; refine (CM _).mono ?_; rintro e w' ⟨rfl, rfl⟩)
          go_ret
          exact ⟨rfl, below_drewN (HB2.out.alloc HB2.out.size _) _⟩
      · have hlen2 : ((ts.length : Int) == 2) = false := by simp; omega
        go_enter Tryd.func7, Tryd.ntmps7
        go_wp2_with (go_at_call 8; refine HA.out.mono ?_; rintro e w1 ⟨rfl, hb1⟩)
        refine (HH.out.ok rfl (by omega) HL.out w1 (Tabs.next HT.out hb1)).mono ?_
        rintro e w2 ⟨v, rfl, ht, hb2⟩
        have HB2 := Lib.hid (hb1.trans (hb2.mono hb1.size))
        obtain ⟨a, c, rfl, _⟩ := ht
        clear hb1 hb2
        go_wp2_with fail
        go_quiet (fail)
        go_wp2_with (go_at_call 18; refine (CM _).mono ?_; rintro e w' ⟨rfl, rfl⟩)
        go_ret
        exact ⟨rfl, below_drewN (HB2.out.alloc HB2.out.size _) _⟩

end Go.Proofs.YtpchlnikcdhklaaDoor
