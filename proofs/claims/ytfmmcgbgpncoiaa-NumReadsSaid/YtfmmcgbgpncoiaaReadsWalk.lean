/-
  magpielaw01.NumReads: the walk.
-/
import Derived.Test.YtfmmcgbgpncoiaaReadsItem
namespace Go.Proofs.Ytfmmcgbgpncoiaa
open Go.RowKit Go

set_option maxHeartbeats 8000000 in
set_option maxRecDepth 100000 in
theorem reads_walk (S : ByteArray) (hS : S.size ≤ 2000) (b off cap : Nat) (its : List Ak) (w : World) (hI : AsksAt w b off its) (h200 : its.length ≤ 200) :
    Calls Try.prog 4 #[.string S, .slice (some ⟨b, off, none⟩) its.length cap] w fun e w' => e = .returned (.bool true) ∧ Below w.heap.size w w' := by
  have HI := Lib.hid hI
  have hblt := hI.lt
  have HS := Lib.hid hS
  have N20 := Lib.hid nil20
  have N22 := Lib.hid nil22
  clear hI
  go_enter Try.func4, Try.ntmps4
  go_wp2_with fail
  refine (alive_any w).mono ?_
  rintro e w1 ⟨rfl, hb1⟩
  go_wp2_with fail
  refine (from_any S (by omega) w1).mono ?_
  rintro e wB ⟨rfl, hzB, hrB, hbB⟩
  have hsyn := syn_new hrB
  have hbel : Below w.heap.size w (wB.alloc (.cells #[.string S, .int .i64 0, .bool false] 40)) := (hb1.trans (hbB.mono hb1.size)).alloc (Nat.le_trans hb1.size hbB.size) _
  have HSY := Lib.hid hsyn
  have HBL := Lib.hid hbel
  have hg := hb1.size
  have hm := Nat.le_trans hb1.size hbB.size
  have hgm : w1.heap.size ≠ wB.heap.size := by omega
  clear hrB hsyn hbel hb1 hbB
  obtain ⟨g, hgg⟩ : ∃ g, g = w1.heap.size := ⟨_, rfl⟩
  rw [← hgg] at hg hgm HSY ⊢
  clear hgg
  have HGM := Lib.hid hgm
  clear hgm hzB
  go_wp2_with (first | (go_at_call 20; refine (N20.out _).mono ?_; rintro e w' ⟨rfl, rfl⟩) | (go_at_call 21; refine (int_nil _).mono ?_; rintro e w' ⟨rfl, rfl⟩) | (go_at_call 22; refine (N22.out _).mono ?_; rintro e w' ⟨rfl, rfl⟩) | (go_at_call 23; refine (bool_nil _).mono ?_; rintro e w' ⟨rfl, rfl⟩) | (go_at_call 24; refine (bad_nil _).mono ?_; rintro e w' ⟨rfl, rfl⟩) | (go_at_call 25; refine (end_nil _).mono ?_; rintro e w' ⟨rfl, rfl⟩))
  obtain ⟨m, hmm⟩ : ∃ m, m = wB.heap.size := ⟨_, rfl⟩
  rw [← hmm] at hm HSY HGM ⊢
  clear hmm
  go_loopw [53] (fun vi wr => ∃ k : Nat, vi = .int .i64 k ∧ k ≤ its.length ∧ (∃ l bad pos, Syn wr g m S l bad pos) ∧ Below w.heap.size w wr) (fun vi _ => its.length - (intOf vi).toNat)
  case atStart => exact ⟨0, rfl, Nat.zero_le _, ⟨_, _, _, HSY.out⟩, HBL.out⟩
  case round =>
    obtain ⟨k, rfl, hk, ⟨l, bad, pos, hsy⟩, hbw⟩ := hrel
    by_cases hlt : k < its.length
    · have g0 := (hbw.cell (p := ⟨b, off + k * 2, none⟩) hblt).trans (HI.out.kind k hlt)
      have g1 := (hbw.cell (p := ⟨b, off + k * 2 + 1, none⟩) hblt).trans (HI.out.num k hlt)
      generalize its.getD k ⟨0, 0⟩ = x at g0 g1
      obtain ⟨kd, n⟩ := x
      simp only [] at g0 g1
      have hri : RI w g m wr.heap.size S kd n (wr.alloc (.cells #[.int .i64 kd, .int .u64 n] 44)) := by
        have l1 := hsy.rd.lt
        have l2 := hsy.rf.lt
        exact ⟨⟨l, bad, pos, hsy.rd.alloc _, hsy.rf.alloc _, hsy.left⟩, by go_simp, by go_simp, hbw.alloc hbw.size _, hg, hm, by omega, by omega⟩
      have HRI := Lib.hid (hri.below (Below.drewN0 _ 1))
      clear hri hsy
      obtain ⟨a, haa⟩ : ∃ a, a = wr.heap.size := ⟨_, rfl⟩
      go_upto_region 12 with fail
      rw [← haa] at HRI ⊢
      clear haa
      refine wp_region_flow (by kernel_rfl) (RI w g m a S kd n) RR (VR g m S kd n) (fun j => j == 20) (by kernel_rfl) (by kernel_rfl) ?hst ?hI ?step ?fin
      case hst =>
        intro i j v w1 w2 hne hanc hneed hV hI hR
        by_cases h3 : i = 3
        · subst h3
          by_cases j7 : j = 7
          · subst j7
            cases (Eq.symm hanc).trans (by kernel_rfl : _ = true)
          by_cases j11 : j = 11
          · subst j11
            cases (Eq.symm hanc).trans (by kernel_rfl : _ = true)
          by_cases j16 : j = 16
          · subst j16
            cases (Eq.symm hanc).trans (by kernel_rfl : _ = true)
          by_cases j18 : j = 18
          · subst j18
            cases (Eq.symm hanc).trans (by kernel_rfl : _ = true)
          exact VR_pure hV j7 j11 j16 j18
        exact VR_below hV (RR_else h3 hR)
      case hI => exact HRI.out
      case step =>
        refine ⟨?_, ?_, ?_, ?_, ?_, ?_, ?_, ?_, ?_, ?_, ?_, ?_, ?_, ?_, ?_, ?_, ?_, ?_, ?_, ?_, ?_, trivial⟩
        · intro ys A W hA hI hd K hK
          have e5 : A.tmps.getD 5 undef = .pointer (some ⟨g, 0, none⟩) := hA 5 (Nat.le_of_ble_eq_true rfl)
          refine step_run (.inl rfl) ?_
          clear hA hd
          go_simp
          exact hK _ _ hI (Below.refl _ _) rfl
        · intro ys A W hA hI hd K hK
          have e6 : A.tmps.getD 6 undef = .pointer (some ⟨m, 0, none⟩) := hA 6 (Nat.le_of_ble_eq_true rfl)
          refine step_run (.inl rfl) ?_
          clear hA hd
          go_simp
          exact hK _ _ hI (Below.refl _ _) rfl
        · intro ys A W hA hI hd K hK
          have e9 : A.tmps.getD 9 undef = .pointer (some ⟨a, 0, none⟩) := hA 9 (Nat.le_of_ble_eq_true rfl)
          refine step_run (.inl rfl) ?_
          clear hA hd
          have hs := hI.c0
          have hs1 := hI.c1
          go_simp
          exact hK _ _ hI (Below.refl _ _) rfl
        · intro ys A W hA hI hd K hK
          have e57 : A.tmps.getD 57 undef = .pointer (some ⟨g, 0, none⟩) := (hA 57 (Nat.le_of_ble_eq_true rfl)).trans (hd ⟨0, .data⟩ (by simp) rfl)
          have e58 : A.tmps.getD 58 undef = .pointer (some ⟨m, 0, none⟩) := (hA 58 (Nat.le_of_ble_eq_true rfl)).trans (hd ⟨1, .data⟩ (by simp) rfl)
          have e59 : A.tmps.getD 59 undef = .agg #[.int .i64 kd, .int .u64 n] := (hA 59 (Nat.le_of_ble_eq_true rfl)).trans (hd ⟨2, .data⟩ (by simp) rfl)
          refine step_run (.inl rfl) ?_
          clear hA hd
          go_simp
          obtain ⟨l, bad, pos, hsy⟩ := hI.syn
          refine (same_any g m n kd HGM.out S HS.out l bad pos _ hsy).mono ?_
          rintro e w' ⟨rfl, hsy2, hch⟩
          exact hK _ _ (hI.same hsy2 hch) trivial rfl
        · intro ys A W hA hI hd K hK
          have e60 : A.tmps.getD 60 undef = .bool true := (hA 60 (Nat.le_of_ble_eq_true rfl)).trans (hd ⟨3, .data⟩ (by simp) rfl)
          refine step_run (.inl rfl) ?_
          clear hA hd
          go_simp
          exact hK _ _ hI (Below.refl _ _) rfl
        · intro ys A W hA hI hd K hK
          have e61 : A.tmps.getD 61 undef = .bool false := (hA 61 (Nat.le_of_ble_eq_true rfl)).trans (hd ⟨4, .data⟩ (by simp) rfl)
          refine step_run (.inl rfl) ?_
          clear hA hd
          go_simp
          exact hK _ _ hI (Below.refl _ _) rfl
        · intro ys A W hA hI hd K hK
          have e5 : A.tmps.getD 5 undef = .pointer (some ⟨g, 0, none⟩) := hA 5 (Nat.le_of_ble_eq_true rfl)
          refine step_run (.inr ⟨5, 62, false, rfl, rfl, (hA 62 (Nat.le_of_ble_eq_true rfl)).trans (hd ⟨5, .guard⟩ (by simp) rfl)⟩) ?_
          clear hA hd
          go_simp
          exact hK _ _ hI (Below.refl _ _) rfl
        · intro ys A W hA hI hd K hK
          have e63 : A.tmps.getD 63 undef = .pointer (some ⟨g, 0, none⟩) := (hA 63 (Nat.le_of_ble_eq_true rfl)).trans (hd ⟨6, .data⟩ (by simp) rfl)
          refine step_run (.inr ⟨5, 62, false, rfl, rfl, (hA 62 (Nat.le_of_ble_eq_true rfl)).trans (hd ⟨5, .guard⟩ (by simp) rfl)⟩) ?_
          clear hA hd
          go_simp
          obtain ⟨l, bad, pos, hsy⟩ := hI.syn
          refine (bad_any g l bad _ hsy.rd).mono ?_
          rintro e w' ⟨rfl, rfl⟩
          exact hK _ _ hI (Below.refl _ _) ⟨l, bad, pos, hsy, rfl⟩
        · intro ys A W hA hI hd K hK
          have e6 : A.tmps.getD 6 undef = .pointer (some ⟨m, 0, none⟩) := hA 6 (Nat.le_of_ble_eq_true rfl)
          refine step_run (.inr ⟨5, 62, false, rfl, rfl, (hA 62 (Nat.le_of_ble_eq_true rfl)).trans (hd ⟨5, .guard⟩ (by simp) rfl)⟩) ?_
          clear hA hd
          go_simp
          exact hK _ _ hI (Below.refl _ _) rfl
        · intro ys A W hA hI hd K hK
          have e65 : A.tmps.getD 65 undef = .pointer (some ⟨m, 0, none⟩) := (hA 65 (Nat.le_of_ble_eq_true rfl)).trans (hd ⟨8, .data⟩ (by simp) rfl)
          refine step_run (.inr ⟨5, 62, false, rfl, rfl, (hA 62 (Nat.le_of_ble_eq_true rfl)).trans (hd ⟨5, .guard⟩ (by simp) rfl)⟩) ?_
          clear hA hd
          go_simp
          exact hK _ _ hI (Below.refl _ _) rfl
        · intro ys A W hA hI hd K hK
          have e66 : A.tmps.getD 66 undef = .pointer (some ⟨m, 0, none⟩) := (hA 66 (Nat.le_of_ble_eq_true rfl)).trans (hd ⟨9, .data⟩ (by simp) rfl)
          refine step_run (.inr ⟨5, 62, false, rfl, rfl, (hA 62 (Nat.le_of_ble_eq_true rfl)).trans (hd ⟨5, .guard⟩ (by simp) rfl)⟩) ?_
          clear hA hd
          go_simp
          exact hK _ _ hI (Below.refl _ _) rfl
        · intro ys A W hA hI hd K hK
          have e67 : A.tmps.getD 67 undef = .pointer (some ⟨m, 2, none⟩) := (hA 67 (Nat.le_of_ble_eq_true rfl)).trans (hd ⟨10, .data⟩ (by simp) rfl)
          refine step_run (.inr ⟨5, 62, false, rfl, rfl, (hA 62 (Nat.le_of_ble_eq_true rfl)).trans (hd ⟨5, .guard⟩ (by simp) rfl)⟩) ?_
          clear hA hd
          obtain ⟨l, bad, pos, hsy⟩ := hI.syn
          have hs := hsy.rf.isBad
          go_simp
          exact hK _ _ hI (Below.refl _ _) ⟨l, bad, pos, hsy, rfl⟩
        · intro ys A W hA hI hd K hK
          obtain ⟨l7, b7, p7, hs7, hy7⟩ : BadV g m S (ys 7) W := hd ⟨7, .data⟩ (by simp) rfl
          have e64 : A.tmps.getD 64 undef = .bool b7 := (hA 64 (Nat.le_of_ble_eq_true rfl)).trans hy7
          obtain ⟨l11, b11, p11, hs11, hy11⟩ : BadV g m S (ys 11) W := hd ⟨11, .data⟩ (by simp) rfl
          have e68 : A.tmps.getD 68 undef = .bool b11 := (hA 68 (Nat.le_of_ble_eq_true rfl)).trans hy11
          refine step_run (.inr ⟨5, 62, false, rfl, rfl, (hA 62 (Nat.le_of_ble_eq_true rfl)).trans (hd ⟨5, .guard⟩ (by simp) rfl)⟩) ?_
          clear hA hd
          obtain ⟨rfl, rfl⟩ := hs7.rd.same hs11.rd
          have hbn : (b7 == b7) = true := by simp
          go_simp
          exact hK _ _ hI (Below.refl _ _) (by first | rfl | simp)
        · intro ys A W hA hI hd K hK
          have e62 : A.tmps.getD 62 undef = .bool false := (hA 62 (Nat.le_of_ble_eq_true rfl)).trans (hd ⟨5, .data⟩ (by simp) rfl)
          have e69 : A.tmps.getD 69 undef = .bool false := (hA 69 (Nat.le_of_ble_eq_true rfl)).trans (hd ⟨12, .data⟩ (by simp) rfl)
          refine step_run (.inl rfl) ?_
          clear hA hd
          go_simp
          exact hK _ _ hI (Below.refl _ _) rfl
        · intro ys A W hA hI hd K hK
          have e70 : A.tmps.getD 70 undef = .bool false := (hA 70 (Nat.le_of_ble_eq_true rfl)).trans (hd ⟨13, .data⟩ (by simp) rfl)
          refine step_run (.inl rfl) ?_
          clear hA hd
          go_simp
          exact hK _ _ hI (Below.refl _ _) rfl
        · intro ys A W hA hI hd K hK
          have e5 : A.tmps.getD 5 undef = .pointer (some ⟨g, 0, none⟩) := hA 5 (Nat.le_of_ble_eq_true rfl)
          refine step_run (.inr ⟨14, 71, false, rfl, rfl, (hA 71 (Nat.le_of_ble_eq_true rfl)).trans (hd ⟨14, .guard⟩ (by simp) rfl)⟩) ?_
          clear hA hd
          go_simp
          exact hK _ _ hI (Below.refl _ _) rfl
        · intro ys A W hA hI hd K hK
          have e72 : A.tmps.getD 72 undef = .pointer (some ⟨g, 0, none⟩) := (hA 72 (Nat.le_of_ble_eq_true rfl)).trans (hd ⟨15, .data⟩ (by simp) rfl)
          refine step_run (.inr ⟨14, 71, false, rfl, rfl, (hA 71 (Nat.le_of_ble_eq_true rfl)).trans (hd ⟨14, .guard⟩ (by simp) rfl)⟩) ?_
          clear hA hd
          go_simp
          obtain ⟨l, bad, pos, hsy⟩ := hI.syn
          refine (end_any g l bad _ hsy.rd).mono ?_
          rintro e w' ⟨rfl, rfl⟩
          exact hK _ _ hI (Below.refl _ _) ⟨l, bad, pos, hsy, rfl⟩
        · intro ys A W hA hI hd K hK
          have e6 : A.tmps.getD 6 undef = .pointer (some ⟨m, 0, none⟩) := hA 6 (Nat.le_of_ble_eq_true rfl)
          refine step_run (.inr ⟨14, 71, false, rfl, rfl, (hA 71 (Nat.le_of_ble_eq_true rfl)).trans (hd ⟨14, .guard⟩ (by simp) rfl)⟩) ?_
          clear hA hd
          go_simp
          exact hK _ _ hI (Below.refl _ _) rfl
        · intro ys A W hA hI hd K hK
          have e74 : A.tmps.getD 74 undef = .pointer (some ⟨m, 0, none⟩) := (hA 74 (Nat.le_of_ble_eq_true rfl)).trans (hd ⟨17, .data⟩ (by simp) rfl)
          refine step_run (.inr ⟨14, 71, false, rfl, rfl, (hA 71 (Nat.le_of_ble_eq_true rfl)).trans (hd ⟨14, .guard⟩ (by simp) rfl)⟩) ?_
          clear hA hd
          go_simp
          obtain ⟨l, bad, pos, hsy⟩ := hI.syn
          refine (ref_end_rd m S pos l bad _ hsy.rf hsy.left).mono ?_
          rintro e w' ⟨rfl, hb⟩
          exact hK _ _ (hI.below hb) hb ⟨l, bad, pos, hsy.below hb, rfl⟩
        · intro ys A W hA hI hd K hK
          obtain ⟨l16, b16, p16, hs16, hy16⟩ : EndV g m S (ys 16) W := hd ⟨16, .data⟩ (by simp) rfl
          have e73 : A.tmps.getD 73 undef = .bool (!b16 && l16.isEmpty) := (hA 73 (Nat.le_of_ble_eq_true rfl)).trans hy16
          obtain ⟨l18, b18, p18, hs18, hy18⟩ : EndV g m S (ys 18) W := hd ⟨18, .data⟩ (by simp) rfl
          have e75 : A.tmps.getD 75 undef = .bool (!b18 && l18.isEmpty) := (hA 75 (Nat.le_of_ble_eq_true rfl)).trans hy18
          refine step_run (.inr ⟨14, 71, false, rfl, rfl, (hA 71 (Nat.le_of_ble_eq_true rfl)).trans (hd ⟨14, .guard⟩ (by simp) rfl)⟩) ?_
          clear hA hd
          obtain ⟨rfl, rfl⟩ := hs16.rd.same hs18.rd
          clear hs16 hs18 hy16 hy18
          generalize (!b16 && l16.isEmpty) = q at *
          go_simp
          exact hK _ _ hI (Below.refl _ _) (by first | rfl | simp)
        · intro ys A W hA hI hd K hK
          have e71 : A.tmps.getD 71 undef = .bool false := (hA 71 (Nat.le_of_ble_eq_true rfl)).trans (hd ⟨14, .data⟩ (by simp) rfl)
          have e76 : A.tmps.getD 76 undef = .bool false := (hA 76 (Nat.le_of_ble_eq_true rfl)).trans (hd ⟨19, .data⟩ (by simp) rfl)
          refine step_run (.inl rfl) ?_
          clear hA hd
          go_simp
          exact hK _ _ hI (Below.refl _ _) rfl
      case fin =>
        intro ys wz hI hF
        have h20 : ys 20 = .bool false := hF 20 (by decide) rfl
        have HZ := Lib.hid hI
        simp only [putsFrom]
        clear hF hI
        simp only [h20, Act.put, List.setIfInBounds_toArray, List.set_cons_succ, List.set_cons_zero]
        go_wp2_with fail
        go_roundw
        case rel => exact ⟨k + 1, by go_num, by omega, HZ.out.syn, HZ.out.bel⟩
        case measure => simp [intOf]; omega
    · go_wp2_with fail
      go_ret
      exact ⟨rfl, hbw⟩

set_option maxHeartbeats 4000000 in
theorem reads_walk0 (S : ByteArray) (hS : S.size ≤ 2000) (a0 : Option Addr) (cap : Nat) (w : World) :
    Calls Try.prog 4 #[.string S, .slice a0 0 cap] w fun e w' => e = .returned (.bool true) ∧ Below w.heap.size w w' := by
  have N20 := Lib.hid nil20
  have N22 := Lib.hid nil22
  go_enter Try.func4, Try.ntmps4
  go_wp2_with fail
  refine (alive_any w).mono ?_
  rintro e w1 ⟨rfl, hb1⟩
  go_wp2_with fail
  refine (from_any S (by omega) w1).mono ?_
  rintro e wB ⟨rfl, hzB, hrB, hbB⟩
  have hbel : Below w.heap.size w (wB.alloc (.cells #[.string S, .int .i64 0, .bool false] 40)) := (hb1.trans (hbB.mono hb1.size)).alloc (Nat.le_trans hb1.size hbB.size) _
  have HBL := Lib.hid hbel
  clear hrB hbel hb1 hbB hzB
  go_wp2_with (first | (go_at_call 20; refine (N20.out _).mono ?_; rintro e w' ⟨rfl, rfl⟩) | (go_at_call 21; refine (int_nil _).mono ?_; rintro e w' ⟨rfl, rfl⟩) | (go_at_call 22; refine (N22.out _).mono ?_; rintro e w' ⟨rfl, rfl⟩) | (go_at_call 23; refine (bool_nil _).mono ?_; rintro e w' ⟨rfl, rfl⟩) | (go_at_call 24; refine (bad_nil _).mono ?_; rintro e w' ⟨rfl, rfl⟩) | (go_at_call 25; refine (end_nil _).mono ?_; rintro e w' ⟨rfl, rfl⟩))
  go_loopw [53] (fun vi wr => vi = .int .i64 0 ∧ Below w.heap.size w wr) (fun _ _ => 0)
  case atStart => exact ⟨rfl, HBL.out⟩
  case round =>
    obtain ⟨rfl, hbw⟩ := hrel
    go_wp2_with fail
    go_ret
    exact ⟨rfl, hbw⟩

set_option maxHeartbeats 1000000 in
theorem reads_walk_text (S : ByteArray) (hS : ¬ S.size ≤ 2000) (v : Value) (w : World) :
    Calls Try.prog 4 #[.string S, v] w fun e w' => e = .returned (.bool true) ∧ Below w.heap.size w w' := by
  go_enter Try.func4, Try.ntmps4
  go_wp2_with fail
  refine (alive_any w).mono ?_
  rintro e w1 ⟨rfl, hb1⟩
  go_wp2_with fail
  go_ret
  exact ⟨rfl, hb1⟩

set_option maxHeartbeats 1000000 in
theorem reads_walk_long (S : ByteArray) (hS : S.size ≤ 2000) (a0 : Option Addr) (len cap : Nat) (hlen : 200 < len) (w : World) :
    Calls Try.prog 4 #[.string S, .slice a0 len cap] w fun e w' => e = .returned (.bool true) ∧ Below w.heap.size w w' := by
  go_enter Try.func4, Try.ntmps4
  go_wp2_with fail
  refine (alive_any w).mono ?_
  rintro e w1 ⟨rfl, hb1⟩
  go_wp2_with fail
  go_ret
  exact ⟨rfl, hb1⟩

end Go.Proofs.Ytfmmcgbgpncoiaa
