/-
  THE DOCUMENT'S OWN Lex.
-/
import Derived.Test.YtpchlnikcdhklaaDoorTokAt
import Derived.OwnWalk
namespace Go.Proofs.YtpchlnikcdhklaaDoor
open Go.RowKit Go

set_option maxHeartbeats 16000000 in
set_option maxRecDepth 100000 in
theorem refLex_any (s : ByteArray) (hlen : s.size ≤ 1048576) (w : World) (hT : Lib.Utf8Tabs 1 2 w) : Calls Tryd.prog 10 #[.string s] w (LexPost (LX.lex s.data.toList) w) := by
  obtain ⟨i36, z36, E36⟩ := elem36
  have hsz : s.data.toList.length = s.size := (Lib.size_eq s).symm
  have HZ := Lib.hid hsz
  clear hsz
  have HVA := Lib.hid (valid_any s hlen w hT)
  clear hT
  by_cases h1024 : 1024 < s.size
  · have hd : decide (1024 < (s.size : Int)) = true := by simp; omega
    have HL : Hid (LX.lex s.data.toList = .error (6, 1)) := Lib.hid (by unfold LX.lex; rw [if_pos (by rw [HZ.out]; exact h1024)])
    go_enter Tryd.func10, Tryd.ntmps10
    go_wp2_with fail
    go_ret3
    exact ⟨Below.refl _ _, by rw [HL.out]; rfl⟩
  have hd : decide (1024 < (s.size : Int)) = false := by simp; omega
  by_cases hv : LX.valid s.data.toList < s.size
  · have hdv : decide (((LX.valid s.data.toList : Nat) : Int) < (s.size : Int)) = true := by simp; omega
    have HL : Hid (LX.lex s.data.toList = .error (4, LX.valid s.data.toList + 1)) := Lib.hid (by unfold LX.lex; rw [if_neg (by rw [HZ.out]; exact h1024), if_pos (by rw [HZ.out]; exact hv)])
    go_enter Tryd.func10, Tryd.ntmps10
    go_wp2_with fail
    refine HVA.out.mono ?_
    rintro e w1 ⟨rfl, hb1⟩
    go_wp2_with fail
    go_ret3
    exact ⟨hb1, by rw [HL.out]; rfl⟩
  have hdv : decide (((LX.valid s.data.toList : Nat) : Int) < (s.size : Int)) = false := by simp; omega
  have HU : Hid (LX.U8 s.data.toList) := Lib.hid ((LX.u8_iff _).1 (by
    have := (LX.valid_le _ s.data.toList (Nat.le_refl _)).1
    rw [HZ.out] at this ⊢
    omega))
  go_enter Tryd.func10, Tryd.ntmps10
  go_wp2_with fail
  refine HVA.out.mono ?_
  rintro e w1 ⟨rfl, hb1⟩
  have HB1 := Lib.hid hb1
  clear hb1 HVA
  go_wp2_with fail
  go_loopw [6, 7] (fun vo vi wr => ∃ (k : Nat) (ts : List LX.Tok), vi = .int .i64 k ∧ k ≤ s.size ∧ ts.length ≤ k ∧ Rk 4 (fun b => w.heap.size ≤ b) wr vo ts.length (flatT ts) ∧ Below w.heap.size w wr ∧ LX.toks 0 s.data.toList = (LX.toks k (s.data.toList.drop k)).map (ts ++ ·)) (fun _ vi _ => s.size - (intOf vi).toNat)
  case atStart => exact ⟨0, [], rfl, Nat.zero_le _, Nat.le_refl _, Rk.nil 4 _ _, HB1.out, by rw [List.drop_zero]; cases LX.toks 0 s.data.toList <;> rfl⟩
  case round =>
    obtain ⟨k, ts, rfl, hk, htl, hrk, hb, htk⟩ := hrel
    have HRK := Lib.hid hrk
    have HB := Lib.hid hb
    have HTK := Lib.hid htk
    obtain ⟨ao, co, rfl⟩ := hrk.shape
    have hws := hb.size
    clear hrk hb htk HB1
    by_cases hlt : k < s.size
    · have HD := Lib.hid (byte_drop s k hlt)
      have HE := Lib.hid (ext_one s k hlt)
      obtain ⟨c, hc⟩ : ∃ c, c = s[k] := ⟨_, rfl⟩
      obtain ⟨m, hm⟩ : ∃ m, s[k].toNat = m := ⟨_, rfl⟩
      have hix := fun w => idx_run s k m hlt hm w
      rw [← hc] at HD HE hm
      have HC := Lib.hid hm
      clear hc hm
      by_cases h32 : m = 32
      · subst h32
        have hc32 : c = 32 := UInt8.toNat_inj.1 HC.out
        go_wp2_with fail
        go_roundw
        case rel =>
          refine ⟨k + 1, ts, by go_num, by omega, by omega, HRK.out, HB.out, ?_⟩
          rw [HTK.out, HD.out, hc32, LX.toks_blank]
        case measure => simp [intOf]; omega
      have h32' : ((m : Int) == 32) = false := by simp; omega
      have HC32 : Hid (c ≠ 32) := Lib.hid fun e => h32 (by rw [← HC.out, e]; rfl)
      by_cases h5 : m = 61 ∨ m = 40 ∨ m = 41
      · have HTOK : Hid (LX.tok c (s.data.toList.drop (k + 1)) = some (5, [c], 0, 1)) := Lib.hid (by
          unfold LX.tok
          rw [if_pos]
          rcases h5 with rfl | rfl | rfl
          · exact .inl (UInt8.toNat_inj.1 HC.out)
          · exact .inr (.inl (UInt8.toNat_inj.1 HC.out))
          · exact .inr (.inr (UInt8.toNat_inj.1 HC.out)))
        rcases h5 with rfl | rfl | rfl
        all_goals
          go_wp2_with (at_builtin; refine wpList_append_rk E36 _ rfl _ _ 29 rfl (G := fun b => w.heap.size ≤ b) rfl ((Rk.lay HRK.out ((Keep.refl _ _).alloc _)).alloc _) ?c1 (.slice (some ⟨wr.heap.size + 1, 0, none⟩) 1 1) 1 (flatT [⟨5, [c], 0, k + 1⟩]) rfl (src_tok _ (wr.heap.size + 1) (by simp) _ _ _ _ _ (tok_at (k := k) (kd := 5) (n := 0) HE.out)) ?c2 ?c3 ?_)
          case c1 => exact tok_c1 hws ((Keep.refl _ _).alloc _) _
          case c2 => omega
          case c3 => omega
          intro v' w2 hrk2 hk2
          obtain ⟨hr3, hb3⟩ := tok_app HB.out HRK.out ((Keep.refl _ _).alloc _) hrk2 hk2
          have HR3 := Lib.hid hr3
          have HB3 := Lib.hid hb3
          clear hrk2 hk2 hr3 hb3
          go_wp2_with fail
          go_roundw
          case rel =>
            refine ⟨k + 1, ts ++ [⟨5, [c], 0, k + 1⟩], by go_num, by omega, by rw [List.length_append, List.length_singleton]; omega, HR3.out, HB3.out, toks_at HD.out HTK.out HC32.out HTOK.out⟩
          case measure => simp [intOf]; omega
      have h61 : ((m : Int) == 61) = false := by simp; omega
      have h40 : ((m : Int) == 40) = false := by simp; omega
      have h41 : ((m : Int) == 41) = false := by simp; omega
      have HC5 : Hid (¬ (c = 61 ∨ c = 40 ∨ c = 41)) := Lib.hid (by
        rintro (e | e | e)
        · exact h5 (.inl (by rw [← HC.out, e]; rfl))
        · exact h5 (.inr (.inl (by rw [← HC.out, e]; rfl)))
        · exact h5 (.inr (.inr (by rw [← HC.out, e]; rfl))))
      clear h5
      by_cases h33 : m = 33
      · subst h33
        have hc33 : c = 33 := UInt8.toNat_inj.1 HC.out
        have HERR : Hid ((s.data.toList.drop (k + 1)).head? ≠ some 61 → LX.lex s.data.toList = .error (4, k + 1)) := Lib.hid fun hh => lex_none (by rw [HZ.out]; omega) HU.out HD.out HTK.out HC32.out (by
          unfold LX.tok
          rw [if_neg HC5.out, if_neg (fun e => hh e.2), if_neg (by rw [hc33]; decide), if_neg (by rw [hc33]; decide)])
        have hlet := fun w => refLetter_any c 33 HC.out w
        rw [show MW.ch c = false by rw [hc33]; rfl] at hlet
        by_cases hlt2 : k + 1 < s.size
        · have HD2 := Lib.hid (byte_drop s (k + 1) hlt2)
          by_cases h2 : s[k + 1].toNat = 61
          · have hb1 : ((s[k + 1].toNat : Int) == 61) = true := by simp; omega
            have HTOK : Hid (LX.tok c (s.data.toList.drop (k + 1)) = some (5, [33, 61], 0, 2)) := Lib.hid (by
              unfold LX.tok
              rw [if_neg HC5.out, if_pos]
              refine ⟨hc33, ?_⟩
              rw [HD2.out, List.head?_cons]
              exact congrArg some (UInt8.toNat_inj.1 h2))
            go_wp2_with (at_builtin; refine wpList_append_rk E36 _ rfl _ _ 29 rfl (G := fun b => w.heap.size ≤ b) rfl ((Rk.lay HRK.out ((Keep.refl _ _).alloc _)).alloc _) ?c1 (.slice (some ⟨wr.heap.size + 1, 0, none⟩) 1 1) 1 (flatT [⟨5, [33, 61], 0, k + 1⟩]) rfl (src_tok _ (wr.heap.size + 1) (by simp) _ _ _ _ _ (tok_at (k := k) (kd := 5) (n := 0) (x := ⟨#[33, 61]⟩) rfl)) ?c2 ?c3 ?_)
            case c1 => exact tok_c1 hws ((Keep.refl _ _).alloc _) _
            case c2 => omega
            case c3 => omega
            intro v' w2 hrk2 hk2
            obtain ⟨hr3, hb3⟩ := tok_app HB.out HRK.out ((Keep.refl _ _).alloc _) hrk2 hk2
            have HR3 := Lib.hid hr3
            have HB3 := Lib.hid hb3
            clear hrk2 hk2 hr3 hb3
            go_wp2_with fail
            go_roundw
            case rel =>
              refine ⟨k + 2, ts ++ [⟨5, [33, 61], 0, k + 1⟩], by go_num, by omega, by rw [List.length_append, List.length_singleton]; omega, HR3.out, HB3.out, toks_at HD.out HTK.out HC32.out HTOK.out⟩
            case measure => simp [intOf]; omega
          · have hb1 : ((s[k + 1].toNat : Int) == 61) = false := by simp; omega
            go_wp2_with (go_at_call 24; refine (hlet _).mono ?_; rintro e w' ⟨rfl, rfl⟩)
            go_ret3
            refine ⟨HB.out.alloc hws _, ?_⟩
            rw [HERR.out (by rw [HD2.out, List.head?_cons]; exact fun e => h2 (by rw [Option.some.inj e]; rfl))]
            rfl
        · go_wp2_with (go_at_call 24; refine (hlet _).mono ?_; rintro e w' ⟨rfl, rfl⟩)
          go_ret3
          refine ⟨HB.out.alloc hws _, ?_⟩
          rw [HERR.out (by rw [List.drop_of_length_le (by rw [HZ.out]; omega)]; simp)]
          rfl
      have h33' : ((m : Int) == 33) = false := by simp; omega
      have HC33 : Hid (c ≠ 33) := Lib.hid fun e => h33 (by rw [← HC.out, e]; rfl)
      by_cases h34 : m = 34
      · subst h34
        have hc34 : c = 34 := UInt8.toNat_inj.1 HC.out
        have CT := refText_any s hlen k hlt
        cases hT : LX.text (s.data.toList.drop (k + 1)) with
        | none =>
          have HERR : Hid (LX.lex s.data.toList = .error (4, k + 1)) := Lib.hid (lex_none (by rw [HZ.out]; omega) HU.out HD.out HTK.out HC32.out (by
            unfold LX.tok
            rw [if_neg HC5.out, if_neg (fun e => HC33.out e.1), if_pos hc34, hT]
            rfl))
          rw [hT] at CT
          simp only [Option.map_none, textOf] at CT
          clear hT
          go_wp2_with (go_at_call 23; refine (CT _).mono ?_; rintro e w' ⟨rfl, rfl⟩)
          go_ret3
          refine ⟨HB.out.alloc hws _, ?_⟩
          rw [HERR.out]
          rfl
        | some q =>
          obtain ⟨says, mm⟩ := q
          have hbk := LX.text_back _ _ _ _ (Nat.le_refl _) hT
          rw [List.length_drop, HZ.out] at hbk
          have hm1 := hbk.2.1
          have hm2 := hbk.2.2.1
          have HTOK : Hid (LX.tok c (s.data.toList.drop (k + 1)) = some (4, says, 0, mm + 1)) := Lib.hid (by
            unfold LX.tok
            rw [if_neg HC5.out, if_neg (fun e => HC33.out e.1), if_pos hc34, hT]
            rfl)
          rw [hT] at CT
          simp only [Option.map_some, textOf] at CT
          obtain ⟨E, hE⟩ : ∃ E, E = k + 1 + mm := ⟨_, rfl⟩
          obtain ⟨x, hx⟩ : ∃ x : ByteArray, x = ⟨says.toArray⟩ := ⟨_, rfl⟩
          rw [← hE, ← hx] at CT
          have HX : Hid (x.data.toList = says) := Lib.hid (by rw [hx])
          have hge : decide ((E : Int) < 0) = false := by simp
          clear hT hx hbk
          go_wp2_with (first | (go_at_call 23; refine (CT _).mono ?_; rintro e w' ⟨rfl, rfl⟩) | (at_builtin; refine wpList_append_rk E36 _ rfl _ _ 29 rfl (G := fun b => w.heap.size ≤ b) rfl ((Rk.lay HRK.out ((Keep.refl _ _).alloc _)).alloc _) ?c1 (.slice (some ⟨wr.heap.size + 1, 0, none⟩) 1 1) 1 (flatT [⟨4, says, 0, k + 1⟩]) rfl (src_tok _ (wr.heap.size + 1) (by simp) _ _ _ _ _ (tok_at (k := k) (kd := 4) (n := 0) HX.out)) ?c2 ?c3 ?_))
          case c1 => exact tok_c1 hws ((Keep.refl _ _).alloc _) _
          case c2 => omega
          case c3 => omega
          intro v' w2 hrk2 hk2
          obtain ⟨hr3, hb3⟩ := tok_app HB.out HRK.out ((Keep.refl _ _).alloc _) hrk2 hk2
          have HR3 := Lib.hid hr3
          have HB3 := Lib.hid hb3
          clear hrk2 hk2 hr3 hb3
          go_wp2_with fail
          go_roundw
          case rel =>
            refine ⟨k + (mm + 1), ts ++ [⟨4, says, 0, k + 1⟩], by subst hE; go_num, by omega, by rw [List.length_append, List.length_singleton]; omega, HR3.out, HB3.out, toks_at HD.out HTK.out HC32.out HTOK.out⟩
          case measure => simp [intOf]; omega
      have h34' : ((m : Int) == 34) = false := by simp; omega
      have HC34 : Hid (c ≠ 34) := Lib.hid fun e => h34 (by rw [← HC.out, e]; rfl)
      have hcase : (m = 45 ∨ (m ≠ 45 ∧ MW.ch c = true)) ∨ (m ≠ 45 ∧ MW.ch c = false) := by
        by_cases h : m = 45
        · exact .inl (.inl h)
        · cases hch : MW.ch c with
          | true => exact .inl (.inr ⟨h, rfl⟩)
          | false => exact .inr ⟨h, rfl⟩
      rcases hcase with hcase | ⟨h45, hch⟩
      · have HTOKA : Hid (LX.tok c (s.data.toList.drop (k + 1)) = (LX.kindOf (c :: LX.run (s.data.toList.drop (k + 1)))).map fun q => (q.1, c :: LX.run (s.data.toList.drop (k + 1)), q.2, (LX.run (s.data.toList.drop (k + 1))).length + 1)) := Lib.hid (by
          unfold LX.tok
          rw [if_neg HC5.out, if_neg (fun e => HC33.out e.1), if_neg HC34.out, if_pos]
          rcases hcase with rfl | ⟨_, h⟩
          · exact .inl (UInt8.toNat_inj.1 HC.out)
          · exact .inr h)
        have hlet : m ≠ 45 → ∀ w, Calls Tryd.prog 24 #[.int .u8 (m : Int)] w fun e w' => e = .returned (.bool true) ∧ w' = w := fun h w => by
          have h2 := refLetter_any c m HC.out w
          rcases hcase with h3 | ⟨_, h3⟩
          · exact absurd h3 h
          · rw [h3] at h2; exact h2
        have hcase2 : m = 45 ∨ ((m : Int) == 45) = false := by
          by_cases h : m = 45
          · exact .inl h
          · exact .inr (by simp; omega)
        have HWS := Lib.hid hws
        obtain ⟨W0, g, hW0, hg, hl0, hbox0⟩ := Box.new wr (.int .i64 0) (.string ⟨#[]⟩) (.int .i64 0) (.int .i64 ((k : Int) + 1))
        have HL0 := Lib.hid hl0
        have HBOX := Lib.hid hbox0
        have HG : Hid (wr.heap.size ≤ g) := Lib.hid (Nat.le_of_eq hg.symm)
        clear hl0 hbox0 hcase
        have hlet : ((m : Int) == 45) = false → ∀ w, Calls Tryd.prog 24 #[.int .u8 (m : Int)] w fun e w' => e = .returned (.bool true) ∧ w' = w := fun h => hlet (by intro e; subst e; simp at h)
        rcases hcase2 with rfl | h45
        · clear hlet
          go_wp2_with fail
          rw [← hW0, ← hg]
          clear hW0 hg
          go_loopw [10] (fun vj wq => ∃ p : Nat, vj = .int .i64 p ∧ k + 1 ≤ p ∧ p ≤ s.size ∧ wq = W0 ∧ LX.run (s.data.toList.drop (k + 1)) = (s.data.toList.drop (k + 1)).take (p - (k + 1)) ++ LX.run (s.data.toList.drop p)) (fun vj _ => s.size - (intOf vj).toNat)
          case atStart => exact ⟨k + 1, by go_num, Nat.le_refl _, hlt, rfl, by rw [Nat.sub_self]; rfl⟩
          case round =>
            obtain ⟨p, rfl, hp1, hp2, rfl, hrun⟩ := hrel
            have HRUN := Lib.hid hrun
            clear hrun
            by_cases hin : ∃ h : p < s.size, MW.ch s[p] = true
            · obtain ⟨hlp, hch⟩ := hin
              have HDP := Lib.hid (byte_drop s p hlp)
              obtain ⟨b, hb⟩ : ∃ b, b = s[p] := ⟨_, rfl⟩
              obtain ⟨mp, hmp⟩ : ∃ mp, s[p].toNat = mp := ⟨_, rfl⟩
              have hixp := fun w => idx_run s p mp hlp hmp w
              rw [← hb] at HDP hmp hch
              have hlet2 := fun w => refLetter_any b mp hmp w
              rw [hch] at hlet2
              have HCH := Lib.hid hch
              clear hb hmp hch
              go_wp2_with (go_at_call 24; refine (hlet2 _).mono ?_; rintro e w' ⟨rfl, rfl⟩)
              go_roundw
              case rel => exact ⟨p + 1, by go_num, by omega, by omega, by trivial, HRUN.out.trans (run_next hp1 HDP.out HCH.out)⟩
              case measure => simp [intOf]; omega
            · have HEND : Hid (LX.run (s.data.toList.drop (k + 1)) = (s.data.toList.drop (k + 1)).take (p - (k + 1))) := Lib.hid (by
                rw [HRUN.out, run_end s p fun h e => hin ⟨h, e⟩, List.append_nil])
              obtain ⟨x, hx⟩ : ∃ x, s.extract k p = x := ⟨_, rfl⟩
              obtain ⟨RUN, hRUN⟩ : ∃ RUN, RUN = LX.run (s.data.toList.drop (k + 1)) := ⟨_, rfl⟩
              have HX : Hid (x.data.toList = c :: RUN) := Lib.hid (by
                rw [← hx, Lib.extract_data, HD.out, hRUN, HEND.out]
                obtain ⟨q, rfl⟩ : ∃ q, p = k + 1 + q := ⟨p - (k + 1), by omega⟩
                rw [show k + 1 + q - k = q + 1 by omega, List.take_succ_cons, Nat.add_sub_cancel_left])
              have HLEN : Hid (p = k + (RUN.length + 1)) := Lib.hid (by
                rw [hRUN, HEND.out, List.length_take, List.length_drop, HZ.out]
                omega)
              have CN := fun w => refNumber_any x w
              have CW := fun w => isWord_any x w
              have CM : ∀ w, Calls Tryd.prog 18 #[.string x] w fun e w' => e = .returned (.bool (MW.name x.data.toList)) ∧ w = w' := fun w => (refName_any x w).mono fun _ _ h => ⟨h.1, h.2.symm⟩
              have HTOKW := Lib.hid HTOKA.out
              rw [HX.out] at CW CM CN
              rw [← hRUN] at HTOKW
              clear hRUN HRUN HEND
              obtain ⟨_, c0, c1, c2, c3, cf⟩ := HBOX.out
              have hstop : (¬ p < s.size ∧ True) ∨ ∃ (h : p < s.size) (mp : Nat), s[p].toNat = mp ∧ ∀ w, Calls Tryd.prog 24 #[.int .u8 (mp : Int)] w fun e w' => e = .returned (.bool false) ∧ w' = w := by
                by_cases h : p < s.size
                · refine .inr ⟨h, _, rfl, fun w => ?_⟩
                  have h2 := refLetter_any s[p] _ rfl w
                  rw [Bool.eq_false_iff.2 fun e => hin ⟨h, e⟩] at h2
                  exact h2
                · exact .inl ⟨h, trivial⟩
              clear hin
              cases hw : LX.isWord (c :: RUN) with
              | true =>
                rw [hw] at CW
                have HTOK : Hid (LX.tok c (s.data.toList.drop (k + 1)) = some (2, c :: RUN, 0, RUN.length + 1)) := Lib.hid (by
                  rw [HTOKW.out]; unfold LX.kindOf; rw [if_pos hw]; rfl)
                clear hw HTOKW
                rcases hstop with ⟨hlp, _⟩ | ⟨hlp, mp, hmp, hlet2⟩
                · go_wp2_with (first | (go_at_call 24; refine (hlet2 _).mono ?_; rintro e w' ⟨rfl, rfl⟩) | (go_at_call 25; refine (CN _).mono ?_; rintro e w' ⟨nv, rfl, hnv, rfl⟩; skip) | (go_at_call 13; refine (CW _).mono ?_; rintro e w4 ⟨rfl, hl4⟩; obtain ⟨_, z0, z1, z2, z3, zf⟩ := ((HBOX.out.set1 (.string x)).lay hl4)) | (go_at_call 18; refine (CM _).mono ?_; rintro e w' ⟨rfl, rfl⟩) | (at_builtin; refine wpList_append_rk E36 _ rfl _ _ 29 rfl (G := fun b => w.heap.size ≤ b) rfl ((Rk.lay HRK.out (Lay.set (Keep.trans (Lay.set HL0.out (p := ⟨g, 1, none⟩) HG.out (.string x)) hl4) (p := ⟨g, 0, none⟩) HG.out _)).alloc _) ?c1 (.slice (some ⟨w4.heap.size, 0, none⟩) 1 1) 1 (flatT [⟨2, c :: RUN, 0, k + 1⟩]) rfl (src_tok _ (w4.heap.size) (by simp) _ _ _ _ _ (tok_at (k := k) (kd := 2) (n := 0) HX.out)) ?c2 ?c3 ?_))
                  case c1 => exact tok_c1 HWS.out (Lay.set (Keep.trans (Lay.set HL0.out (p := ⟨g, 1, none⟩) HG.out (.string x)) hl4) (p := ⟨g, 0, none⟩) HG.out _) _
                  case c2 => omega
                  case c3 => omega
                  intro v' w2 hrk2 hk2
                  obtain ⟨hr3, hb3⟩ := tok_app HB.out HRK.out (Lay.set (Keep.trans (Lay.set HL0.out (p := ⟨g, 1, none⟩) HG.out (.string x)) hl4) (p := ⟨g, 0, none⟩) HG.out _) hrk2 hk2
                  have HR3 := Lib.hid hr3
                  have HB3 := Lib.hid hb3
                  clear hrk2 hk2 hr3 hb3
                  go_wp2_with fail
                  go_roundw
                  case rel =>
                    refine ⟨k + (RUN.length + 1), ts ++ [⟨2, c :: RUN, 0, k + 1⟩], by rw [← HLEN.out], by have := HLEN.out; omega, by rw [List.length_append, List.length_singleton]; omega, HR3.out, HB3.out, toks_at HD.out HTK.out HC32.out HTOK.out⟩
                  case measure => simp [intOf]; omega
                · have hixp := fun w => idx_run s p mp hlp hmp w
                  go_wp2_with (first | (go_at_call 24; refine (hlet2 _).mono ?_; rintro e w' ⟨rfl, rfl⟩) | (go_at_call 25; refine (CN _).mono ?_; rintro e w' ⟨nv, rfl, hnv, rfl⟩; skip) | (go_at_call 13; refine (CW _).mono ?_; rintro e w4 ⟨rfl, hl4⟩; obtain ⟨_, z0, z1, z2, z3, zf⟩ := ((HBOX.out.set1 (.string x)).lay hl4)) | (go_at_call 18; refine (CM _).mono ?_; rintro e w' ⟨rfl, rfl⟩) | (at_builtin; refine wpList_append_rk E36 _ rfl _ _ 29 rfl (G := fun b => w.heap.size ≤ b) rfl ((Rk.lay HRK.out (Lay.set (Keep.trans (Lay.set HL0.out (p := ⟨g, 1, none⟩) HG.out (.string x)) hl4) (p := ⟨g, 0, none⟩) HG.out _)).alloc _) ?c1 (.slice (some ⟨w4.heap.size, 0, none⟩) 1 1) 1 (flatT [⟨2, c :: RUN, 0, k + 1⟩]) rfl (src_tok _ (w4.heap.size) (by simp) _ _ _ _ _ (tok_at (k := k) (kd := 2) (n := 0) HX.out)) ?c2 ?c3 ?_))
                  case c1 => exact tok_c1 HWS.out (Lay.set (Keep.trans (Lay.set HL0.out (p := ⟨g, 1, none⟩) HG.out (.string x)) hl4) (p := ⟨g, 0, none⟩) HG.out _) _
                  case c2 => omega
                  case c3 => omega
                  intro v' w2 hrk2 hk2
                  obtain ⟨hr3, hb3⟩ := tok_app HB.out HRK.out (Lay.set (Keep.trans (Lay.set HL0.out (p := ⟨g, 1, none⟩) HG.out (.string x)) hl4) (p := ⟨g, 0, none⟩) HG.out _) hrk2 hk2
                  have HR3 := Lib.hid hr3
                  have HB3 := Lib.hid hb3
                  clear hrk2 hk2 hr3 hb3
                  go_wp2_with fail
                  go_roundw
                  case rel =>
                    refine ⟨k + (RUN.length + 1), ts ++ [⟨2, c :: RUN, 0, k + 1⟩], by rw [← HLEN.out], by have := HLEN.out; omega, by rw [List.length_append, List.length_singleton]; omega, HR3.out, HB3.out, toks_at HD.out HTK.out HC32.out HTOK.out⟩
                  case measure => simp [intOf]; omega
              | false =>
                rw [hw] at CW
                cases hnm : MW.name (c :: RUN) with
                | true =>
                  rw [hnm] at CM
                  have HTOK : Hid (LX.tok c (s.data.toList.drop (k + 1)) = some (1, c :: RUN, 0, RUN.length + 1)) := Lib.hid (by
                    rw [HTOKW.out]; unfold LX.kindOf; rw [if_neg (by simp [hw]), if_pos hnm]; rfl)
                  clear hw hnm HTOKW
                  rcases hstop with ⟨hlp, _⟩ | ⟨hlp, mp, hmp, hlet2⟩
                  · go_wp2_with (first | (go_at_call 24; refine (hlet2 _).mono ?_; rintro e w' ⟨rfl, rfl⟩) | (go_at_call 25; refine (CN _).mono ?_; rintro e w' ⟨nv, rfl, hnv, rfl⟩; skip) | (go_at_call 13; refine (CW _).mono ?_; rintro e w4 ⟨rfl, hl4⟩; obtain ⟨_, z0, z1, z2, z3, zf⟩ := ((HBOX.out.set1 (.string x)).lay hl4)) | (go_at_call 18; refine (CM _).mono ?_; rintro e w' ⟨rfl, rfl⟩) | (at_builtin; refine wpList_append_rk E36 _ rfl _ _ 29 rfl (G := fun b => w.heap.size ≤ b) rfl ((Rk.lay HRK.out (Lay.set (Keep.trans (Lay.set HL0.out (p := ⟨g, 1, none⟩) HG.out (.string x)) hl4) (p := ⟨g, 0, none⟩) HG.out _)).alloc _) ?c1 (.slice (some ⟨w4.heap.size, 0, none⟩) 1 1) 1 (flatT [⟨1, c :: RUN, 0, k + 1⟩]) rfl (src_tok _ (w4.heap.size) (by simp) _ _ _ _ _ (tok_at (k := k) (kd := 1) (n := 0) HX.out)) ?c2 ?c3 ?_))
                    case c1 => exact tok_c1 HWS.out (Lay.set (Keep.trans (Lay.set HL0.out (p := ⟨g, 1, none⟩) HG.out (.string x)) hl4) (p := ⟨g, 0, none⟩) HG.out _) _
                    case c2 => omega
                    case c3 => omega
                    intro v' w2 hrk2 hk2
                    obtain ⟨hr3, hb3⟩ := tok_app HB.out HRK.out (Lay.set (Keep.trans (Lay.set HL0.out (p := ⟨g, 1, none⟩) HG.out (.string x)) hl4) (p := ⟨g, 0, none⟩) HG.out _) hrk2 hk2
                    have HR3 := Lib.hid hr3
                    have HB3 := Lib.hid hb3
                    clear hrk2 hk2 hr3 hb3
                    go_wp2_with fail
                    go_roundw
                    case rel =>
                      refine ⟨k + (RUN.length + 1), ts ++ [⟨1, c :: RUN, 0, k + 1⟩], by rw [← HLEN.out], by have := HLEN.out; omega, by rw [List.length_append, List.length_singleton]; omega, HR3.out, HB3.out, toks_at HD.out HTK.out HC32.out HTOK.out⟩
                    case measure => simp [intOf]; omega
                  · have hixp := fun w => idx_run s p mp hlp hmp w
                    go_wp2_with (first | (go_at_call 24; refine (hlet2 _).mono ?_; rintro e w' ⟨rfl, rfl⟩) | (go_at_call 25; refine (CN _).mono ?_; rintro e w' ⟨nv, rfl, hnv, rfl⟩; skip) | (go_at_call 13; refine (CW _).mono ?_; rintro e w4 ⟨rfl, hl4⟩; obtain ⟨_, z0, z1, z2, z3, zf⟩ := ((HBOX.out.set1 (.string x)).lay hl4)) | (go_at_call 18; refine (CM _).mono ?_; rintro e w' ⟨rfl, rfl⟩) | (at_builtin; refine wpList_append_rk E36 _ rfl _ _ 29 rfl (G := fun b => w.heap.size ≤ b) rfl ((Rk.lay HRK.out (Lay.set (Keep.trans (Lay.set HL0.out (p := ⟨g, 1, none⟩) HG.out (.string x)) hl4) (p := ⟨g, 0, none⟩) HG.out _)).alloc _) ?c1 (.slice (some ⟨w4.heap.size, 0, none⟩) 1 1) 1 (flatT [⟨1, c :: RUN, 0, k + 1⟩]) rfl (src_tok _ (w4.heap.size) (by simp) _ _ _ _ _ (tok_at (k := k) (kd := 1) (n := 0) HX.out)) ?c2 ?c3 ?_))
                    case c1 => exact tok_c1 HWS.out (Lay.set (Keep.trans (Lay.set HL0.out (p := ⟨g, 1, none⟩) HG.out (.string x)) hl4) (p := ⟨g, 0, none⟩) HG.out _) _
                    case c2 => omega
                    case c3 => omega
                    intro v' w2 hrk2 hk2
                    obtain ⟨hr3, hb3⟩ := tok_app HB.out HRK.out (Lay.set (Keep.trans (Lay.set HL0.out (p := ⟨g, 1, none⟩) HG.out (.string x)) hl4) (p := ⟨g, 0, none⟩) HG.out _) hrk2 hk2
                    have HR3 := Lib.hid hr3
                    have HB3 := Lib.hid hb3
                    clear hrk2 hk2 hr3 hb3
                    go_wp2_with fail
                    go_roundw
                    case rel =>
                      refine ⟨k + (RUN.length + 1), ts ++ [⟨1, c :: RUN, 0, k + 1⟩], by rw [← HLEN.out], by have := HLEN.out; omega, by rw [List.length_append, List.length_singleton]; omega, HR3.out, HB3.out, toks_at HD.out HTK.out HC32.out HTOK.out⟩
                    case measure => simp [intOf]; omega
                | false =>
                  rw [hnm] at CM
                  cases hnu : LX.num (c :: RUN) with
                  | none =>
                    have HERR : Hid (LX.lex s.data.toList = .error (4, k + 1)) := Lib.hid (lex_none (by rw [HZ.out]; omega) HU.out HD.out HTK.out HC32.out (by
                      rw [HTOKW.out]; unfold LX.kindOf; rw [if_neg (by simp [hw]), if_neg (by simp [hnm]), hnu]; rfl))
                    have hns : (LX.num (c :: RUN)).isSome = false := by rw [hnu]; rfl
                    clear hw hnm hnu HTOKW
                    rcases hstop with ⟨hlp, _⟩ | ⟨hlp, mp, hmp, hlet2⟩
                    · go_wp2_with (first | (go_at_call 24; refine (hlet2 _).mono ?_; rintro e w' ⟨rfl, rfl⟩) | (go_at_call 25; refine (CN _).mono ?_; rintro e w' ⟨nv, rfl, hnv, rfl⟩; skip) | (go_at_call 13; refine (CW _).mono ?_; rintro e w4 ⟨rfl, hl4⟩; obtain ⟨_, z0, z1, z2, z3, zf⟩ := ((HBOX.out.set1 (.string x)).lay hl4)) | (go_at_call 18; refine (CM _).mono ?_; rintro e w' ⟨rfl, rfl⟩))
                      go_ret3
                      refine ⟨HB.out.trans ((Lay.below (Keep.trans (Lay.set HL0.out (p := ⟨g, 1, none⟩) HG.out (.string x)) hl4)).mono HWS.out), ?_⟩
                      rw [HERR.out]
                      rfl
                    · have hixp := fun w => idx_run s p mp hlp hmp w
                      go_wp2_with (first | (go_at_call 24; refine (hlet2 _).mono ?_; rintro e w' ⟨rfl, rfl⟩) | (go_at_call 25; refine (CN _).mono ?_; rintro e w' ⟨nv, rfl, hnv, rfl⟩; skip) | (go_at_call 13; refine (CW _).mono ?_; rintro e w4 ⟨rfl, hl4⟩; obtain ⟨_, z0, z1, z2, z3, zf⟩ := ((HBOX.out.set1 (.string x)).lay hl4)) | (go_at_call 18; refine (CM _).mono ?_; rintro e w' ⟨rfl, rfl⟩))
                      go_ret3
                      refine ⟨HB.out.trans ((Lay.below (Keep.trans (Lay.set HL0.out (p := ⟨g, 1, none⟩) HG.out (.string x)) hl4)).mono HWS.out), ?_⟩
                      rw [HERR.out]
                      rfl
                  | some nn =>
                    have HTOK : Hid (LX.tok c (s.data.toList.drop (k + 1)) = some (3, c :: RUN, nn, RUN.length + 1)) := Lib.hid (by
                      rw [HTOKW.out]; unfold LX.kindOf; rw [if_neg (by simp [hw]), if_neg (by simp [hnm]), hnu]; rfl)
                    have hns : (LX.num (c :: RUN)).isSome = true := by rw [hnu]; rfl
                    have HNU := Lib.hid hnu
                    clear hw hnm hnu HTOKW
                    rcases hstop with ⟨hlp, _⟩ | ⟨hlp, mp, hmp, hlet2⟩
                    · go_wp2_with (first | (go_at_call 24; refine (hlet2 _).mono ?_; rintro e w' ⟨rfl, rfl⟩) | (go_at_call 25; refine (CN _).mono ?_; rintro e w' ⟨nv, rfl, hnv, rfl⟩; obtain rfl := (hnv _ HNU.out).symm) | (go_at_call 13; refine (CW _).mono ?_; rintro e w4 ⟨rfl, hl4⟩; obtain ⟨_, z0, z1, z2, z3, zf⟩ := ((HBOX.out.set1 (.string x)).lay hl4)) | (go_at_call 18; refine (CM _).mono ?_; rintro e w' ⟨rfl, rfl⟩) | (at_builtin; refine wpList_append_rk E36 _ rfl _ _ 29 rfl (G := fun b => w.heap.size ≤ b) rfl ((Rk.lay HRK.out (Lay.set (Lay.set (Keep.trans (Lay.set HL0.out (p := ⟨g, 1, none⟩) HG.out (.string x)) hl4) (p := ⟨g, 0, none⟩) HG.out _) (p := ⟨g, 2, none⟩) HG.out _)).alloc _) ?c1 (.slice (some ⟨w4.heap.size, 0, none⟩) 1 1) 1 (flatT [⟨3, c :: RUN, nn, k + 1⟩]) rfl (src_tok _ (w4.heap.size) (by simp) _ _ _ _ _ (tok_at (k := k) (kd := 3) (n := nn) HX.out)) ?c2 ?c3 ?_))
                      case c1 => exact tok_c1 HWS.out (Lay.set (Lay.set (Keep.trans (Lay.set HL0.out (p := ⟨g, 1, none⟩) HG.out (.string x)) hl4) (p := ⟨g, 0, none⟩) HG.out _) (p := ⟨g, 2, none⟩) HG.out _) _
                      case c2 => omega
                      case c3 => omega
                      intro v' w2 hrk2 hk2
                      obtain ⟨hr3, hb3⟩ := tok_app HB.out HRK.out (Lay.set (Lay.set (Keep.trans (Lay.set HL0.out (p := ⟨g, 1, none⟩) HG.out (.string x)) hl4) (p := ⟨g, 0, none⟩) HG.out _) (p := ⟨g, 2, none⟩) HG.out _) hrk2 hk2
                      have HR3 := Lib.hid hr3
                      have HB3 := Lib.hid hb3
                      clear hrk2 hk2 hr3 hb3
                      go_wp2_with fail
                      go_roundw
                      case rel =>
                        refine ⟨k + (RUN.length + 1), ts ++ [⟨3, c :: RUN, nn, k + 1⟩], by rw [← HLEN.out], by have := HLEN.out; omega, by rw [List.length_append, List.length_singleton]; omega, HR3.out, HB3.out, toks_at HD.out HTK.out HC32.out HTOK.out⟩
                      case measure => simp [intOf]; omega
                    · have hixp := fun w => idx_run s p mp hlp hmp w
                      go_wp2_with (first | (go_at_call 24; refine (hlet2 _).mono ?_; rintro e w' ⟨rfl, rfl⟩) | (go_at_call 25; refine (CN _).mono ?_; rintro e w' ⟨nv, rfl, hnv, rfl⟩; obtain rfl := (hnv _ HNU.out).symm) | (go_at_call 13; refine (CW _).mono ?_; rintro e w4 ⟨rfl, hl4⟩; obtain ⟨_, z0, z1, z2, z3, zf⟩ := ((HBOX.out.set1 (.string x)).lay hl4)) | (go_at_call 18; refine (CM _).mono ?_; rintro e w' ⟨rfl, rfl⟩) | (at_builtin; refine wpList_append_rk E36 _ rfl _ _ 29 rfl (G := fun b => w.heap.size ≤ b) rfl ((Rk.lay HRK.out (Lay.set (Lay.set (Keep.trans (Lay.set HL0.out (p := ⟨g, 1, none⟩) HG.out (.string x)) hl4) (p := ⟨g, 0, none⟩) HG.out _) (p := ⟨g, 2, none⟩) HG.out _)).alloc _) ?c1 (.slice (some ⟨w4.heap.size, 0, none⟩) 1 1) 1 (flatT [⟨3, c :: RUN, nn, k + 1⟩]) rfl (src_tok _ (w4.heap.size) (by simp) _ _ _ _ _ (tok_at (k := k) (kd := 3) (n := nn) HX.out)) ?c2 ?c3 ?_))
                      case c1 => exact tok_c1 HWS.out (Lay.set (Lay.set (Keep.trans (Lay.set HL0.out (p := ⟨g, 1, none⟩) HG.out (.string x)) hl4) (p := ⟨g, 0, none⟩) HG.out _) (p := ⟨g, 2, none⟩) HG.out _) _
                      case c2 => omega
                      case c3 => omega
                      intro v' w2 hrk2 hk2
                      obtain ⟨hr3, hb3⟩ := tok_app HB.out HRK.out (Lay.set (Lay.set (Keep.trans (Lay.set HL0.out (p := ⟨g, 1, none⟩) HG.out (.string x)) hl4) (p := ⟨g, 0, none⟩) HG.out _) (p := ⟨g, 2, none⟩) HG.out _) hrk2 hk2
                      have HR3 := Lib.hid hr3
                      have HB3 := Lib.hid hb3
                      clear hrk2 hk2 hr3 hb3
                      go_wp2_with fail
                      go_roundw
                      case rel =>
                        refine ⟨k + (RUN.length + 1), ts ++ [⟨3, c :: RUN, nn, k + 1⟩], by rw [← HLEN.out], by have := HLEN.out; omega, by rw [List.length_append, List.length_singleton]; omega, HR3.out, HB3.out, toks_at HD.out HTK.out HC32.out HTOK.out⟩
                      case measure => simp [intOf]; omega
        · replace hlet := hlet h45
          go_wp2_with (go_at_call 24; refine (hlet _).mono ?_; rintro e w' ⟨rfl, rfl⟩)
          rw [← hW0, ← hg]
          clear hW0 hg
          go_loopw [10] (fun vj wq => ∃ p : Nat, vj = .int .i64 p ∧ k + 1 ≤ p ∧ p ≤ s.size ∧ wq = W0 ∧ LX.run (s.data.toList.drop (k + 1)) = (s.data.toList.drop (k + 1)).take (p - (k + 1)) ++ LX.run (s.data.toList.drop p)) (fun vj _ => s.size - (intOf vj).toNat)
          case atStart => exact ⟨k + 1, by go_num, Nat.le_refl _, hlt, rfl, by rw [Nat.sub_self]; rfl⟩
          case round =>
            obtain ⟨p, rfl, hp1, hp2, rfl, hrun⟩ := hrel
            have HRUN := Lib.hid hrun
            clear hrun
            by_cases hin : ∃ h : p < s.size, MW.ch s[p] = true
            · obtain ⟨hlp, hch⟩ := hin
              have HDP := Lib.hid (byte_drop s p hlp)
              obtain ⟨b, hb⟩ : ∃ b, b = s[p] := ⟨_, rfl⟩
              obtain ⟨mp, hmp⟩ : ∃ mp, s[p].toNat = mp := ⟨_, rfl⟩
              have hixp := fun w => idx_run s p mp hlp hmp w
              rw [← hb] at HDP hmp hch
              have hlet2 := fun w => refLetter_any b mp hmp w
              rw [hch] at hlet2
              have HCH := Lib.hid hch
              clear hb hmp hch
              go_wp2_with (go_at_call 24; refine (hlet2 _).mono ?_; rintro e w' ⟨rfl, rfl⟩)
              go_roundw
              case rel => exact ⟨p + 1, by go_num, by omega, by omega, by trivial, HRUN.out.trans (run_next hp1 HDP.out HCH.out)⟩
              case measure => simp [intOf]; omega
            · have HEND : Hid (LX.run (s.data.toList.drop (k + 1)) = (s.data.toList.drop (k + 1)).take (p - (k + 1))) := Lib.hid (by
                rw [HRUN.out, run_end s p fun h e => hin ⟨h, e⟩, List.append_nil])
              obtain ⟨x, hx⟩ : ∃ x, s.extract k p = x := ⟨_, rfl⟩
              obtain ⟨RUN, hRUN⟩ : ∃ RUN, RUN = LX.run (s.data.toList.drop (k + 1)) := ⟨_, rfl⟩
              have HX : Hid (x.data.toList = c :: RUN) := Lib.hid (by
                rw [← hx, Lib.extract_data, HD.out, hRUN, HEND.out]
                obtain ⟨q, rfl⟩ : ∃ q, p = k + 1 + q := ⟨p - (k + 1), by omega⟩
                rw [show k + 1 + q - k = q + 1 by omega, List.take_succ_cons, Nat.add_sub_cancel_left])
              have HLEN : Hid (p = k + (RUN.length + 1)) := Lib.hid (by
                rw [hRUN, HEND.out, List.length_take, List.length_drop, HZ.out]
                omega)
              have CN := fun w => refNumber_any x w
              have CW := fun w => isWord_any x w
              have CM : ∀ w, Calls Tryd.prog 18 #[.string x] w fun e w' => e = .returned (.bool (MW.name x.data.toList)) ∧ w = w' := fun w => (refName_any x w).mono fun _ _ h => ⟨h.1, h.2.symm⟩
              have HTOKW := Lib.hid HTOKA.out
              rw [HX.out] at CW CM CN
              rw [← hRUN] at HTOKW
              clear hRUN HRUN HEND
              obtain ⟨_, c0, c1, c2, c3, cf⟩ := HBOX.out
              have hstop : (¬ p < s.size ∧ True) ∨ ∃ (h : p < s.size) (mp : Nat), s[p].toNat = mp ∧ ∀ w, Calls Tryd.prog 24 #[.int .u8 (mp : Int)] w fun e w' => e = .returned (.bool false) ∧ w' = w := by
                by_cases h : p < s.size
                · refine .inr ⟨h, _, rfl, fun w => ?_⟩
                  have h2 := refLetter_any s[p] _ rfl w
                  rw [Bool.eq_false_iff.2 fun e => hin ⟨h, e⟩] at h2
                  exact h2
                · exact .inl ⟨h, trivial⟩
              clear hin
              cases hw : LX.isWord (c :: RUN) with
              | true =>
                rw [hw] at CW
                have HTOK : Hid (LX.tok c (s.data.toList.drop (k + 1)) = some (2, c :: RUN, 0, RUN.length + 1)) := Lib.hid (by
                  rw [HTOKW.out]; unfold LX.kindOf; rw [if_pos hw]; rfl)
                clear hw HTOKW
                rcases hstop with ⟨hlp, _⟩ | ⟨hlp, mp, hmp, hlet2⟩
                · go_wp2_with (first | (go_at_call 24; refine (hlet2 _).mono ?_; rintro e w' ⟨rfl, rfl⟩) | (go_at_call 25; refine (CN _).mono ?_; rintro e w' ⟨nv, rfl, hnv, rfl⟩; skip) | (go_at_call 13; refine (CW _).mono ?_; rintro e w4 ⟨rfl, hl4⟩; obtain ⟨_, z0, z1, z2, z3, zf⟩ := ((HBOX.out.set1 (.string x)).lay hl4)) | (go_at_call 18; refine (CM _).mono ?_; rintro e w' ⟨rfl, rfl⟩) | (at_builtin; refine wpList_append_rk E36 _ rfl _ _ 29 rfl (G := fun b => w.heap.size ≤ b) rfl ((Rk.lay HRK.out (Lay.set (Keep.trans (Lay.set HL0.out (p := ⟨g, 1, none⟩) HG.out (.string x)) hl4) (p := ⟨g, 0, none⟩) HG.out _)).alloc _) ?c1 (.slice (some ⟨w4.heap.size, 0, none⟩) 1 1) 1 (flatT [⟨2, c :: RUN, 0, k + 1⟩]) rfl (src_tok _ (w4.heap.size) (by simp) _ _ _ _ _ (tok_at (k := k) (kd := 2) (n := 0) HX.out)) ?c2 ?c3 ?_))
                  case c1 => exact tok_c1 HWS.out (Lay.set (Keep.trans (Lay.set HL0.out (p := ⟨g, 1, none⟩) HG.out (.string x)) hl4) (p := ⟨g, 0, none⟩) HG.out _) _
                  case c2 => omega
                  case c3 => omega
                  intro v' w2 hrk2 hk2
                  obtain ⟨hr3, hb3⟩ := tok_app HB.out HRK.out (Lay.set (Keep.trans (Lay.set HL0.out (p := ⟨g, 1, none⟩) HG.out (.string x)) hl4) (p := ⟨g, 0, none⟩) HG.out _) hrk2 hk2
                  have HR3 := Lib.hid hr3
                  have HB3 := Lib.hid hb3
                  clear hrk2 hk2 hr3 hb3
                  go_wp2_with fail
                  go_roundw
                  case rel =>
                    refine ⟨k + (RUN.length + 1), ts ++ [⟨2, c :: RUN, 0, k + 1⟩], by rw [← HLEN.out], by have := HLEN.out; omega, by rw [List.length_append, List.length_singleton]; omega, HR3.out, HB3.out, toks_at HD.out HTK.out HC32.out HTOK.out⟩
                  case measure => simp [intOf]; omega
                · have hixp := fun w => idx_run s p mp hlp hmp w
                  go_wp2_with (first | (go_at_call 24; refine (hlet2 _).mono ?_; rintro e w' ⟨rfl, rfl⟩) | (go_at_call 25; refine (CN _).mono ?_; rintro e w' ⟨nv, rfl, hnv, rfl⟩; skip) | (go_at_call 13; refine (CW _).mono ?_; rintro e w4 ⟨rfl, hl4⟩; obtain ⟨_, z0, z1, z2, z3, zf⟩ := ((HBOX.out.set1 (.string x)).lay hl4)) | (go_at_call 18; refine (CM _).mono ?_; rintro e w' ⟨rfl, rfl⟩) | (at_builtin; refine wpList_append_rk E36 _ rfl _ _ 29 rfl (G := fun b => w.heap.size ≤ b) rfl ((Rk.lay HRK.out (Lay.set (Keep.trans (Lay.set HL0.out (p := ⟨g, 1, none⟩) HG.out (.string x)) hl4) (p := ⟨g, 0, none⟩) HG.out _)).alloc _) ?c1 (.slice (some ⟨w4.heap.size, 0, none⟩) 1 1) 1 (flatT [⟨2, c :: RUN, 0, k + 1⟩]) rfl (src_tok _ (w4.heap.size) (by simp) _ _ _ _ _ (tok_at (k := k) (kd := 2) (n := 0) HX.out)) ?c2 ?c3 ?_))
                  case c1 => exact tok_c1 HWS.out (Lay.set (Keep.trans (Lay.set HL0.out (p := ⟨g, 1, none⟩) HG.out (.string x)) hl4) (p := ⟨g, 0, none⟩) HG.out _) _
                  case c2 => omega
                  case c3 => omega
                  intro v' w2 hrk2 hk2
                  obtain ⟨hr3, hb3⟩ := tok_app HB.out HRK.out (Lay.set (Keep.trans (Lay.set HL0.out (p := ⟨g, 1, none⟩) HG.out (.string x)) hl4) (p := ⟨g, 0, none⟩) HG.out _) hrk2 hk2
                  have HR3 := Lib.hid hr3
                  have HB3 := Lib.hid hb3
                  clear hrk2 hk2 hr3 hb3
                  go_wp2_with fail
                  go_roundw
                  case rel =>
                    refine ⟨k + (RUN.length + 1), ts ++ [⟨2, c :: RUN, 0, k + 1⟩], by rw [← HLEN.out], by have := HLEN.out; omega, by rw [List.length_append, List.length_singleton]; omega, HR3.out, HB3.out, toks_at HD.out HTK.out HC32.out HTOK.out⟩
                  case measure => simp [intOf]; omega
              | false =>
                rw [hw] at CW
                cases hnm : MW.name (c :: RUN) with
                | true =>
                  rw [hnm] at CM
                  have HTOK : Hid (LX.tok c (s.data.toList.drop (k + 1)) = some (1, c :: RUN, 0, RUN.length + 1)) := Lib.hid (by
                    rw [HTOKW.out]; unfold LX.kindOf; rw [if_neg (by simp [hw]), if_pos hnm]; rfl)
                  clear hw hnm HTOKW
                  rcases hstop with ⟨hlp, _⟩ | ⟨hlp, mp, hmp, hlet2⟩
                  · go_wp2_with (first | (go_at_call 24; refine (hlet2 _).mono ?_; rintro e w' ⟨rfl, rfl⟩) | (go_at_call 25; refine (CN _).mono ?_; rintro e w' ⟨nv, rfl, hnv, rfl⟩; skip) | (go_at_call 13; refine (CW _).mono ?_; rintro e w4 ⟨rfl, hl4⟩; obtain ⟨_, z0, z1, z2, z3, zf⟩ := ((HBOX.out.set1 (.string x)).lay hl4)) | (go_at_call 18; refine (CM _).mono ?_; rintro e w' ⟨rfl, rfl⟩) | (at_builtin; refine wpList_append_rk E36 _ rfl _ _ 29 rfl (G := fun b => w.heap.size ≤ b) rfl ((Rk.lay HRK.out (Lay.set (Keep.trans (Lay.set HL0.out (p := ⟨g, 1, none⟩) HG.out (.string x)) hl4) (p := ⟨g, 0, none⟩) HG.out _)).alloc _) ?c1 (.slice (some ⟨w4.heap.size, 0, none⟩) 1 1) 1 (flatT [⟨1, c :: RUN, 0, k + 1⟩]) rfl (src_tok _ (w4.heap.size) (by simp) _ _ _ _ _ (tok_at (k := k) (kd := 1) (n := 0) HX.out)) ?c2 ?c3 ?_))
                    case c1 => exact tok_c1 HWS.out (Lay.set (Keep.trans (Lay.set HL0.out (p := ⟨g, 1, none⟩) HG.out (.string x)) hl4) (p := ⟨g, 0, none⟩) HG.out _) _
                    case c2 => omega
                    case c3 => omega
                    intro v' w2 hrk2 hk2
                    obtain ⟨hr3, hb3⟩ := tok_app HB.out HRK.out (Lay.set (Keep.trans (Lay.set HL0.out (p := ⟨g, 1, none⟩) HG.out (.string x)) hl4) (p := ⟨g, 0, none⟩) HG.out _) hrk2 hk2
                    have HR3 := Lib.hid hr3
                    have HB3 := Lib.hid hb3
                    clear hrk2 hk2 hr3 hb3
                    go_wp2_with fail
                    go_roundw
                    case rel =>
                      refine ⟨k + (RUN.length + 1), ts ++ [⟨1, c :: RUN, 0, k + 1⟩], by rw [← HLEN.out], by have := HLEN.out; omega, by rw [List.length_append, List.length_singleton]; omega, HR3.out, HB3.out, toks_at HD.out HTK.out HC32.out HTOK.out⟩
                    case measure => simp [intOf]; omega
                  · have hixp := fun w => idx_run s p mp hlp hmp w
                    go_wp2_with (first | (go_at_call 24; refine (hlet2 _).mono ?_; rintro e w' ⟨rfl, rfl⟩) | (go_at_call 25; refine (CN _).mono ?_; rintro e w' ⟨nv, rfl, hnv, rfl⟩; skip) | (go_at_call 13; refine (CW _).mono ?_; rintro e w4 ⟨rfl, hl4⟩; obtain ⟨_, z0, z1, z2, z3, zf⟩ := ((HBOX.out.set1 (.string x)).lay hl4)) | (go_at_call 18; refine (CM _).mono ?_; rintro e w' ⟨rfl, rfl⟩) | (at_builtin; refine wpList_append_rk E36 _ rfl _ _ 29 rfl (G := fun b => w.heap.size ≤ b) rfl ((Rk.lay HRK.out (Lay.set (Keep.trans (Lay.set HL0.out (p := ⟨g, 1, none⟩) HG.out (.string x)) hl4) (p := ⟨g, 0, none⟩) HG.out _)).alloc _) ?c1 (.slice (some ⟨w4.heap.size, 0, none⟩) 1 1) 1 (flatT [⟨1, c :: RUN, 0, k + 1⟩]) rfl (src_tok _ (w4.heap.size) (by simp) _ _ _ _ _ (tok_at (k := k) (kd := 1) (n := 0) HX.out)) ?c2 ?c3 ?_))
                    case c1 => exact tok_c1 HWS.out (Lay.set (Keep.trans (Lay.set HL0.out (p := ⟨g, 1, none⟩) HG.out (.string x)) hl4) (p := ⟨g, 0, none⟩) HG.out _) _
                    case c2 => omega
                    case c3 => omega
                    intro v' w2 hrk2 hk2
                    obtain ⟨hr3, hb3⟩ := tok_app HB.out HRK.out (Lay.set (Keep.trans (Lay.set HL0.out (p := ⟨g, 1, none⟩) HG.out (.string x)) hl4) (p := ⟨g, 0, none⟩) HG.out _) hrk2 hk2
                    have HR3 := Lib.hid hr3
                    have HB3 := Lib.hid hb3
                    clear hrk2 hk2 hr3 hb3
                    go_wp2_with fail
                    go_roundw
                    case rel =>
                      refine ⟨k + (RUN.length + 1), ts ++ [⟨1, c :: RUN, 0, k + 1⟩], by rw [← HLEN.out], by have := HLEN.out; omega, by rw [List.length_append, List.length_singleton]; omega, HR3.out, HB3.out, toks_at HD.out HTK.out HC32.out HTOK.out⟩
                    case measure => simp [intOf]; omega
                | false =>
                  rw [hnm] at CM
                  cases hnu : LX.num (c :: RUN) with
                  | none =>
                    have HERR : Hid (LX.lex s.data.toList = .error (4, k + 1)) := Lib.hid (lex_none (by rw [HZ.out]; omega) HU.out HD.out HTK.out HC32.out (by
                      rw [HTOKW.out]; unfold LX.kindOf; rw [if_neg (by simp [hw]), if_neg (by simp [hnm]), hnu]; rfl))
                    have hns : (LX.num (c :: RUN)).isSome = false := by rw [hnu]; rfl
                    clear hw hnm hnu HTOKW
                    rcases hstop with ⟨hlp, _⟩ | ⟨hlp, mp, hmp, hlet2⟩
                    · go_wp2_with (first | (go_at_call 24; refine (hlet2 _).mono ?_; rintro e w' ⟨rfl, rfl⟩) | (go_at_call 25; refine (CN _).mono ?_; rintro e w' ⟨nv, rfl, hnv, rfl⟩; skip) | (go_at_call 13; refine (CW _).mono ?_; rintro e w4 ⟨rfl, hl4⟩; obtain ⟨_, z0, z1, z2, z3, zf⟩ := ((HBOX.out.set1 (.string x)).lay hl4)) | (go_at_call 18; refine (CM _).mono ?_; rintro e w' ⟨rfl, rfl⟩))
                      go_ret3
                      refine ⟨HB.out.trans ((Lay.below (Keep.trans (Lay.set HL0.out (p := ⟨g, 1, none⟩) HG.out (.string x)) hl4)).mono HWS.out), ?_⟩
                      rw [HERR.out]
                      rfl
                    · have hixp := fun w => idx_run s p mp hlp hmp w
                      go_wp2_with (first | (go_at_call 24; refine (hlet2 _).mono ?_; rintro e w' ⟨rfl, rfl⟩) | (go_at_call 25; refine (CN _).mono ?_; rintro e w' ⟨nv, rfl, hnv, rfl⟩; skip) | (go_at_call 13; refine (CW _).mono ?_; rintro e w4 ⟨rfl, hl4⟩; obtain ⟨_, z0, z1, z2, z3, zf⟩ := ((HBOX.out.set1 (.string x)).lay hl4)) | (go_at_call 18; refine (CM _).mono ?_; rintro e w' ⟨rfl, rfl⟩))
                      go_ret3
                      refine ⟨HB.out.trans ((Lay.below (Keep.trans (Lay.set HL0.out (p := ⟨g, 1, none⟩) HG.out (.string x)) hl4)).mono HWS.out), ?_⟩
                      rw [HERR.out]
                      rfl
                  | some nn =>
                    have HTOK : Hid (LX.tok c (s.data.toList.drop (k + 1)) = some (3, c :: RUN, nn, RUN.length + 1)) := Lib.hid (by
                      rw [HTOKW.out]; unfold LX.kindOf; rw [if_neg (by simp [hw]), if_neg (by simp [hnm]), hnu]; rfl)
                    have hns : (LX.num (c :: RUN)).isSome = true := by rw [hnu]; rfl
                    have HNU := Lib.hid hnu
                    clear hw hnm hnu HTOKW
                    rcases hstop with ⟨hlp, _⟩ | ⟨hlp, mp, hmp, hlet2⟩
                    · go_wp2_with (first | (go_at_call 24; refine (hlet2 _).mono ?_; rintro e w' ⟨rfl, rfl⟩) | (go_at_call 25; refine (CN _).mono ?_; rintro e w' ⟨nv, rfl, hnv, rfl⟩; obtain rfl := (hnv _ HNU.out).symm) | (go_at_call 13; refine (CW _).mono ?_; rintro e w4 ⟨rfl, hl4⟩; obtain ⟨_, z0, z1, z2, z3, zf⟩ := ((HBOX.out.set1 (.string x)).lay hl4)) | (go_at_call 18; refine (CM _).mono ?_; rintro e w' ⟨rfl, rfl⟩) | (at_builtin; refine wpList_append_rk E36 _ rfl _ _ 29 rfl (G := fun b => w.heap.size ≤ b) rfl ((Rk.lay HRK.out (Lay.set (Lay.set (Keep.trans (Lay.set HL0.out (p := ⟨g, 1, none⟩) HG.out (.string x)) hl4) (p := ⟨g, 0, none⟩) HG.out _) (p := ⟨g, 2, none⟩) HG.out _)).alloc _) ?c1 (.slice (some ⟨w4.heap.size, 0, none⟩) 1 1) 1 (flatT [⟨3, c :: RUN, nn, k + 1⟩]) rfl (src_tok _ (w4.heap.size) (by simp) _ _ _ _ _ (tok_at (k := k) (kd := 3) (n := nn) HX.out)) ?c2 ?c3 ?_))
                      case c1 => exact tok_c1 HWS.out (Lay.set (Lay.set (Keep.trans (Lay.set HL0.out (p := ⟨g, 1, none⟩) HG.out (.string x)) hl4) (p := ⟨g, 0, none⟩) HG.out _) (p := ⟨g, 2, none⟩) HG.out _) _
                      case c2 => omega
                      case c3 => omega
                      intro v' w2 hrk2 hk2
                      obtain ⟨hr3, hb3⟩ := tok_app HB.out HRK.out (Lay.set (Lay.set (Keep.trans (Lay.set HL0.out (p := ⟨g, 1, none⟩) HG.out (.string x)) hl4) (p := ⟨g, 0, none⟩) HG.out _) (p := ⟨g, 2, none⟩) HG.out _) hrk2 hk2
                      have HR3 := Lib.hid hr3
                      have HB3 := Lib.hid hb3
                      clear hrk2 hk2 hr3 hb3
                      go_wp2_with fail
                      go_roundw
                      case rel =>
                        refine ⟨k + (RUN.length + 1), ts ++ [⟨3, c :: RUN, nn, k + 1⟩], by rw [← HLEN.out], by have := HLEN.out; omega, by rw [List.length_append, List.length_singleton]; omega, HR3.out, HB3.out, toks_at HD.out HTK.out HC32.out HTOK.out⟩
                      case measure => simp [intOf]; omega
                    · have hixp := fun w => idx_run s p mp hlp hmp w
                      go_wp2_with (first | (go_at_call 24; refine (hlet2 _).mono ?_; rintro e w' ⟨rfl, rfl⟩) | (go_at_call 25; refine (CN _).mono ?_; rintro e w' ⟨nv, rfl, hnv, rfl⟩; obtain rfl := (hnv _ HNU.out).symm) | (go_at_call 13; refine (CW _).mono ?_; rintro e w4 ⟨rfl, hl4⟩; obtain ⟨_, z0, z1, z2, z3, zf⟩ := ((HBOX.out.set1 (.string x)).lay hl4)) | (go_at_call 18; refine (CM _).mono ?_; rintro e w' ⟨rfl, rfl⟩) | (at_builtin; refine wpList_append_rk E36 _ rfl _ _ 29 rfl (G := fun b => w.heap.size ≤ b) rfl ((Rk.lay HRK.out (Lay.set (Lay.set (Keep.trans (Lay.set HL0.out (p := ⟨g, 1, none⟩) HG.out (.string x)) hl4) (p := ⟨g, 0, none⟩) HG.out _) (p := ⟨g, 2, none⟩) HG.out _)).alloc _) ?c1 (.slice (some ⟨w4.heap.size, 0, none⟩) 1 1) 1 (flatT [⟨3, c :: RUN, nn, k + 1⟩]) rfl (src_tok _ (w4.heap.size) (by simp) _ _ _ _ _ (tok_at (k := k) (kd := 3) (n := nn) HX.out)) ?c2 ?c3 ?_))
                      case c1 => exact tok_c1 HWS.out (Lay.set (Lay.set (Keep.trans (Lay.set HL0.out (p := ⟨g, 1, none⟩) HG.out (.string x)) hl4) (p := ⟨g, 0, none⟩) HG.out _) (p := ⟨g, 2, none⟩) HG.out _) _
                      case c2 => omega
                      case c3 => omega
                      intro v' w2 hrk2 hk2
                      obtain ⟨hr3, hb3⟩ := tok_app HB.out HRK.out (Lay.set (Lay.set (Keep.trans (Lay.set HL0.out (p := ⟨g, 1, none⟩) HG.out (.string x)) hl4) (p := ⟨g, 0, none⟩) HG.out _) (p := ⟨g, 2, none⟩) HG.out _) hrk2 hk2
                      have HR3 := Lib.hid hr3
                      have HB3 := Lib.hid hb3
                      clear hrk2 hk2 hr3 hb3
                      go_wp2_with fail
                      go_roundw
                      case rel =>
                        refine ⟨k + (RUN.length + 1), ts ++ [⟨3, c :: RUN, nn, k + 1⟩], by rw [← HLEN.out], by have := HLEN.out; omega, by rw [List.length_append, List.length_singleton]; omega, HR3.out, HB3.out, toks_at HD.out HTK.out HC32.out HTOK.out⟩
                      case measure => simp [intOf]; omega
      · have h45' : ((m : Int) == 45) = false := by simp; omega
        have HERR : Hid (LX.lex s.data.toList = .error (4, k + 1)) := Lib.hid (lex_none (by rw [HZ.out]; omega) HU.out HD.out HTK.out HC32.out (by
          unfold LX.tok
          rw [if_neg HC5.out, if_neg (fun e => HC33.out e.1), if_neg HC34.out, if_neg]
          rintro (e | e)
          · exact h45 (by rw [← HC.out, e]; rfl)
          · rw [hch] at e; cases e))
        have hlet := fun w => refLetter_any c m HC.out w
        rw [hch] at hlet
        clear hch
        go_wp2_with (go_at_call 24; refine (hlet _).mono ?_; rintro e w' ⟨rfl, rfl⟩)
        go_ret3
        refine ⟨HB.out.alloc hws _, ?_⟩
        rw [HERR.out]
        rfl
    · obtain rfl : k = s.size := by omega
      have HFIN : Hid (LX.lex s.data.toList = .ok (ts ++ [⟨0, [], 0, s.size + 1⟩])) := Lib.hid (by
        rw [LX.lex_u8 (by rw [HZ.out]; omega) HU.out, HTK.out, List.drop_of_length_le (by rw [HZ.out]; exact Nat.le_refl _), LX.toks_nil, HZ.out]
        simp [Except.map])
      go_wp2_with (at_builtin; refine wpList_append_rk E36 _ rfl _ _ 29 rfl (G := fun b => w.heap.size ≤ b) rfl (HRK.out.alloc _) ?c1 (.slice (some ⟨wr.heap.size, 0, none⟩) 1 1) 1 (flatT [⟨0, [], 0, s.size + 1⟩]) rfl (src_tok _ (wr.heap.size) rfl _ _ _ _ _ (tok_at (k := s.size) (kd := 0) (n := 0) (x := ⟨#[]⟩) rfl)) ?c2 ?c3 ?_)
      case c1 => exact tok_c1 hws (Keep.refl _ _) _
      case c2 => omega
      case c3 => omega
      intro v' w2 hrk2 hk2
      obtain ⟨hr3, hb3⟩ := tok_app HB.out HRK.out (Keep.refl _ _) hrk2 hk2
      have HR3 := Lib.hid hr3
      have HB3 := Lib.hid hb3
      clear hrk2 hk2 hr3 hb3
      go_wp2_with fail
      go_ret3
      refine ⟨HB3.out, ?_⟩
      rw [HFIN.out]
      exact ⟨_, rfl, HR3.out⟩

end Go.Proofs.YtpchlnikcdhklaaDoor
