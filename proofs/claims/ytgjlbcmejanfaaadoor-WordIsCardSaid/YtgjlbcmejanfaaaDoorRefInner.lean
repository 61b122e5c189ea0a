/-
  magpieref03.Inner: THE DOCUMENT's INNER WORDS OF A TEXT.
-/
import Derived.Test.YtgjlbcmejanfaaaDoorRefWords
namespace Go.Proofs.YtgjlbcmejanfaaaDoor
open Go.RowKit Go Go.Shelf

attribute [local go_sem] Oper.semAt_some wide_fn wide_depth

/-- The inner ones of the first k words. -/
def innerTo (s : ByteArray) (ps : List (Nat × Nat)) (k : Nat) : List ByteArray := ((ps.take k).filter (M.within s.data.toList)).map (pc s)
theorem innerTo_in {s : ByteArray} {ps : List (Nat × Nat)} {k : Nat} {p : Nat × Nat} (hk : k < ps.length) (hp : p = ps[k]) (h : M.within s.data.toList p = true) : innerTo s ps (k + 1) = innerTo s ps k ++ [pc s p] := by
  unfold innerTo
  rw [List.take_succ_eq_append_getElem hk, ← hp, List.filter_append, List.map_append]
  congr 1
  simp [List.filter_cons, h]
theorem innerTo_out {s : ByteArray} {ps : List (Nat × Nat)} {k : Nat} {p : Nat × Nat} (hk : k < ps.length) (hp : p = ps[k]) (h : M.within s.data.toList p = false) : innerTo s ps (k + 1) = innerTo s ps k := by
  unfold innerTo
  rw [List.take_succ_eq_append_getElem hk, ← hp, List.filter_append]
  simp [List.filter_cons, h]
theorem innerTo_length (s : ByteArray) (ps : List (Nat × Nat)) (k : Nat) : (innerTo s ps k).length ≤ ps.length := by
  unfold innerTo
  rw [List.length_map]
  have h1 := List.length_filter_le (M.within s.data.toList) (ps.take k)
  have h2 : (ps.take k).length ≤ ps.length := by rw [List.length_take]; omega
  omega

set_option maxHeartbeats 4000000 in
set_option maxRecDepth 100000 in
theorem refInner_any (s : ByteArray) (hlen : s.size ≤ 1048576) (w : World) (hT : Lib.Utf8Tabs 1 2 w) :
    Calls Tryd.prog 7 #[.string s] w fun e w' => ∃ v, e = .returned v ∧ Rs (From w.heap.size) w' v (strs (innerB s)) ∧ Below w.heap.size w w' := by
  obtain ⟨i9, E9⟩ := elem9
  obtain ⟨ps, hps⟩ : ∃ ps, ps = M.places s.data.toList := ⟨_, rfl⟩
  have HPS := Lib.hid hps
  have hwl : ps.length ≤ 1048576 := by
    have := wordsB_length s
    unfold wordsB at this
    rw [List.length_map, ← hps] at this
    omega
  have HW : Hid (innerB s = innerTo s ps ps.length) := by
    show innerB s = innerTo s ps ps.length
    unfold innerTo
    rw [List.take_length, hps]; rfl
  have HF : Hid (∀ p ∈ ps, M.Fits s.data.toList p) := by
    show ∀ p ∈ ps, M.Fits s.data.toList p
    rw [hps]; exact M.places_fits _
  clear hps
  go_enter Tryd.func7, Tryd.ntmps7
  go_wp2_with fail
  refine (refPlaces_any s hlen w hT).mono ?_
  rintro e w1 ⟨Lv, rfl, hL, hb1⟩
  rw [← HPS.out] at hL
  obtain ⟨aL, cL, hLv⟩ := hL.shape
  obtain ⟨n2, hn2⟩ : ∃ n2, n2 = 2 * ps.length := ⟨_, rfl⟩
  rw [ints_length, flat_length, ← hn2] at hLv
  subst hLv
  have HN2 := Lib.hid hn2
  have H0 : Hid (TwoRows w w1.heap.size (.slice none 0 0) (.slice aL n2 cL) (innerTo s ps 0) ps w1) := Lib.hid ⟨hb1.size, Rs.nil _ _, hL.mono (fun k h ha => ⟨h, (hL.at ha).2⟩), hb1, Nat.le_refl _⟩
  have hn2b : n2 ≤ 2097152 := by omega
  clear hL hb1 hn2
  go_wp2_with fail
  go_loopw [3, 5] (fun v vi wr => ∃ k : Nat, vi = .int .i64 ((2 * k : Nat) : Int) ∧ k ≤ ps.length ∧ TwoRows w w1.heap.size v (.slice aL n2 cL) (innerTo s ps k) ps wr) (fun _ vi _ => n2 - (intOf vi).toNat)
  case atStart => exact ⟨0, rfl, Nat.zero_le _, H0.out⟩
  case round =>
    obtain ⟨k, rfl, hk, hr⟩ := hrel
    obtain ⟨v, hv⟩ : ∃ v, v = u3 := ⟨_, rfl⟩
    subst hv
    obtain ⟨i, hi⟩ : ∃ i, i = 2 * k := ⟨_, rfl⟩
    rw [← hi]
    have HI := Lib.hid hi
    have HR := Lib.hid hr
    by_cases hkn : k < ps.length
    · have hlt : i < n2 := by rw [HN2.out, hi]; omega
      have hlt1 : i + 1 < n2 := by rw [HN2.out, hi]; omega
      obtain ⟨g, c, hgc⟩ := hr.2.2.1.int_block (by rw [flat_length]; omega)
      obtain rfl : aL = some ⟨g, 0, none⟩ := by injection hgc
      obtain ⟨⟨a, b⟩, hab⟩ : ∃ p, p = ps[k] := ⟨_, rfl⟩
      obtain ⟨hg1, hg2⟩ := flat_get ps k hkn
      rw [← hab] at hg1 hg2
      have hc1 := hr.2.2.1.at_int _ _ hg1
      have hc2 := hr.2.2.1.at_int _ _ hg2
      rw [← hi] at hc1 hc2
      have hfit := HF.out (a, b) (by rw [hab]; exact List.getElem_mem hkn)
      have hf2 : b ≤ s.size := hfit.2
      have hf1 : a ≤ b := Nat.le_of_lt hfit.1
      have hsl : s.data.toList.length = s.size := Array.length_toList
      have hwrap : IntKind.i64.wrap ((i : Int) + 1) = (i : Int) + 1 := by rw [IntKind.wrap_i64]; omega
      have hlt2 : (i : Int) + 1 < (n2 : Int) := by omega
      have hlt3 : (0 : Int) ≤ (i : Int) + 1 := by omega
      by_cases hin : 0 < a ∧ b < s.size
      · have hwi : M.within s.data.toList (a, b) = true := by simp [M.within, hsl, hin.1, hin.2]
        have ha0 : ((a : Int) != 0) = true := by simp; omega
        have hb0 : ((b : Int) != (s.size : Int)) = true := by simp; omega
        obtain ⟨t, ht⟩ : ∃ t, t = pc s (a, b) := ⟨_, rfl⟩
        have hpe : s.extract a b = t := ht ▸ pc_eq s (a, b)
        have htk : innerTo s ps (k + 1) = innerTo s ps k ++ [t] := by rw [ht]; exact innerTo_in hkn hab hwi
        have HTK := Lib.hid htk
        have HOUT := Lib.hid (hr.app t)
        rw [← htk] at HOUT
        have HRA := Lib.hid ((hr.2.1.keep ((Keep.refl (fun _ => False) wr).drew) (fun _ _ _ _ h => h)).alloc (.cells #[.string t] 9))
        have HGE : Hid (∀ k, (wr.drew.alloc (.cells #[.string t] 9)).heap.size ≤ k → From w1.heap.size k) := Lib.hid fun k hk => by
          have h4 := hr.2.2.2.2
          have h5 : (wr.drew.alloc (.cells #[.string t] 9)).heap.size = wr.heap.size + 1 := by rw [World.size_alloc]; rfl
          show w1.heap.size ≤ k
          omega
        have HSRC : Hid (Src Tryd.prog 1 23 (.slice (some ⟨wr.heap.size, 0, none⟩) 1 1) [Value.string t].length [Value.string t] (wr.drew.alloc (.cells #[.string t] 9))) := Lib.hid (src_str wr.drew t)
        obtain ⟨m, hm⟩ : ∃ m, m = (innerTo s ps k).length := ⟨_, rfl⟩
        have hmb : m ≤ ps.length := by rw [hm]; exact innerTo_length s ps k
        have HLEN : Hid ((strs (innerTo s ps k)).length = m) := Lib.hid (by rw [strs_length, hm])
        clear hr hfit hgc hg1 hg2 hab ht htk hi hin hwi hsl hm
        go_wp2
        refine (wpIn_wide (n := 1)).1 ?_
        refine wpIn_region_flow (fun _ => trivial) (by kernel_rfl) (appI wr.drew (wr.drew.alloc (.cells #[.string t] 9)) v (fun v' w2 => TwoRows w w1.heap.size v' (.slice (some ⟨g, 0, none⟩) n2 cL) (innerTo s ps (k + 1)) ps w2)) (fun _ _ _ _ => True) (AV v (.slice (some ⟨g, 0, none⟩) n2 cL) s g i a b wr.heap.size t) (fun j => j == 14) (by kernel_rfl) (by kernel_rfl) ?hst ⟨fun _ => rfl, (fun h => by cases h), (fun h => by cases h), fun _ => rfl⟩ ?step ?fin
        case hst =>
          intro i j ys u w2 w3 hij hanc _ hV _
          refine AV_st ys u w2 w3 j hij (fun e => ?_) hV
          subst e
          exact (fun e => by subst e; cases hanc.symm.trans (by kernel_rfl : _ = true))
        case step =>
          refine ⟨?_, ?_, ?_, ?_, ?_, ?_, ?_, ?_, ?_, ?_, ?_, ?_, ?_, ?_, ?_, trivial⟩
          · intro listed ys A w hsz hsd hi hall hA hI hd K hK
            have e3 : A.tmps.getD 3 undef = v := (hA 3 (Nat.le_of_ble_eq_true rfl)).trans (hI.2.2.2 (not_yet hsd hi (by kernel_rfl)))
            refine step_run (.inl rfl) ?_
            clear hA hd
            go_simp
            exact hK _ _ (hI.other (by decide) (by decide) (by decide) _) trivial (upd_same _ _ _)
          · intro listed ys A w hsz hsd hi hall hA hI hd K hK
            obtain rfl := hI.1 (not_yet hsd hi (by kernel_rfl))
            have e0 : A.tmps.getD 0 undef = .string s := hA 0 (Nat.le_of_ble_eq_true rfl)
            refine step_run (.inl rfl) ?_
            clear hA hd
            go_simp
            exact hK _ _ (hI.other (by decide) (by decide) (by decide) _) trivial (upd_same _ _ _)
          · intro listed ys A w hsz hsd hi hall hA hI hd K hK
            obtain rfl := hI.1 (not_yet hsd hi (by kernel_rfl))
            have e4 : A.tmps.getD 4 undef = .slice (some ⟨g, 0, none⟩) n2 cL := hA 4 (Nat.le_of_ble_eq_true rfl)
            refine step_run (.inl rfl) ?_
            clear hA hd
            go_simp
            exact hK _ _ (hI.other (by decide) (by decide) (by decide) _) trivial (upd_same _ _ _)
          · intro listed ys A w hsz hsd hi hall hA hI hd K hK
            obtain rfl := hI.1 (not_yet hsd hi (by kernel_rfl))
            have e5 : A.tmps.getD 5 undef = .int .i64 i := hA 5 (Nat.le_of_ble_eq_true rfl)
            refine step_run (.inl rfl) ?_
            clear hA hd
            go_simp
            exact hK _ _ (hI.other (by decide) (by decide) (by decide) _) trivial (upd_same _ _ _)
          · intro listed ys A w hsz hsd hi hall hA hI hd K hK
            obtain rfl := hI.1 (not_yet hsd hi (by kernel_rfl))
            have e31 : A.tmps.getD 31 undef = .slice (some ⟨g, 0, none⟩) n2 cL := (hA 31 (Nat.le_of_ble_eq_true rfl)).trans (hd ⟨2, .data⟩ (by simp) rfl)
            have e32 : A.tmps.getD 32 undef = .int .i64 i := (hA 32 (Nat.le_of_ble_eq_true rfl)).trans (hd ⟨3, .data⟩ (by simp) rfl)
            refine step_run (.inl rfl) ?_
            clear hA hd
            go_simp
            exact hK _ _ (hI.other (by decide) (by decide) (by decide) _) trivial (upd_same _ _ _)
          · intro listed ys A w hsz hsd hi hall hA hI hd K hK
            obtain rfl := hI.1 (not_yet hsd hi (by kernel_rfl))
            have e33 : A.tmps.getD 33 undef = .pointer (some ⟨g, i, none⟩) := (hA 33 (Nat.le_of_ble_eq_true rfl)).trans (hd ⟨4, .data⟩ (by simp) rfl)
            refine step_run (.inl rfl) ?_
            clear hA hd
            go_simp
            exact hK _ _ (hI.other (by decide) (by decide) (by decide) _) trivial (upd_same _ _ _)
          · intro listed ys A w hsz hsd hi hall hA hI hd K hK
            obtain rfl := hI.1 (not_yet hsd hi (by kernel_rfl))
            have e4 : A.tmps.getD 4 undef = .slice (some ⟨g, 0, none⟩) n2 cL := hA 4 (Nat.le_of_ble_eq_true rfl)
            refine step_run (.inl rfl) ?_
            clear hA hd
            go_simp
            exact hK _ _ (hI.other (by decide) (by decide) (by decide) _) trivial (upd_same _ _ _)
          · intro listed ys A w hsz hsd hi hall hA hI hd K hK
            obtain rfl := hI.1 (not_yet hsd hi (by kernel_rfl))
            have e5 : A.tmps.getD 5 undef = .int .i64 i := hA 5 (Nat.le_of_ble_eq_true rfl)
            refine step_run (.inl rfl) ?_
            clear hA hd
            go_simp
            exact hK _ _ (hI.other (by decide) (by decide) (by decide) _) trivial (upd_same _ _ _)
          · intro listed ys A w hsz hsd hi hall hA hI hd K hK
            obtain rfl := hI.1 (not_yet hsd hi (by kernel_rfl))
            have e36 : A.tmps.getD 36 undef = .int .i64 i := (hA 36 (Nat.le_of_ble_eq_true rfl)).trans (hd ⟨7, .data⟩ (by simp) rfl)
            refine step_run (.inl rfl) ?_
            clear hA hd
            go_simp
            exact hK _ _ (hI.other (by decide) (by decide) (by decide) _) trivial (upd_same _ _ _)
          · intro listed ys A w hsz hsd hi hall hA hI hd K hK
            obtain rfl := hI.1 (not_yet hsd hi (by kernel_rfl))
            have e35 : A.tmps.getD 35 undef = .slice (some ⟨g, 0, none⟩) n2 cL := (hA 35 (Nat.le_of_ble_eq_true rfl)).trans (hd ⟨6, .data⟩ (by simp) rfl)
            have e37 : A.tmps.getD 37 undef = .int .i64 ((i : Int) + 1) := (hA 37 (Nat.le_of_ble_eq_true rfl)).trans (hd ⟨8, .data⟩ (by simp) rfl)
            refine step_run (.inl rfl) ?_
            clear hA hd
            go_simp
            exact hK _ _ (hI.other (by decide) (by decide) (by decide) _) trivial (upd_same _ _ _)
          · intro listed ys A w hsz hsd hi hall hA hI hd K hK
            obtain rfl := hI.1 (not_yet hsd hi (by kernel_rfl))
            have e38 : A.tmps.getD 38 undef = .pointer (some ⟨g, i + 1, none⟩) := (hA 38 (Nat.le_of_ble_eq_true rfl)).trans (hd ⟨9, .data⟩ (by simp) rfl)
            refine step_run (.inl rfl) ?_
            clear hA hd
            go_simp
            exact hK _ _ (hI.other (by decide) (by decide) (by decide) _) trivial (upd_same _ _ _)
          · intro listed ys A w hsz hsd hi hall hA hI hd K hK
            obtain rfl := hI.1 (not_yet hsd hi (by kernel_rfl))
            have e30 : A.tmps.getD 30 undef = .string s := (hA 30 (Nat.le_of_ble_eq_true rfl)).trans (hd ⟨1, .data⟩ (by simp) rfl)
            have e34 : A.tmps.getD 34 undef = .int .i64 a := (hA 34 (Nat.le_of_ble_eq_true rfl)).trans (hd ⟨5, .data⟩ (by simp) rfl)
            have e39 : A.tmps.getD 39 undef = .int .i64 b := (hA 39 (Nat.le_of_ble_eq_true rfl)).trans (hd ⟨10, .data⟩ (by simp) rfl)
            refine step_run (.inl rfl) ?_
            clear hA hd
            go_simp
            exact hK _ _ (hI.other (by decide) (by decide) (by decide) _) trivial (upd_same _ _ _)
          · intro listed ys A w hsz hsd hi hall hA hI hd K hK
            obtain rfl := hI.1 hi
            have e40 : A.tmps.getD 40 undef = .string t := (hA 40 (Nat.le_of_ble_eq_true rfl)).trans (hd ⟨11, .data⟩ (by simp) rfl)
            have f40 : A.tmps[40]?.getD undef = .string t := (Array.getD_eq_getD_getElem? ..).symm.trans e40
            refine step_run (.inl rfl) ?_
            clear hA hd
            go_simp
            exact hK _ _ (hI.build (by rw [hsz]; decide) (not_yet hsd hi (by kernel_rfl)) _) trivial (upd_same _ _ _)
          · intro listed ys A w hsz hsd hi hall hA hI hd K hK
            obtain rfl := hI.2.1 (hall ⟨12, .data⟩ (by simp) rfl) hi
            have e29 : A.tmps.getD 29 undef = v := (hA 29 (Nat.le_of_ble_eq_true rfl)).trans (hd ⟨0, .data⟩ (by simp) rfl)
            have e41 : A.tmps.getD 41 undef = .slice (some ⟨wr.heap.size, 0, none⟩) 1 1 := (hA 41 (Nat.le_of_ble_eq_true rfl)).trans (hd ⟨12, .data⟩ (by simp) rfl)
            refine step_run (.inl rfl) ?_
            clear hA hd
            refine wpIn_append_rs E9 _ (.tmp 29) (.tmp 41) 23 rfl (show A.eval (.tmp 29) = v from e29) (HRA.out) (fun k hk => HGE.out k hk) _ [.string t] (show A.eval (.tmp 41) = _ from e41) HSRC.out (by rw [HLEN.out]; simp only [List.length_cons, List.length_nil]; omega) (by rw [HLEN.out]; simp only [List.length_cons, List.length_nil]; omega) ?_
            intro v2 w2 h1 h2
            exact hK _ _ (hI.app (by rw [hsz]; decide) (hall ⟨12, .data⟩ (by simp) rfl) (HOUT.out v2 w2 h1 h2)) trivial trivial
          · intro listed ys A w hsz hsd hi hall hA hI hd K hK
            have e42 : A.tmps.getD 42 undef = ys 13 := hA 42 (Nat.le_of_ble_eq_true rfl)
            refine step_run (.inl rfl) ?_
            clear hA hd
            go_simp
            exact hK _ _ (hI.last (hall ⟨13, .data⟩ (by simp) rfl) (hall ⟨12, .phase⟩ (by simp) rfl) _) trivial ((upd_same _ _ _).trans (upd_other _ _ (by decide)).symm)
        case fin =>
          intro listed ys w2 hall hI hV
          have hout := hI.2.2.1 (hall 13 (by decide))
          have h14 : ys 14 = ys 13 := hV 14 (by decide) rfl
          rw [← h14] at hout
          obtain ⟨v', hv'⟩ : ∃ v', v' = ys 14 := ⟨_, rfl⟩
          rw [← hv'] at hout
          have HO := Lib.hid hout
          clear hI hV hall hout h14 hc1 hc2 hpe hwrap hlt2 hlt3 ha0 hb0
          simp only [putsFrom]
          simp only [← hv', Act.put, List.setIfInBounds_toArray, List.set_cons_succ, List.set_cons_zero]
          clear hv'
          go_wp2
          go_roundw
          case rel => exact ⟨k + 1, by rw [HI.out]; go_num, by omega, HO.out⟩
          case measure => simp [intOf]; omega
      · have hwi : M.within s.data.toList (a, b) = false := by
          rw [Bool.eq_false_iff]
          intro h
          simp [M.within, hsl] at h
          exact hin h
        have htk := innerTo_out hkn hab hwi
        rw [← htk] at hr
        have HO := Lib.hid hr
        by_cases ha : 0 < a
        · have ha0 : ((a : Int) != 0) = true := by simp; omega
          have hb0 : ((b : Int) != (s.size : Int)) = false := by simp; omega
          clear hr hfit hgc hg1 hg2 hab htk hi hin hwi hsl
          go_wp2
          go_roundw
          case rel => exact ⟨k + 1, by rw [HI.out]; go_num, by omega, HO.out⟩
          case measure => simp [intOf]; omega
        · have ha0 : ((a : Int) != 0) = false := by simp; omega
          clear hr hfit hgc hg1 hg2 hab htk hi hin hwi hsl
          go_wp2
          go_roundw
          case rel => exact ⟨k + 1, by rw [HI.out]; go_num, by omega, HO.out⟩
          case measure => simp [intOf]; omega
    · have hge : ¬ i < n2 := by rw [HN2.out, hi]; omega
      go_wp2
      go_ret
      refine ⟨v, rfl, ?_, hr.2.2.2.1⟩
      rw [HW.out]
      have := hr.2.1
      rw [show k = ps.length by omega] at this
      exact this.mono fun _ h _ => Nat.le_trans hr.1 h

end Go.Proofs.YtgjlbcmejanfaaaDoor
