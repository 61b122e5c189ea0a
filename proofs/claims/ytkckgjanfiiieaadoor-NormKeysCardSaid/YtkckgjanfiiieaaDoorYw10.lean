/-
  TWO QUERIES HAVE ONE KEY JUST IF THEIR PLAIN FORMS ARE THE SAME: the law's walk.
-/
import Derived.Test.YtkckgjanfiiieaaDoorAl10
import Derived.Test.YtkckgjanfiiieaaDoorKy10
import Derived.Test.YtkckgjanfiiieaaDoorQryB6
import Derived.Test.YtkckgjanfiiieaaDoorFlA
namespace Go.Proofs.YtkckgjanfiiieaaDoor
open Go.RowKit Go

attribute [local go_sem] Oper.semAt_some wide_fn wide_depth

/-- What the last line's operations leave in memory. -/
def YSp (p q : Qy) : Nat → Value → World → Prop
  | 6, v, w => QAt w v (normQ p)
  | 8, v, w => QAt w v (normQ q)
  | _, _, _ => True
theorem YSp.below {p q : Qy} : ∀ j v w w', YSp p q j v w → Below w.heap.size w w' → YSp p q j v w' := by
  intro j v w w' h hb
  unfold YSp at h ⊢
  split at h
  · exact h.below hb
  · exact h.below hb
  · trivial

theorem query_few (l : List Int) : (Qy.query l).mat.length ≤ 2 := by
  have h := Ft.next_lt (l := l) (n := 3) (p := (Ft.next l 20 (Ft.next l 8 (Ft.next l 2 (Ft.next l 20 0).2).2).2).2) (by decide)
  unfold Qy.query
  dsimp only
  rw [Qy.mats_length]
  omega

theorem normQ_count {q : Qy} (hg : Nr.Gd q.fil) (hc : q.fil.count ≤ 64) : (normQ q).fil.count ≤ 100000 := by
  have := Nr.norm_count hg
  show (Nr.norm q.fil).count ≤ 100000
  omega

set_option maxHeartbeats 16000000 in
set_option maxRecDepth 100000 in
theorem keys_walk (l m : List Int) (u v : Value) (w : World) (hu : IntsAt w u l) (hv : IntsAt w v m) (hT : Tabs w) :
    Calls Tryd.prog 5 #[u, v] w fun e w' => e = .returned (.bool true) ∧ Below w.heap.size w w' := by
  obtain ⟨a, cap, rfl, hl63, _⟩ := id hu
  obtain ⟨b, cbp, rfl, hm63, _⟩ := id hv
  have HA := Lib.hid (alive_any w)
  have HU := Lib.hid hu
  have HV := Lib.hid hv
  have HT := Lib.hid hT
  clear hu hv hT
  by_cases hg : 300 < l.length
  · have hd : decide (300 < (l.length : Int)) = true := by simp; omega
    go_enter Tryd.func5, Tryd.ntmps5
    go_wp2_with (go_at_call 6; refine HA.out.mono ?_; rintro e w1 ⟨rfl, hl1⟩)
    go_ret
    exact ⟨rfl, hl1.below⟩
  have d0 : decide (300 < (l.length : Int)) = false := by simp; omega
  clear hg
  by_cases hg : 300 < m.length
  · have hd : decide (300 < (m.length : Int)) = true := by simp; omega
    go_enter Tryd.func5, Tryd.ntmps5
    go_wp2_with (go_at_call 6; refine HA.out.mono ?_; rintro e w1 ⟨rfl, hl1⟩)
    go_ret
    exact ⟨rfl, hl1.below⟩
  have d1 : decide (300 < (m.length : Int)) = false := by simp; omega
  clear hg
  go_enter Tryd.func5, Tryd.ntmps5
  go_wp2_with fail
  refine HA.out.mono ?_
  rintro r w1 ⟨rfl, hl1⟩
  have HL1 := Lib.hid hl1
  have HQ1 := Lib.hid (query_any l w1 _ (HU.out.lay hl1))
  clear hl1 HA
  go_wp2_with fail
  refine HQ1.out.mono ?_
  rintro r w2 ⟨vp, rfl, hqp, hl2⟩
  have HL2 := Lib.hid (Keep.trans HL1.out hl2)
  have HQ2 := Lib.hid (query_any m w2 _ (HV.out.lay HL2.out))
  have HQP := Lib.hid hqp
  clear hqp hl2 HQ1
  obtain ⟨mp, kp, rfl, hpm, hpk⟩ := id HQP.out
  obtain ⟨am, cm, rfl, _, _⟩ := id hpm
  obtain ⟨ak, ck, rfl⟩ := hpk.shape
  clear hpm hpk
  unfold Qy.val
  go_wp2_with fail
  refine HQ2.out.mono ?_
  rintro r w3 ⟨vq, rfl, hqq, hl3⟩
  have HL3 := Lib.hid (Keep.trans HL2.out hl3)
  have HQP3 := Lib.hid (HQP.out.lay hl3)
  have HQQ := Lib.hid hqq
  clear hqq hl3 HQ2 HQP
  obtain ⟨mq, kq, rfl, hqm, hqk⟩ := id HQQ.out
  obtain ⟨bm, dm, rfl, _, _⟩ := id hqm
  obtain ⟨bk, dk, rfl⟩ := hqk.shape
  clear hqm hqk
  have HGP := Lib.hid (query_gd' l).1
  have HGQ := Lib.hid (query_gd' m).1
  have HCP := Lib.hid (Qy.query_count l)
  have HCQ := Lib.hid (Qy.query_count m)
  have HFP := Lib.hid (query_few l)
  have HFQ := Lib.hid (query_few m)
  have HMP := Lib.hid (made_normQ l)
  have HMQ := Lib.hid (made_normQ m)
  generalize Qy.query l = p at HQP3 HGP HCP HFP HMP ⊢
  generalize Qy.query m = q at HQQ HGQ HCQ HFQ HMQ ⊢
  have hl4 : Lay w3 ((w3.alloc (.cells #[.int .i64 p.src, .int .i64 p.til, .slice am p.mat.length cm, .int .i64 p.fil.op, .string p.fil.name, .string p.fil.text, .slice ak p.fil.kids.length ck, .bool p.desc, .int .i64 p.lim, .string p.page] 34)).alloc (.cells #[.int .i64 q.src, .int .i64 q.til, .slice bm q.mat.length dm, .int .i64 q.fil.op, .string q.fil.name, .string q.fil.text, .slice bk q.fil.kids.length dk, .bool q.desc, .int .i64 q.lim, .string q.page] 34)) := ((Keep.refl _ _).alloc _).alloc _
  have hca : CB ((w3.alloc (.cells #[.int .i64 p.src, .int .i64 p.til, .slice am p.mat.length cm, .int .i64 p.fil.op, .string p.fil.name, .string p.fil.text, .slice ak p.fil.kids.length ck, .bool p.desc, .int .i64 p.lim, .string p.page] 34)).alloc (.cells #[.int .i64 q.src, .int .i64 q.til, .slice bm q.mat.length dm, .int .i64 q.fil.op, .string q.fil.name, .string q.fil.text, .slice bk q.fil.kids.length dk, .bool q.desc, .int .i64 q.lim, .string q.page] 34)) w3.heap.size 34 #[.int .i64 p.src, .int .i64 p.til, .slice am p.mat.length cm, .int .i64 p.fil.op, .string p.fil.name, .string p.fil.text, .slice ak p.fil.kids.length ck, .bool p.desc, .int .i64 p.lim, .string p.page] := (Below.heap_alloc _ _ _ (by simp)).trans (CB.new w3 34 _)
  have hcc : CB ((w3.alloc (.cells #[.int .i64 p.src, .int .i64 p.til, .slice am p.mat.length cm, .int .i64 p.fil.op, .string p.fil.name, .string p.fil.text, .slice ak p.fil.kids.length ck, .bool p.desc, .int .i64 p.lim, .string p.page] 34)).alloc (.cells #[.int .i64 q.src, .int .i64 q.til, .slice bm q.mat.length dm, .int .i64 q.fil.op, .string q.fil.name, .string q.fil.text, .slice bk q.fil.kids.length dk, .bool q.desc, .int .i64 q.lim, .string q.page] 34)) (w3.heap.size + 1) 34 #[.int .i64 q.src, .int .i64 q.til, .slice bm q.mat.length dm, .int .i64 q.fil.op, .string q.fil.name, .string q.fil.text, .slice bk q.fil.kids.length dk, .bool q.desc, .int .i64 q.lim, .string q.page] := by
    have := CB.new (w3.alloc (.cells #[.int .i64 p.src, .int .i64 p.til, .slice am p.mat.length cm, .int .i64 p.fil.op, .string p.fil.name, .string p.fil.text, .slice ak p.fil.kids.length ck, .bool p.desc, .int .i64 p.lim, .string p.page] 34)) 34 #[.int .i64 q.src, .int .i64 q.til, .slice bm q.mat.length dm, .int .i64 q.fil.op, .string q.fil.name, .string q.fil.text, .slice bk q.fil.kids.length dk, .bool q.desc, .int .i64 q.lim, .string q.page]
    rw [World.size_alloc] at this
    exact this
  have HCA0 := Lib.hid hca
  have HCC0 := Lib.hid hcc
  have HP5 := Lib.hid (HQP3.out.lay hl4)
  have HQ5 := Lib.hid (HQQ.out.lay hl4)
  have HL5 := Lib.hid (Keep.trans HL3.out hl4)
  clear hl4 hca hcc HQP3 HQQ HL3 HL2 HL1 HU HV
  unfold Qy.val at HP5 HQ5
  unfold Qy.val
  go_wp2_with fail
  revert HCA0 HCC0 HP5 HQ5 HL5
  generalize (w3.alloc (.cells #[.int .i64 p.src, .int .i64 p.til, .slice am p.mat.length cm, .int .i64 p.fil.op, .string p.fil.name, .string p.fil.text, .slice ak p.fil.kids.length ck, .bool p.desc, .int .i64 p.lim, .string p.page] 34)).alloc (.cells #[.int .i64 q.src, .int .i64 q.til, .slice bm q.mat.length dm, .int .i64 q.fil.op, .string q.fil.name, .string q.fil.text, .slice bk q.fil.kids.length dk, .bool q.desc, .int .i64 q.lim, .string q.page] 34) = w5
  generalize w3.heap.size + 1 = C
  generalize w3.heap.size = A
  intro HCA0 HCC0 HP5 HQ5 HL5
  obtain ⟨vp, hvp⟩ : ∃ vp, vp = p.val (.slice am p.mat.length cm) (.slice ak p.fil.kids.length ck) := ⟨_, rfl⟩
  obtain ⟨vq, hvq⟩ : ∃ vq, vq = q.val (.slice bm q.mat.length dm) (.slice bk q.fil.kids.length dk) := ⟨_, rfl⟩
  have hp5 : QAt w5 vp p := by rw [hvp]; exact HP5.out
  have hq5 : QAt w5 vq q := by rw [hvq]; exact HQ5.out
  obtain ⟨TP, hTP⟩ : ∃ TP, TP = keyT p := ⟨_, rfl⟩
  obtain ⟨TQ, hTQ⟩ : ∃ TQ, TQ = keyT q := ⟨_, rfl⟩
  haveI hdec : Decidable (normQ p = normQ q) := Classical.propDecidable _
  obtain ⟨bS, hbS⟩ : ∃ bS : Bool, bS = decide (normQ p = normQ q) := ⟨_, rfl⟩
  have hT5 := HT.out.next (Lay.below HL5.out)
  have hkp : ∀ W, Below w5.heap.size w5 W → Calls Tryd.prog 15 #[vp] W fun x w' => x = .returned (.string TP) ∧ Below W.heap.size W w' := fun W h => by
    rw [hTP]
    exact ownKey_any p HGP.out (by have := HCP.out; omega) (by have := HFP.out; omega) HMP.out W vp (hp5.below h) (hT5.next h)
  have hkq : ∀ W, Below w5.heap.size w5 W → Calls Tryd.prog 15 #[vq] W fun x w' => x = .returned (.string TQ) ∧ Below W.heap.size W w' := fun W h => by
    rw [hTQ]
    exact ownKey_any q HGQ.out (by have := HCQ.out; omega) (by have := HFQ.out; omega) HMQ.out W vq (hq5.below h) (hT5.next h)
  have hnp : ∀ W, Below w5.heap.size w5 W → Calls Tryd.prog 13 #[vp] W fun x w' => ∃ u, x = .returned u ∧ QAt w' u (normQ p) ∧ Below W.heap.size W w' := fun W h =>
    (ownQ_any p HGP.out (by have := HCP.out; omega) (by have := HFP.out; omega) W vp (hp5.below h)).mono fun x w' ⟨u, h1, h2, h3⟩ => ⟨u, h1, h2, h3.below⟩
  have hnq : ∀ W, Below w5.heap.size w5 W → Calls Tryd.prog 13 #[vq] W fun x w' => ∃ u, x = .returned u ∧ QAt w' u (normQ q) ∧ Below W.heap.size W w' := fun W h =>
    (ownQ_any q HGQ.out (by have := HCQ.out; omega) (by have := HFQ.out; omega) W vq (hq5.below h)).mono fun x w' ⟨u, h1, h2, h3⟩ => ⟨u, h1, h2, h3.below⟩
  have hsa : ∀ W u1 u2, Below w5.heap.size w5 W → QAt W u1 (normQ p) → QAt W u2 (normQ q) → Calls Tryd.prog 14 #[u1, u2] W fun x w' => x = .returned (.bool bS) ∧ Below W.heap.size W w' := fun W u1 u2 _ h1 h2 =>
    (same_any (normQ p) (normQ q) W u1 u2 h1 h2 (normQ_count HGP.out HCP.out) (normQ_count HGQ.out HCQ.out)).mono fun x w' ⟨b, hx, hb, hl⟩ => ⟨by rw [hx, hbS]; congr 1; congr 1; exact (Bool.eq_iff_iff.2 (by rw [decide_eq_true_iff]; exact hb)), hl.below⟩
  have hEQ : ((TP.toList == TQ.toList) == bS) = true := by
    rw [beq_iff_eq, hbS, Bool.eq_iff_iff, beq_iff_eq, decide_eq_true_iff]
    constructor
    · intro h
      have h' := toList_inj4 _ _ h
      rw [hTP, hTQ] at h'
      unfold keyT at h'
      have h2 := congrArg (fun x : ByteArray => x.data.toList) h'
      exact plain_inj HMP.out HMQ.out (by simpa using h2)
    · intro h
      rw [hTP, hTQ]
      unfold keyT
      rw [h]
  have hca : ∀ W, Below w5.heap.size w5 W → CB W A 34 #[.int .i64 p.src, .int .i64 p.til, .slice am p.mat.length cm, .int .i64 p.fil.op, .string p.fil.name, .string p.fil.text, .slice ak p.fil.kids.length ck, .bool p.desc, .int .i64 p.lim, .string p.page] := fun W h => (h.block _ HCA0.out.lt).trans HCA0.out
  have hcc : ∀ W, Below w5.heap.size w5 W → CB W C 34 #[.int .i64 q.src, .int .i64 q.til, .slice bm q.mat.length dm, .int .i64 q.fil.op, .string q.fil.name, .string q.fil.text, .slice bk q.fil.kids.length dk, .bool q.desc, .int .i64 q.lim, .string q.page] := fun W h => (h.block _ HCC0.out.lt).trans HCC0.out
  have HKP := Lib.hid hkp
  have HKQ := Lib.hid hkq
  have HNP := Lib.hid hnp
  have HNQ := Lib.hid hnq
  have HSA := Lib.hid hsa
  have HCA := Lib.hid hca
  have HCC := Lib.hid hcc
  have HVP := Lib.hid hvp
  have HVQ := Lib.hid hvq
  clear hkp hkq hnp hnq hsa hca hcc hvp hvq hp5 hq5 hTP hTQ hbS hT5 HCA0 HCC0 HP5 HQ5 HGP HGQ HCP HCQ HFP HFQ HMP HMQ HT
  refine (wpIn_wide (n := 9)).1 ?_
  refine wpIn_region_flow (fun _ => trivial) (by kernel_rfl) (fun _ _ w' => Below w5.heap.size w5 w') (fun _ _ u1 u2 => Below u1.heap.size u1 u2) (GV [some (vp), some (.string TP), some (vq), some (.string TQ), some (.bool (TP.toList == TQ.toList)), some (vp), none, some (vq), none, some (.bool bS), some (.bool true), some (.bool true)] [6, 8] (YSp p q)) (fun j => j == 11) (by kernel_rfl) (by kernel_rfl) (fun i j ys v u1 u2 hij _ _ hV hR => GV.keep YSp.below hij hV hR) ((Below.refl _ w5).drew) ?step ?fin
  case step =>
    refine ⟨?_, ?_, ?_, ?_, ?_, ?_, ?_, ?_, ?_, ?_, ?_, ?_, trivial⟩
    · intro listed ys X W hsz hsd hi2 hall hX hI hd K hK
      have e5 : X.tmps.getD 5 undef = .pointer (some ⟨A, 0, none⟩) := hX 5 (Nat.le_of_ble_eq_true rfl)
      have c0 := CB.cell (HCA.out W hI) 0
      have c1 := CB.cell (HCA.out W hI) 1
      have c2 := CB.cell (HCA.out W hI) 2
      have c3 := CB.cell (HCA.out W hI) 3
      have c4 := CB.cell (HCA.out W hI) 4
      have c5 := CB.cell (HCA.out W hI) 5
      have c6 := CB.cell (HCA.out W hI) 6
      have c7 := CB.cell (HCA.out W hI) 7
      have c8 := CB.cell (HCA.out W hI) 8
      have c9 := CB.cell (HCA.out W hI) 9
      simp only [List.getElem?_toArray, List.getElem?_cons_succ, List.getElem?_cons_zero] at c0 c1 c2 c3 c4 c5 c6 c7 c8 c9
      have HI := Lib.hid hI
      refine step_run (.inl rfl) ?_
      clear hX hd hI
      go_simp
      exact hK _ _ HI.out (Below.refl _ _) (GV.of (by decide) (fun u h => by cases h; exact HVP.out))
    · intro listed ys X W hsz hsd hi2 hall hX hI hd K hK
      have e21 : X.tmps.getD 21 undef = vp := (hX 21 (Nat.le_of_ble_eq_true rfl)).trans (GV.val (hd ⟨0, .data⟩ (by simp) rfl) (by decide) rfl)
      have HI := Lib.hid hI
      refine step_run (.inl rfl) ?_
      clear hX hd hI
      go_simp
      refine (callsIn_wide.2 (HKP.out W HI.out)).mono ?_
      rintro e u2 ⟨rfl, hb⟩
      exact hK _ _ (HI.out.trans (hb.mono HI.out.size)) hb (GV.of (by decide) (fun u h => by cases h; rfl))
    · intro listed ys X W hsz hsd hi2 hall hX hI hd K hK
      have e6 : X.tmps.getD 6 undef = .pointer (some ⟨C, 0, none⟩) := hX 6 (Nat.le_of_ble_eq_true rfl)
      have c0 := CB.cell (HCC.out W hI) 0
      have c1 := CB.cell (HCC.out W hI) 1
      have c2 := CB.cell (HCC.out W hI) 2
      have c3 := CB.cell (HCC.out W hI) 3
      have c4 := CB.cell (HCC.out W hI) 4
      have c5 := CB.cell (HCC.out W hI) 5
      have c6 := CB.cell (HCC.out W hI) 6
      have c7 := CB.cell (HCC.out W hI) 7
      have c8 := CB.cell (HCC.out W hI) 8
      have c9 := CB.cell (HCC.out W hI) 9
      simp only [List.getElem?_toArray, List.getElem?_cons_succ, List.getElem?_cons_zero] at c0 c1 c2 c3 c4 c5 c6 c7 c8 c9
      have HI := Lib.hid hI
      refine step_run (.inl rfl) ?_
      clear hX hd hI
      go_simp
      exact hK _ _ HI.out (Below.refl _ _) (GV.of (by decide) (fun u h => by cases h; exact HVQ.out))
    · intro listed ys X W hsz hsd hi2 hall hX hI hd K hK
      have e23 : X.tmps.getD 23 undef = vq := (hX 23 (Nat.le_of_ble_eq_true rfl)).trans (GV.val (hd ⟨2, .data⟩ (by simp) rfl) (by decide) rfl)
      have HI := Lib.hid hI
      refine step_run (.inl rfl) ?_
      clear hX hd hI
      go_simp
      refine (callsIn_wide.2 (HKQ.out W HI.out)).mono ?_
      rintro e u2 ⟨rfl, hb⟩
      exact hK _ _ (HI.out.trans (hb.mono HI.out.size)) hb (GV.of (by decide) (fun u h => by cases h; rfl))
    · intro listed ys X W hsz hsd hi2 hall hX hI hd K hK
      have e22 : X.tmps.getD 22 undef = .string TP := (hX 22 (Nat.le_of_ble_eq_true rfl)).trans (GV.val (hd ⟨1, .data⟩ (by simp) rfl) (by decide) rfl)
      have e24 : X.tmps.getD 24 undef = .string TQ := (hX 24 (Nat.le_of_ble_eq_true rfl)).trans (GV.val (hd ⟨3, .data⟩ (by simp) rfl) (by decide) rfl)
      have HI := Lib.hid hI
      refine step_run (.inl rfl) ?_
      clear hX hd hI
      go_simp
      exact hK _ _ HI.out (Below.refl _ _) (GV.of (by decide) (fun u h => by cases h; rfl))
    · intro listed ys X W hsz hsd hi2 hall hX hI hd K hK
      have e5 : X.tmps.getD 5 undef = .pointer (some ⟨A, 0, none⟩) := hX 5 (Nat.le_of_ble_eq_true rfl)
      have c0 := CB.cell (HCA.out W hI) 0
      have c1 := CB.cell (HCA.out W hI) 1
      have c2 := CB.cell (HCA.out W hI) 2
      have c3 := CB.cell (HCA.out W hI) 3
      have c4 := CB.cell (HCA.out W hI) 4
      have c5 := CB.cell (HCA.out W hI) 5
      have c6 := CB.cell (HCA.out W hI) 6
      have c7 := CB.cell (HCA.out W hI) 7
      have c8 := CB.cell (HCA.out W hI) 8
      have c9 := CB.cell (HCA.out W hI) 9
      simp only [List.getElem?_toArray, List.getElem?_cons_succ, List.getElem?_cons_zero] at c0 c1 c2 c3 c4 c5 c6 c7 c8 c9
      have HI := Lib.hid hI
      refine step_run (.inl rfl) ?_
      clear hX hd hI
      go_simp
      exact hK _ _ HI.out (Below.refl _ _) (GV.of (by decide) (fun u h => by cases h; exact HVP.out))
    · intro listed ys X W hsz hsd hi2 hall hX hI hd K hK
      have e26 : X.tmps.getD 26 undef = vp := (hX 26 (Nat.le_of_ble_eq_true rfl)).trans (GV.val (hd ⟨5, .data⟩ (by simp) rfl) (by decide) rfl)
      have HI := Lib.hid hI
      refine step_run (.inl rfl) ?_
      clear hX hd hI
      go_simp
      refine (callsIn_wide.2 (HNP.out W HI.out)).mono ?_
      rintro e u2 ⟨u, rfl, hu, hb⟩
      exact hK _ _ (HI.out.trans (hb.mono HI.out.size)) hb (GV.ofsp (by decide) hu)
    · intro listed ys X W hsz hsd hi2 hall hX hI hd K hK
      have e6 : X.tmps.getD 6 undef = .pointer (some ⟨C, 0, none⟩) := hX 6 (Nat.le_of_ble_eq_true rfl)
      have c0 := CB.cell (HCC.out W hI) 0
      have c1 := CB.cell (HCC.out W hI) 1
      have c2 := CB.cell (HCC.out W hI) 2
      have c3 := CB.cell (HCC.out W hI) 3
      have c4 := CB.cell (HCC.out W hI) 4
      have c5 := CB.cell (HCC.out W hI) 5
      have c6 := CB.cell (HCC.out W hI) 6
      have c7 := CB.cell (HCC.out W hI) 7
      have c8 := CB.cell (HCC.out W hI) 8
      have c9 := CB.cell (HCC.out W hI) 9
      simp only [List.getElem?_toArray, List.getElem?_cons_succ, List.getElem?_cons_zero] at c0 c1 c2 c3 c4 c5 c6 c7 c8 c9
      have HI := Lib.hid hI
      refine step_run (.inl rfl) ?_
      clear hX hd hI
      go_simp
      exact hK _ _ HI.out (Below.refl _ _) (GV.of (by decide) (fun u h => by cases h; exact HVQ.out))
    · intro listed ys X W hsz hsd hi2 hall hX hI hd K hK
      have e28 : X.tmps.getD 28 undef = vq := (hX 28 (Nat.le_of_ble_eq_true rfl)).trans (GV.val (hd ⟨7, .data⟩ (by simp) rfl) (by decide) rfl)
      have HI := Lib.hid hI
      refine step_run (.inl rfl) ?_
      clear hX hd hI
      go_simp
      refine (callsIn_wide.2 (HNQ.out W HI.out)).mono ?_
      rintro e u2 ⟨u, rfl, hu, hb⟩
      exact hK _ _ (HI.out.trans (hb.mono HI.out.size)) hb (GV.ofsp (by decide) hu)
    · intro listed ys X W hsz hsd hi2 hall hX hI hd K hK
      have e27 : X.tmps.getD 27 undef = ys 6 := hX 27 (Nat.le_of_ble_eq_true rfl)
      have HY6 := Lib.hid (show QAt W (ys 6) (normQ p) from GV.sp (hd ⟨6, .data⟩ (by simp) rfl) (by decide))
      have e29 : X.tmps.getD 29 undef = ys 8 := hX 29 (Nat.le_of_ble_eq_true rfl)
      have HY8 := Lib.hid (show QAt W (ys 8) (normQ q) from GV.sp (hd ⟨8, .data⟩ (by simp) rfl) (by decide))
      have HI := Lib.hid hI
      refine step_run (.inl rfl) ?_
      clear hX hd hI
      go_simp
      refine (callsIn_wide.2 (HSA.out W _ _ HI.out HY6.out HY8.out)).mono ?_
      rintro e u2 ⟨rfl, hb⟩
      exact hK _ _ (HI.out.trans (hb.mono HI.out.size)) hb (GV.of (by decide) (fun u h => by cases h; rfl))
    · intro listed ys X W hsz hsd hi2 hall hX hI hd K hK
      have e25 : X.tmps.getD 25 undef = .bool (TP.toList == TQ.toList) := (hX 25 (Nat.le_of_ble_eq_true rfl)).trans (GV.val (hd ⟨4, .data⟩ (by simp) rfl) (by decide) rfl)
      have e30 : X.tmps.getD 30 undef = .bool bS := (hX 30 (Nat.le_of_ble_eq_true rfl)).trans (GV.val (hd ⟨9, .data⟩ (by simp) rfl) (by decide) rfl)
      have HI := Lib.hid hI
      refine step_run (.inl rfl) ?_
      clear hX hd hI
      go_simp
      exact hK _ _ HI.out (Below.refl _ _) (GV.of (by decide) (fun u h => by cases h; rfl))
    · intro listed ys X W hsz hsd hi2 hall hX hI hd K hK
      have e31 : X.tmps.getD 31 undef = .bool true := (hX 31 (Nat.le_of_ble_eq_true rfl)).trans (GV.val (hd ⟨10, .data⟩ (by simp) rfl) (by decide) rfl)
      have HI := Lib.hid hI
      refine step_run (.inl rfl) ?_
      clear hX hd hI
      go_simp
      exact hK _ _ HI.out (Below.refl _ _) (GV.of (by decide) (fun u h => by cases h; rfl))
  case fin =>
    intro listed ys w6 hall hI hV
    have hy := GV.val (hV 11 (by decide) rfl) (by decide) rfl
    have HB6 := Lib.hid ((Lay.below HL5.out).trans (hI.mono HL5.out.size))
    clear hall hI hV
    refine fin_of 4 (v := .bool true) ?_ (by simp) hy
    intro P6 h6 hdf
    have x6 : P6.tmps[4]?.getD undef = .bool true := by rw [← Array.getD_eq_getD_getElem?]; exact h6
    go_wp2_with fail
    refine bodyPost_ret (v := .bool true) (by simp [results, Tryd.results5, go_sem, x6]) hdf ⟨rfl, HB6.out⟩

end Go.Proofs.YtkckgjanfiiieaaDoor
