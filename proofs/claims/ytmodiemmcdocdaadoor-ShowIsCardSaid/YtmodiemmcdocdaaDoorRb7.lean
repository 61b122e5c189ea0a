/-
  THE DOCUMENT'S OWN Parse, whole.
-/
import Derived.Test.YtmodiemmcdocdaaDoorRa7
import Derived.Deep.DeepCutAuto
import Derived.Deep.CutBlock
import Derived.BigRegion
namespace Go.Proofs.YtmodiemmcdocdaaDoor
open Go.RowKit Go
open PX (tk isT)
open SX (S)

set_option maxHeartbeats 16000000 in
set_option maxRecDepth 100000 in
theorem ref_parse (s : ByteArray) (hs : s.size ≤ 1048576) (w : World) (hT : Tabs w) : Calls Tryd.prog 14 #[.string s] w (RefR (PX.parse s.data.toList) w) := by
  obtain ⟨w0, hW⟩ : ∃ w0, w0 = w.alloc (.cells #[.int .i64 0, .int .i64 0, .slice none 0 0, .int .i64 0, .string ⟨#[]⟩, .string ⟨#[]⟩, .slice none 0 0, .bool false, .int .i64 0, .string ⟨#[]⟩] 29) := ⟨_, rfl⟩
  have hlw : Lay w w0 := by rw [hW]; exact (Keep.refl _ w).alloc _
  have hsz : w0.heap.size = w.heap.size + 1 := by rw [hW]; simp
  have hr0 : CB w0 w.heap.size 29 zeroA := by rw [hW]; exact CB.new w 29 _
  have HW := Lib.hid hW.symm
  clear hW
  have hT0 := hT.next hlw.below
  have HR0 := Lib.hid hr0
  have HSZ := Lib.hid hsz
  have HBL0 := Lib.hid hlw.below
  obtain ⟨FIN, hFIN⟩ : ∃ FIN, FIN = PX.parse s.data.toList := ⟨_, rfl⟩
  rw [← hFIN]
  have HFIN := Lib.hid (show FIN = match LX.lex s.data.toList with | .error e => .error e | .ok ts => PX.query ts by rw [hFIN]; rfl)
  clear hFIN
  rcases hlex : LX.lex s.data.toList with p | ts
  · have HF : Hid (FIN = .error p) := Lib.hid (by rw [HFIN.out, hlex])
    have HLX := Lib.hid (ref_err rfl hs hlex w0 hT0.utf)
    have hp0 : ((p.1 : Int) != 0) = true := by
      have := lex_err hlex
      simp
      omega
    clear hlex HFIN hT hT0 hlw hsz hr0
    go_enter Tryd.func14, Tryd.ntmps14
    go_wp2_with fail
    rw [HW.out]
    refine HLX.out.mono ?_
    rintro e w1 ⟨rfl, hb⟩
    have HR1 := Lib.hid (HR0.out.below hb (by rw [HSZ.out]; omega))
    have HB1 := Lib.hid (HBL0.out.trans (hb.mono HBL0.out.size))
    clear hb
    have r0 := HR1.out.cell 0
    have f0 := HR1.out.frozen 0
    have r1 := HR1.out.cell 1
    have f1 := HR1.out.frozen 1
    have r2 := HR1.out.cell 2
    have f2 := HR1.out.frozen 2
    have r3 := HR1.out.cell 3
    have f3 := HR1.out.frozen 3
    have r4 := HR1.out.cell 4
    have f4 := HR1.out.frozen 4
    have r5 := HR1.out.cell 5
    have f5 := HR1.out.frozen 5
    have r6 := HR1.out.cell 6
    have f6 := HR1.out.frozen 6
    have r7 := HR1.out.cell 7
    have f7 := HR1.out.frozen 7
    have r8 := HR1.out.cell 8
    have f8 := HR1.out.frozen 8
    have r9 := HR1.out.cell 9
    have f9 := HR1.out.frozen 9
    go_wp2_with fail
    have hq := CB.all10 HR1.out (.int .i64 0) (.int .i64 0) (.slice none 0 0) (.int .i64 0) (.string ⟨#[]⟩) (.string ⟨#[]⟩) (.slice none 0 0) (.bool false) (.int .i64 0) (.string ⟨#[]⟩)
    have hkk := (keep_stored10 (Keep.refl (fun k => k = w.heap.size) w1) (.inr rfl) (.int .i64 0) (.int .i64 0) (.slice none 0 0) (.int .i64 0) (.string ⟨#[]⟩) (.string ⟨#[]⟩) (.slice none 0 0) (.bool false) (.int .i64 0) (.string ⟨#[]⟩))
    have q0 := hq.cell 0
    have q1 := hq.cell 1
    have q2 := hq.cell 2
    have q3 := hq.cell 3
    have q4 := hq.cell 4
    have q5 := hq.cell 5
    have q6 := hq.cell 6
    have q7 := hq.cell 7
    have q8 := hq.cell 8
    have q9 := hq.cell 9
    unfold stored10 at q0 q1 q2 q3 q4 q5 q6 q7 q8 q9 hkk
    refine bodyPost_ret (v := .tuple #[zeroQ, .int .i64 (p.1 : Nat), .int .i64 (p.2 : Nat)]) (by simp [results, Tryd.results14, go_sem, zeroQ, q0, q1, q2, q3, q4, q5, q6, q7, q8, q9]) rfl ?_
    unfold RefR
    rw [HF.out]
    exact ⟨HB1.out.trans (hkk.below (fun k h => Nat.le_of_eq h.symm) HB1.out.size), rfl⟩
  have HF : Hid (FIN = PX.query ts) := Lib.hid (by rw [HFIN.out, hlex])
  have HLX := Lib.hid (ref_ok rfl hs hlex w0 hT0.utf)
  have hend : PX.Ended ts := PX.lex_ended hlex
  have hcnt := LX.lex_count hlex
  have HE := Lib.hid hend
  have HCNT : Hid (ts.length ≤ 1100) := Lib.hid (by omega)
  clear hlex HFIN hT hT0 hlw hsz hr0 hend hcnt
  go_enter Tryd.func14, Tryd.ntmps14
  go_wp2_with fail
  rw [HW.out]
  refine HLX.out.mono ?_
  rintro e w1 ⟨lv, rfl, hrk, hb⟩
  obtain ⟨la, lc, rfl⟩ := hrk.shape
  obtain ⟨wA, hwA⟩ : ∃ wA, wA = w1.alloc (.cells #[.slice la ts.length lc, .int .i64 0, .int .i64 0, .int .i64 0, .int .i64 0] 59) := ⟨_, rfl⟩
  obtain ⟨wB, hwB⟩ : ∃ wB, wB = wA.alloc (.cells #[.int .i64 0, .int .i64 0, .slice none 0 0, .int .i64 1, .string ⟨#[]⟩, .string ⟨#[]⟩, .slice none 0 0, .bool false, .int .i64 0, .string ⟨#[]⟩] 29) := ⟨_, rfl⟩
  have hz1 := hb.size
  rw [HSZ.out] at hz1
  have hps : PS w1.heap.size (.slice la ts.length lc) ts 0 ⟨0, 0, 0⟩ wA := by
    rw [hwA]
    exact ⟨CB.new _ _ _, (hrk.alloc _).mono (fun k _ ha => by have := (hrk.at ha).2; omega), HE.out.pos, HCNT.out, by omega⟩
  have hzA : wA.heap.size = w1.heap.size + 1 := by rw [hwA]; simp
  have hrs : RS wA w1.heap.size (w1.heap.size + 1) w.heap.size (.slice la ts.length lc) ts ⟨0, 0, 0⟩ #[.int .i64 0, .int .i64 0, .slice none 0 0, .int .i64 1, .string ⟨#[]⟩, .string ⟨#[]⟩, .slice none 0 0, .bool false, .int .i64 0, .string ⟨#[]⟩] wB := by
    have hlA : Lay w1 wA := by rw [hwA]; exact (Keep.refl _ w1).alloc _
    have hlB : Lay wA wB := by rw [hwB]; exact (Keep.refl _ wA).alloc _
    refine ⟨PA.lay hps hlB, ⟨_, hps⟩, Lay.keep hlB, ?_, ((HR0.out.below hb (by rw [HSZ.out]; omega)).keep hlA (fun h => h)).keep hlB (fun h => h), by omega, by omega, by omega⟩
    rw [← hzA, hwB]
    exact CB.new _ _ _
  have hbA : Below w.heap.size w wA := by
    have hlA : Lay w1 wA := by rw [hwA]; exact (Keep.refl _ w1).alloc _
    exact (HBL0.out.trans (hb.mono HBL0.out.size)).trans (hlA.below.mono (by omega))
  have HS0 := Lib.hid hrs
  have HBA := Lib.hid hbA
  have HWA := Lib.hid hwA.symm
  have HWB := Lib.hid hwB.symm
  have HNE : Hid (w.heap.size < w1.heap.size) := Lib.hid (by omega)
  clear hrk hb hwA hwB hz1 hps hzA hrs hbA HLX HR0
  go_wp2_with fail
  rw [HWA.out, HWB.out]
  clear HWA HWB
  revert HS0 HNE
  generalize w1.heap.size + 1 = Q
  generalize w1.heap.size = P
  intro HS0 HNE
  have hQP : ¬ Q = P := by have := HS0.out.hQ; have := HS0.out.hP; omega
  have hPQ : ¬ P = Q := fun e => hQP e.symm
  have HC : Hid (Calls Tryd.prog 29 #[.pointer (some ⟨P, 0, none⟩), .string ⟨#[102, 114, 111, 109]⟩] wB fun r w' => (∃ v, r = .returned v) ∧ PS P (.slice la ts.length lc) ts 0 (SX.sFrom ts) w' ∧ Keep (fun k => k = P) wB w') := Lib.hid (want_run P _ ts 0 _ PX.wFrom wB HS0.out.ps HE.out)
  refine HC.out.mono ?_
  rintro e w2 ⟨⟨v, rfl⟩, hp, hk⟩
  have HS1 := Lib.hid (HS0.out.call (s' := SX.sFrom ts) hp hk)
  clear hp hk HC HS0
  go_wp2_with fail
  have HC : Hid (Calls Tryd.prog 30 #[.pointer (some ⟨P, 0, none⟩), .int .i64 (-1099511627776), .int .i64 1099511627776] w2 fun r w' => r = .returned (.int .i64 (SX.vFrom ts)) ∧ PS P (.slice la ts.length lc) ts 0 (SX.sF ts) w' ∧ Keep (fun k => k = P) w2 w') := Lib.hid (number_run P _ ts 0 _ (-1099511627776) 1099511627776 w2 HS1.out.ps HE.out)
  refine HC.out.mono ?_
  rintro e w3 ⟨rfl, hp, hk⟩
  have HS2 := Lib.hid (HS1.out.call (s' := SX.sF ts) hp hk)
  clear hp hk HC HS1
  have c0 := HS2.out.cq.cell 0
  have g0 := HS2.out.cq.frozen 0
  go_upto_region 8 with fail
  clear c0 g0
  have HS3 : Hid (RS wA P Q w.heap.size (.slice la ts.length lc) ts (SX.sF ts) #[.int .i64 (SX.vFrom ts), .int .i64 0, .slice none 0 0, .int .i64 1, .string ⟨#[]⟩, .string ⟨#[]⟩, .slice none 0 0, .bool false, .int .i64 0, .string ⟨#[]⟩] (w3.setCell ⟨Q, 0, none⟩ (.int .i64 (SX.vFrom ts)))) := Lib.hid (HS2.out.set 0 (.int .i64 (SX.vFrom ts)))
  revert HS3
  generalize w3.setCell ⟨Q, 0, none⟩ (.int .i64 (SX.vFrom ts)) = w4
  intro HS3
  clear HS2
  have x1 : w4.cell? ⟨P, 1, none⟩ = some (.int .i64 ((SX.sF ts).i : Nat)) := HS3.out.ps.cb.cell 1
  go_wp2_with fail
  clear x1
  have HFI : Hid ((SX.sF ts).i < ts.length) := Lib.hid HS3.out.ps.lt
  have HC : Hid (Calls Tryd.prog 29 #[.pointer (some ⟨P, 0, none⟩), .string ⟨#[116, 111]⟩] w4 fun r w' => (∃ v, r = .returned v) ∧ PS P (.slice la ts.length lc) ts 0 (SX.sTo ts) w' ∧ Keep (fun k => k = P) w4 w') := Lib.hid (want_run P _ ts 0 _ PX.wTo w4 HS3.out.ps HE.out)
  refine HC.out.mono ?_
  rintro e w5 ⟨⟨v, rfl⟩, hp, hk⟩
  have HS4 := Lib.hid (HS3.out.call (s' := SX.sTo ts) hp hk)
  clear hp hk HC HS3
  go_wp2_with fail
  have HC : Hid (Calls Tryd.prog 30 #[.pointer (some ⟨P, 0, none⟩), .int .i64 (-1099511627776), .int .i64 1099511627776] w5 fun r w' => r = .returned (.int .i64 (SX.vTo ts)) ∧ PS P (.slice la ts.length lc) ts 0 (SX.sT ts) w' ∧ Keep (fun k => k = P) w5 w') := Lib.hid (number_run P _ ts 0 _ (-1099511627776) 1099511627776 w5 HS4.out.ps HE.out)
  refine HC.out.mono ?_
  rintro e w6 ⟨rfl, hp, hk⟩
  have HS5 := Lib.hid (HS4.out.call (s' := SX.sT ts) hp hk)
  clear hp hk HC HS4
  have c1 := HS5.out.cq.cell 1
  have g1 := HS5.out.cq.frozen 1
  go_upto_region 11 with fail
  clear c1 g1
  have HS6 : Hid (RS wA P Q w.heap.size (.slice la ts.length lc) ts (SX.sT ts) #[.int .i64 (SX.vFrom ts), .int .i64 (SX.vTo ts), .slice none 0 0, .int .i64 1, .string ⟨#[]⟩, .string ⟨#[]⟩, .slice none 0 0, .bool false, .int .i64 0, .string ⟨#[]⟩] (w6.setCell ⟨Q, 1, none⟩ (.int .i64 (SX.vTo ts)))) := Lib.hid (HS5.out.set 1 (.int .i64 (SX.vTo ts)))
  revert HS6
  generalize w6.setCell ⟨Q, 1, none⟩ (.int .i64 (SX.vTo ts)) = w7
  intro HS6
  clear HS5
  go_cut [54] from 13 (fun v54 wx => v54 = .bool (SX.lateB (SX.sT ts) (SX.vTo ts) (SX.vFrom ts)) ∧ wx = w7)
  case first =>
    have x3 : w7.cell? ⟨P, 3, none⟩ = some (.int .i64 ((SX.sT ts).err : Nat)) := HS6.out.ps.cb.cell 3
    have c0 : w7.cell? ⟨Q, 0, none⟩ = some (.int .i64 (SX.vFrom ts)) := HS6.out.cq.cell 0
    have c1 : w7.cell? ⟨Q, 1, none⟩ = some (.int .i64 (SX.vTo ts)) := HS6.out.cq.cell 1
    by_cases he0 : (SX.sT ts).err = 0
    · have d0 : (((SX.sT ts).err : Int) == 0) = true := by simp; omega
      go_wp2_with fail
      go_meet
      exact ⟨by unfold SX.lateB; rw [he0]; rfl, rfl⟩
    · have d0 : (((SX.sT ts).err : Int) == 0) = false := by simp; omega
      go_wp2_with fail
      go_meet
      exact ⟨by unfold SX.lateB; rw [decide_eq_false he0]; rfl, rfl⟩
  case rest =>
    obtain ⟨rfl, rfl⟩ := hcut
    go_upto_if 54 with fail
    go_cut [] from 13 (fun wx => RS wA P Q w.heap.size (.slice la ts.length lc) ts (SX.sL ts) #[.int .i64 (SX.vFrom ts), .int .i64 (SX.vTo ts), .slice none 0 0, .int .i64 1, .string ⟨#[]⟩, .string ⟨#[]⟩, .slice none 0 0, .bool false, .int .i64 0, .string ⟨#[]⟩] wx)
    case first =>
      by_cases hlt : SX.lateB (SX.sT ts) (SX.vTo ts) (SX.vFrom ts) = true
      · have HL : Hid (SX.sL ts = SX.wrong ts (SX.sT ts) 7 (SX.sF ts).i) := Lib.hid (by unfold SX.sL SX.late; rw [if_pos hlt])
        rw [hlt]
        clear hlt
        go_wp2_with fail
        have HC : Hid (Calls Tryd.prog 31 #[.pointer (some ⟨P, 0, none⟩), .int .i64 7, .int .i64 (((SX.sF ts).i : Nat) : Int)] wc fun r w' => (∃ v, r = .returned v) ∧ PS P (.slice la ts.length lc) ts 0 (SX.wrong ts (SX.sT ts) 7 (SX.sF ts).i) w' ∧ Keep (fun k => k = P) wc w') := Lib.hid (wrong_s P _ ts 0 _ 7 ((SX.sF ts).i) wc HS6.out.ps (HFI.out))
        refine HC.out.mono ?_
        rintro e w8 ⟨⟨v, rfl⟩, hp, hk⟩
        have HS7 := Lib.hid (HS6.out.call (s' := SX.wrong ts (SX.sT ts) 7 (SX.sF ts).i) hp hk)
        clear hp hk HC HS6
        rw [← HL.out] at HS7
        go_wp2_with fail
        go_meet
        exact HS7.out
      · have hlf : SX.lateB (SX.sT ts) (SX.vTo ts) (SX.vFrom ts) = false := by simpa using hlt
        have HL : Hid (SX.sL ts = SX.sT ts) := Lib.hid (by unfold SX.sL SX.late; rw [if_neg hlt])
        rw [hlf]
        rw [← HL.out] at HS6
        clear hlt hlf
        go_wp2_with fail
        go_meet
        exact HS6.out
    case rest =>
      obtain ⟨wL, rfl⟩ : ∃ x : World, x = wc := ⟨_, rfl⟩
      have HSL := Lib.hid hcut
      clear hcut HS6
      have x1 : wL.cell? ⟨P, 1, none⟩ = some (.int .i64 ((SX.sL ts).i : Nat)) := HSL.out.ps.cb.cell 1
      go_upto_block 0 with fail
      clear x1
      go_cut [] from 11 (fun wx => ∃ (au : Option Addr) (cu : Nat), RS wA P Q w.heap.size (.slice la ts.length lc) ts (SX.sM ts).2 #[.int .i64 (SX.vFrom ts), .int .i64 (SX.vTo ts), .slice au (SX.sM ts).1.length cu, .int .i64 1, .string ⟨#[]⟩, .string ⟨#[]⟩, .slice none 0 0, .bool false, .int .i64 0, .string ⟨#[]⟩] wx ∧ Rk 3 (fun b => Q + 1 ≤ b) wx (.slice au (SX.sM ts).1.length cu) (SX.sM ts).1.length (flatM (SX.sM ts).1) ∧ (SX.sM ts).1.length ≤ 5)
      case first =>
        go_wp2_with fail
        go_loopw [11] (fun v11 wr => ∃ (s : S) (ms : List Mt) (f : Nat) (au : Option Addr) (cu : Nat), v11 = .int .i64 (s.i : Nat) ∧ ms.length ≤ 5 ∧ (s.err = 0 → ms.length ≤ 4) ∧ SX.sM ts = (ms ++ (SX.wheres ts f ms.length s).1, (SX.wheres ts f ms.length s).2) ∧ RS wA P Q w.heap.size (.slice la ts.length lc) ts s #[.int .i64 (SX.vFrom ts), .int .i64 (SX.vTo ts), .slice au ms.length cu, .int .i64 1, .string ⟨#[]⟩, .string ⟨#[]⟩, .slice none 0 0, .bool false, .int .i64 0, .string ⟨#[]⟩] wr ∧ Rk 3 (fun b => Q + 1 ≤ b) wr (.slice au ms.length cu) ms.length (flatM ms) ∧ ts.length ≤ s.i + f) (fun v11 _ => ts.length - (intOf v11).toNat)
        case atStart => exact ⟨SX.sL ts, [], ts.length, none, 0, rfl, by simp, fun _ => by simp, rfl, HSL.out, Rk.nil 3 _ _, by omega⟩
        case round =>
          obtain ⟨t, ms, f, au, cu, rfl, hm5, hm4, hsm, hrs, hrk, hf⟩ := hrel
          have HSR := Lib.hid hrs
          have HSR0 : Hid (P < wA.heap.size ∧ wA.heap.size ≤ Q) := Lib.hid ⟨hrs.hP, hrs.hQ⟩
          have HRK := Lib.hid hrk
          have HSM := Lib.hid hsm
          have HF5 := Lib.hid hf
          have HM5 := Lib.hid hm5
          have HM4 := Lib.hid hm4
          clear hm5 hm4 hsm hrs hrk hf HSL
          by_cases hy : SX.takes ts t PX.wWhere = true
          · skip
            have he0 : t.err = 0 := by unfold SX.takes at hy; simp at hy; exact hy.1
            have hil : t.i < ts.length := HSR.out.ps.lt
            obtain ⟨f', rfl⟩ : ∃ f', f = f' + 1 := ⟨f - 1, by have := HF5.out; omega⟩
            have HM := Lib.hid (HM4.out he0)
            have HIL := Lib.hid hil
            obtain ⟨o, ho⟩ : ∃ o, o = SX.where1 ts ms.length t := ⟨_, rfl⟩
            have HW1 : Hid (SX.sM ts = ((ms ++ [o.1]) ++ (SX.wheres ts f' (ms.length + 1) o.2).1, (SX.wheres ts f' (ms.length + 1) o.2).2)) := Lib.hid (by rw [HSM.out, SX.wheres, if_pos hy, ← ho]; simp)
            have HO := Lib.hid ho
            have HOI : Hid (t.i + 1 ≤ o.2.i) := Lib.hid (by rw [ho]; exact SX.where1_i ts _ t)
            have HO4 : Hid (o.2.err = 0 → ms.length + 1 ≤ 4) := Lib.hid (fun h0 => SX.where1_four ts t HM.out (by rw [← ho]; exact h0))
            clear he0 hil ho
            have HKR0 : Hid (Keep (fun k => k = P) wr wr) := Lib.hid (Keep.refl _ wr)
            go_wp2_with fail
            have HC : Hid (Calls Tryd.prog 32 #[.pointer (some ⟨P, 0, none⟩), .string ⟨#[119, 104, 101, 114, 101]⟩] wr fun r w' => r = .returned (.bool (true)) ∧ PS P (.slice la ts.length lc) ts 0 (SX.next t true) w' ∧ Keep (fun k => k = P) wr w') := Lib.hid (take_s P _ ts 0 _ PX.wWhere _ wr HSR.out.ps HE.out hy)
            refine HC.out.mono ?_
            rintro e w8 ⟨rfl, hp, hk⟩
            have HS7 := Lib.hid (HSR.out.call (s' := SX.next t true) hp hk)
            have HKR7 := Lib.hid (HKR0.out.trans hk)
            clear HKR0
            clear hp hk HC HSR
            clear hy HSM HM4
            have c2 := HS7.out.cq.cell 2
            have g2 := HS7.out.cq.frozen 2
            by_cases hm : ms.length = 4
            · have d4 : ((ms.length : Int) == 4) = true := by simp; omega
              have HFU : Hid (SX.full ts ms.length t = SX.wrong ts (SX.next t true) 6 t.i) := Lib.hid (by unfold SX.full; rw [if_pos hm])
              clear hm
              go_wp2_with fail
              clear c2 g2 d4
              have HC : Hid (Calls Tryd.prog 31 #[.pointer (some ⟨P, 0, none⟩), .int .i64 6, .int .i64 ((t.i : Nat) : Int)] w8 fun r w' => (∃ v, r = .returned v) ∧ PS P (.slice la ts.length lc) ts 0 (SX.wrong ts (SX.next t true) 6 t.i) w' ∧ Keep (fun k => k = P) w8 w') := Lib.hid (wrong_s P _ ts 0 _ 6 (t.i) w8 HS7.out.ps (HIL.out))
              refine HC.out.mono ?_
              rintro e w9 ⟨⟨v, rfl⟩, hp, hk⟩
              have HS8 := Lib.hid (HS7.out.call (s' := SX.wrong ts (SX.next t true) 6 t.i) hp hk)
              have HKR8 := Lib.hid (HKR7.out.trans hk)
              clear HKR7
              clear hp hk HC HS7
              rw [← HFU.out] at HS8
              clear HFU
              go_wp2_with fail
              have HC : Hid (Calls Tryd.prog 33 #[.pointer (some ⟨P, 0, none⟩), .int .i64 1] w9 fun r w' => r = .returned (.agg #[.int .i64 ((SX.tokV ts (SX.full ts ms.length t) 1).kind : Nat), .string (PX.bs (SX.tokV ts (SX.full ts ms.length t) 1).says), .int .i64 (SX.tokV ts (SX.full ts ms.length t) 1).n, .int .i64 ((SX.tokV ts (SX.full ts ms.length t) 1).place : Nat)]) ∧ PS P (.slice la ts.length lc) ts 0 (SX.token ts (SX.full ts ms.length t) 1) w' ∧ Keep (fun k => k = P) w9 w') := Lib.hid (token_run P _ ts 0 _ 1 w9 HS8.out.ps HE.out (by decide))
              refine HC.out.mono ?_
              rintro e w10 ⟨rfl, hp, hk⟩
              have HS9 := Lib.hid (HS8.out.call (s' := SX.token ts (SX.full ts ms.length t) 1) hp hk)
              have HKR9 := Lib.hid (HKR8.out.trans hk)
              clear HKR8
              clear hp hk HC HS8
              obtain ⟨na, hna⟩ : ∃ na, na = PX.bs (SX.tokV ts (SX.full ts ms.length t) 1).says := ⟨_, rfl⟩
              rw [← hna]
              have HNA := Lib.hid hna
              clear hna
              have hfd := field46
              have hl : Lay w10 (w10.alloc (.cells #[.string na, .bool false, .string ⟨#[]⟩] 47)) := (Keep.refl _ w10).alloc _
              have HX : Hid (CB (w10.alloc (.cells #[.string na, .bool false, .string ⟨#[]⟩] 47)) w10.heap.size 47 #[.string na, .bool false, .string ⟨#[]⟩]) := Lib.hid (CB.new _ _ _)
              have HS10 := Lib.hid (HS9.out.lay hl)
              have HQM : Hid (Q < w10.heap.size) := Lib.hid HS9.out.cq.lt
              have HWM : Hid (wr.heap.size ≤ w10.heap.size) := Lib.hid HKR9.out.size
              have HKR := Lib.hid (HKR9.out.trans (Lay.keep hl))
              clear hl HKR9
              go_upto_region 18 with fail
              clear hfd
              revert HX HS10 HQM HWM HKR
              generalize w10.alloc (.cells #[.string na, .bool false, .string ⟨#[]⟩] 47) = w11
              generalize w10.heap.size = M
              intro HX HS10 HQM HWM HKR
              by_cases hy2 : SX.takes ts (SX.token ts (SX.full ts ms.length t) 1) PX.wNe = true
              · have HEQ : Hid (SX.eqS ts (SX.token ts (SX.full ts ms.length t) 1) = SX.next (SX.token ts (SX.full ts ms.length t) 1) true) := Lib.hid (by unfold SX.eqS; rw [if_pos hy2])
                have hyy := hy2
                have HYY := Lib.hid hyy
                clear hy2
                go_wp2_with fail
                have HC : Hid (Calls Tryd.prog 32 #[.pointer (some ⟨P, 0, none⟩), .string ⟨#[33, 61]⟩] w11 fun r w' => r = .returned (.bool (true)) ∧ PS P (.slice la ts.length lc) ts 0 (SX.next (SX.token ts (SX.full ts ms.length t) 1) true) w' ∧ Keep (fun k => k = P) w11 w') := Lib.hid (take_s P _ ts 0 _ PX.wNe _ w11 HS10.out.ps HE.out hyy)
                refine HC.out.mono ?_
                rintro e w12 ⟨rfl, hp, hk⟩
                have HS11 := Lib.hid (HS10.out.call (s' := SX.next (SX.token ts (SX.full ts ms.length t) 1) true) hp hk)
                have HKR11 := Lib.hid (HKR.out.trans hk)
                have HX11 := Lib.hid (HX.out.keep hk (by have := HSR0.out; have := HQM.out; omega))
                clear HX
                clear HKR
                clear hp hk HC HS10
                clear hyy
                have m1 := HX11.out.cell 1
                have n1 := HX11.out.frozen 1
                go_upto_region 19 with fail
                clear m1 n1
                have HS12 := Lib.hid (HS11.out.over ((Keep.refl (fun k => Q + 1 ≤ k) w12).setCell (p := ⟨M, 1, none⟩) (.inr HQM.out) (.bool true)))
                have HKR12 := Lib.hid (HKR11.out.setCell (p := ⟨M, 1, none⟩) (.inl HWM.out) (.bool true))
                have HX12 : Hid (CB (w12.setCell ⟨M, 1, none⟩ (.bool true)) M 47 #[.string na, .bool true, .string ⟨#[]⟩]) := Lib.hid (HX11.out.set 1 (.bool true))
                revert HS12 HKR12 HX12
                generalize w12.setCell ⟨M, 1, none⟩ (.bool true) = w13
                intro HS12 HKR12 HX12
                clear HS11 HKR11 HX11
                have m1 := HX12.out.cell 1
                go_wp2_with fail
                clear m1
                rw [← HEQ.out] at HS12
                clear HEQ
                have HC : Hid (Calls Tryd.prog 33 #[.pointer (some ⟨P, 0, none⟩), .int .i64 4] w13 fun r w' => r = .returned (.agg #[.int .i64 ((SX.tokV ts (SX.eqS ts (SX.token ts (SX.full ts ms.length t) 1)) 4).kind : Nat), .string (PX.bs (SX.tokV ts (SX.eqS ts (SX.token ts (SX.full ts ms.length t) 1)) 4).says), .int .i64 (SX.tokV ts (SX.eqS ts (SX.token ts (SX.full ts ms.length t) 1)) 4).n, .int .i64 ((SX.tokV ts (SX.eqS ts (SX.token ts (SX.full ts ms.length t) 1)) 4).place : Nat)]) ∧ PS P (.slice la ts.length lc) ts 0 (SX.token ts (SX.eqS ts (SX.token ts (SX.full ts ms.length t) 1)) 4) w' ∧ Keep (fun k => k = P) w13 w') := Lib.hid (token_run P _ ts 0 _ 4 w13 HS12.out.ps HE.out (by decide))
                refine HC.out.mono ?_
                rintro e w14 ⟨rfl, hp, hk⟩
                have HS13 := Lib.hid (HS12.out.call (s' := SX.token ts (SX.eqS ts (SX.token ts (SX.full ts ms.length t) 1)) 4) hp hk)
                have HKR13 := Lib.hid (HKR12.out.trans hk)
                have HX13 := Lib.hid (HX12.out.keep hk (by have := HSR0.out; have := HQM.out; omega))
                clear HX12
                clear HKR12
                clear hp hk HC HS12
                obtain ⟨va, hva⟩ : ∃ va, va = PX.bs (SX.tokV ts (SX.eqS ts (SX.token ts (SX.full ts ms.length t) 1)) 4).says := ⟨_, rfl⟩
                rw [← hva]
                have HO1 : Hid (o = (⟨na, true, va⟩, SX.token ts (SX.eqS ts (SX.token ts (SX.full ts ms.length t) 1)) 4)) := Lib.hid (by rw [HO.out, HNA.out, hva, ← HYY.out]; rfl)
                clear hva HO HNA HYY
                have hfd := field46
                have m2 := HX13.out.cell 2
                have n2 := HX13.out.frozen 2
                go_upto_region 22 with fail
                clear m2 n2 hfd
                have HS14 := Lib.hid (HS13.out.over ((Keep.refl (fun k => Q + 1 ≤ k) w14).setCell (p := ⟨M, 2, none⟩) (.inr HQM.out) (.string va)))
                have HKR14 := Lib.hid (HKR13.out.setCell (p := ⟨M, 2, none⟩) (.inl HWM.out) (.string va))
                have HX14 : Hid (CB (w14.setCell ⟨M, 2, none⟩ (.string va)) M 47 #[.string na, .bool true, .string va]) := Lib.hid (HX13.out.set 2 (.string va))
                revert HS14 HKR14 HX14
                generalize w14.setCell ⟨M, 2, none⟩ (.string va) = w15
                intro HS14 HKR14 HX14
                clear HS13 HKR13 HX13
                have hw : wr.heap.size ≤ w15.heap.size := HKR14.out.size
                have hrk' : Rk 3 (fun b => Q + 1 ≤ b) w15 (.slice au ms.length cu) ms.length (flatM ms) := HRK.out.keep HKR14.out (fun b hb _ _ => by have : Q + 1 ≤ b := hb; have := HSR0.out; omega)
                have hMl := HX14.out.lt
                have hQM := HQM.out
                obtain ⟨ax, cx, w88, hrun, hrk8, hk8⟩ := app_mat hrk' (by omega) (by have := HM5.out; omega) ⟨na, true, va⟩
                have hat : ∀ b, At (.slice au ms.length cu) b → Q + 1 ≤ b := fun b ha => (hrk'.at ha).1
                have hkq : Keep (fun k => Q + 1 ≤ k) w15 w88 := ((Keep.refl _ w15).alloc _).trans (Keep.into hk8 (fun k _ h => hat k h))
                have HS88 := Lib.hid (HS14.out.over hkq)
                have HRUN := Lib.hid hrun
                have HRK8 := Lib.hid hrk8
                have q2 := HS14.out.cq.cell 2
                have m0 := HX14.out.cell 0
                have m1 := HX14.out.cell 1
                have m2 := HX14.out.cell 2
                have z2 := HS88.out.cq.cell 2
                have y2 := HS88.out.cq.frozen 2
                have x1 : w88.cell? ⟨P, 1, none⟩ = some (.int .i64 ((SX.token ts (SX.eqS ts (SX.token ts (SX.full ts ms.length t) 1)) 4).i : Nat)) := HS88.out.ps.cb.cell 1
                have hOI := HOI.out
                rw [HO1.out] at hOI
                have HOI2 := Lib.hid hOI
                clear hrk' hat hkq hrun hrk8 hk8 hOI
                go_wp2_with (at_builtin; refine wpList_append_run rfl _ _ _ rfl rfl rfl HRUN.out ?_)
                have hlen : (ms ++ [(⟨na, true, va⟩ : Mt)]).length = ms.length + 1 := by simp
                have hrel : ∃ (s : S) (ms_1 : List Mt) (f : Nat) (au : Option Addr) (cu : Nat), Value.int IntKind.i64 (((SX.token ts (SX.eqS ts (SX.token ts (SX.full ts ms.length t) 1)) 4).i : Nat) : Int) = .int .i64 (s.i : Nat) ∧ ms_1.length ≤ 5 ∧ (s.err = 0 → ms_1.length ≤ 4) ∧ SX.sM ts = (ms_1 ++ (SX.wheres ts f ms_1.length s).1, (SX.wheres ts f ms_1.length s).2) ∧ RS wA P Q w.heap.size (.slice la ts.length lc) ts s #[.int .i64 (SX.vFrom ts), .int .i64 (SX.vTo ts), .slice au ms_1.length cu, .int .i64 1, .string ⟨#[]⟩, .string ⟨#[]⟩, .slice none 0 0, .bool false, .int .i64 0, .string ⟨#[]⟩] (w88.setCell ⟨Q, 2, none⟩ (.slice ax (ms.length + 1) cx)) ∧ Rk 3 (fun b => Q + 1 ≤ b) (w88.setCell ⟨Q, 2, none⟩ (.slice ax (ms.length + 1) cx)) (.slice au ms_1.length cu) ms_1.length (flatM ms_1) ∧ ts.length ≤ s.i + f := by
                  have hm := HM.out
                  have hw1 := HW1.out
                  have ho4 := HO4.out
                  have hoi := HOI2.out
                  have hf5 := HF5.out
                  rw [HO1.out] at hw1 ho4
                  dsimp only at hw1 ho4 hoi
                  refine ⟨SX.token ts (SX.eqS ts (SX.token ts (SX.full ts ms.length t) 1)) 4, ms ++ [(⟨na, true, va⟩ : Mt)], f', ax, cx, rfl, by rw [hlen]; omega, by rw [hlen]; exact ho4, by rw [hlen]; exact hw1, by rw [hlen]; exact HS88.out.set 2 _, ?_, by omega⟩
                  have := (HRK8.out.carry (w' := w88.setCell ⟨Q, 2, none⟩ (.slice ax (ms.length + 1) cx)) (by simp [World.setCell]) (fun b hb _ _ => Below.heap_setCell w88 ⟨Q, 2, none⟩ _ b (by show b ≠ Q; have := hb.1; omega))).mono (G' := fun b => Q + 1 ≤ b) (fun b hb _ => hb.1)
                  simpa using this
                have hmeas : ts.length - (intOf (.int .i64 (((SX.token ts (SX.eqS ts (SX.token ts (SX.full ts ms.length t) 1)) 4).i : Nat) : Int))).toNat < ts.length - (intOf (.int .i64 ((t.i : Nat) : Int))).toNat := by
                  have hoi := HOI2.out
                  have hil := HIL.out
                  dsimp only at hoi
                  simp only [intOf, Int.toNat_natCast]
                  omega
                exact ⟨hrel, hmeas⟩
              · have hyy : SX.takes ts (SX.token ts (SX.full ts ms.length t) 1) PX.wNe = false := by simpa using hy2
                have HEQ : Hid (SX.eqS ts (SX.token ts (SX.full ts ms.length t) 1) = SX.want ts (SX.token ts (SX.full ts ms.length t) 1) PX.wEq) := Lib.hid (by unfold SX.eqS; rw [if_neg hy2])
                have HYY := Lib.hid hyy
                clear hy2
                go_wp2_with fail
                have HC : Hid (Calls Tryd.prog 32 #[.pointer (some ⟨P, 0, none⟩), .string ⟨#[33, 61]⟩] w11 fun r w' => r = .returned (.bool (false)) ∧ PS P (.slice la ts.length lc) ts 0 (SX.token ts (SX.full ts ms.length t) 1) w' ∧ Keep (fun k => k = P) w11 w') := Lib.hid (take_s P _ ts 0 _ PX.wNe _ w11 HS10.out.ps HE.out hyy)
                refine HC.out.mono ?_
                rintro e w12 ⟨rfl, hp, hk⟩
                have HS11 := Lib.hid (HS10.out.call (s' := SX.token ts (SX.full ts ms.length t) 1) hp hk)
                have HKR11 := Lib.hid (HKR.out.trans hk)
                have HX11 := Lib.hid (HX.out.keep hk (by have := HSR0.out; have := HQM.out; omega))
                clear HX
                clear HKR
                clear hp hk HC HS10
                clear hyy
                have m1 := HX11.out.cell 1
                have n1 := HX11.out.frozen 1
                go_upto_region 19 with fail
                clear m1 n1
                have HS12 := Lib.hid (HS11.out.over ((Keep.refl (fun k => Q + 1 ≤ k) w12).setCell (p := ⟨M, 1, none⟩) (.inr HQM.out) (.bool false)))
                have HKR12 := Lib.hid (HKR11.out.setCell (p := ⟨M, 1, none⟩) (.inl HWM.out) (.bool false))
                have HX12 : Hid (CB (w12.setCell ⟨M, 1, none⟩ (.bool false)) M 47 #[.string na, .bool false, .string ⟨#[]⟩]) := Lib.hid (HX11.out.set 1 (.bool false))
                revert HS12 HKR12 HX12
                generalize w12.setCell ⟨M, 1, none⟩ (.bool false) = w13
                intro HS12 HKR12 HX12
                clear HS11 HKR11 HX11
                have m1 := HX12.out.cell 1
                go_wp2_with fail
                clear m1
                have HC : Hid (Calls Tryd.prog 29 #[.pointer (some ⟨P, 0, none⟩), .string ⟨#[61]⟩] w13 fun r w' => (∃ v, r = .returned v) ∧ PS P (.slice la ts.length lc) ts 0 (SX.want ts (SX.token ts (SX.full ts ms.length t) 1) PX.wEq) w' ∧ Keep (fun k => k = P) w13 w') := Lib.hid (want_run P _ ts 0 _ PX.wEq w13 HS12.out.ps HE.out)
                refine HC.out.mono ?_
                rintro e w14 ⟨⟨v, rfl⟩, hp, hk⟩
                have HS13 := Lib.hid (HS12.out.call (s' := SX.want ts (SX.token ts (SX.full ts ms.length t) 1) PX.wEq) hp hk)
                have HKR13 := Lib.hid (HKR12.out.trans hk)
                have HX13 := Lib.hid (HX12.out.keep hk (by have := HSR0.out; have := HQM.out; omega))
                clear HX12
                clear HKR12
                clear hp hk HC HS12
                go_wp2_with fail
                rw [← HEQ.out] at HS13
                clear HEQ
                have HC : Hid (Calls Tryd.prog 33 #[.pointer (some ⟨P, 0, none⟩), .int .i64 4] w14 fun r w' => r = .returned (.agg #[.int .i64 ((SX.tokV ts (SX.eqS ts (SX.token ts (SX.full ts ms.length t) 1)) 4).kind : Nat), .string (PX.bs (SX.tokV ts (SX.eqS ts (SX.token ts (SX.full ts ms.length t) 1)) 4).says), .int .i64 (SX.tokV ts (SX.eqS ts (SX.token ts (SX.full ts ms.length t) 1)) 4).n, .int .i64 ((SX.tokV ts (SX.eqS ts (SX.token ts (SX.full ts ms.length t) 1)) 4).place : Nat)]) ∧ PS P (.slice la ts.length lc) ts 0 (SX.token ts (SX.eqS ts (SX.token ts (SX.full ts ms.length t) 1)) 4) w' ∧ Keep (fun k => k = P) w14 w') := Lib.hid (token_run P _ ts 0 _ 4 w14 HS13.out.ps HE.out (by decide))
                refine HC.out.mono ?_
                rintro e w15 ⟨rfl, hp, hk⟩
                have HS14 := Lib.hid (HS13.out.call (s' := SX.token ts (SX.eqS ts (SX.token ts (SX.full ts ms.length t) 1)) 4) hp hk)
                have HKR14 := Lib.hid (HKR13.out.trans hk)
                have HX14 := Lib.hid (HX13.out.keep hk (by have := HSR0.out; have := HQM.out; omega))
                clear HX13
                clear HKR13
                clear hp hk HC HS13
                obtain ⟨va, hva⟩ : ∃ va, va = PX.bs (SX.tokV ts (SX.eqS ts (SX.token ts (SX.full ts ms.length t) 1)) 4).says := ⟨_, rfl⟩
                rw [← hva]
                have HO1 : Hid (o = (⟨na, false, va⟩, SX.token ts (SX.eqS ts (SX.token ts (SX.full ts ms.length t) 1)) 4)) := Lib.hid (by rw [HO.out, HNA.out, hva, ← HYY.out]; rfl)
                clear hva HO HNA HYY
                have hfd := field46
                have m2 := HX14.out.cell 2
                have n2 := HX14.out.frozen 2
                go_upto_region 22 with fail
                clear m2 n2 hfd
                have HS15 := Lib.hid (HS14.out.over ((Keep.refl (fun k => Q + 1 ≤ k) w15).setCell (p := ⟨M, 2, none⟩) (.inr HQM.out) (.string va)))
                have HKR15 := Lib.hid (HKR14.out.setCell (p := ⟨M, 2, none⟩) (.inl HWM.out) (.string va))
                have HX15 : Hid (CB (w15.setCell ⟨M, 2, none⟩ (.string va)) M 47 #[.string na, .bool false, .string va]) := Lib.hid (HX14.out.set 2 (.string va))
                revert HS15 HKR15 HX15
                generalize w15.setCell ⟨M, 2, none⟩ (.string va) = w16
                intro HS15 HKR15 HX15
                clear HS14 HKR14 HX14
                have hw : wr.heap.size ≤ w16.heap.size := HKR15.out.size
                have hrk' : Rk 3 (fun b => Q + 1 ≤ b) w16 (.slice au ms.length cu) ms.length (flatM ms) := HRK.out.keep HKR15.out (fun b hb _ _ => by have : Q + 1 ≤ b := hb; have := HSR0.out; omega)
                have hMl := HX15.out.lt
                have hQM := HQM.out
                obtain ⟨ax, cx, w88, hrun, hrk8, hk8⟩ := app_mat hrk' (by omega) (by have := HM5.out; omega) ⟨na, false, va⟩
                have hat : ∀ b, At (.slice au ms.length cu) b → Q + 1 ≤ b := fun b ha => (hrk'.at ha).1
                have hkq : Keep (fun k => Q + 1 ≤ k) w16 w88 := ((Keep.refl _ w16).alloc _).trans (Keep.into hk8 (fun k _ h => hat k h))
                have HS88 := Lib.hid (HS15.out.over hkq)
                have HRUN := Lib.hid hrun
                have HRK8 := Lib.hid hrk8
                have q2 := HS15.out.cq.cell 2
                have m0 := HX15.out.cell 0
                have m1 := HX15.out.cell 1
                have m2 := HX15.out.cell 2
                have z2 := HS88.out.cq.cell 2
                have y2 := HS88.out.cq.frozen 2
                have x1 : w88.cell? ⟨P, 1, none⟩ = some (.int .i64 ((SX.token ts (SX.eqS ts (SX.token ts (SX.full ts ms.length t) 1)) 4).i : Nat)) := HS88.out.ps.cb.cell 1
                have hOI := HOI.out
                rw [HO1.out] at hOI
                have HOI2 := Lib.hid hOI
                clear hrk' hat hkq hrun hrk8 hk8 hOI
                go_wp2_with (at_builtin; refine wpList_append_run rfl _ _ _ rfl rfl rfl HRUN.out ?_)
                have hlen : (ms ++ [(⟨na, false, va⟩ : Mt)]).length = ms.length + 1 := by simp
                have hrel : ∃ (s : S) (ms_1 : List Mt) (f : Nat) (au : Option Addr) (cu : Nat), Value.int IntKind.i64 (((SX.token ts (SX.eqS ts (SX.token ts (SX.full ts ms.length t) 1)) 4).i : Nat) : Int) = .int .i64 (s.i : Nat) ∧ ms_1.length ≤ 5 ∧ (s.err = 0 → ms_1.length ≤ 4) ∧ SX.sM ts = (ms_1 ++ (SX.wheres ts f ms_1.length s).1, (SX.wheres ts f ms_1.length s).2) ∧ RS wA P Q w.heap.size (.slice la ts.length lc) ts s #[.int .i64 (SX.vFrom ts), .int .i64 (SX.vTo ts), .slice au ms_1.length cu, .int .i64 1, .string ⟨#[]⟩, .string ⟨#[]⟩, .slice none 0 0, .bool false, .int .i64 0, .string ⟨#[]⟩] (w88.setCell ⟨Q, 2, none⟩ (.slice ax (ms.length + 1) cx)) ∧ Rk 3 (fun b => Q + 1 ≤ b) (w88.setCell ⟨Q, 2, none⟩ (.slice ax (ms.length + 1) cx)) (.slice au ms_1.length cu) ms_1.length (flatM ms_1) ∧ ts.length ≤ s.i + f := by
                  have hm := HM.out
                  have hw1 := HW1.out
                  have ho4 := HO4.out
                  have hoi := HOI2.out
                  have hf5 := HF5.out
                  rw [HO1.out] at hw1 ho4
                  dsimp only at hw1 ho4 hoi
                  refine ⟨SX.token ts (SX.eqS ts (SX.token ts (SX.full ts ms.length t) 1)) 4, ms ++ [(⟨na, false, va⟩ : Mt)], f', ax, cx, rfl, by rw [hlen]; omega, by rw [hlen]; exact ho4, by rw [hlen]; exact hw1, by rw [hlen]; exact HS88.out.set 2 _, ?_, by omega⟩
                  have := (HRK8.out.carry (w' := w88.setCell ⟨Q, 2, none⟩ (.slice ax (ms.length + 1) cx)) (by simp [World.setCell]) (fun b hb _ _ => Below.heap_setCell w88 ⟨Q, 2, none⟩ _ b (by show b ≠ Q; have := hb.1; omega))).mono (G' := fun b => Q + 1 ≤ b) (fun b hb _ => hb.1)
                  simpa using this
                have hmeas : ts.length - (intOf (.int .i64 (((SX.token ts (SX.eqS ts (SX.token ts (SX.full ts ms.length t) 1)) 4).i : Nat) : Int))).toNat < ts.length - (intOf (.int .i64 ((t.i : Nat) : Int))).toNat := by
                  have hoi := HOI2.out
                  have hil := HIL.out
                  dsimp only at hoi
                  simp only [intOf, Int.toNat_natCast]
                  omega
                exact ⟨hrel, hmeas⟩
            · have d4 : ((ms.length : Int) == 4) = false := by simp; omega
              have HFU : Hid (SX.full ts ms.length t = SX.next t true) := Lib.hid (by unfold SX.full; rw [if_neg hm])
              clear hm
              go_wp2_with fail
              clear c2 g2 d4
              rw [← HFU.out] at HS7
              clear HFU
              have HC : Hid (Calls Tryd.prog 33 #[.pointer (some ⟨P, 0, none⟩), .int .i64 1] w8 fun r w' => r = .returned (.agg #[.int .i64 ((SX.tokV ts (SX.full ts ms.length t) 1).kind : Nat), .string (PX.bs (SX.tokV ts (SX.full ts ms.length t) 1).says), .int .i64 (SX.tokV ts (SX.full ts ms.length t) 1).n, .int .i64 ((SX.tokV ts (SX.full ts ms.length t) 1).place : Nat)]) ∧ PS P (.slice la ts.length lc) ts 0 (SX.token ts (SX.full ts ms.length t) 1) w' ∧ Keep (fun k => k = P) w8 w') := Lib.hid (token_run P _ ts 0 _ 1 w8 HS7.out.ps HE.out (by decide))
              refine HC.out.mono ?_
              rintro e w9 ⟨rfl, hp, hk⟩
              have HS8 := Lib.hid (HS7.out.call (s' := SX.token ts (SX.full ts ms.length t) 1) hp hk)
              have HKR8 := Lib.hid (HKR7.out.trans hk)
              clear HKR7
              clear hp hk HC HS7
              obtain ⟨na, hna⟩ : ∃ na, na = PX.bs (SX.tokV ts (SX.full ts ms.length t) 1).says := ⟨_, rfl⟩
              rw [← hna]
              have HNA := Lib.hid hna
              clear hna
              have hfd := field46
              have hl : Lay w9 (w9.alloc (.cells #[.string na, .bool false, .string ⟨#[]⟩] 47)) := (Keep.refl _ w9).alloc _
              have HX : Hid (CB (w9.alloc (.cells #[.string na, .bool false, .string ⟨#[]⟩] 47)) w9.heap.size 47 #[.string na, .bool false, .string ⟨#[]⟩]) := Lib.hid (CB.new _ _ _)
              have HS9 := Lib.hid (HS8.out.lay hl)
              have HQM : Hid (Q < w9.heap.size) := Lib.hid HS8.out.cq.lt
              have HWM : Hid (wr.heap.size ≤ w9.heap.size) := Lib.hid HKR8.out.size
              have HKR := Lib.hid (HKR8.out.trans (Lay.keep hl))
              clear hl HKR8
              go_upto_region 18 with fail
              clear hfd
              revert HX HS9 HQM HWM HKR
              generalize w9.alloc (.cells #[.string na, .bool false, .string ⟨#[]⟩] 47) = w10
              generalize w9.heap.size = M
              intro HX HS9 HQM HWM HKR
              by_cases hy2 : SX.takes ts (SX.token ts (SX.full ts ms.length t) 1) PX.wNe = true
              · have HEQ : Hid (SX.eqS ts (SX.token ts (SX.full ts ms.length t) 1) = SX.next (SX.token ts (SX.full ts ms.length t) 1) true) := Lib.hid (by unfold SX.eqS; rw [if_pos hy2])
                have hyy := hy2
                have HYY := Lib.hid hyy
                clear hy2
                go_wp2_with fail
                have HC : Hid (Calls Tryd.prog 32 #[.pointer (some ⟨P, 0, none⟩), .string ⟨#[33, 61]⟩] w10 fun r w' => r = .returned (.bool (true)) ∧ PS P (.slice la ts.length lc) ts 0 (SX.next (SX.token ts (SX.full ts ms.length t) 1) true) w' ∧ Keep (fun k => k = P) w10 w') := Lib.hid (take_s P _ ts 0 _ PX.wNe _ w10 HS9.out.ps HE.out hyy)
                refine HC.out.mono ?_
                rintro e w11 ⟨rfl, hp, hk⟩
                have HS10 := Lib.hid (HS9.out.call (s' := SX.next (SX.token ts (SX.full ts ms.length t) 1) true) hp hk)
                have HKR10 := Lib.hid (HKR.out.trans hk)
                have HX10 := Lib.hid (HX.out.keep hk (by have := HSR0.out; have := HQM.out; omega))
                clear HX
                clear HKR
                clear hp hk HC HS9
                clear hyy
                have m1 := HX10.out.cell 1
                have n1 := HX10.out.frozen 1
                go_upto_region 19 with fail
                clear m1 n1
                have HS11 := Lib.hid (HS10.out.over ((Keep.refl (fun k => Q + 1 ≤ k) w11).setCell (p := ⟨M, 1, none⟩) (.inr HQM.out) (.bool true)))
                have HKR11 := Lib.hid (HKR10.out.setCell (p := ⟨M, 1, none⟩) (.inl HWM.out) (.bool true))
                have HX11 : Hid (CB (w11.setCell ⟨M, 1, none⟩ (.bool true)) M 47 #[.string na, .bool true, .string ⟨#[]⟩]) := Lib.hid (HX10.out.set 1 (.bool true))
                revert HS11 HKR11 HX11
                generalize w11.setCell ⟨M, 1, none⟩ (.bool true) = w12
                intro HS11 HKR11 HX11
                clear HS10 HKR10 HX10
                have m1 := HX11.out.cell 1
                go_wp2_with fail
                clear m1
                rw [← HEQ.out] at HS11
                clear HEQ
                have HC : Hid (Calls Tryd.prog 33 #[.pointer (some ⟨P, 0, none⟩), .int .i64 4] w12 fun r w' => r = .returned (.agg #[.int .i64 ((SX.tokV ts (SX.eqS ts (SX.token ts (SX.full ts ms.length t) 1)) 4).kind : Nat), .string (PX.bs (SX.tokV ts (SX.eqS ts (SX.token ts (SX.full ts ms.length t) 1)) 4).says), .int .i64 (SX.tokV ts (SX.eqS ts (SX.token ts (SX.full ts ms.length t) 1)) 4).n, .int .i64 ((SX.tokV ts (SX.eqS ts (SX.token ts (SX.full ts ms.length t) 1)) 4).place : Nat)]) ∧ PS P (.slice la ts.length lc) ts 0 (SX.token ts (SX.eqS ts (SX.token ts (SX.full ts ms.length t) 1)) 4) w' ∧ Keep (fun k => k = P) w12 w') := Lib.hid (token_run P _ ts 0 _ 4 w12 HS11.out.ps HE.out (by decide))
                refine HC.out.mono ?_
                rintro e w13 ⟨rfl, hp, hk⟩
                have HS12 := Lib.hid (HS11.out.call (s' := SX.token ts (SX.eqS ts (SX.token ts (SX.full ts ms.length t) 1)) 4) hp hk)
                have HKR12 := Lib.hid (HKR11.out.trans hk)
                have HX12 := Lib.hid (HX11.out.keep hk (by have := HSR0.out; have := HQM.out; omega))
                clear HX11
                clear HKR11
                clear hp hk HC HS11
                obtain ⟨va, hva⟩ : ∃ va, va = PX.bs (SX.tokV ts (SX.eqS ts (SX.token ts (SX.full ts ms.length t) 1)) 4).says := ⟨_, rfl⟩
                rw [← hva]
                have HO1 : Hid (o = (⟨na, true, va⟩, SX.token ts (SX.eqS ts (SX.token ts (SX.full ts ms.length t) 1)) 4)) := Lib.hid (by rw [HO.out, HNA.out, hva, ← HYY.out]; rfl)
                clear hva HO HNA HYY
                have hfd := field46
                have m2 := HX12.out.cell 2
                have n2 := HX12.out.frozen 2
                go_upto_region 22 with fail
                clear m2 n2 hfd
                have HS13 := Lib.hid (HS12.out.over ((Keep.refl (fun k => Q + 1 ≤ k) w13).setCell (p := ⟨M, 2, none⟩) (.inr HQM.out) (.string va)))
                have HKR13 := Lib.hid (HKR12.out.setCell (p := ⟨M, 2, none⟩) (.inl HWM.out) (.string va))
                have HX13 : Hid (CB (w13.setCell ⟨M, 2, none⟩ (.string va)) M 47 #[.string na, .bool true, .string va]) := Lib.hid (HX12.out.set 2 (.string va))
                revert HS13 HKR13 HX13
                generalize w13.setCell ⟨M, 2, none⟩ (.string va) = w14
                intro HS13 HKR13 HX13
                clear HS12 HKR12 HX12
                have hw : wr.heap.size ≤ w14.heap.size := HKR13.out.size
                have hrk' : Rk 3 (fun b => Q + 1 ≤ b) w14 (.slice au ms.length cu) ms.length (flatM ms) := HRK.out.keep HKR13.out (fun b hb _ _ => by have : Q + 1 ≤ b := hb; have := HSR0.out; omega)
                have hMl := HX13.out.lt
                have hQM := HQM.out
                obtain ⟨ax, cx, w88, hrun, hrk8, hk8⟩ := app_mat hrk' (by omega) (by have := HM5.out; omega) ⟨na, true, va⟩
                have hat : ∀ b, At (.slice au ms.length cu) b → Q + 1 ≤ b := fun b ha => (hrk'.at ha).1
                have hkq : Keep (fun k => Q + 1 ≤ k) w14 w88 := ((Keep.refl _ w14).alloc _).trans (Keep.into hk8 (fun k _ h => hat k h))
                have HS88 := Lib.hid (HS13.out.over hkq)
                have HRUN := Lib.hid hrun
                have HRK8 := Lib.hid hrk8
                have q2 := HS13.out.cq.cell 2
                have m0 := HX13.out.cell 0
                have m1 := HX13.out.cell 1
                have m2 := HX13.out.cell 2
                have z2 := HS88.out.cq.cell 2
                have y2 := HS88.out.cq.frozen 2
                have x1 : w88.cell? ⟨P, 1, none⟩ = some (.int .i64 ((SX.token ts (SX.eqS ts (SX.token ts (SX.full ts ms.length t) 1)) 4).i : Nat)) := HS88.out.ps.cb.cell 1
                have hOI := HOI.out
                rw [HO1.out] at hOI
                have HOI2 := Lib.hid hOI
                clear hrk' hat hkq hrun hrk8 hk8 hOI
                go_wp2_with (at_builtin; refine wpList_append_run rfl _ _ _ rfl rfl rfl HRUN.out ?_)
                have hlen : (ms ++ [(⟨na, true, va⟩ : Mt)]).length = ms.length + 1 := by simp
                have hrel : ∃ (s : S) (ms_1 : List Mt) (f : Nat) (au : Option Addr) (cu : Nat), Value.int IntKind.i64 (((SX.token ts (SX.eqS ts (SX.token ts (SX.full ts ms.length t) 1)) 4).i : Nat) : Int) = .int .i64 (s.i : Nat) ∧ ms_1.length ≤ 5 ∧ (s.err = 0 → ms_1.length ≤ 4) ∧ SX.sM ts = (ms_1 ++ (SX.wheres ts f ms_1.length s).1, (SX.wheres ts f ms_1.length s).2) ∧ RS wA P Q w.heap.size (.slice la ts.length lc) ts s #[.int .i64 (SX.vFrom ts), .int .i64 (SX.vTo ts), .slice au ms_1.length cu, .int .i64 1, .string ⟨#[]⟩, .string ⟨#[]⟩, .slice none 0 0, .bool false, .int .i64 0, .string ⟨#[]⟩] (w88.setCell ⟨Q, 2, none⟩ (.slice ax (ms.length + 1) cx)) ∧ Rk 3 (fun b => Q + 1 ≤ b) (w88.setCell ⟨Q, 2, none⟩ (.slice ax (ms.length + 1) cx)) (.slice au ms_1.length cu) ms_1.length (flatM ms_1) ∧ ts.length ≤ s.i + f := by
                  have hm := HM.out
                  have hw1 := HW1.out
                  have ho4 := HO4.out
                  have hoi := HOI2.out
                  have hf5 := HF5.out
                  rw [HO1.out] at hw1 ho4
                  dsimp only at hw1 ho4 hoi
                  refine ⟨SX.token ts (SX.eqS ts (SX.token ts (SX.full ts ms.length t) 1)) 4, ms ++ [(⟨na, true, va⟩ : Mt)], f', ax, cx, rfl, by rw [hlen]; omega, by rw [hlen]; exact ho4, by rw [hlen]; exact hw1, by rw [hlen]; exact HS88.out.set 2 _, ?_, by omega⟩
                  have := (HRK8.out.carry (w' := w88.setCell ⟨Q, 2, none⟩ (.slice ax (ms.length + 1) cx)) (by simp [World.setCell]) (fun b hb _ _ => Below.heap_setCell w88 ⟨Q, 2, none⟩ _ b (by show b ≠ Q; have := hb.1; omega))).mono (G' := fun b => Q + 1 ≤ b) (fun b hb _ => hb.1)
                  simpa using this
                have hmeas : ts.length - (intOf (.int .i64 (((SX.token ts (SX.eqS ts (SX.token ts (SX.full ts ms.length t) 1)) 4).i : Nat) : Int))).toNat < ts.length - (intOf (.int .i64 ((t.i : Nat) : Int))).toNat := by
                  have hoi := HOI2.out
                  have hil := HIL.out
                  dsimp only at hoi
                  simp only [intOf, Int.toNat_natCast]
                  omega
                exact ⟨hrel, hmeas⟩
              · have hyy : SX.takes ts (SX.token ts (SX.full ts ms.length t) 1) PX.wNe = false := by simpa using hy2
                have HEQ : Hid (SX.eqS ts (SX.token ts (SX.full ts ms.length t) 1) = SX.want ts (SX.token ts (SX.full ts ms.length t) 1) PX.wEq) := Lib.hid (by unfold SX.eqS; rw [if_neg hy2])
                have HYY := Lib.hid hyy
                clear hy2
                go_wp2_with fail
                have HC : Hid (Calls Tryd.prog 32 #[.pointer (some ⟨P, 0, none⟩), .string ⟨#[33, 61]⟩] w10 fun r w' => r = .returned (.bool (false)) ∧ PS P (.slice la ts.length lc) ts 0 (SX.token ts (SX.full ts ms.length t) 1) w' ∧ Keep (fun k => k = P) w10 w') := Lib.hid (take_s P _ ts 0 _ PX.wNe _ w10 HS9.out.ps HE.out hyy)
                refine HC.out.mono ?_
                rintro e w11 ⟨rfl, hp, hk⟩
                have HS10 := Lib.hid (HS9.out.call (s' := SX.token ts (SX.full ts ms.length t) 1) hp hk)
                have HKR10 := Lib.hid (HKR.out.trans hk)
                have HX10 := Lib.hid (HX.out.keep hk (by have := HSR0.out; have := HQM.out; omega))
                clear HX
                clear HKR
                clear hp hk HC HS9
                clear hyy
                have m1 := HX10.out.cell 1
                have n1 := HX10.out.frozen 1
                go_upto_region 19 with fail
                clear m1 n1
                have HS11 := Lib.hid (HS10.out.over ((Keep.refl (fun k => Q + 1 ≤ k) w11).setCell (p := ⟨M, 1, none⟩) (.inr HQM.out) (.bool false)))
                have HKR11 := Lib.hid (HKR10.out.setCell (p := ⟨M, 1, none⟩) (.inl HWM.out) (.bool false))
                have HX11 : Hid (CB (w11.setCell ⟨M, 1, none⟩ (.bool false)) M 47 #[.string na, .bool false, .string ⟨#[]⟩]) := Lib.hid (HX10.out.set 1 (.bool false))
                revert HS11 HKR11 HX11
                generalize w11.setCell ⟨M, 1, none⟩ (.bool false) = w12
                intro HS11 HKR11 HX11
                clear HS10 HKR10 HX10
                have m1 := HX11.out.cell 1
                go_wp2_with fail
                clear m1
                have HC : Hid (Calls Tryd.prog 29 #[.pointer (some ⟨P, 0, none⟩), .string ⟨#[61]⟩] w12 fun r w' => (∃ v, r = .returned v) ∧ PS P (.slice la ts.length lc) ts 0 (SX.want ts (SX.token ts (SX.full ts ms.length t) 1) PX.wEq) w' ∧ Keep (fun k => k = P) w12 w') := Lib.hid (want_run P _ ts 0 _ PX.wEq w12 HS11.out.ps HE.out)
                refine HC.out.mono ?_
                rintro e w13 ⟨⟨v, rfl⟩, hp, hk⟩
                have HS12 := Lib.hid (HS11.out.call (s' := SX.want ts (SX.token ts (SX.full ts ms.length t) 1) PX.wEq) hp hk)
                have HKR12 := Lib.hid (HKR11.out.trans hk)
                have HX12 := Lib.hid (HX11.out.keep hk (by have := HSR0.out; have := HQM.out; omega))
                clear HX11
                clear HKR11
                clear hp hk HC HS11
                go_wp2_with fail
                rw [← HEQ.out] at HS12
                clear HEQ
                have HC : Hid (Calls Tryd.prog 33 #[.pointer (some ⟨P, 0, none⟩), .int .i64 4] w13 fun r w' => r = .returned (.agg #[.int .i64 ((SX.tokV ts (SX.eqS ts (SX.token ts (SX.full ts ms.length t) 1)) 4).kind : Nat), .string (PX.bs (SX.tokV ts (SX.eqS ts (SX.token ts (SX.full ts ms.length t) 1)) 4).says), .int .i64 (SX.tokV ts (SX.eqS ts (SX.token ts (SX.full ts ms.length t) 1)) 4).n, .int .i64 ((SX.tokV ts (SX.eqS ts (SX.token ts (SX.full ts ms.length t) 1)) 4).place : Nat)]) ∧ PS P (.slice la ts.length lc) ts 0 (SX.token ts (SX.eqS ts (SX.token ts (SX.full ts ms.length t) 1)) 4) w' ∧ Keep (fun k => k = P) w13 w') := Lib.hid (token_run P _ ts 0 _ 4 w13 HS12.out.ps HE.out (by decide))
                refine HC.out.mono ?_
                rintro e w14 ⟨rfl, hp, hk⟩
                have HS13 := Lib.hid (HS12.out.call (s' := SX.token ts (SX.eqS ts (SX.token ts (SX.full ts ms.length t) 1)) 4) hp hk)
                have HKR13 := Lib.hid (HKR12.out.trans hk)
                have HX13 := Lib.hid (HX12.out.keep hk (by have := HSR0.out; have := HQM.out; omega))
                clear HX12
                clear HKR12
                clear hp hk HC HS12
                obtain ⟨va, hva⟩ : ∃ va, va = PX.bs (SX.tokV ts (SX.eqS ts (SX.token ts (SX.full ts ms.length t) 1)) 4).says := ⟨_, rfl⟩
                rw [← hva]
                have HO1 : Hid (o = (⟨na, false, va⟩, SX.token ts (SX.eqS ts (SX.token ts (SX.full ts ms.length t) 1)) 4)) := Lib.hid (by rw [HO.out, HNA.out, hva, ← HYY.out]; rfl)
                clear hva HO HNA HYY
                have hfd := field46
                have m2 := HX13.out.cell 2
                have n2 := HX13.out.frozen 2
                go_upto_region 22 with fail
                clear m2 n2 hfd
                have HS14 := Lib.hid (HS13.out.over ((Keep.refl (fun k => Q + 1 ≤ k) w14).setCell (p := ⟨M, 2, none⟩) (.inr HQM.out) (.string va)))
                have HKR14 := Lib.hid (HKR13.out.setCell (p := ⟨M, 2, none⟩) (.inl HWM.out) (.string va))
                have HX14 : Hid (CB (w14.setCell ⟨M, 2, none⟩ (.string va)) M 47 #[.string na, .bool false, .string va]) := Lib.hid (HX13.out.set 2 (.string va))
                revert HS14 HKR14 HX14
                generalize w14.setCell ⟨M, 2, none⟩ (.string va) = w15
                intro HS14 HKR14 HX14
                clear HS13 HKR13 HX13
                have hw : wr.heap.size ≤ w15.heap.size := HKR14.out.size
                have hrk' : Rk 3 (fun b => Q + 1 ≤ b) w15 (.slice au ms.length cu) ms.length (flatM ms) := HRK.out.keep HKR14.out (fun b hb _ _ => by have : Q + 1 ≤ b := hb; have := HSR0.out; omega)
                have hMl := HX14.out.lt
                have hQM := HQM.out
                obtain ⟨ax, cx, w88, hrun, hrk8, hk8⟩ := app_mat hrk' (by omega) (by have := HM5.out; omega) ⟨na, false, va⟩
                have hat : ∀ b, At (.slice au ms.length cu) b → Q + 1 ≤ b := fun b ha => (hrk'.at ha).1
                have hkq : Keep (fun k => Q + 1 ≤ k) w15 w88 := ((Keep.refl _ w15).alloc _).trans (Keep.into hk8 (fun k _ h => hat k h))
                have HS88 := Lib.hid (HS14.out.over hkq)
                have HRUN := Lib.hid hrun
                have HRK8 := Lib.hid hrk8
                have q2 := HS14.out.cq.cell 2
                have m0 := HX14.out.cell 0
                have m1 := HX14.out.cell 1
                have m2 := HX14.out.cell 2
                have z2 := HS88.out.cq.cell 2
                have y2 := HS88.out.cq.frozen 2
                have x1 : w88.cell? ⟨P, 1, none⟩ = some (.int .i64 ((SX.token ts (SX.eqS ts (SX.token ts (SX.full ts ms.length t) 1)) 4).i : Nat)) := HS88.out.ps.cb.cell 1
                have hOI := HOI.out
                rw [HO1.out] at hOI
                have HOI2 := Lib.hid hOI
                clear hrk' hat hkq hrun hrk8 hk8 hOI
                go_wp2_with (at_builtin; refine wpList_append_run rfl _ _ _ rfl rfl rfl HRUN.out ?_)
                have hlen : (ms ++ [(⟨na, false, va⟩ : Mt)]).length = ms.length + 1 := by simp
                have hrel : ∃ (s : S) (ms_1 : List Mt) (f : Nat) (au : Option Addr) (cu : Nat), Value.int IntKind.i64 (((SX.token ts (SX.eqS ts (SX.token ts (SX.full ts ms.length t) 1)) 4).i : Nat) : Int) = .int .i64 (s.i : Nat) ∧ ms_1.length ≤ 5 ∧ (s.err = 0 → ms_1.length ≤ 4) ∧ SX.sM ts = (ms_1 ++ (SX.wheres ts f ms_1.length s).1, (SX.wheres ts f ms_1.length s).2) ∧ RS wA P Q w.heap.size (.slice la ts.length lc) ts s #[.int .i64 (SX.vFrom ts), .int .i64 (SX.vTo ts), .slice au ms_1.length cu, .int .i64 1, .string ⟨#[]⟩, .string ⟨#[]⟩, .slice none 0 0, .bool false, .int .i64 0, .string ⟨#[]⟩] (w88.setCell ⟨Q, 2, none⟩ (.slice ax (ms.length + 1) cx)) ∧ Rk 3 (fun b => Q + 1 ≤ b) (w88.setCell ⟨Q, 2, none⟩ (.slice ax (ms.length + 1) cx)) (.slice au ms_1.length cu) ms_1.length (flatM ms_1) ∧ ts.length ≤ s.i + f := by
                  have hm := HM.out
                  have hw1 := HW1.out
                  have ho4 := HO4.out
                  have hoi := HOI2.out
                  have hf5 := HF5.out
                  rw [HO1.out] at hw1 ho4
                  dsimp only at hw1 ho4 hoi
                  refine ⟨SX.token ts (SX.eqS ts (SX.token ts (SX.full ts ms.length t) 1)) 4, ms ++ [(⟨na, false, va⟩ : Mt)], f', ax, cx, rfl, by rw [hlen]; omega, by rw [hlen]; exact ho4, by rw [hlen]; exact hw1, by rw [hlen]; exact HS88.out.set 2 _, ?_, by omega⟩
                  have := (HRK8.out.carry (w' := w88.setCell ⟨Q, 2, none⟩ (.slice ax (ms.length + 1) cx)) (by simp [World.setCell]) (fun b hb _ _ => Below.heap_setCell w88 ⟨Q, 2, none⟩ _ b (by show b ≠ Q; have := hb.1; omega))).mono (G' := fun b => Q + 1 ≤ b) (fun b hb _ => hb.1)
                  simpa using this
                have hmeas : ts.length - (intOf (.int .i64 (((SX.token ts (SX.eqS ts (SX.token ts (SX.full ts ms.length t) 1)) 4).i : Nat) : Int))).toNat < ts.length - (intOf (.int .i64 ((t.i : Nat) : Int))).toNat := by
                  have hoi := HOI2.out
                  have hil := HIL.out
                  dsimp only at hoi
                  simp only [intOf, Int.toNat_natCast]
                  omega
                exact ⟨hrel, hmeas⟩
          · have hyf : SX.takes ts t PX.wWhere = false := by simpa using hy
            have HEQ : Hid (SX.sM ts = (ms, t)) := Lib.hid (by rw [HSM.out]; cases f with | zero => simp [SX.wheres] | succ f => rw [SX.wheres, if_neg hy]; simp)
            clear hy
            go_wp2_with fail
            have HC : Hid (Calls Tryd.prog 32 #[.pointer (some ⟨P, 0, none⟩), .string ⟨#[119, 104, 101, 114, 101]⟩] wr fun r w' => r = .returned (.bool (false)) ∧ PS P (.slice la ts.length lc) ts 0 (t) w' ∧ Keep (fun k => k = P) wr w') := Lib.hid (take_s P _ ts 0 _ PX.wWhere _ wr HSR.out.ps HE.out hyf)
            refine HC.out.mono ?_
            rintro e w8 ⟨rfl, hp, hk⟩
            have HS7 := Lib.hid (HSR.out.call (s' := t) hp hk)
            have HKW := Lib.hid hk
            clear hp hk HC HSR
            clear hyf HSM HM4
            have HRK2 := Lib.hid (HRK.out.keep (w' := w8) HKW.out (fun b hb _ _ => by have : Q + 1 ≤ b := hb; have := HS7.out.hQ; have := HS7.out.hP; omega))
            go_wp2_with fail
            go_meet
            rw [HEQ.out]
            exact ⟨au, cu, HS7.out, HRK2.out, HM5.out⟩
      case rest =>
        obtain ⟨au, cu, hrs, hrk, hm5⟩ := hcut
        obtain ⟨wM, rfl⟩ : ∃ x : World, x = wc := ⟨_, rfl⟩
        obtain ⟨ms, hms⟩ : ∃ ms, ms = (SX.sM ts).1 := ⟨_, rfl⟩
        rw [← hms] at hrs hrk hm5
        have HMS := Lib.hid hms
        have HM5 := Lib.hid hm5
        have HPQ : Hid (P < wA.heap.size ∧ wA.heap.size ≤ Q) := Lib.hid ⟨hrs.hP, hrs.hQ⟩
        have HSM : Hid (RT wA P Q w.heap.size (.slice la ts.length lc) ts (SX.sM ts).2 #[.int .i64 (SX.vFrom ts), .int .i64 (SX.vTo ts), .slice au ms.length cu, .int .i64 1, .string ⟨#[]⟩, .string ⟨#[]⟩, .slice none 0 0, .bool false, .int .i64 0, .string ⟨#[]⟩] ms au cu (.mk 1 ⟨#[]⟩ ⟨#[]⟩ []) none 0 wM) := Lib.hid ⟨hrs, hrk, KsB.nil _ _ _ _ _⟩
        clear hms hm5 hrs hrk HSL
        go_wp2_with fail
        have HC : Hid (Calls Tryd.prog 32 #[.pointer (some ⟨P, 0, none⟩), .string ⟨#[102, 105, 110, 100]⟩] wM fun r w' => r = .returned (.bool (SX.takes ts (SX.sM ts).2 PX.wFind)) ∧ PS P (.slice la ts.length lc) ts 0 (SX.take ts (SX.sM ts).2 PX.wFind) w' ∧ Keep (fun k => k = P) wM w') := Lib.hid (take_s P _ ts 0 _ PX.wFind _ wM HSM.out.ps HE.out rfl)
        refine HC.out.mono ?_
        rintro e w8 ⟨rfl, hp, hk⟩
        have HS7 := Lib.hid (HSM.out.call (s' := SX.take ts (SX.sM ts).2 PX.wFind) hp hk)
        clear hp hk HC HSM
        go_upto_if 98 with fail
        go_cut [] from 11 (fun wx => ∃ (ak : Option Addr) (ck : Nat), RT wA P Q w.heap.size (.slice la ts.length lc) ts (SX.sX ts).2 #[.int .i64 (SX.vFrom ts), .int .i64 (SX.vTo ts), .slice au ms.length cu, .int .i64 (SX.sX ts).1.op, .string (SX.sX ts).1.name, .string (SX.sX ts).1.text, .slice ak (SX.sX ts).1.kids.length ck, .bool false, .int .i64 0, .string ⟨#[]⟩] ms au cu (SX.sX ts).1 ak ck wx)
        case first =>
          by_cases hf : SX.takes ts (SX.sM ts).2 PX.wFind = true
          · have HX : Hid (SX.sX ts = SX.orS ts (SX.next (SX.sM ts).2 true)) := Lib.hid (by unfold SX.sX SX.find; rw [if_pos hf])
            have he0 : (SX.next (SX.sM ts).2 true).err = 0 := by show (SX.sM ts).2.err = 0; unfold SX.takes at hf; simp at hf; exact hf.1
            have htk : SX.take ts (SX.sM ts).2 PX.wFind = SX.next (SX.sM ts).2 true := by unfold SX.take; rw [hf]
            rw [htk] at HS7
            rw [hf]
            have HC : Hid (Calls Tryd.prog 34 #[.pointer (some ⟨P, 0, none⟩)] w8 (OneP P (.slice la ts.length lc) ts 0 (SX.sX ts) w8)) := Lib.hid (by rw [HX.out]; exact or_any P _ ts HE.out _ w8 HS7.out.ps he0)
            clear he0 htk hf
            go_wp2_with fail
            refine HC.out.mono ?_
            rintro e wF ⟨kv, rfl, hkb, hp, hk⟩
            obtain ⟨ak, ck, rfl⟩ := hkb.shape
            have hql : Q < w8.heap.size := HS7.out.cq.lt
            have HSF : Hid (RT wA P Q w.heap.size (.slice la ts.length lc) ts (SX.sX ts).2 #[.int .i64 (SX.vFrom ts), .int .i64 (SX.vTo ts), .slice au ms.length cu, .int .i64 1, .string ⟨#[]⟩, .string ⟨#[]⟩, .slice none 0 0, .bool false, .int .i64 0, .string ⟨#[]⟩] ms au cu (SX.sX ts).1 ak ck wF) := Lib.hid ⟨(HS7.out.call hp hk).rs, (HS7.out.call hp hk).rk, KsB.mono (fun b _ hb => by have : w8.heap.size ≤ b := hb; omega) _ _ hkb⟩
            clear hkb hp hk hql HC HS7
            unfold Ft.val
            have c3 := HSF.out.cq.cell 3
            have g3 := HSF.out.cq.frozen 3
            have c4 := HSF.out.cq.cell 4
            have g4 := HSF.out.cq.frozen 4
            have c5 := HSF.out.cq.cell 5
            have g5 := HSF.out.cq.frozen 5
            have c6 := HSF.out.cq.cell 6
            have g6 := HSF.out.cq.frozen 6
            go_wp2_with fail
            go_meet
            exact ⟨ak, ck, (((HSF.out.set 3 _).set 4 _).set 5 _).set 6 _⟩
          · have HX : SX.sX ts = (.mk 1 ⟨#[]⟩ ⟨#[]⟩ [], (SX.sM ts).2) := by unfold SX.sX SX.find; rw [if_neg hf]
            have hff : SX.takes ts (SX.sM ts).2 PX.wFind = false := by simpa using hf
            have htk : SX.take ts (SX.sM ts).2 PX.wFind = (SX.sM ts).2 := by unfold SX.take; rw [hff]; rfl
            rw [htk] at HS7
            rw [hff]
            clear hf hff htk
            go_wp2_with fail
            go_meet
            rw [HX]
            exact ⟨none, 0, HS7.out⟩
        case rest =>
          obtain ⟨ak, ck, hrs⟩ := hcut
          obtain ⟨wX, rfl⟩ : ∃ x : World, x = wc := ⟨_, rfl⟩
          obtain ⟨x, hx⟩ : ∃ x, x = (SX.sX ts).1 := ⟨_, rfl⟩
          rw [← hx] at hrs
          have HX := Lib.hid hx
          have HSX := Lib.hid hrs
          clear hx hrs HS7
          go_wp2_with fail
          have HC : Hid (Calls Tryd.prog 32 #[.pointer (some ⟨P, 0, none⟩), .string ⟨#[100, 101, 115, 99]⟩] wX fun r w' => r = .returned (.bool (SX.takes ts (SX.sX ts).2 PX.wDesc)) ∧ PS P (.slice la ts.length lc) ts 0 (SX.sD ts) w' ∧ Keep (fun k => k = P) wX w') := Lib.hid (take_s P _ ts 0 _ PX.wDesc _ wX HSX.out.ps HE.out rfl)
          refine HC.out.mono ?_
          rintro e w9 ⟨rfl, hp, hk⟩
          have HS8 := Lib.hid (HSX.out.call (s' := SX.sD ts) hp hk)
          clear hp hk HC HSX
          obtain ⟨de, hde⟩ : ∃ de, de = SX.takes ts (SX.sX ts).2 PX.wDesc := ⟨_, rfl⟩
          rw [← hde]
          have HDE := Lib.hid hde
          clear hde
          have c7 := HS8.out.cq.cell 7
          have g7 := HS8.out.cq.frozen 7
          go_upto_region 27 with fail
          clear c7 g7
          have HS9 : Hid (RT wA P Q w.heap.size (.slice la ts.length lc) ts (SX.sD ts) #[.int .i64 (SX.vFrom ts), .int .i64 (SX.vTo ts), .slice au ms.length cu, .int .i64 x.op, .string x.name, .string x.text, .slice ak x.kids.length ck, .bool de, .int .i64 0, .string ⟨#[]⟩] ms au cu x ak ck (w9.setCell ⟨Q, 7, none⟩ (.bool de))) := Lib.hid (HS8.out.set 7 (.bool de))
          revert HS9
          generalize w9.setCell ⟨Q, 7, none⟩ (.bool de) = w10
          intro HS9
          clear HS8
          go_wp2_with fail
          have HC : Hid (Calls Tryd.prog 29 #[.pointer (some ⟨P, 0, none⟩), .string ⟨#[108, 105, 109, 105, 116]⟩] w10 fun r w' => (∃ v, r = .returned v) ∧ PS P (.slice la ts.length lc) ts 0 (SX.sLim ts) w' ∧ Keep (fun k => k = P) w10 w') := Lib.hid (want_run P _ ts 0 _ PX.wLimit w10 HS9.out.ps HE.out)
          refine HC.out.mono ?_
          rintro e w11 ⟨⟨v, rfl⟩, hp, hk⟩
          have HS10 := Lib.hid (HS9.out.call (s' := SX.sLim ts) hp hk)
          clear hp hk HC HS9
          go_wp2_with fail
          have HC : Hid (Calls Tryd.prog 30 #[.pointer (some ⟨P, 0, none⟩), .int .i64 (1), .int .i64 50] w11 fun r w' => r = .returned (.int .i64 ((SX.tokV ts (SX.sLim ts) 3).n)) ∧ PS P (.slice la ts.length lc) ts 0 (SX.sN ts) w' ∧ Keep (fun k => k = P) w11 w') := Lib.hid (number_run P _ ts 0 _ (1) 50 w11 HS10.out.ps HE.out)
          refine HC.out.mono ?_
          rintro e w12 ⟨rfl, hp, hk⟩
          have HS11 := Lib.hid (HS10.out.call (s' := SX.sN ts) hp hk)
          clear hp hk HC HS10
          obtain ⟨li, hli⟩ : ∃ li, li = (SX.tokV ts (SX.sLim ts) 3).n := ⟨_, rfl⟩
          rw [← hli]
          have HLI := Lib.hid hli
          clear hli
          have c8 := HS11.out.cq.cell 8
          have g8 := HS11.out.cq.frozen 8
          go_upto_region 29 with fail
          clear c8 g8
          have HS12 : Hid (RT wA P Q w.heap.size (.slice la ts.length lc) ts (SX.sN ts) #[.int .i64 (SX.vFrom ts), .int .i64 (SX.vTo ts), .slice au ms.length cu, .int .i64 x.op, .string x.name, .string x.text, .slice ak x.kids.length ck, .bool de, .int .i64 li, .string ⟨#[]⟩] ms au cu x ak ck (w12.setCell ⟨Q, 8, none⟩ (.int .i64 li))) := Lib.hid (HS11.out.set 8 (.int .i64 li))
          revert HS12
          generalize w12.setCell ⟨Q, 8, none⟩ (.int .i64 li) = w13
          intro HS12
          clear HS11
          go_wp2_with fail
          have HC : Hid (Calls Tryd.prog 32 #[.pointer (some ⟨P, 0, none⟩), .string ⟨#[112, 97, 103, 101]⟩] w13 fun r w' => r = .returned (.bool (SX.takes ts (SX.sN ts) PX.wPage)) ∧ PS P (.slice la ts.length lc) ts 0 (SX.take ts (SX.sN ts) PX.wPage) w' ∧ Keep (fun k => k = P) w13 w') := Lib.hid (take_s P _ ts 0 _ PX.wPage _ w13 HS12.out.ps HE.out rfl)
          refine HC.out.mono ?_
          rintro e w14 ⟨rfl, hp, hk⟩
          have HS13 := Lib.hid (HS12.out.call (s' := SX.take ts (SX.sN ts) PX.wPage) hp hk)
          clear hp hk HC HS12
          go_upto_if 111 with fail
          go_cut [] from 11 (fun wx => RT wA P Q w.heap.size (.slice la ts.length lc) ts (SX.sP ts).2 #[.int .i64 (SX.vFrom ts), .int .i64 (SX.vTo ts), .slice au ms.length cu, .int .i64 x.op, .string x.name, .string x.text, .slice ak x.kids.length ck, .bool de, .int .i64 li, .string (SX.sP ts).1] ms au cu x ak ck wx)
          case first =>
            by_cases hf : SX.takes ts (SX.sN ts) PX.wPage = true
            · have HP : Hid (SX.sP ts = (PX.bs (SX.tokV ts (SX.next (SX.sN ts) true) 4).says, SX.token ts (SX.next (SX.sN ts) true) 4)) := Lib.hid (by unfold SX.sP SX.page; rw [if_pos hf])
              have htk : SX.take ts (SX.sN ts) PX.wPage = SX.next (SX.sN ts) true := by unfold SX.take; rw [hf]
              rw [htk] at HS13
              rw [hf]
              clear htk hf
              go_wp2_with fail
              have HC : Hid (Calls Tryd.prog 33 #[.pointer (some ⟨P, 0, none⟩), .int .i64 4] w14 fun r w' => r = .returned (.agg #[.int .i64 ((SX.tokV ts (SX.next (SX.sN ts) true) 4).kind : Nat), .string (PX.bs (SX.tokV ts (SX.next (SX.sN ts) true) 4).says), .int .i64 (SX.tokV ts (SX.next (SX.sN ts) true) 4).n, .int .i64 ((SX.tokV ts (SX.next (SX.sN ts) true) 4).place : Nat)]) ∧ PS P (.slice la ts.length lc) ts 0 (SX.token ts (SX.next (SX.sN ts) true) 4) w' ∧ Keep (fun k => k = P) w14 w') := Lib.hid (token_run P _ ts 0 _ 4 w14 HS13.out.ps HE.out (by decide))
              refine HC.out.mono ?_
              rintro e w15 ⟨rfl, hp, hk⟩
              have HS14 := Lib.hid (HS13.out.call (s' := SX.token ts (SX.next (SX.sN ts) true) 4) hp hk)
              clear hp hk HC HS13
              have hfd := field46
              have c9 := HS14.out.cq.cell 9
              have g9 := HS14.out.cq.frozen 9
              go_wp2_with fail
              go_meet
              rw [HP.out]
              exact HS14.out.set 9 _
            · have HP : SX.sP ts = (⟨#[]⟩, SX.sN ts) := by unfold SX.sP SX.page; rw [if_neg hf]
              have hff : SX.takes ts (SX.sN ts) PX.wPage = false := by simpa using hf
              have htk : SX.take ts (SX.sN ts) PX.wPage = SX.sN ts := by unfold SX.take; rw [hff]; rfl
              rw [htk] at HS13
              rw [hff]
              clear hf hff htk
              go_wp2_with fail
              go_meet
              rw [HP]
              exact HS13.out
          case rest =>
            obtain ⟨wP, rfl⟩ : ∃ x : World, x = wc := ⟨_, rfl⟩
            obtain ⟨pg, hpg⟩ : ∃ pg, pg = (SX.sP ts).1 := ⟨_, rfl⟩
            rw [← hpg] at hcut
            have HPG := Lib.hid hpg
            have HSP := Lib.hid hcut
            clear hpg hcut HS13
            obtain ⟨z, hz⟩ : ∃ z, z = (SX.sP ts).2 := ⟨_, rfl⟩
            rw [← hz] at HSP
            have HZ := Lib.hid hz
            clear hz
            go_upto_region 31 with fail
            go_cut [134] from 11 (fun v wx => v = .bool (decide (z.err = 0) && !decide ((tk ts z.i).kind = 0)) ∧ Lay wP wx)
            case first =>
              have hil := HSP.out.ps.lt
              obtain ⟨b, c, hlv, hb, hbP, t0, _, _, _⟩ := PA.token HSP.out.ps hil
              have x0 : wP.cell? ⟨P, 0, none⟩ = some (.slice la ts.length lc) := HSP.out.ps.cb.cell 0
              have x1 : wP.cell? ⟨P, 1, none⟩ = some (.int .i64 (z.i : Nat)) := HSP.out.ps.cb.cell 1
              have x3 : wP.cell? ⟨P, 3, none⟩ = some (.int .i64 (z.err : Nat)) := HSP.out.ps.cb.cell 3
              rw [hlv] at x0
              clear hlv
              by_cases he0 : z.err = 0
              · have d0 : ((z.err : Int) == 0) = true := by simp; omega
                by_cases hk0 : (tk ts z.i).kind = 0
                · have d1 : (((tk ts z.i).kind : Int) != 0) = false := by simp; omega
                  have dd : (decide (z.err = 0) && !decide ((tk ts z.i).kind = 0)) = false := by rw [decide_eq_true he0, decide_eq_true hk0]; rfl
                  have DD := Lib.hid dd
                  clear he0 hk0 dd
                  go_quiet (fail)
                  go_wp2_with fail
                  go_meet
                  rw [DD.out]
                  exact ⟨rfl, lay_drewN _ _⟩
                · have d1 : (((tk ts z.i).kind : Int) != 0) = true := by simp; omega
                  have dd : (decide (z.err = 0) && !decide ((tk ts z.i).kind = 0)) = true := by rw [decide_eq_true he0, decide_eq_false hk0]; rfl
                  have DD := Lib.hid dd
                  clear he0 hk0 dd
                  go_quiet (fail)
                  go_wp2_with fail
                  go_meet
                  rw [DD.out]
                  exact ⟨rfl, lay_drewN _ _⟩
              · have d0 : ((z.err : Int) == 0) = false := by simp; omega
                have dd : (decide (z.err = 0) && !decide ((tk ts z.i).kind = 0)) = false := by rw [decide_eq_false he0]; rfl
                have DD := Lib.hid dd
                clear he0 dd
                go_quiet (fail)
                go_wp2_with fail
                go_meet
                rw [DD.out]
                exact ⟨rfl, lay_drewN _ _⟩
            case rest =>
              obtain ⟨rfl, hl⟩ := hcut
              obtain ⟨wQ, rfl⟩ : ∃ x : World, x = wc := ⟨_, rfl⟩
              have HSQ := Lib.hid (HSP.out.lay hl)
              clear hl HSP
              go_upto_if 134 with fail
              go_cut [] from 11 (fun wx => RT wA P Q w.heap.size (.slice la ts.length lc) ts (SX.stop ts z) #[.int .i64 (SX.vFrom ts), .int .i64 (SX.vTo ts), .slice au ms.length cu, .int .i64 x.op, .string x.name, .string x.text, .slice ak x.kids.length ck, .bool de, .int .i64 li, .string pg] ms au cu x ak ck wx)
              case first =>
                by_cases hf : (decide (z.err = 0) && !decide ((tk ts z.i).kind = 0)) = true
                · have HP : Hid (SX.stop ts z = SX.wrong ts z 5 z.i) := Lib.hid (by unfold SX.stop; rw [if_pos hf])
                  rw [hf]
                  clear hf
                  have x1 : wQ.cell? ⟨P, 1, none⟩ = some (.int .i64 (z.i : Nat)) := HSQ.out.ps.cb.cell 1
                  have HIL : Hid (z.i < ts.length) := Lib.hid HSQ.out.ps.lt
                  go_wp2_with fail
                  clear x1
                  have HC : Hid (Calls Tryd.prog 31 #[.pointer (some ⟨P, 0, none⟩), .int .i64 5, .int .i64 ((z.i : Nat) : Int)] wQ fun r w' => (∃ v, r = .returned v) ∧ PS P (.slice la ts.length lc) ts 0 (SX.wrong ts z 5 z.i) w' ∧ Keep (fun k => k = P) wQ w') := Lib.hid (wrong_s P _ ts 0 _ 5 (z.i) wQ HSQ.out.ps (HIL.out))
                  refine HC.out.mono ?_
                  rintro e w15 ⟨⟨v, rfl⟩, hp, hk⟩
                  have HS14 := Lib.hid (HSQ.out.call (s' := SX.wrong ts z 5 z.i) hp hk)
                  clear hp hk HC HSQ
                  rw [← HP.out] at HS14
                  go_wp2_with fail
                  go_meet
                  exact HS14.out
                · have HP : SX.stop ts z = z := by unfold SX.stop; rw [if_neg hf]
                  have hff : (decide (z.err = 0) && !decide ((tk ts z.i).kind = 0)) = false := by simpa using hf
                  rw [hff]
                  clear hf hff
                  go_wp2_with fail
                  go_meet
                  rw [HP]
                  exact HSQ.out
              case rest =>
                obtain ⟨wZ, rfl⟩ : ∃ x : World, x = wc := ⟨_, rfl⟩
                have HSZ9 := Lib.hid hcut
                clear hcut HSQ
                have HSY : Hid (((SX.stop ts z).err = 0 → FIN = .ok ⟨SX.vFrom ts, SX.vTo ts, ms, x, de, li, pg⟩) ∧ ((SX.stop ts z).err ≠ 0 → FIN = .error ((SX.stop ts z).err, (SX.stop ts z).pl))) := Lib.hid (by
                  have h := SX.Says.split (SX.query_says ts)
                  rw [HF.out, HZ.out, HMS.out, HX.out, HDE.out, HLI.out, HPG.out]
                  exact h)
                have HBZ : Hid (Below w.heap.size w wZ) := Lib.hid (HBA.out.trans (HSZ9.out.rs.kp.below (fun k h => by have := HNE.out; omega) HBA.out.size))
                obtain ⟨E, hE⟩ : ∃ E, E = (SX.stop ts z).err := ⟨_, rfl⟩
                obtain ⟨L, hL⟩ : ∃ L, L = (SX.stop ts z).pl := ⟨_, rfl⟩
                have x3 : wZ.cell? ⟨P, 3, none⟩ = some (.int .i64 ((SX.stop ts z).err : Nat)) := HSZ9.out.ps.cb.cell 3
                have x4 : wZ.cell? ⟨P, 4, none⟩ = some (.int .i64 ((SX.stop ts z).pl : Nat)) := HSZ9.out.ps.cb.cell 4
                rw [← hE] at x3 HSY
                rw [← hL] at x4 HSY
                clear hE hL
                have hRP : ¬ w.heap.size = P := by have := HNE.out; omega
                have hRQ : ¬ w.heap.size = Q := by have := HNE.out; have := HPQ.out; omega
                have r0 := HSZ9.out.rs.cr.cell 0
                have f0 := HSZ9.out.rs.cr.frozen 0
                have r1 := HSZ9.out.rs.cr.cell 1
                have f1 := HSZ9.out.rs.cr.frozen 1
                have r2 := HSZ9.out.rs.cr.cell 2
                have f2 := HSZ9.out.rs.cr.frozen 2
                have r3 := HSZ9.out.rs.cr.cell 3
                have f3 := HSZ9.out.rs.cr.frozen 3
                have r4 := HSZ9.out.rs.cr.cell 4
                have f4 := HSZ9.out.rs.cr.frozen 4
                have r5 := HSZ9.out.rs.cr.cell 5
                have f5 := HSZ9.out.rs.cr.frozen 5
                have r6 := HSZ9.out.rs.cr.cell 6
                have f6 := HSZ9.out.rs.cr.frozen 6
                have r7 := HSZ9.out.rs.cr.cell 7
                have f7 := HSZ9.out.rs.cr.frozen 7
                have r8 := HSZ9.out.rs.cr.cell 8
                have f8 := HSZ9.out.rs.cr.frozen 8
                have r9 := HSZ9.out.rs.cr.cell 9
                have f9 := HSZ9.out.rs.cr.frozen 9
                by_cases he0 : E = 0
                · have d0 : ((E : Int) != 0) = false := by simp; omega
                  have HFF := Lib.hid (HSY.out.1 he0)
                  clear he0 HSY
                  have c0 := HSZ9.out.rs.cq.cell 0
                  have c1 := HSZ9.out.rs.cq.cell 1
                  have c2 := HSZ9.out.rs.cq.cell 2
                  have c3 := HSZ9.out.rs.cq.cell 3
                  have c4 := HSZ9.out.rs.cq.cell 4
                  have c5 := HSZ9.out.rs.cq.cell 5
                  have c6 := HSZ9.out.rs.cq.cell 6
                  have c7 := HSZ9.out.rs.cq.cell 7
                  have c8 := HSZ9.out.rs.cq.cell 8
                  have c9 := HSZ9.out.rs.cq.cell 9
                  go_wp2_with fail
                  have hq := CB.all10 HSZ9.out.rs.cr (.int .i64 (SX.vFrom ts)) (.int .i64 (SX.vTo ts)) (.slice au ms.length cu) (.int .i64 x.op) (.string x.name) (.string x.text) (.slice ak x.kids.length ck) (.bool de) (.int .i64 li) (.string pg)
                  have hkk := (keep_stored10 (Keep.refl (fun k => k = w.heap.size) wZ) (.inr rfl) (.int .i64 (SX.vFrom ts)) (.int .i64 (SX.vTo ts)) (.slice au ms.length cu) (.int .i64 x.op) (.string x.name) (.string x.text) (.slice ak x.kids.length ck) (.bool de) (.int .i64 li) (.string pg))
                  have q0 := hq.cell 0
                  have q1 := hq.cell 1
                  have q2 := hq.cell 2
                  have q3 := hq.cell 3
                  have q4 := hq.cell 4
                  have q5 := hq.cell 5
                  have q6 := hq.cell 6
                  have q7 := hq.cell 7
                  have q8 := hq.cell 8
                  have q9 := hq.cell 9
                  unfold stored10 at q0 q1 q2 q3 q4 q5 q6 q7 q8 q9 hkk
                  refine bodyPost_ret (v := .tuple #[.agg #[.int .i64 (SX.vFrom ts), .int .i64 (SX.vTo ts), .slice au ms.length cu, .int .i64 x.op, .string x.name, .string x.text, .slice ak x.kids.length ck, .bool de, .int .i64 li, .string pg], .int .i64 0, .int .i64 0]) (by simp [results, Tryd.results14, go_sem, q0, q1, q2, q3, q4, q5, q6, q7, q8, q9]) rfl ?_
                  unfold RefR
                  rw [HFF.out]
                  refine ⟨HBZ.out.trans (hkk.below (fun k h => Nat.le_of_eq h.symm) HBZ.out.size), _, rfl, .slice au ms.length cu, .slice ak x.kids.length ck, rfl, ?_, ?_⟩
                  · exact MsAt.of_rk (HSZ9.out.rk.keep hkk (fun b hb _ _ => by have : Q + 1 ≤ b := hb; have := HNE.out; have := HPQ.out; omega)) (by have := HM5.out; show ms.length ≤ 100000; omega)
                  · exact KsB.at _ _ (KsB.keep hkk.size (fun b hb hl => hkk.block b hl (by have : Q + 1 ≤ b := hb; have := HNE.out; have := HPQ.out; omega)) _ _ HSZ9.out.kb)
                · have d0 : ((E : Int) != 0) = true := by simp; omega
                  have HFF := Lib.hid (HSY.out.2 he0)
                  clear he0 HSY
                  go_wp2_with fail
                  go_region
                  go_wp2_with fail
                  have hq := CB.all10 HSZ9.out.rs.cr (.int .i64 0) (.int .i64 0) (.slice none 0 0) (.int .i64 0) (.string ⟨#[]⟩) (.string ⟨#[]⟩) (.slice none 0 0) (.bool false) (.int .i64 0) (.string ⟨#[]⟩)
                  have hkk := (keep_stored10 (Keep.refl (fun k => k = w.heap.size) wZ) (.inr rfl) (.int .i64 0) (.int .i64 0) (.slice none 0 0) (.int .i64 0) (.string ⟨#[]⟩) (.string ⟨#[]⟩) (.slice none 0 0) (.bool false) (.int .i64 0) (.string ⟨#[]⟩))
                  obtain ⟨W9, hW9⟩ : ∃ W9, W9 = (stored10 wZ w.heap.size (.int .i64 0) (.int .i64 0) (.slice none 0 0) (.int .i64 0) (.string ⟨#[]⟩) (.string ⟨#[]⟩) (.slice none 0 0) (.bool false) (.int .i64 0) (.string ⟨#[]⟩)).drew := ⟨_, rfl⟩
                  have hq9 : CB W9 w.heap.size 29 zeroA := by rw [hW9]; exact hq.drew
                  have hb9 : Below w.heap.size w W9 := by rw [hW9]; exact below_drew (HBZ.out.trans (hkk.below (fun k h => Nat.le_of_eq h.symm) HBZ.out.size)) (Nat.le_trans HBZ.out.size hkk.size)
                  unfold stored10 at hW9
                  rw [← hW9]
                  clear hW9 hq hkk
                  have q0 := hq9.cell 0
                  have q1 := hq9.cell 1
                  have q2 := hq9.cell 2
                  have q3 := hq9.cell 3
                  have q4 := hq9.cell 4
                  have q5 := hq9.cell 5
                  have q6 := hq9.cell 6
                  have q7 := hq9.cell 7
                  have q8 := hq9.cell 8
                  have q9 := hq9.cell 9
                  refine bodyPost_ret (v := .tuple #[zeroQ, .int .i64 (E : Nat), .int .i64 (L : Nat)]) (by simp [results, Tryd.results14, go_sem, zeroQ, q0, q1, q2, q3, q4, q5, q6, q7, q8, q9]) rfl ?_
                  unfold RefR
                  rw [HFF.out]
                  exact ⟨hb9, rfl⟩
end Go.Proofs.YtmodiemmcdocdaaDoor
