/-
  THE DOCUMENT'S OWN TextPlain.
  THE DOCUMENT'S OWN TextPlain: its walk.
  THE DOCUMENT'S OWN TextQuery.
  A QUERY MADE OF NUMBERS CAN BE WRITTEN: no program in it.
-/
import Derived.Test.YtkckgjanfiiieaaGreatDoorTxA
import Derived.Test.YtkckgjanfiiieaaGreatDoorLb7
import Derived.Deep.DeepCutAuto
import Derived.Deep.RegionWith
import Derived.Test.YtkckgjanfiiieaaGreatDoorMb7
namespace Go.Proofs.YtkckgjanfiiieaaGreatDoor
open Go.RowKit Go

/-- A matcher's text, and all of them. -/
def mText1 (m : Mt) : List UInt8 := [32, 119, 104, 101, 114, 101, 32] ++ m.name.data.toList ++ (if m.not = true then [33] else []) ++ [61] ++ LX.quote m.value.data.toList
def mText : List Mt → List UInt8
  | [] => []
  | m :: r => mText1 m ++ mText r
theorem mText_snoc (m : Mt) : ∀ l : List Mt, mText (l ++ [m]) = mText l ++ mText1 m
  | [] => by simp [mText]
  | x :: r => by rw [List.cons_append, mText, mText, mText_snoc m r, List.append_assoc]
theorem mText_len : ∀ l : List Mt, (∀ m ∈ l, m.name.size ≤ 100000 ∧ m.value.size ≤ 100000) → (mText l).length ≤ 2000000 * l.length
  | [], _ => by simp [mText]
  | m :: r, h => by
    have h1 := mText_len r (fun x hx => h x (by simp [hx]))
    obtain ⟨h2, h3⟩ := h m (by simp)
    have h4 := quote_len m.value.data.toList
    have h5 : m.value.data.toList.length = m.value.size := (Lib.size_eq _).symm
    have h6 : m.name.data.toList.length = m.name.size := (Lib.size_eq _).symm
    rw [mText, List.length_append, List.length_cons]
    unfold mText1
    split <;> simp only [List.length_append, List.length_cons, List.length_nil] <;> omega

def hText (q : Qy) : List UInt8 := [102, 114, 111, 109, 32] ++ Lib.itoa q.src ++ [32, 116, 111, 32] ++ Lib.itoa q.til
def xText (f : Ft) : List UInt8 := if f.op = 1 then [] else [32, 102, 105, 110, 100, 32] ++ fText f
def dText (d : Bool) : List UInt8 := if d = true then [32, 100, 101, 115, 99] else []
def lText (n : Int) : List UInt8 := [32, 108, 105, 109, 105, 116, 32] ++ Lib.itoa n
def plainT (q : Qy) : List UInt8 := hText q ++ mText q.mat ++ xText q.fil ++ dText q.desc ++ lText q.lim

theorem msp_spell : ∀ l : List Mt, PX.spell (PX.msp l) = mText l
  | [] => by rw [PX.msp]; rfl
  | m :: r => by
    rw [PX.msp, PX.spell, PX.spell, PX.spell, PX.spell, msp_spell r, mText]
    unfold mText1 PX.lts
    cases m.not <;> simp [PX.kW, PX.kN, PX.kS, PX.kT, PX.wWhere, PX.wNe, PX.wEq]

theorem qsp_spell {q : Qy} (hc : PX.Can q.fil) : PX.spell (PX.qsp Lib.itoa q) = plainT q ++ (if q.page = ⟨#[]⟩ then [] else [32, 112, 97, 103, 101, 32] ++ LX.quote q.page.data.toList) := by
  have lW : ∀ s, PX.lts (PX.kW s) = s := fun s => by unfold PX.lts; rw [if_neg (by show ¬ 2 = 4; decide)]; rfl
  have lI : ∀ n, PX.lts (PX.kI Lib.itoa n) = Lib.itoa n := fun n => by unfold PX.lts; rw [if_neg (by show ¬ 3 = 4; decide)]; rfl
  have e1 : PX.spell (PX.psp q) = (if q.page = ⟨#[]⟩ then [] else [32, 112, 97, 103, 101, 32] ++ LX.quote q.page.data.toList) := by
    unfold PX.psp
    split
    · rfl
    · rw [PX.spell, PX.spell, PX.spell, lW]
      unfold PX.lts
      simp [PX.kT, PX.wPage]
  have e2 : PX.spell (PX.lsp Lib.itoa q) = lText q.lim ++ (if q.page = ⟨#[]⟩ then [] else [32, 112, 97, 103, 101, 32] ++ LX.quote q.page.data.toList) := by
    unfold PX.lsp lText
    rw [PX.spell, PX.spell, e1, lW, lI]
    simp [PX.wLimit]
  have e3 : PX.spell (PX.dsp Lib.itoa q) = dText q.desc ++ PX.spell (PX.lsp Lib.itoa q) := by
    unfold PX.dsp dText
    rw [PX.spell_append]
    split
    · rw [PX.spell, PX.spell, lW]
      simp [PX.wDesc]
    · rfl
  have e4 : PX.spell (PX.nsp Lib.itoa q) = xText q.fil ++ PX.spell (PX.dsp Lib.itoa q) := by
    unfold PX.nsp xText
    rw [PX.spell_append]
    split
    · rfl
    · rw [PX.spell, lW, fsp_spell hc]
      simp [PX.wFind]
  unfold PX.qsp
  rw [PX.spell, PX.spell, PX.spell, PX.spell, PX.spell_append, msp_spell, e4, e3, e2, lW, lI, lW, lI]
  unfold plainT hText
  simp [PX.wFrom, PX.wTo]

end Go.Proofs.YtkckgjanfiiieaaGreatDoor

namespace Go.Proofs.YtkckgjanfiiieaaGreatDoor
open Go.RowKit Go

theorem str_size {S : ByteArray} {l : List UInt8} (h : S.data.toList = l) : S.size = l.length := by rw [Lib.size_eq, h]

/-- A query whose text can be written without growing beyond all bounds. -/
structure Wr (q : Qy) : Prop where
  can : PX.Can q.fil
  sm : Sm 100000 q.fil
  len : (fText q.fil).length ≤ 1000000000000
  mats : q.mat.length ≤ 1000
  mat : ∀ m ∈ q.mat, m.name.size ≤ 100000 ∧ m.value.size ≤ 100000
  src0 : -9223372036854775808 ≤ q.src
  src1 : q.src ≤ 9223372036854775807
  til0 : -9223372036854775808 ≤ q.til
  til1 : q.til ≤ 9223372036854775807
  lim0 : -9223372036854775808 ≤ q.lim
  lim1 : q.lim ≤ 9223372036854775807
  page : q.page.size ≤ 100000

theorem itoa_short (n : Int) (h0 : -9223372036854775808 ≤ n) (h1 : n ≤ 9223372036854775807) : (Lib.itoa n).length ≤ 1000 := by
  have := (LX.itoa_parts n h0 h1).2.1
  omega

set_option maxHeartbeats 8000000 in
set_option maxRecDepth 100000 in
theorem textPlain_any (q : Qy) (hw : Wr q) (w : World) (am : Option Addr) (cm : Nat) (ak : Option Addr) (ck : Nat) (hm : MsAt w (.slice am q.mat.length cm) q.mat) (hk : KsAt w (.slice ak q.fil.kids.length ck) q.fil) (hT : Tabs w) :
    Calls Tryz.prog 40 #[.agg #[.int .i64 q.src, .int .i64 q.til, .slice am q.mat.length cm, .int .i64 q.fil.op, .string q.fil.name, .string q.fil.text, .slice ak q.fil.kids.length ck, .bool q.desc, .int .i64 q.lim, .string q.page]] w fun e w' => ∃ T : ByteArray, e = .returned (.string T) ∧ T.data.toList = plainT q ∧ Below w.heap.size w w' := by
  obtain ⟨w0, hW⟩ : ∃ w0, w0 = w.alloc (.cells #[.int .i64 q.src, .int .i64 q.til, .slice am q.mat.length cm, .int .i64 q.fil.op, .string q.fil.name, .string q.fil.text, .slice ak q.fil.kids.length ck, .bool q.desc, .int .i64 q.lim, .string q.page] 30) := ⟨_, rfl⟩
  obtain ⟨F, hF⟩ : ∃ F, F = w.heap.size := ⟨_, rfl⟩
  have hl0 : Lay w w0 := by rw [hW]; exact (Keep.refl _ w).alloc _
  have HB0 := Lib.hid hl0.below
  have HC0 : Hid (CB w0 F 30 #[.int .i64 q.src, .int .i64 q.til, .slice am q.mat.length cm, .int .i64 q.fil.op, .string q.fil.name, .string q.fil.text, .slice ak q.fil.kids.length ck, .bool q.desc, .int .i64 q.lim, .string q.page]) := Lib.hid (by rw [hW, hF]; exact CB.new w 30 _)
  have HT0 := Lib.hid (hT.next hl0.below)
  have HI1 := Lib.hid (fun W hW => itoa_call q.src hw.src0 hw.src1 W hW)
  have HI2 := Lib.hid (fun W hW => itoa_call q.til hw.til0 hw.til1 W hW)
  have HI3 := Lib.hid (fun W hW => itoa_call q.lim hw.lim0 hw.lim1 W hW)
  have hF0 : F < w0.heap.size := HC0.out.lt
  have HW := Lib.hid hW.symm
  have HFE := Lib.hid hF.symm
  have HWR := Lib.hid hw
  have HMS := Lib.hid hm
  have HKS := Lib.hid hk
  have n1 : (⟨(Lib.itoa q.src).toArray⟩ : ByteArray).size ≤ 1000 := by rw [str_size (l := Lib.itoa q.src) (by simp)]; exact itoa_short _ hw.src0 hw.src1
  have n2 : (⟨(Lib.itoa q.til).toArray⟩ : ByteArray).size ≤ 1000 := by rw [str_size (l := Lib.itoa q.til) (by simp)]; exact itoa_short _ hw.til0 hw.til1
  have n3 : (⟨(Lib.itoa q.lim).toArray⟩ : ByteArray).size ≤ 1000 := by rw [str_size (l := Lib.itoa q.lim) (by simp)]; exact itoa_short _ hw.lim0 hw.lim1
  obtain ⟨A, hA⟩ : ∃ A : ByteArray, A = ⟨(Lib.itoa q.src).toArray⟩ := ⟨_, rfl⟩
  obtain ⟨B, hB⟩ : ∃ B : ByteArray, B = ⟨(Lib.itoa q.til).toArray⟩ := ⟨_, rfl⟩
  obtain ⟨C, hC⟩ : ∃ C : ByteArray, C = ⟨(Lib.itoa q.lim).toArray⟩ := ⟨_, rfl⟩
  rw [← hA] at n1 HI1
  rw [← hB] at n2 HI2
  rw [← hC] at n3 HI3
  have HA := Lib.hid hA
  have HB := Lib.hid hB
  have HC := Lib.hid hC
  have HN1 := Lib.hid n1
  have HN2 := Lib.hid n2
  clear hl0 hW hF hw hm hk hT hA hB hC
  go_enter Tryz.func40, Tryz.ntmps40
  go_upto_region 1 with fail
  rw [HW.out, HFE.out]
  clear HW
  go_cut [3] from 4 (fun v3 wx => ∃ S : ByteArray, v3 = .string S ∧ Hid (S.data.toList = hText q) ∧ Hid (Lay w0 wx))
  case first =>
    have c0 := HC0.out.cell 0
    have c1 := HC0.out.cell 1
    go_region_with (go_at_call 36; first | (refine (HI1.out _ (HT0.out.next (by first | exact (Lay.below (Keep.drew (Keep.refl _ _))) | exact (Lay.below (Keep.trans (Keep.drew (Keep.refl _ _)) hlb))))).mono ?_; rintro e wa ⟨rfl, hla⟩; try (have a0 := (Lay.cell hla (b := F) (o := 0) hF0).trans c0; have a1 := (Lay.cell hla (b := F) (o := 1) hF0).trans c1)) | (refine (HI2.out _ (HT0.out.next (by first | exact (Lay.below (Keep.drew (Keep.refl _ _))) | exact (Lay.below (Keep.trans (Keep.drew (Keep.refl _ _)) hla))))).mono ?_; rintro e wb ⟨rfl, hlb⟩; try (have b0 := (Lay.cell hlb (b := F) (o := 0) hF0).trans c0; have b1 := (Lay.cell hlb (b := F) (o := 1) hF0).trans c1)))
    all_goals
      go_wp2_with fail
      go_meet
      refine ⟨_, rfl, Lib.hid ?_, Lib.hid ?_⟩
      · rw [HA.out, HB.out]
        simp [hText]
      · first | exact Keep.trans (Keep.trans (Keep.drew (Keep.refl _ _)) hla) hlb | exact Keep.trans (Keep.trans (Keep.drew (Keep.refl _ _)) hlb) hla
  case rest =>
    obtain ⟨S0, rfl, HS0, HL0⟩ := hcut
    obtain ⟨w1, rfl⟩ : ∃ x : World, x = wc := ⟨_, rfl⟩
    have hsz0 : S0.size ≤ 3000 := by
      have h1 := HN1.out
      have h2 := HN2.out
      rw [HA.out, str_size (l := Lib.itoa q.src) (by simp)] at h1
      rw [HB.out, str_size (l := Lib.itoa q.til) (by simp)] at h2
      rw [str_size HS0.out]
      unfold hText
      simp only [List.length_append, List.length_cons, List.length_nil]
      omega
    have HB1 := Lib.hid (HB0.out.trans (HL0.out.below.mono HB0.out.size))
    have HC1 := Lib.hid (HC0.out.keep HL0.out (fun h => h))
    have HTW := Lib.hid (HT0.out)
    have HSZ0 := Lib.hid hsz0
    clear hsz0
    have c2 := HC1.out.cell 2
    go_wp2_with fail
    clear c2
    go_loopw [3, 18] (fun vs vi wr => ∃ (i : Nat) (S : ByteArray), vi = .int .i64 (i : Int) ∧ i ≤ q.mat.length ∧ vs = .string S ∧ Hid (S.data.toList = hText q ++ mText (q.mat.take i)) ∧ Hid (Below w.heap.size w wr) ∧ Hid (CB wr F 30 #[.int .i64 q.src, .int .i64 q.til, .slice am q.mat.length cm, .int .i64 q.fil.op, .string q.fil.name, .string q.fil.text, .slice ak q.fil.kids.length ck, .bool q.desc, .int .i64 q.lim, .string q.page]) ∧ Hid (Below w0.heap.size w0 wr)) (fun _ vi _ => q.mat.length - (intOf vi).toNat)
    case atStart => exact ⟨0, S0, rfl, Nat.zero_le _, rfl, Lib.hid (by rw [HS0.out]; simp [mText]), HB1, HC1, Lib.hid HL0.out.below⟩
    case round =>
      obtain ⟨i, S, rfl, hi, rfl, HS, HB, HF, HW0⟩ := hrel
      have hSs : S.size ≤ 4000000000 := by
        have h1 := HSZ0.out
        rw [str_size HS0.out] at h1
        have h2 := mText_len (q.mat.take i) (fun m hm => HWR.out.mat m (List.mem_of_mem_take hm))
        have h3 := HWR.out.mats
        have h4 : (q.mat.take i).length ≤ q.mat.length := by rw [List.length_take]; omega
        rw [str_size HS.out, List.length_append]
        omega
      by_cases hlt : i < q.mat.length
      · have hi' : decide ((i : Int) < (q.mat.length : Int)) = true := by simpa using hlt
        obtain ⟨_, _, hv, _, h0 | ⟨b, off, ha, hb, hcs⟩⟩ := HMS.out
        · rw [h0] at hlt
          simp at hlt
        cases hv
        subst ha
        obtain ⟨x0, x1, x2⟩ := hcs i hlt
        have HN : Hid (mText (q.mat.take (i + 1)) = mText (q.mat.take i) ++ mText1 q.mat[i]) := Lib.hid (by rw [List.take_succ_eq_append_getElem hlt, mText_snoc])
        obtain ⟨hn, hvv⟩ := HWR.out.mat q.mat[i] (List.getElem_mem hlt)
        have y0 := (World.cell?_of_block (a := ⟨b, off + i * 3, none⟩) (HB.out.block b hb)).trans x0
        have y1 := (World.cell?_of_block (a := ⟨b, off + i * 3 + 1, none⟩) (HB.out.block b hb)).trans x1
        have y2 := (World.cell?_of_block (a := ⟨b, off + i * 3 + 2, none⟩) (HB.out.block b hb)).trans x2
        clear x0 x1 x2 hcs
        generalize q.mat[i] = m at y0 y1 y2 HN hn hvv
        have HVV := Lib.hid hvv
        have hFl := HF.out.lt
        obtain ⟨W1, hW1⟩ : ∃ W1, W1 = wr.alloc (.cells #[.string m.name, .bool m.not, .string m.value] 45) := ⟨_, rfl⟩
        have hl1 : Lay wr W1 := by rw [hW1]; exact (Keep.refl _ wr).alloc _
        have HB1' := Lib.hid (HB.out.trans (hl1.below.mono HB.out.size))
        have HW1' := Lib.hid (HW0.out.trans (hl1.below.mono HW0.out.size))
        have HF1 := Lib.hid (HF.out.keep hl1 (fun h => h))
        have HM1 : Hid (CB W1 wr.heap.size 45 #[.string m.name, .bool m.not, .string m.value]) := Lib.hid (by rw [hW1]; exact CB.new wr 45 _)
        have HW1 := Lib.hid hW1.symm
        clear hW1 hl1 hvv
        go_upto_region 5 with fail
        rw [HW1.out]
        clear HW1 y0 y1 y2
        generalize wr.heap.size = K at HM1 ⊢
        have HQT := Lib.hid (quote_any m.value (by have := HVV.out; omega) W1 (HT0.out.next HW1'.out).utf)
        have m0 := HM1.out.cell 0
        have m1 := HM1.out.cell 1
        have m2 := HM1.out.cell 2
        rcases hnn : m.not with _ | _
        · rw [hnn] at m1
          go_wp2_with fail
          refine HQT.out.mono ?_
          rintro e W5 ⟨rfl, hb5⟩
          have hql : (⟨(LX.quote m.value.data.toList).toArray⟩ : ByteArray).size ≤ 2000000 := by
            have h1 := quote_len m.value.data.toList
            have h2 := HVV.out
            rw [str_size (l := LX.quote m.value.data.toList) (by simp)]
            rw [Lib.size_eq] at h2
            omega
          obtain ⟨QT, hQT⟩ : ∃ QT : ByteArray, QT = ⟨(LX.quote m.value.data.toList).toArray⟩ := ⟨_, rfl⟩
          rw [← hQT] at hql ⊢
          have HQ5 := Lib.hid hQT
          have HB5 := Lib.hid (HB1'.out.trans (hb5.mono HB1'.out.size))
          have HW5 := Lib.hid (HW1'.out.trans (hb5.mono HW1'.out.size))
          have HF5 := Lib.hid (HF1.out.below hb5 HF1.out.lt)
          clear hQT hb5 m0 m1 m2
          go_wp2_with fail
          go_roundw
          case rel =>
            refine ⟨i + 1, _, rfl, by omega, rfl, Lib.hid ?_, HB5, HF5, HW5⟩
            rw [HN.out, ← List.append_assoc, ← HS.out, HQ5.out]
            unfold mText1
            rw [hnn]
            simp
          case measure => simp [intOf]; omega
        · rw [hnn] at m1
          go_wp2_with fail
          refine HQT.out.mono ?_
          rintro e W5 ⟨rfl, hb5⟩
          have hql : (⟨(LX.quote m.value.data.toList).toArray⟩ : ByteArray).size ≤ 2000000 := by
            have h1 := quote_len m.value.data.toList
            have h2 := HVV.out
            rw [str_size (l := LX.quote m.value.data.toList) (by simp)]
            rw [Lib.size_eq] at h2
            omega
          obtain ⟨QT, hQT⟩ : ∃ QT : ByteArray, QT = ⟨(LX.quote m.value.data.toList).toArray⟩ := ⟨_, rfl⟩
          rw [← hQT] at hql ⊢
          have HQ5 := Lib.hid hQT
          have HB5 := Lib.hid (HB1'.out.trans (hb5.mono HB1'.out.size))
          have HW5 := Lib.hid (HW1'.out.trans (hb5.mono HW1'.out.size))
          have HF5 := Lib.hid (HF1.out.below hb5 HF1.out.lt)
          clear hQT hb5 m0 m1 m2
          go_wp2_with fail
          go_roundw
          case rel =>
            refine ⟨i + 1, _, rfl, by omega, rfl, Lib.hid ?_, HB5, HF5, HW5⟩
            rw [HN.out, ← List.append_assoc, ← HS.out, HQ5.out]
            unfold mText1
            rw [hnn]
            simp
          case measure => simp [intOf]; omega
      · obtain rfl : i = q.mat.length := by omega
        have hi' : decide ((q.mat.length : Int) < (q.mat.length : Int)) = false := by simp
        have HS' : Hid (S.data.toList = hText q ++ mText q.mat) := Lib.hid (by rw [HS.out, List.take_length])
        by_cases hop : q.fil.op = 1
        · have e1 : (q.fil.op != 1) = false := by simp [hop]
          have HO := Lib.hid hop
          clear hop
          rcases hd : q.desc with _ | _
          · have c7 : wr.cell? ⟨F, 7, none⟩ = some (.bool false) := by rw [← hd]; exact HF.out.cell 7
            have c3 := HF.out.cell 3
            have c8 := HF.out.cell 8
            have HX : Hid (xText q.fil = []) := Lib.hid (by unfold xText; rw [if_pos HO.out])
            go_wp2_with fail
            refine (HI3.out _ (HT0.out.next HW0.out)).mono ?_
            rintro e W6 ⟨rfl, hl6⟩
            have HB6 := Lib.hid (HB.out.trans (hl6.below.mono HB.out.size))
            clear hl6
            go_wp2_with fail
            go_ret
            refine ⟨_, rfl, ?_, HB6.out⟩
            unfold plainT dText lText
            rw [HX.out, hd, ← HS'.out, HC.out]
            simp
          · have c7 : wr.cell? ⟨F, 7, none⟩ = some (.bool true) := by rw [← hd]; exact HF.out.cell 7
            have c3 := HF.out.cell 3
            have c8 := HF.out.cell 8
            have HX : Hid (xText q.fil = []) := Lib.hid (by unfold xText; rw [if_pos HO.out])
            go_wp2_with fail
            refine (HI3.out _ (HT0.out.next HW0.out)).mono ?_
            rintro e W6 ⟨rfl, hl6⟩
            have HB6 := Lib.hid (HB.out.trans (hl6.below.mono HB.out.size))
            clear hl6
            go_wp2_with fail
            go_ret
            refine ⟨_, rfl, ?_, HB6.out⟩
            unfold plainT dText lText
            rw [HX.out, hd, ← HS'.out, HC.out]
            simp
        · have e1 : (q.fil.op != 1) = true := by simp [hop]
          have HO := Lib.hid hop
          clear hop
          rcases hd : q.desc with _ | _
          · have c7 : wr.cell? ⟨F, 7, none⟩ = some (.bool false) := by rw [← hd]; exact HF.out.cell 7
            have c3 := HF.out.cell 3
            have c4 := HF.out.cell 4
            have c5 := HF.out.cell 5
            have c6 := HF.out.cell 6
            have HX : Hid (xText q.fil = [32, 102, 105, 110, 100, 32] ++ fText q.fil) := Lib.hid (by unfold xText; rw [if_neg HO.out])
            have HFI : Hid (Calls Tryz.prog 52 #[.agg #[.int .i64 q.fil.op, .string q.fil.name, .string q.fil.text, .slice ak q.fil.kids.length ck]] wr (TextR q.fil wr)) := Lib.hid (textFilter_any _ q.fil (Nat.le_refl _) HWR.out.can HWR.out.sm HWR.out.len wr _ (KsAt.below HB.out _ _ HKS.out) (HT0.out.next HW0.out).utf)
            go_wp2_with fail
            refine HFI.out.mono ?_
            rintro e W5 ⟨TT, rfl, hTT, hb5⟩
            have hts : TT.size ≤ 1000000000000 := by rw [str_size hTT]; exact HWR.out.len
            have HTT := Lib.hid hTT
            have HB5 := Lib.hid (HB.out.trans (hb5.mono HB.out.size))
            have HW5 := Lib.hid (HW0.out.trans (hb5.mono HW0.out.size))
            have HF5 := Lib.hid (HF.out.below hb5 HF.out.lt)
            clear hTT hb5 c3 c4 c5 c6 c7 HFI
            have c7 : W5.cell? ⟨F, 7, none⟩ = some (.bool false) := by rw [← hd]; exact HF5.out.cell 7
            have c8 := HF5.out.cell 8
            go_wp2_with fail
            refine (HI3.out _ (HT0.out.next HW5.out)).mono ?_
            rintro e W6 ⟨rfl, hl6⟩
            have HB6 := Lib.hid (HB5.out.trans (hl6.below.mono HB5.out.size))
            clear hl6
            go_wp2_with fail
            go_ret
            refine ⟨_, rfl, ?_, HB6.out⟩
            unfold plainT dText lText
            rw [HX.out, hd, ← HS'.out, HC.out, ← HTT.out]
            simp
          · have c7 : wr.cell? ⟨F, 7, none⟩ = some (.bool true) := by rw [← hd]; exact HF.out.cell 7
            have c3 := HF.out.cell 3
            have c4 := HF.out.cell 4
            have c5 := HF.out.cell 5
            have c6 := HF.out.cell 6
            have HX : Hid (xText q.fil = [32, 102, 105, 110, 100, 32] ++ fText q.fil) := Lib.hid (by unfold xText; rw [if_neg HO.out])
            have HFI : Hid (Calls Tryz.prog 52 #[.agg #[.int .i64 q.fil.op, .string q.fil.name, .string q.fil.text, .slice ak q.fil.kids.length ck]] wr (TextR q.fil wr)) := Lib.hid (textFilter_any _ q.fil (Nat.le_refl _) HWR.out.can HWR.out.sm HWR.out.len wr _ (KsAt.below HB.out _ _ HKS.out) (HT0.out.next HW0.out).utf)
            go_wp2_with fail
            refine HFI.out.mono ?_
            rintro e W5 ⟨TT, rfl, hTT, hb5⟩
            have hts : TT.size ≤ 1000000000000 := by rw [str_size hTT]; exact HWR.out.len
            have HTT := Lib.hid hTT
            have HB5 := Lib.hid (HB.out.trans (hb5.mono HB.out.size))
            have HW5 := Lib.hid (HW0.out.trans (hb5.mono HW0.out.size))
            have HF5 := Lib.hid (HF.out.below hb5 HF.out.lt)
            clear hTT hb5 c3 c4 c5 c6 c7 HFI
            have c7 : W5.cell? ⟨F, 7, none⟩ = some (.bool true) := by rw [← hd]; exact HF5.out.cell 7
            have c8 := HF5.out.cell 8
            go_wp2_with fail
            refine (HI3.out _ (HT0.out.next HW5.out)).mono ?_
            rintro e W6 ⟨rfl, hl6⟩
            have HB6 := Lib.hid (HB5.out.trans (hl6.below.mono HB5.out.size))
            clear hl6
            go_wp2_with fail
            go_ret
            refine ⟨_, rfl, ?_, HB6.out⟩
            unfold plainT dText lText
            rw [HX.out, hd, ← HS'.out, HC.out, ← HTT.out]
            simp
end Go.Proofs.YtkckgjanfiiieaaGreatDoor

namespace Go.Proofs.YtkckgjanfiiieaaGreatDoor
open Go.RowKit Go

theorem plain_len {q : Qy} (hw : Wr q) : (plainT q).length ≤ 2000000000000 := by
  have h1 := itoa_short _ hw.src0 hw.src1
  have h2 := itoa_short _ hw.til0 hw.til1
  have h3 := itoa_short _ hw.lim0 hw.lim1
  have h4 := mText_len q.mat hw.mat
  have h5 := hw.mats
  have h6 : (xText q.fil).length ≤ 1000000000006 := by
    have := hw.len
    unfold xText
    split
    · simp
    · simp only [List.length_append, List.length_cons, List.length_nil]
      omega
  have h7 : (dText q.desc).length ≤ 5 := by
    unfold dText
    split <;> simp
  unfold plainT hText lText
  simp only [List.length_append, List.length_cons, List.length_nil]
  omega

end Go.Proofs.YtkckgjanfiiieaaGreatDoor

namespace Go.Proofs.YtkckgjanfiiieaaGreatDoor
open Go.RowKit Go

theorem text_small (c : Nat) : (Ft.textOf c).size ≤ 100 := by
  unfold Ft.textOf
  rcases Nat.lt_or_ge c Ft.texts.length with h | h
  · have : ∀ x ∈ Ft.texts, x.size ≤ 100 := by decide
    rw [List.getD_eq_getElem?_getD, List.getElem?_eq_getElem h]
    exact this _ (List.getElem_mem h)
  · rw [List.getD_eq_getElem?_getD, List.getElem?_eq_none h]
    decide
theorem name_small (c : Nat) : (Ft.nameOf c).size ≤ 100 := by
  unfold Ft.nameOf
  rcases Nat.lt_or_ge c Ft.names.length with h | h
  · have : ∀ x ∈ Ft.names, x.size ≤ 100 := by decide
    rw [List.getD_eq_getElem?_getD, List.getElem?_eq_getElem h]
    exact this _ (List.getElem_mem h)
  · rw [List.getD_eq_getElem?_getD, List.getElem?_eq_none h]
    decide
theorem key_small (c : Nat) : (Qy.keys.getD c ⟨#[]⟩).size ≤ 100 := by
  rcases Nat.lt_or_ge c Qy.keys.length with h | h
  · have : ∀ x ∈ Qy.keys, x.size ≤ 100 := by decide
    rw [List.getD_eq_getElem?_getD, List.getElem?_eq_getElem h]
    exact this _ (List.getElem_mem h)
  · rw [List.getD_eq_getElem?_getD, List.getElem?_eq_none h]
    decide
theorem val_small (c : Nat) : (Qy.vals.getD c ⟨#[]⟩).size ≤ 100 := by
  rcases Nat.lt_or_ge c Qy.vals.length with h | h
  · have : ∀ x ∈ Qy.vals, x.size ≤ 100 := by decide
    rw [List.getD_eq_getElem?_getD, List.getElem?_eq_getElem h]
    exact this _ (List.getElem_mem h)
  · rw [List.getD_eq_getElem?_getD, List.getElem?_eq_none h]
    decide

theorem leaf_sm {op : Int} {n t : ByteArray} (hn : n.size ≤ 100) (ht : t.size ≤ 100) : Sm 100000 (.mk op n t []) := by
  rw [Sm]
  refine ⟨by omega, by omega, ?_⟩
  rw [Sms]
  trivial
theorem leaf_len {op : Int} {n t : ByteArray} (hn : n.size ≤ 100) (ht : t.size ≤ 100) : (fText (.mk op n t [])).length ≤ 2000 := by
  have h1 := quote_len t.data.toList
  have h2 : t.data.toList.length ≤ 100 := by rw [← Lib.size_eq]; exact ht
  have h3 : n.data.toList.length ≤ 100 := by rw [← Lib.size_eq]; exact hn
  have l4 : (PX.lts (PX.kT t.data.toList)) = LX.quote t.data.toList := by unfold PX.lts; rw [if_pos (show (PX.kT t.data.toList).1 = 4 from rfl)]; rfl
  have lN : (PX.lts (PX.kN n.data.toList)) = n.data.toList := by unfold PX.lts; rw [if_neg (by show ¬ 1 = 4; decide)]; rfl
  have lW : ∀ s, PX.lts (PX.kW s) = s := fun s => by unfold PX.lts; rw [if_neg (by show ¬ 2 = 4; decide)]; rfl
  have lS : ∀ s, PX.lts (PX.kS s) = s := fun s => by unfold PX.lts; rw [if_neg (by show ¬ 5 = 4; decide)]; rfl
  unfold fText
  rw [PX.fsp]
  split
  · rw [PX.spell, PX.spell, lW]; simp [PX.wTrue]
  split
  · rw [PX.spell, PX.spell, lW]; simp [PX.wFalse]
  split
  · rw [PX.spell, PX.spell, PX.spell, lW, l4]
    simp [PX.wWord]
    omega
  split
  · rw [PX.spell, PX.spell, PX.spell, lW, l4]
    simp [PX.wHas]
    omega
  split
  · rw [PX.spell, PX.spell, PX.spell, PX.spell, PX.spell, lW, lN, lS, l4]
    simp [PX.wField, PX.wEq]
    omega
  split
  · rw [PX.spell, lW, PX.rsp]; simp [PX.wNot, PX.spell]
  split
  · rw [PX.rsp]; simp [PX.spell]
  · rw [PX.rsp]; simp [PX.spell]

/-- How long a made filter's text may be. -/
def tB : Nat → Nat
  | 0 => 2000
  | d + 1 => 3 * (tB d + 100) + 2000

theorem rText_len {w : List UInt8} (hw : w.length ≤ 3) {B : Nat} {l : List Ft} (h : ∀ k ∈ l, (fText k).length ≤ B) : (rText w l).length ≤ l.length * (B + 100) := by
  have hk : ∀ k ∈ l, (kText k).length ≤ B + 2 := fun k hk => by
    have := h k hk
    unfold kText
    split
    · simp; omega
    · omega
  have hs : ∀ r : List Ft, (∀ k ∈ r, (kText k).length ≤ B + 2) → (sText w r).length ≤ r.length * (B + 100) := fun r => by
    induction r with
    | nil => simp [sText]
    | cons x y ih =>
      intro hr
      have h1 := ih (fun k hk => hr k (by simp [hk]))
      have h2 := hr x (by simp)
      rw [sText, List.length_cons, Nat.add_mul]
      simp only [List.length_append, List.length_cons]
      omega
  cases l with
  | nil => simp [rText]
  | cons x y =>
    have h1 := hs y (fun k hk' => hk k (by simp [hk']))
    have h2 := hk x (by simp)
    rw [rText, List.length_append, List.length_cons, Nat.add_mul]
    omega

theorem kids_len {op : Int} {n t : ByteArray} {l : List Ft} (h6 : 6 ≤ op ∧ op ≤ 8) (hc : PX.Can (.mk op n t l)) (hl : l.length ≤ 3) {B : Nat} (h : ∀ k ∈ l, (fText k).length ≤ B) : (fText (.mk op n t l)).length ≤ 3 * (B + 100) + 2000 := by
  obtain ⟨_, _, _, htx⟩ := fText_of h6 hc
  have h1 : (rText (if op = 8 then PX.wOr else PX.wAnd) l).length ≤ l.length * (B + 100) := rText_len (by split <;> decide) h
  have h2 : l.length * (B + 100) ≤ 3 * (B + 100) := Nat.mul_le_mul_right _ hl
  rw [htx, List.length_append]
  split <;> simp only [List.length_cons, List.length_nil] <;> omega

theorem leaf_wr {l : List Int} {d p : Nat} (h : (Ft.next l (Ft.nd d) p).1 ≤ 4) : Sm 100000 (Ft.make l d p).1 ∧ (fText (Ft.make l d p).1).length ≤ 2000 := by
  have z : (⟨#[]⟩ : ByteArray).size ≤ 100 := by decide
  rcases (by omega : (Ft.next l (Ft.nd d) p).1 ≤ 1 ∨ (Ft.next l (Ft.nd d) p).1 = 2 ∨ (Ft.next l (Ft.nd d) p).1 = 3 ∨ (Ft.next l (Ft.nd d) p).1 = 4) with h | h | h | h
  · rw [Ft.make_word h]
    exact ⟨leaf_sm z (text_small _), leaf_len z (text_small _)⟩
  · rw [Ft.make_has h]
    exact ⟨leaf_sm z (text_small _), leaf_len z (text_small _)⟩
  · rw [Ft.make_field h]
    exact ⟨leaf_sm (name_small _) (text_small _), leaf_len (name_small _) (text_small _)⟩
  · rw [Ft.make_bool h]
    exact ⟨leaf_sm z z, leaf_len z z⟩

theorem sms_of {m : Nat} : ∀ {l : List Ft}, (∀ x ∈ l, Sm m x) → Sms m l
  | [], _ => by rw [Sms]; trivial
  | x :: r, h => by rw [Sms]; exact ⟨h x (by simp), sms_of fun y hy => h y (by simp [hy])⟩

theorem make_wr (l : List Int) : ∀ (d p : Nat), Sm 100000 (Ft.make l d p).1 ∧ (fText (Ft.make l d p).1).length ≤ tB d
  | 0, p => by
    have h := Ft.next_lt (l := l) (n := 5) (p := p) (by decide)
    exact leaf_wr (l := l) (d := 0) (p := p) (by show (Ft.next l 5 p).1 ≤ 4; omega)
  | d + 1, p => by
    by_cases h4 : (Ft.next l 8 p).1 ≤ 4
    · have h1 := leaf_wr (l := l) (d := d + 1) (p := p) h4
      exact ⟨h1.1, by rw [tB]; omega⟩
    have z : (⟨#[]⟩ : ByteArray).size ≤ 100000 := by decide
    by_cases h5 : (Ft.next l 8 p).1 = 5
    · have hcan := (PX.make_can l (d + 1) p).1
      rw [Ft.make_not h5] at hcan ⊢
      have h1 := make_wr l d (Ft.next l 8 p).2
      dsimp only at hcan ⊢
      refine ⟨?_, ?_⟩
      · rw [Sm]
        refine ⟨z, z, sms_of fun x hx => ?_⟩
        rw [List.mem_singleton] at hx
        subst hx
        exact h1.1
      · rw [tB]
        exact kids_len (by omega) hcan (by simp) (fun x hx => by
          rw [List.mem_singleton] at hx
          subst hx
          exact h1.2)
    · have h6 : 6 ≤ (Ft.next l 8 p).1 := by omega
      have ho := Ft.next_lt (l := l) (n := 2) (p := (Ft.next l 8 p).2) (by decide)
      have hk := Ft.next_lt (l := l) (n := 2) (p := (Ft.next l 2 (Ft.next l 8 p).2).2) (by decide)
      have hcan := (PX.make_can l (d + 1) p).1
      rw [Ft.make_and h6] at hcan ⊢
      dsimp only at hcan ⊢
      refine ⟨?_, ?_⟩
      · rw [Sm]
        exact ⟨z, z, sms_of (Ft.several_all (P := Sm 100000) (fun p => (make_wr l d p).1) _ _)⟩
      · rw [tB]
        exact kids_len (by omega) hcan (by rw [Ft.several_length]; omega) (Ft.several_all (P := fun x => (fText x).length ≤ tB d) (fun p => (make_wr l d p).2) _ _)

theorem mats_small (l : List Int) : ∀ (k p : Nat), ∀ m ∈ (Qy.mats l k p).1, m.name.size ≤ 100000 ∧ m.value.size ≤ 100000
  | 0, _, m, h => by simp [Qy.mats] at h
  | k + 1, p, m, h => by
    simp only [Qy.mats, List.mem_cons] at h
    rcases h with rfl | h
    · have h1 := key_small (Ft.next l 3 p).1
      have h2 := val_small (Ft.next l 4 (Ft.next l 3 (Ft.next l 3 p).2).2).1
      exact ⟨Nat.le_trans h1 (by decide), Nat.le_trans h2 (by decide)⟩
    · exact mats_small l k _ m h

theorem query_wr (l : List Int) : Wr (Qy.query l) := by
  have ha := Ft.next_lt (l := l) (n := 20) (p := 0) (by decide)
  have hd := Ft.next_lt (l := l) (n := 20) (p := (Ft.next l 8 (Ft.next l 2 (Ft.next l 20 0).2).2).2) (by decide)
  have hc := Ft.next_lt (l := l) (n := 8) (p := (Ft.next l 2 (Ft.next l 20 0).2).2) (by decide)
  have hk := Ft.next_lt (l := l) (n := 3) (p := (Ft.next l 20 (Ft.next l 8 (Ft.next l 2 (Ft.next l 20 0).2).2).2).2) (by decide)
  have hcan := (PX.query_can l).fil
  have z : (⟨#[]⟩ : ByteArray).size ≤ 100 := by decide
  unfold Qy.query at hcan ⊢
  dsimp only at hcan
  refine ⟨hcan, ?_, ?_, ?_, ?_, ?_, ?_, ?_, ?_, ?_, ?_, ?_⟩
  · dsimp only
    split
    · exact leaf_sm z z
    · exact (make_wr l 3 _).1
  · dsimp only
    split
    · exact Nat.le_trans (leaf_len z z) (by decide)
    · exact Nat.le_trans (make_wr l 3 _).2 (by decide)
  · dsimp only; rw [Qy.mats_length]; omega
  · dsimp only; exact mats_small l _ _
  · dsimp only; omega
  · dsimp only; omega
  · dsimp only; omega
  · dsimp only; omega
  · dsimp only; omega
  · dsimp only; omega
  · dsimp only; decide
end Go.Proofs.YtkckgjanfiiieaaGreatDoor
