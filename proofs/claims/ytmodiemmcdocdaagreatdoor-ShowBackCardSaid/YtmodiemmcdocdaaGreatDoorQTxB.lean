/-
  THE DOCUMENT'S OWN TextPlain.
  THE DOCUMENT'S OWN TextPlain: its walk.
  THE DOCUMENT'S OWN TextQuery.
  A QUERY MADE OF NUMBERS CAN BE WRITTEN: no program in it.
-/
import Derived.Test.YtmodiemmcdocdaaGreatDoorQTxA
import Derived.Test.YtmodiemmcdocdaaGreatDoorQLb7
import Derived.Deep.DeepCutAuto
import Derived.Deep.RegionWith
import Derived.Test.YtmodiemmcdocdaaGreatDoorQMb7
namespace Go.Proofs.YtmodiemmcdocdaaGreatDoor
open Go.RowKit Go

/-- A matcher's text, and all of them. -/
def mText1 (m : Mt) : List UInt8 := [32, 119, 104, 101, 114, 101, 32] ++ m.name.data.toList ++ (if m.not = true then [33] else []) ++ [61] ++ LX.quote m.value.data.toList
def mText : List Mt → List UInt8
  | [] => []
  | m :: r => mText1 m ++ mText r
theorem mText_snoc (m : Mt) : ∀ l : List Mt, mText (l ++ [m]) = mText l ++ mText1 m
  | [] => by simp [mText]
  | x :: r => by rw [List.cons_append, mText, mText, mText_snoc m r, List.append_assoc]
theorem mText_len : ∀ l : List Mt, (∀ m ∈ l, m.name.size ≤ 100000 ∧ m.value.size ≤ 100000) → (mText l).length ≤ 2000000 * l.length
  | [], _ => by simp [mText]
  | m :: r, h => by
    have h1 := mText_len r (fun x hx => h x (by simp [hx]))
    obtain ⟨h2, h3⟩ := h m (by simp)
    have h4 := quote_len m.value.data.toList
    have h5 : m.value.data.toList.length = m.value.size := (Lib.size_eq _).symm
    have h6 : m.name.data.toList.length = m.name.size := (Lib.size_eq _).symm
    rw [mText, List.length_append, List.length_cons]
    unfold mText1
    split <;> simp only [List.length_append, List.length_cons, List.length_nil] <;> omega

def hText (q : Qy) : List UInt8 := [102, 114, 111, 109, 32] ++ Lib.itoa q.src ++ [32, 116, 111, 32] ++ Lib.itoa q.til
def xText (f : Ft) : List UInt8 := if f.op = 1 then [] else [32, 102, 105, 110, 100, 32] ++ fText f
def dText (d : Bool) : List UInt8 := if d = true then [32, 100, 101, 115, 99] else []
def lText (n : Int) : List UInt8 := [32, 108, 105, 109, 105, 116, 32] ++ Lib.itoa n
def plainT (q : Qy) : List UInt8 := hText q ++ mText q.mat ++ xText q.fil ++ dText q.desc ++ lText q.lim

theorem msp_spell : ∀ l : List Mt, PX.spell (PX.msp l) = mText l
  | [] => by rw [PX.msp]; rfl
  | m :: r => by
    rw [PX.msp, PX.spell, PX.spell, PX.spell, PX.spell, msp_spell r, mText]
    unfold mText1 PX.lts
    cases m.not <;> simp [PX.kW, PX.kN, PX.kS, PX.kT, PX.wWhere, PX.wNe, PX.wEq]

theorem qsp_spell {q : Qy} (hc : PX.Can q.fil) : PX.spell (PX.qsp Lib.itoa q) = plainT q ++ (if q.page = ⟨#[]⟩ then [] else [32, 112, 97, 103, 101, 32] ++ LX.quote q.page.data.toList) := by
  have lW : ∀ s, PX.lts (PX.kW s) = s := fun s => by unfold PX.lts; rw [if_neg (by show ¬ 2 = 4; decide)]; rfl
  have lI : ∀ n, PX.lts (PX.kI Lib.itoa n) = Lib.itoa n := fun n => by unfold PX.lts; rw [if_neg (by show ¬ 3 = 4; decide)]; rfl
  have e1 : PX.spell (PX.psp q) = (if q.page = ⟨#[]⟩ then [] else [32, 112, 97, 103, 101, 32] ++ LX.quote q.page.data.toList) := by
    unfold PX.psp
    split
    · rfl
    · rw [PX.spell, PX.spell, PX.spell, lW]
      unfold PX.lts
      simp [PX.kT, PX.wPage]
  have e2 : PX.spell (PX.lsp Lib.itoa q) = lText q.lim ++ (if q.page = ⟨#[]⟩ then [] else [32, 112, 97, 103, 101, 32] ++ LX.quote q.page.data.toList) := by
    unfold PX.lsp lText
    rw [PX.spell, PX.spell, e1, lW, lI]
    simp [PX.wLimit]
  have e3 : PX.spell (PX.dsp Lib.itoa q) = dText q.desc ++ PX.spell (PX.lsp Lib.itoa q) := by
    unfold PX.dsp dText
    rw [PX.spell_append]
    split
    · rw [PX.spell, PX.spell, lW]
      simp [PX.wDesc]
    · rfl
  have e4 : PX.spell (PX.nsp Lib.itoa q) = xText q.fil ++ PX.spell (PX.dsp Lib.itoa q) := by
    unfold PX.nsp xText
    rw [PX.spell_append]
    split
    · rfl
    · rw [PX.spell, lW, fsp_spell hc]
      simp [PX.wFind]
  unfold PX.qsp
  rw [PX.spell, PX.spell, PX.spell, PX.spell, PX.spell_append, msp_spell, e4, e3, e2, lW, lI, lW, lI]
  unfold plainT hText
  simp [PX.wFrom, PX.wTo]

end Go.Proofs.YtmodiemmcdocdaaGreatDoor

namespace Go.Proofs.YtmodiemmcdocdaaGreatDoor
open Go.RowKit Go

theorem str_size {S : ByteArray} {l : List UInt8} (h : S.data.toList = l) : S.size = l.length := by rw [Lib.size_eq, h]

/-- A query whose text can be written without growing beyond all bounds. -/
structure Wr (q : Qy) : Prop where
  can : PX.Can q.fil
  sm : Sm 100000 q.fil
  len : (fText q.fil).length ≤ 1000000000000
  mats : q.mat.length ≤ 1000
  mat : ∀ m ∈ q.mat, m.name.size ≤ 100000 ∧ m.value.size ≤ 100000
  src0 : -9223372036854775808 ≤ q.src
  src1 : q.src ≤ 9223372036854775807
  til0 : -9223372036854775808 ≤ q.til
  til1 : q.til ≤ 9223372036854775807
  lim0 : -9223372036854775808 ≤ q.lim
  lim1 : q.lim ≤ 9223372036854775807
  page : q.page.size ≤ 100000

theorem itoa_short (n : Int) (h0 : -9223372036854775808 ≤ n) (h1 : n ≤ 9223372036854775807) : (Lib.itoa n).length ≤ 1000 := by
  have := (LX.itoa_parts n h0 h1).2.1
  omega

set_option maxHeartbeats 8000000 in
set_option maxRecDepth 100000 in
theorem textPlain_any (q : Qy) (hw : Wr q) (w : World) (am : Option Addr) (cm : Nat) (ak : Option Addr) (ck : Nat) (hm : MsAt w (.slice am q.mat.length cm) q.mat) (hk : KsAt w (.slice ak q.fil.kids.length ck) q.fil) (hT : Tabs w) :
    Calls Tryz.prog 34 #[.agg #[.int .i64 q.src, .int .i64 q.til, .slice am q.mat.length cm, .int .i64 q.fil.op, .string q.fil.name, .string q.fil.text, .slice ak q.fil.kids.length ck, .bool q.desc, .int .i64 q.lim, .string q.page]] w fun e w' => ∃ T : ByteArray, e = .returned (.string T) ∧ T.data.toList = plainT q ∧ Below w.heap.size w w' := by
  obtain ⟨w0, hW⟩ : ∃ w0, w0 = w.alloc (.cells #[.int .i64 q.src, .int .i64 q.til, .slice am q.mat.length cm, .int .i64 q.fil.op, .string q.fil.name, .string q.fil.text, .slice ak q.fil.kids.length ck, .bool q.desc, .int .i64 q.lim, .string q.page] 28) := ⟨_, rfl⟩
  obtain ⟨F, hF⟩ : ∃ F, F = w.heap.size := ⟨_, rfl⟩
  have hl0 : Lay w w0 := by rw [hW]; exact (Keep.refl _ w).alloc _
  have HB0 := Lib.hid hl0.below
  have HC0 : Hid (CB w0 F 28 #[.int .i64 q.src, .int .i64 q.til, .slice am q.mat.length cm, .int .i64 q.fil.op, .string q.fil.name, .string q.fil.text, .slice ak q.fil.kids.length ck, .bool q.desc, .int .i64 q.lim, .string q.page]) := Lib.hid (by rw [hW, hF]; exact CB.new w 28 _)
  have HT0 := Lib.hid (hT.next hl0.below)
  have HI1 := Lib.hid (fun W hW => itoa_call q.src hw.src0 hw.src1 W hW)
  have HI2 := Lib.hid (fun W hW => itoa_call q.til hw.til0 hw.til1 W hW)
  have HI3 := Lib.hid (fun W hW => itoa_call q.lim hw.lim0 hw.lim1 W hW)
  have hF0 : F < w0.heap.size := HC0.out.lt
  have HW := Lib.hid hW.symm
  have HFE := Lib.hid hF.symm
  have HWR := Lib.hid hw
  have HMS := Lib.hid hm
  have HKS := Lib.hid hk
  have n1 : (⟨(Lib.itoa q.src).toArray⟩ : ByteArray).size ≤ 1000 := by rw [str_size (l := Lib.itoa q.src) (by simp)]; exact itoa_short _ hw.src0 hw.src1
  have n2 : (⟨(Lib.itoa q.til).toArray⟩ : ByteArray).size ≤ 1000 := by rw [str_size (l := Lib.itoa q.til) (by simp)]; exact itoa_short _ hw.til0 hw.til1
  have n3 : (⟨(Lib.itoa q.lim).toArray⟩ : ByteArray).size ≤ 1000 := by rw [str_size (l := Lib.itoa q.lim) (by simp)]; exact itoa_short _ hw.lim0 hw.lim1
  obtain ⟨A, hA⟩ : ∃ A : ByteArray, A = ⟨(Lib.itoa q.src).toArray⟩ := ⟨_, rfl⟩
  obtain ⟨B, hB⟩ : ∃ B : ByteArray, B = ⟨(Lib.itoa q.til).toArray⟩ := ⟨_, rfl⟩
  obtain ⟨C, hC⟩ : ∃ C : ByteArray, C = ⟨(Lib.itoa q.lim).toArray⟩ := ⟨_, rfl⟩
  rw [← hA] at n1 HI1
  rw [← hB] at n2 HI2
  rw [← hC] at n3 HI3
  have HA := Lib.hid hA
  have HB := Lib.hid hB
  have HC := Lib.hid hC
  have HN1 := Lib.hid n1
  have HN2 := Lib.hid n2
  clear hl0 hW hF hw hm hk hT hA hB hC
  go_enter Tryz.func34, Tryz.ntmps34
  go_upto_region 1 with fail
  rw [HW.out, HFE.out]
  clear HW
  go_cut [3] from 4 (fun v3 wx => ∃ S : ByteArray, v3 = .string S ∧ Hid (S.data.toList = hText q) ∧ Hid (Lay w0 wx))
  case first =>
    have c0 := HC0.out.cell 0
    have c1 := HC0.out.cell 1
    go_region_with (go_at_call 17; first | (refine (HI1.out _ (HT0.out.next (by first | exact (Lay.below (Keep.drew (Keep.refl _ _))) | exact (Lay.below (Keep.trans (Keep.drew (Keep.refl _ _)) hlb))))).mono ?_; rintro e wa ⟨rfl, hla⟩; try (have a0 := (Lay.cell hla (b := F) (o := 0) hF0).trans c0; have a1 := (Lay.cell hla (b := F) (o := 1) hF0).trans c1)) | (refine (HI2.out _ (HT0.out.next (by first | exact (Lay.below (Keep.drew (Keep.refl _ _))) | exact (Lay.below (Keep.trans (Keep.drew (Keep.refl _ _)) hla))))).mono ?_; rintro e wb ⟨rfl, hlb⟩; try (have b0 := (Lay.cell hlb (b := F) (o := 0) hF0).trans c0; have b1 := (Lay.cell hlb (b := F) (o := 1) hF0).trans c1)))
    all_goals
      go_wp2_with fail
      go_meet
      refine ⟨_, rfl, Lib.hid ?_, Lib.hid ?_⟩
      · rw [HA.out, HB.out]
        simp [hText]
      · first | exact Keep.trans (Keep.trans (Keep.drew (Keep.refl _ _)) hla) hlb | exact Keep.trans (Keep.trans (Keep.drew (Keep.refl _ _)) hlb) hla
  case rest =>
    obtain ⟨S0, rfl, HS0, HL0⟩ := hcut
    obtain ⟨w1, rfl⟩ : ∃ x : World, x = wc := ⟨_, rfl⟩
    have hsz0 : S0.size ≤ 3000 := by
      have h1 := HN1.out
      have h2 := HN2.out
      rw [HA.out, str_size (l := Lib.itoa q.src) (by simp)] at h1
      rw [HB.out, str_size (l := Lib.itoa q.til) (by simp)] at h2
      rw [str_size HS0.out]
      unfold hText
      simp only [List.length_append, List.length_cons, List.length_nil]
      omega
    have HB1 := Lib.hid (HB0.out.trans (HL0.out.below.mono HB0.out.size))
    have HC1 := Lib.hid (HC0.out.keep HL0.out (fun h => h))
    have HTW := Lib.hid (HT0.out)
    have HSZ0 := Lib.hid hsz0
    clear hsz0
    have c2 := HC1.out.cell 2
    go_wp2_with fail
    clear c2
    go_loopw [3, 18] (fun vs vi wr => ∃ (i : Nat) (S : ByteArray), vi = .int .i64 (i : Int) ∧ i ≤ q.mat.length ∧ vs = .string S ∧ Hid (S.data.toList = hText q ++ mText (q.mat.take i)) ∧ Hid (Below w.heap.size w wr) ∧ Hid (CB wr F 28 #[.int .i64 q.src, .int .i64 q.til, .slice am q.mat.length cm, .int .i64 q.fil.op, .string q.fil.name, .string q.fil.text, .slice ak q.fil.kids.length ck, .bool q.desc, .int .i64 q.lim, .string q.page]) ∧ Hid (Below w0.heap.size w0 wr)) (fun _ vi _ => q.mat.length - (intOf vi).toNat)
    case atStart => exact ⟨0, S0, rfl, Nat.zero_le _, rfl, Lib.hid (by rw [HS0.out]; simp [mText]), HB1, HC1, Lib.hid HL0.out.below⟩
    case round =>
      obtain ⟨i, S, rfl, hi, rfl, HS, HB, HF, HW0⟩ := hrel
      have hSs : S.size ≤ 4000000000 := by
        have h1 := HSZ0.out
        rw [str_size HS0.out] at h1
        have h2 := mText_len (q.mat.take i) (fun m hm => HWR.out.mat m (List.mem_of_mem_take hm))
        have h3 := HWR.out.mats
        have h4 : (q.mat.take i).length ≤ q.mat.length := by rw [List.length_take]; omega
        rw [str_size HS.out, List.length_append]
        omega
      by_cases hlt : i < q.mat.length
      · have hi' : decide ((i : Int) < (q.mat.length : Int)) = true := by simpa using hlt
        obtain ⟨_, _, hv, _, h0 | ⟨b, off, ha, hb, hcs⟩⟩ := HMS.out
        · rw [h0] at hlt
          simp at hlt
        cases hv
        subst ha
        obtain ⟨x0, x1, x2⟩ := hcs i hlt
        have HN : Hid (mText (q.mat.take (i + 1)) = mText (q.mat.take i) ++ mText1 q.mat[i]) := Lib.hid (by rw [List.take_succ_eq_append_getElem hlt, mText_snoc])
        obtain ⟨hn, hvv⟩ := HWR.out.mat q.mat[i] (List.getElem_mem hlt)
        have y0 := (World.cell?_of_block (a := ⟨b, off + i * 3, none⟩) (HB.out.block b hb)).trans x0
        have y1 := (World.cell?_of_block (a := ⟨b, off + i * 3 + 1, none⟩) (HB.out.block b hb)).trans x1
        have y2 := (World.cell?_of_block (a := ⟨b, off + i * 3 + 2, none⟩) (HB.out.block b hb)).trans x2
        clear x0 x1 x2 hcs
        generalize q.mat[i] = m at y0 y1 y2 HN hn hvv
        have HVV := Lib.hid hvv
        have hFl := HF.out.lt
        obtain ⟨W1, hW1⟩ : ∃ W1, W1 = wr.alloc (.cells #[.string m.name, .bool m.not, .string m.value] 74) := ⟨_, rfl⟩
        have hl1 : Lay wr W1 := by rw [hW1]; exact (Keep.refl _ wr).alloc _
        have HB1' := Lib.hid (HB.out.trans (hl1.below.mono HB.out.size))
        have HW1' := Lib.hid (HW0.out.trans (hl1.below.mono HW0.out.size))
        have HF1 := Lib.hid (HF.out.keep hl1 (fun h => h))
        have HM1 : Hid (CB W1 wr.heap.size 74 #[.string m.name, .bool m.not, .string m.value]) := Lib.hid (by rw [hW1]; exact CB.new wr 74 _)
        have HW1 := Lib.hid hW1.symm
        clear hW1 hl1 hvv
        go_upto_region 5 with fail
        rw [HW1.out]
        clear HW1 y0 y1 y2
        generalize wr.heap.size = K at HM1 ⊢
        have HQT := Lib.hid (quote_any m.value (by have := HVV.out; omega) W1 (HT0.out.next HW1'.out).utf)
        have m0 := HM1.out.cell 0
        have m1 := HM1.out.cell 1
        have m2 := HM1.out.cell 2
        rcases hnn : m.not with _ | _
        · rw [hnn] at m1
          go_wp2_with fail
          refine HQT.out.mono ?_
          rintro e W5 ⟨rfl, hb5⟩
          have hql : (⟨(LX.quote m.value.data.toList).toArray⟩ : ByteArray).size ≤ 2000000 := by
            have h1 := quote_len m.value.data.toList
            have h2 := HVV.out
            rw [str_size (l := LX.quote m.value.data.toList) (by simp)]
            rw [Lib.size_eq] at h2
            omega
          obtain ⟨QT, hQT⟩ : ∃ QT : ByteArray, QT = ⟨(LX.quote m.value.data.toList).toArray⟩ := ⟨_, rfl⟩
          rw [← hQT] at hql ⊢
          have HQ5 := Lib.hid hQT
          have HB5 := Lib.hid (HB1'.out.trans (hb5.mono HB1'.out.size))
          have HW5 := Lib.hid (HW1'.out.trans (hb5.mono HW1'.out.size))
          have HF5 := Lib.hid (HF1.out.below hb5 HF1.out.lt)
          clear hQT hb5 m0 m1 m2
          go_wp2_with fail
          go_roundw
          case rel =>
            refine ⟨i + 1, _, rfl, by omega, rfl, Lib.hid ?_, HB5, HF5, HW5⟩
            rw [HN.out, ← List.append_assoc, ← HS.out, HQ5.out]
            unfold mText1
            rw [hnn]
            simp
          case measure => simp [intOf]; omega
        · rw [hnn] at m1
          go_wp2_with fail
          refine HQT.out.mono ?_
          rintro e W5 ⟨rfl, hb5⟩
          have hql : (⟨(LX.quote m.value.data.toList).toArray⟩ : ByteArray).size ≤ 2000000 := by
            have h1 := quote_len m.value.data.toList
            have h2 := HVV.out
            rw [str_size (l := LX.quote m.value.data.toList) (by simp)]
            rw [Lib.size_eq] at h2
            omega
          obtain ⟨QT, hQT⟩ : ∃ QT : ByteArray, QT = ⟨(LX.quote m.value.data.toList).toArray⟩ := ⟨_, rfl⟩
          rw [← hQT] at hql ⊢
          have HQ5 := Lib.hid hQT
          have HB5 := Lib.hid (HB1'.out.trans (hb5.mono HB1'.out.size))
          have HW5 := Lib.hid (HW1'.out.trans (hb5.mono HW1'.out.size))
          have HF5 := Lib.hid (HF1.out.below hb5 HF1.out.lt)
          clear hQT hb5 m0 m1 m2
          go_wp2_with fail
          go_roundw
          case rel =>
            refine ⟨i + 1, _, rfl, by omega, rfl, Lib.hid ?_, HB5, HF5, HW5⟩
            rw [HN.out, ← List.append_assoc, ← HS.out, HQ5.out]
            unfold mText1
            rw [hnn]
            simp
          case measure => simp [intOf]; omega
      · obtain rfl : i = q.mat.length := by omega
        have hi' : decide ((q.mat.length : Int) < (q.mat.length : Int)) = false := by simp
        have HS' : Hid (S.data.toList = hText q ++ mText q.mat) := Lib.hid (by rw [HS.out, List.take_length])
        by_cases hop : q.fil.op = 1
        · have e1 : (q.fil.op != 1) = false := by simp [hop]
          have HO := Lib.hid hop
          clear hop
          rcases hd : q.desc with _ | _
          · have c7 : wr.cell? ⟨F, 7, none⟩ = some (.bool false) := by rw [← hd]; exact HF.out.cell 7
            have c3 := HF.out.cell 3
            have c8 := HF.out.cell 8
            have HX : Hid (xText q.fil = []) := Lib.hid (by unfold xText; rw [if_pos HO.out])
            go_wp2_with fail
            refine (HI3.out _ (HT0.out.next HW0.out)).mono ?_
            rintro e W6 ⟨rfl, hl6⟩
            have HB6 := Lib.hid (HB.out.trans (hl6.below.mono HB.out.size))
            clear hl6
            go_wp2_with fail
            go_ret
            refine ⟨_, rfl, ?_, HB6.out⟩
            unfold plainT dText lText
            rw [HX.out, hd, ← HS'.out, HC.out]
            simp
          · have c7 : wr.cell? ⟨F, 7, none⟩ = some (.bool true) := by rw [← hd]; exact HF.out.cell 7
            have c3 := HF.out.cell 3
            have c8 := HF.out.cell 8
            have HX : Hid (xText q.fil = []) := Lib.hid (by unfold xText; rw [if_pos HO.out])
            go_wp2_with fail
            refine (HI3.out _ (HT0.out.next HW0.out)).mono ?_
            rintro e W6 ⟨rfl, hl6⟩
            have HB6 := Lib.hid (HB.out.trans (hl6.below.mono HB.out.size))
            clear hl6
            go_wp2_with fail
            go_ret
            refine ⟨_, rfl, ?_, HB6.out⟩
            unfold plainT dText lText
            rw [HX.out, hd, ← HS'.out, HC.out]
            simp
        · have e1 : (q.fil.op != 1) = true := by simp [hop]
          have HO := Lib.hid hop
          clear hop
          rcases hd : q.desc with _ | _
          · have c7 : wr.cell? ⟨F, 7, none⟩ = some (.bool false) := by rw [← hd]; exact HF.out.cell 7
            have c3 := HF.out.cell 3
            have c4 := HF.out.cell 4
            have c5 := HF.out.cell 5
            have c6 := HF.out.cell 6
            have HX : Hid (xText q.fil = [32, 102, 105, 110, 100, 32] ++ fText q.fil) := Lib.hid (by unfold xText; rw [if_neg HO.out])
            have HFI : Hid (Calls Tryz.prog 63 #[.agg #[.int .i64 q.fil.op, .string q.fil.name, .string q.fil.text, .slice ak q.fil.kids.length ck]] wr (TextR q.fil wr)) := Lib.hid (textFilter_any _ q.fil (Nat.le_refl _) HWR.out.can HWR.out.sm HWR.out.len wr _ (KsAt.below HB.out _ _ HKS.out) (HT0.out.next HW0.out).utf)
            go_wp2_with fail
            refine HFI.out.mono ?_
            rintro e W5 ⟨TT, rfl, hTT, hb5⟩
            have hts : TT.size ≤ 1000000000000 := by rw [str_size hTT]; exact HWR.out.len
            have HTT := Lib.hid hTT
            have HB5 := Lib.hid (HB.out.trans (hb5.mono HB.out.size))
            have HW5 := Lib.hid (HW0.out.trans (hb5.mono HW0.out.size))
            have HF5 := Lib.hid (HF.out.below hb5 HF.out.lt)
            clear hTT hb5 c3 c4 c5 c6 c7 HFI
            have c7 : W5.cell? ⟨F, 7, none⟩ = some (.bool false) := by rw [← hd]; exact HF5.out.cell 7
            have c8 := HF5.out.cell 8
            go_wp2_with fail
            refine (HI3.out _ (HT0.out.next HW5.out)).mono ?_
            rintro e W6 ⟨rfl, hl6⟩
            have HB6 := Lib.hid (HB5.out.trans (hl6.below.mono HB5.out.size))
            clear hl6
            go_wp2_with fail
            go_ret
            refine ⟨_, rfl, ?_, HB6.out⟩
            unfold plainT dText lText
            rw [HX.out, hd, ← HS'.out, HC.out, ← HTT.out]
            simp
          · have c7 : wr.cell? ⟨F, 7, none⟩ = some (.bool true) := by rw [← hd]; exact HF.out.cell 7
            have c3 := HF.out.cell 3
            have c4 := HF.out.cell 4
            have c5 := HF.out.cell 5
            have c6 := HF.out.cell 6
            have HX : Hid (xText q.fil = [32, 102, 105, 110, 100, 32] ++ fText q.fil) := Lib.hid (by unfold xText; rw [if_neg HO.out])
            have HFI : Hid (Calls Tryz.prog 63 #[.agg #[.int .i64 q.fil.op, .string q.fil.name, .string q.fil.text, .slice ak q.fil.kids.length ck]] wr (TextR q.fil wr)) := Lib.hid (textFilter_any _ q.fil (Nat.le_refl _) HWR.out.can HWR.out.sm HWR.out.len wr _ (KsAt.below HB.out _ _ HKS.out) (HT0.out.next HW0.out).utf)
            go_wp2_with fail
            refine HFI.out.mono ?_
            rintro e W5 ⟨TT, rfl, hTT, hb5⟩
            have hts : TT.size ≤ 1000000000000 := by rw [str_size hTT]; exact HWR.out.len
            have HTT := Lib.hid hTT
            have HB5 := Lib.hid (HB.out.trans (hb5.mono HB.out.size))
            have HW5 := Lib.hid (HW0.out.trans (hb5.mono HW0.out.size))
            have HF5 := Lib.hid (HF.out.below hb5 HF.out.lt)
            clear hTT hb5 c3 c4 c5 c6 c7 HFI
            have c7 : W5.cell? ⟨F, 7, none⟩ = some (.bool true) := by rw [← hd]; exact HF5.out.cell 7
            have c8 := HF5.out.cell 8
            go_wp2_with fail
            refine (HI3.out _ (HT0.out.next HW5.out)).mono ?_
            rintro e W6 ⟨rfl, hl6⟩
            have HB6 := Lib.hid (HB5.out.trans (hl6.below.mono HB5.out.size))
            clear hl6
            go_wp2_with fail
            go_ret
            refine ⟨_, rfl, ?_, HB6.out⟩
            unfold plainT dText lText
            rw [HX.out, hd, ← HS'.out, HC.out, ← HTT.out]
            simp
end Go.Proofs.YtmodiemmcdocdaaGreatDoor

namespace Go.Proofs.YtmodiemmcdocdaaGreatDoor
open Go.RowKit Go

theorem plain_len {q : Qy} (hw : Wr q) : (plainT q).length ≤ 2000000000000 := by
  have h1 := itoa_short _ hw.src0 hw.src1
  have h2 := itoa_short _ hw.til0 hw.til1
  have h3 := itoa_short _ hw.lim0 hw.lim1
  have h4 := mText_len q.mat hw.mat
  have h5 := hw.mats
  have h6 : (xText q.fil).length ≤ 1000000000006 := by
    have := hw.len
    unfold xText
    split
    · simp
    · simp only [List.length_append, List.length_cons, List.length_nil]
      omega
  have h7 : (dText q.desc).length ≤ 5 := by
    unfold dText
    split <;> simp
  unfold plainT hText lText
  simp only [List.length_append, List.length_cons, List.length_nil]
  omega

set_option maxHeartbeats 8000000 in
set_option maxRecDepth 100000 in
theorem textQuery_any (q : Qy) (hw : Wr q) (w : World) (am : Option Addr) (cm : Nat) (ak : Option Addr) (ck : Nat) (hm : MsAt w (.slice am q.mat.length cm) q.mat) (hk : KsAt w (.slice ak q.fil.kids.length ck) q.fil) (hT : Tabs w) :
    Calls Tryz.prog 15 #[.agg #[.int .i64 q.src, .int .i64 q.til, .slice am q.mat.length cm, .int .i64 q.fil.op, .string q.fil.name, .string q.fil.text, .slice ak q.fil.kids.length ck, .bool q.desc, .int .i64 q.lim, .string q.page]] w fun e w' => ∃ T : ByteArray, e = .returned (.string T) ∧ T.data.toList = PX.spell (PX.qsp Lib.itoa q) ∧ Below w.heap.size w w' := by
  obtain ⟨w0, hW⟩ : ∃ w0, w0 = w.alloc (.cells #[.int .i64 q.src, .int .i64 q.til, .slice am q.mat.length cm, .int .i64 q.fil.op, .string q.fil.name, .string q.fil.text, .slice ak q.fil.kids.length ck, .bool q.desc, .int .i64 q.lim, .string q.page] 28) := ⟨_, rfl⟩
  obtain ⟨F, hF⟩ : ∃ F, F = w.heap.size := ⟨_, rfl⟩
  have hl0 : Lay w w0 := by rw [hW]; exact (Keep.refl _ w).alloc _
  have HB0 := Lib.hid hl0.below
  have HC0 : Hid (CB w0 F 28 #[.int .i64 q.src, .int .i64 q.til, .slice am q.mat.length cm, .int .i64 q.fil.op, .string q.fil.name, .string q.fil.text, .slice ak q.fil.kids.length ck, .bool q.desc, .int .i64 q.lim, .string q.page]) := Lib.hid (by rw [hW, hF]; exact CB.new w 28 _)
  have HP := Lib.hid (fun W (hb : Below w.heap.size w W) => textPlain_any q hw W am cm ak ck (hm.below hb) (KsAt.below hb _ _ hk) (hT.next hb))
  have HQ := Lib.hid (fun W (hb : Below w.heap.size w W) => quote_any q.page (by have := hw.page; omega) W (hT.next hb).utf)
  have HSP := Lib.hid (qsp_spell (q := q) hw.can)
  have HPL := Lib.hid (plain_len hw)
  have HPG := Lib.hid hw.page
  have hF0 : F < w0.heap.size := HC0.out.lt
  have HW := Lib.hid hW.symm
  have HFE := Lib.hid hF.symm
  have HW0 : Hid (w.heap.size ≤ w0.heap.size) := Lib.hid HB0.out.size
  clear hl0 hW hF hw hm hk hT
  go_enter Tryz.func15, Tryz.ntmps15
  go_upto_region 1 with fail
  rw [HW.out, HFE.out]
  clear HW
  have c0 := HC0.out.cell 0
  have c1 := HC0.out.cell 1
  have c2 := HC0.out.cell 2
  have c3 := HC0.out.cell 3
  have c4 := HC0.out.cell 4
  have c5 := HC0.out.cell 5
  have c6 := HC0.out.cell 6
  have c7 := HC0.out.cell 7
  have c8 := HC0.out.cell 8
  have c9 := HC0.out.cell 9
  by_cases hp : q.page = ⟨#[]⟩
  · have HE : Hid (PX.spell (PX.qsp Lib.itoa q) = plainT q) := Lib.hid (by rw [HSP.out, if_pos hp, List.append_nil])
    have e1 : (q.page.toList != ([] : List UInt8)) = false := by rw [hp, ByteArray.toList_eq]; rfl
    have HPP := Lib.hid (HP.out w0 HB0.out)
    rw [hp] at c9
    clear e1
    go_wp2_with fail
    rw [← hp]
    refine HPP.out.mono ?_
    rintro e W5 ⟨T, rfl, hT5, hb5⟩
    have HT5 := Lib.hid hT5
    have HB5 := Lib.hid (HB0.out.trans (hb5.mono HW0.out))
    clear hT5 hb5 hp
    go_wp2_with fail
    go_ret
    exact ⟨T, rfl, by rw [HE.out]; exact HT5.out, HB5.out⟩
  · have HE : Hid (PX.spell (PX.qsp Lib.itoa q) = plainT q ++ ([32, 112, 97, 103, 101, 32] ++ LX.quote q.page.data.toList)) := Lib.hid (by rw [HSP.out, if_neg hp])
    have e1 : (!q.page.toList.isEmpty) = true := by
      rw [ByteArray.toList_eq]
      rcases hl : q.page.data.toList with _ | ⟨x, r⟩
      · exact absurd (ByteArray.ext (by simpa using hl)) hp
      · rfl
    have hql : (⟨(LX.quote q.page.data.toList).toArray⟩ : ByteArray).size ≤ 2000000 := by
      have h1 := quote_len q.page.data.toList
      have h2 := HPG.out
      rw [str_size (l := LX.quote q.page.data.toList) (by simp)]
      rw [Lib.size_eq] at h2
      omega
    obtain ⟨QT, hQT⟩ : ∃ QT : ByteArray, QT = ⟨(LX.quote q.page.data.toList).toArray⟩ := ⟨_, rfl⟩
    rw [← hQT] at hql HQ
    have HQ5 := Lib.hid hQT
    clear hp hQT
    go_upto_region 2 with fail
    go_region_with (first | (go_at_call 34; refine (HP.out _ (by first | exact HB0.out.drew | exact HBQ.out)).mono ?_; rintro e wp ⟨TP, rfl, htp, hbp⟩; have hts : TP.size ≤ 2000000000000 := (by rw [str_size htp]; exact HPL.out); have HTP := Lib.hid htp; have HBP := Lib.hid (Below.trans (by first | exact HB0.out.drew | exact HBQ.out) (hbp.mono (by first | exact HW0.out | exact HBQ.out.size))); try (have hcp := CB.below (n := w0.drew.heap.size) (W := w0.drew) HC0.out hbp hF0; have p0 := hcp.cell 0; have p1 := hcp.cell 1; have p2 := hcp.cell 2; have p3 := hcp.cell 3; have p4 := hcp.cell 4; have p5 := hcp.cell 5; have p6 := hcp.cell 6; have p7 := hcp.cell 7; have p8 := hcp.cell 8; have p9 := hcp.cell 9)) | (go_at_call 18; refine (HQ.out _ (by first | exact HB0.out.drew | exact HBP.out)).mono ?_; rintro e wq ⟨rfl, hbq⟩; have HBQ := Lib.hid (Below.trans (by first | exact HB0.out.drew | exact HBP.out) (hbq.mono (by first | exact HW0.out | exact HBP.out.size))); try (have hcq := CB.below (n := w0.drew.heap.size) (W := w0.drew) HC0.out hbq hF0; have q0 := hcq.cell 0; have q1 := hcq.cell 1; have q2 := hcq.cell 2; have q3 := hcq.cell 3; have q4 := hcq.cell 4; have q5 := hcq.cell 5; have q6 := hcq.cell 6; have q7 := hcq.cell 7; have q8 := hcq.cell 8; have q9 := hcq.cell 9)))
    all_goals
      go_wp2_with fail
      go_ret
      refine ⟨_, rfl, ?_, ?_⟩
      · rw [HE.out, ← HTP.out, HQ5.out]
        simp
      · first | exact HBQ.out | exact HBP.out
end Go.Proofs.YtmodiemmcdocdaaGreatDoor

namespace Go.Proofs.YtmodiemmcdocdaaGreatDoor
open Go.RowKit Go

end Go.Proofs.YtmodiemmcdocdaaGreatDoor
