/-
  THE DOCUMENT's Get OF A QUESTION.
-/
import Derived.Test.YtaghogfkkmphoaaDoorSe12
import Derived.Test.YtaghogfkkmphoaaDoorHp12
import Derived.Test.YtaghogfkkmphoaaDoorGo12
import Derived.Test.YtaghogfkkmphoaaDoorDm12
import Derived.Test.YtaghogfkkmphoaaDoorNr
namespace Go.Proofs.YtaghogfkkmphoaaDoor.E4
open Go.RowKit Go

theorem chg_of_keep {b : Nat} {W W' : World} (h : Keep (fun k => k = b) W W') : Chg b W W' := ⟨h.os, h.tape, h.output, h.size, fun k hk hne => h.block k hk hne⟩
theorem chg_box {g b : Nat} {w W W' : World} (h : Chg g w W) (hk : Keep (fun k => k = b) W W') (hb : w.heap.size ≤ b) : Chg g w W' :=
  ⟨hk.os.trans h.os, hk.tape.trans h.tape, hk.output.trans h.output, Nat.le_trans h.size hk.size, fun k hlt hne => (hk.block k (Nat.lt_of_lt_of_le hlt h.size) (by omega)).trans (h.block k hlt hne)⟩
theorem wrap_dec (j : Nat) (h : j ≤ 64) : IntKind.u64.wrap (j : Int) = (j : Int) := by rw [IntKind.wrap_u64]; omega

set_option maxHeartbeats 16000000 in
set_option maxRecDepth 100000 in
theorem refGet_any {isT : ByteArray → Bool} {Tb : World → Prop} (g : Nat) (S : ByteArray) (hS : S.size ≤ 2000) (pos : Nat) (l : List UInt8) (bad : Bool) (w : World) (hTb : ∀ W W', Chg g W W' → Tb W → Tb W') (hG : ∀ (a : Ask) (v : Value) (W : World), AskAt W v a → Tb W → Calls Tryd.prog 15 #[v] W fun e W' => e = .returned (.bool (a.good isT)) ∧ Below W.heap.size W W')
    (h : Rf w g S pos bad) (hl : Left l bad S pos) (hT : Tb w) :
    Calls Tryd.prog 21 #[.pointer (some ⟨g, 0, none⟩)] w fun e w' => ∃ (a : Ask) (av mv : Value) (l' : List UInt8) (bad' : Bool) (pos' : Nat), RAk l bad a l' bad' ∧ Rf w' g S pos' bad' ∧ Left l' bad' S pos' ∧ Chg g w w' ∧ TextsAt w' av a.all ∧ MsAt w' mv a.mat ∧
      e = .returned (.tuple (if (!bad' && a.good isT) = true then #[.agg (a.cells av mv), .bool true] else #[.agg #[.int .i64 0, .int .i64 0, .int .i64 0, .slice none 0 0, .slice none 0 0], .bool false])) := by
  obtain ⟨iS, zS, ES⟩ := elemS
  obtain ⟨iR, zR, ER⟩ := elemR
  obtain ⟨iM, zM, EM⟩ := elemM
  have hgl := h.lt
  obtain ⟨w1, hw1⟩ : ∃ w1, w1 = w.alloc (.cells #[.int .i64 0, .int .i64 0, .int .i64 0, .slice none 0 0, .slice none 0 0] 25) := ⟨_, rfl⟩
  have hb1 : Below w.heap.size w w1 := by rw [hw1]; exact (Below.refl _ w).alloc (Nat.le_refl _) _
  have hk1 : Bl w1 w.heap.size 25 #[.int .i64 0, .int .i64 0, .int .i64 0, .slice none 0 0, .slice none 0 0] := by rw [hw1]; exact Bl.new w 25 _
  have hc1 : Chg g w w1 := Below.chg hb1
  have hf1 : Rf w1 g S pos bad := h.below hb1 hgl
  have hs1 : w1.heap.size = w.heap.size + 1 := by rw [hw1]; simp
  have HU1 := Lib.hid (ref_rd 3 g S hS pos l bad w1 hf1 hl)
  have HW1 := Lib.hid hw1.symm
  have HC1 := Lib.hid hc1
  have HK1 := Lib.hid hk1
  clear hw1 hb1 hk1 hc1 hf1 h hl
  go_enter Tryd.func21, Tryd.ntmps21
  go_upto_region 1 with fail
  rw [HW1.out]
  go_wp2_with fail
  refine HU1.out.mono ?_
  rintro e w2 ⟨k, l1, b1, pos1, rfl, hr1, hf2, hl2, hc2⟩
  have hkle := hr1.le
  have ek : IntKind.i64.wrap (k : Int) = (k : Int) := by rw [IntKind.wrap_i64]; omega
  have HR1 := Lib.hid hr1
  have HC2 := Lib.hid (HC1.out.trans hc2)
  have HK2 := Lib.hid (HK1.out.chg hc2 (by omega))
  obtain ⟨w3, hw3⟩ : ∃ w3, w3 = w2.alloc (.cells #[.int .i64 (k : Nat), .int .i64 0, .int .i64 0, .slice none 0 0, .slice none 0 0] 25) := ⟨_, rfl⟩
  have hb3 : Below w2.heap.size w2 w3 := by rw [hw3]; exact (Below.refl _ w2).alloc (Nat.le_refl _) _
  have hk3 : Bl w3 w2.heap.size 25 #[.int .i64 (k : Nat), .int .i64 0, .int .i64 0, .slice none 0 0, .slice none 0 0] := by rw [hw3]; exact Bl.new w2 25 _
  have hg2 := hf2.lt
  have hBsz := HK2.out.lt
  have HU2 := Lib.hid (ref_int_rd g S hS pos1 l1 b1 w3 (hf2.below hb3 hg2) hl2)
  have HC3 := Lib.hid (HC2.out.trans (Below.chg hb3))
  have HK3 := Lib.hid hk3
  have HR3' := Lib.hid (HK2.out.below hb3)
  have HW3 := Lib.hid hw3.symm
  clear HU1 HC1 HK1 hr1 hf2 hl2 hc2 HC2 HK2 hw3 hb3 hk3 hs1
  go_upto_region 2 with fail
  rw [HW3.out]
  clear HW3 HW1
  generalize w2.heap.size = B at HK3 hg2 hBsz ⊢
  clear ek
  have HGR : Hid (g ≠ w.heap.size) := Lib.hid (by omega)
  have HGB := Lib.hid hg2
  have HRB := Lib.hid hBsz
  have HRN : Hid (w.heap.size ≠ B) := Lib.hid (by omega)
  clear hg2 hBsz
  go_wp2_with fail
  refine HU2.out.mono ?_
  rintro e w4 ⟨n1, l2', b2', pos2, rfl, hr2, hf4, hl4, hc4⟩
  have hk4 := HK3.out.chg hc4 (by have := HGB.out; omega)
  have hk5 := hk4.set 1 (.int .i64 (Lib.unzigzag n1))
  simp only [List.setIfInBounds_toArray, List.set_cons_succ, List.set_cons_zero] at hk5
  have hsc : Chg B w4 (w4.setCell ⟨B, 1, none⟩ (.int .i64 (Lib.unzigzag n1))) := Chg.setCell B 1 w4 _
  have HR2 := Lib.hid hr2
  have HK5 := Lib.hid hk5
  have HF5 := Lib.hid (hf4.chg hsc (by have := HGB.out; omega))
  have HL5 := Lib.hid hl4
  have HRR5 := Lib.hid ((HR3'.out.chg hc4 (by omega)).chg hsc HRN.out)
  have HC5 := Lib.hid (chg_set (HC3.out.trans hc4) (B := B) (by have := HRB.out; omega) 1 (.int .i64 (Lib.unzigzag n1)))
  have c1 := hk4.cell 1
  have zc1 := hk4.frozen 1
  simp only [List.getElem?_toArray, List.getElem?_cons_succ, List.getElem?_cons_zero] at c1
  clear hk4 hk5 hsc hr2 hf4 hl4 hc4 HU2 HC3 HK3 HR3'
  go_upto_region 3 with fail
  generalize w4.setCell ⟨B, 1, none⟩ (.int .i64 (Lib.unzigzag n1)) = w5 at HK5 HF5 HRR5 HC5 ⊢
  clear c1 zc1
  have HU2 := Lib.hid (ref_int_rd g S hS pos2 l2' b2' w5 HF5.out HL5.out)
  go_wp2_with fail
  refine HU2.out.mono ?_
  rintro e w6 ⟨n2, l3, b3, pos3, rfl, hr3, hf6, hl6, hc6⟩
  have hk6 := HK5.out.chg hc6 (by have := HGB.out; omega)
  have hk7 := hk6.set 2 (.int .i64 (Lib.unzigzag n2))
  simp only [List.setIfInBounds_toArray, List.set_cons_succ, List.set_cons_zero] at hk7
  have hsc : Chg B w6 (w6.setCell ⟨B, 2, none⟩ (.int .i64 (Lib.unzigzag n2))) := Chg.setCell B 2 w6 _
  have HR3 := Lib.hid hr3
  have HBX := Lib.hid hk7
  have HF := Lib.hid (hf6.chg hsc (by have := HGB.out; omega))
  have HL := Lib.hid hl6
  have HRR := Lib.hid ((HRR5.out.chg hc6 (by have := HGR.out; omega)).chg hsc HRN.out)
  have HC := Lib.hid (chg_set (HC5.out.trans hc6) (B := B) (by have := HRB.out; omega) 2 (.int .i64 (Lib.unzigzag n2)))
  have c2 := hk6.cell 2
  have zc2 := hk6.frozen 2
  simp only [List.getElem?_toArray, List.getElem?_cons_succ, List.getElem?_cons_zero] at c2
  clear hk6 hk7 hsc hr3 hf6 hl6 hc6 HU2 HC5 HK5 HF5 HL5 HRR5
  go_upto_region 4 with fail
  generalize w6.setCell ⟨B, 2, none⟩ (.int .i64 (Lib.unzigzag n2)) = w7 at HBX HF HRR HC ⊢
  clear c2 zc2
  have c0 := HBX.out.cell 0
  simp only [List.getElem?_toArray, List.getElem?_cons_zero] at c0
  by_cases k1 : k = 1
  · have e1 : ((k : Int) == 1) = true := by simp [k1]
    have e2 : ((k : Int) == 2) = false := by simp [k1]
    have HK := Lib.hid k1
    clear k1
    have HU4 := Lib.hid (ref_rd 64 g S hS pos3 l3 b3 w7 HF.out HL.out)
    go_wp2_with fail
    refine HU4.out.mono ?_
    rintro e w8 ⟨n, l4, b4, pos4, rfl, hr4, hf8, hl8, hc8⟩
    have hn64 := hr4.le
    have HR4 := Lib.hid hr4
    have HF := Lib.hid hf8
    have HL := Lib.hid hl8
    have HBX := Lib.hid (HBX.out.chg hc8 (by have := HGB.out; omega))
    have HRR := Lib.hid (HRR.out.chg hc8 (Ne.symm HGR.out))
    have HC := Lib.hid (HC.out.trans hc8)
    clear hr4 hf8 hl8 hc8 HU4 c0
    go_wp2_with fail
    go_loopw [5] (fun vi wr => ∃ (j : Nat) (rows : List (List ByteArray)) (xs : List Value) (l5 : List UInt8) (b5 : Bool) (pos5 : Nat) (AV : Value), vi = .int .u64 j ∧ j + rows.length = n ∧ RowsG (B + 1) wr AV rows xs ∧ Bl wr B 25 #[.int .i64 (k : Nat), .int .i64 (Lib.unzigzag n1), .int .i64 (Lib.unzigzag n2), AV, .slice none 0 0] ∧ Bl wr w.heap.size 25 #[.int .i64 0, .int .i64 0, .int .i64 0, .slice none 0 0, .slice none 0 0] ∧ RNs RRow l4 b4 rows l5 b5 ∧ Rf wr g S pos5 b5 ∧ Left l5 b5 S pos5 ∧ Chg g w wr) (fun vi _ => (intOf vi).toNat)
    case atStart => exact ⟨n, [], [], l4, b4, pos4, _, rfl, by simp, RowsG.nil _ _, HBX.out, HRR.out, .nil, HF.out, HL.out, HC.out⟩
    case round =>
      obtain ⟨j, rows, xs, l5, b5, pos5, AV, rfl, hjn, hrg, hbx, hrr, hrn, hrf, hlf, hchg⟩ := hrel
      obtain ⟨xa, xc, rfl⟩ := hrg.1.shape
      have HRG := Lib.hid hrg
      have HBX := Lib.hid hbx
      have HRR := Lib.hid hrr
      have HRNS := Lib.hid hrn
      have HF := Lib.hid hrf
      have HL := Lib.hid hlf
      have HC := Lib.hid hchg
      have hrl : rows.length ≤ 64 := by omega
      have HJN := Lib.hid hjn
      clear hrg hbx hrr hrn hrf hlf hchg hjn
      cases j with
      | succ j =>
        have d1 : (0 : Int) < ((j + 1 : Nat) : Int) := by omega
        have HU2 := Lib.hid (ref_rd 64 g S hS pos5 l5 b5 wr HF.out HL.out)
        go_wp2_with fail
        refine HU2.out.mono ?_
        rintro e w9 ⟨m, l6, b6, pos6, rfl, hru, hf9, hl9, hc9⟩
        have hm64 := hru.le
        have HRU := Lib.hid hru
        have HF := Lib.hid hf9
        have HL := Lib.hid hl9
        have HRG := Lib.hid (HRG.out.chg hc9 (by have := HGB.out; omega))
        have HBX := Lib.hid (HBX.out.chg hc9 (by have := HGB.out; omega))
        have HRR := Lib.hid (HRR.out.chg hc9 (Ne.symm HGR.out))
        have HC := Lib.hid (HC.out.trans hc9)
        clear hru hf9 hl9 hc9 HU2
        go_wp2_with fail
        go_loopw [7, 6] (fun vj vr wq => ∃ (i : Nat) (row : List ByteArray) (l7 : List UInt8) (b7 : Bool) (pos7 : Nat) (RV : Value), vj = .int .u64 i ∧ RV = vr ∧ i + row.length = m ∧ Rk 1 (fun q => w9.heap.size ≤ q) wq RV row.length (strs row) ∧ RNs RW l6 b6 row l7 b7 ∧ Rf wq g S pos7 b7 ∧ Left l7 b7 S pos7 ∧ Chg g w9 wq) (fun vj _ _ => (intOf vj).toNat)
        case atStart => exact ⟨m, [], l6, b6, pos6, _, rfl, rfl, by simp, Rk.nil _ _ _, .nil, HF.out, HL.out, Chg.refl _ _⟩
        case round =>
          obtain ⟨i, row, l7, b7, pos7, RV, rfl, rfl, him, hrk, hrn7, hf7, hl7, hc7⟩ := hrel
          have HRK := Lib.hid hrk
          have HRN7 := Lib.hid hrn7
          have HF7 := Lib.hid hf7
          have HL7 := Lib.hid hl7
          have HC7 := Lib.hid hc7
          have HIM := Lib.hid him
          have hrow : row.length ≤ 64 := by omega
          clear hrk hrn7 hf7 hl7 hc7 him
          cases i with
          | succ i =>
            have d2 : (0 : Int) < ((i + 1 : Nat) : Int) := by omega
            have HT := Lib.hid (ref_text_rd 1024 g (by omega) S hS pos7 l7 b7 wr HF7.out HL7.out 1024 rfl)
            go_wp2_with fail
            refine HT.out.mono ?_
            rintro e w10 ⟨s, l8, b8, pos8, rfl, hrt, hf10, hl10, hc10⟩
            have hg10 := HGB.out
            have h9 : B < w9.heap.size := HBX.out.lt
            have hc11 := HC7.out.trans hc10
            have hrk10 : Rk 1 (fun q => w9.heap.size ≤ q) w10 RV row.length (strs row) := HRK.out.carry hc10.size fun q hq _ hlt => hc10.block q hlt (by omega)
            have HRT := Lib.hid hrt
            have HF10 := Lib.hid hf10
            have HL10 := Lib.hid hl10
            have HC11 := Lib.hid hc11
            have HRK10 := Lib.hid hrk10
            have hs10 : w9.heap.size ≤ w10.heap.size := hc11.size
            clear hrt hf10 hl10 hc10 hc11 hrk10 HT
            go_wp2_with (at_builtin; refine wpList_append_rk ES _ rfl _ _ 60 rfl (G := fun q => w9.heap.size ≤ q) rfl (HRK10.out.alloc _) ?c1 (.slice (some ⟨w10.heap.size, 0, none⟩) 1 1) 1 [.string s] rfl (src_str w10 s) ?c3 ?c4 ?_)
            case c1 => intro q hq; simp at hq; omega
            case c3 => omega
            case c4 => omega
            intro v' w11 hown hbel
            have hat : ∀ b, At RV b → w9.heap.size ≤ b := fun b hb => (HRK10.out.at hb).1
            have hc12 : Chg g w9 w11 := chg_keep (HC11.out.trans (Chg.alloc g w10 _)) hbel hat
            have hf11 : Rf w11 g S pos8 b8 := (HF10.out.below ((Below.refl _ w10).alloc (Nat.le_refl _) _) HF10.out.lt).carry (hbel.block g (by simp; have := HF10.out.lt; omega) fun ha => by have := hat g ha; omega)
            have hrk11 : Rk 1 (fun q => w9.heap.size ≤ q) w11 v' (row ++ [s]).length (strs (row ++ [s])) := by
              rw [strs_snoc, List.length_append, List.length_singleton]
              exact hown.mono fun q hq _ => hq.1
            have HC12 := Lib.hid hc12
            have HF11 := Lib.hid hf11
            have HRK11 := Lib.hid hrk11
            have ew := wrap_dec i (by have := HIM.out; omega)
            clear hown hbel hat hc12 hf11 hrk11 hs10 hg10 h9
            go_wp2_with fail
            go_roundw
            case rel => exact ⟨i, row ++ [s], l8, b8, pos8, _, rfl, rfl, by rw [List.length_append, List.length_singleton]; have := HIM.out; omega, HRK11.out, .snoc HRN7.out HRT.out, HF11.out, HL10.out, HC12.out⟩
            case measure => simp [intOf]
          | zero =>
            have hrm : row.length = m := by have := HIM.out; omega
            have HC := Lib.hid (HC.out.trans HC7.out)
            have HRG7 := Lib.hid (HRG.out.chg HC7.out (by have := HGB.out; omega))
            have HBX7 := Lib.hid (HBX.out.chg HC7.out (by have := HGB.out; omega))
            have HRR7 := Lib.hid (HRR.out.chg HC7.out (Ne.symm HGR.out))
            have hatv : ∀ b, At (.slice xa rows.length xc) b → b < w9.heap.size := fun b hb => (HRG.out.1.at hb).2
            have h9 : B < w9.heap.size := HBX.out.lt
            have HRK7 := Lib.hid (show Rk 1 (fun q => B + 1 ≤ q ∧ ¬ At (.slice xa rows.length xc) q) wr RV row.length (strs row) from HRK.out.mono fun q hq _ => ⟨by omega, fun ha => by have := hatv q ha; omega⟩)
            obtain ⟨x, y, rfl⟩ := HRK.out.shape
            have HSW : Hid (B + 1 ≤ wr.heap.size) := Lib.hid (by have := HBX7.out.lt; omega)
            have HRM := Lib.hid hrm
            clear hatv h9 hrm HRK HRG HBX HRR
            have c3 := HBX7.out.cell 3
            simp only [List.getElem?_toArray, List.getElem?_cons_succ, List.getElem?_cons_zero] at c3
            have hsw := HSW.out
            go_wp2_with (at_builtin; refine wpList_append_rk ER _ rfl _ _ 22 rfl (G := fun q => B + 1 ≤ q) rfl (HRG7.out.1.alloc _) ?c1 (.slice (some ⟨wr.heap.size, 0, none⟩) 1 1) 1 [.slice x row.length y] rfl (src_row wr _ rfl) ?c3 ?c4 ?_)
            case c1 => intro q hq; simp at hq; omega
            case c3 => omega
            case c4 => omega
            intro v' w12 hown hbel
            obtain ⟨va, vc, rfl⟩ := hown.shape
            have hat : ∀ b, At (.slice xa rows.length xc) b → B + 1 ≤ b := fun b hb => (HRG7.out.1.at hb).1
            have hgB := HGB.out
            have hrB := HRB.out
            have hcA : ∀ b, b < B + 1 → ¬ At (.slice xa rows.length xc) b := fun b hb ha => by have := hat b ha; omega
            have hc8 : Chg g w w12 := chg_keep (HC.out.trans (Chg.alloc g wr _)) hbel (fun b hb => by have := hat b hb; omega)
            have hf8 : Rf w12 g S pos7 b7 := (HF7.out.below ((Below.refl _ wr).alloc (Nat.le_refl _) _) HF7.out.lt).carry (hbel.block g (by simp; omega) (hcA g (by omega)))
            have hb8 : Bl w12 B 25 #[.int .i64 (k : Nat), .int .i64 (Lib.unzigzag n1), .int .i64 (Lib.unzigzag n2), .slice xa rows.length xc, .slice none 0 0] := (hbel.block B (by simp; omega) (hcA B (by omega))).trans (HBX7.out.below ((Below.refl _ wr).alloc (Nat.le_refl _) _))
            have hr8 : Bl w12 w.heap.size 25 #[.int .i64 0, .int .i64 0, .int .i64 0, .slice none 0 0, .slice none 0 0] := (hbel.block _ (by simp; omega) (hcA _ (by omega))).trans (HRR7.out.below ((Below.refl _ wr).alloc (Nat.le_refl _) _))
            have hrg8 := RowsG.snoc HRG7.out HRK7.out (by omega) rfl hown hbel
            have hset := hb8.set 3 (.slice va (rows.length + 1) vc)
            simp only [List.setIfInBounds_toArray, List.set_cons_succ, List.set_cons_zero] at hset
            have hsc : Chg B w12 (w12.setCell ⟨B, 3, none⟩ (.slice va (rows.length + 1) vc)) := Chg.setCell B 3 w12 _
            have HRG8 := Lib.hid (hrg8.chg hsc (by omega))
            have HB8 := Lib.hid hset
            have HR8 := Lib.hid (hr8.chg hsc HRN.out)
            have HF8 := Lib.hid (hf8.chg hsc (by omega))
            have HC8 := Lib.hid (chg_set hc8 (B := B) (by omega) 3 (.slice va (rows.length + 1) vc))
            have y3 := hb8.cell 3
            have zy3 := hb8.frozen 3
            simp only [List.getElem?_toArray, List.getElem?_cons_succ, List.getElem?_cons_zero] at y3
            have ew := wrap_dec j (by have := HJN.out; omega)
            clear hown hbel hat hcA hc8 hf8 hb8 hr8 hrg8 hset hsc hsw c3 hgB hrB
            go_wp2_with fail
            go_roundw
            case rel => exact ⟨j, rows ++ [row], _, l7, b7, pos7, _, rfl, by rw [List.length_append, List.length_singleton]; have := HJN.out; omega, HRG8.out, by first | exact HB8.out | (rw [List.length_append, List.length_singleton]; exact HB8.out), HR8.out, .snoc HRNS.out ⟨l6, b6, by rw [HRM.out]; exact HRU.out, HRN7.out⟩, HF8.out, HL7.out, HC8.out⟩
            case measure => simp [intOf]
      | zero =>
        obtain rfl : rows.length = n := by have := HJN.out; omega
        have HTX : Hid (∀ W', Chg w.heap.size wr W' → TextsAt W' (.slice xa rows.length xc) rows) := Lib.hid fun W' hc => (HRG.out.chg hc (by have := HRB.out; omega)).at (by omega)
        have HMX : Hid (∀ W', Chg w.heap.size wr W' → MsAt W' (.slice none 0 0) []) := Lib.hid fun W' _ => ⟨none, 0, rfl, by simp, .inl rfl⟩
        have HRAK : Hid (RAk l bad ⟨(k : Nat), Lib.unzigzag n1, Lib.unzigzag n2, rows, []⟩ l5 b5) := Lib.hid ⟨k, l1, b1, n1, l2', b2', n2, l3, b3, HR1.out, rfl, HR2.out, rfl, HR3.out, rfl, .inl ⟨HK.out, rfl, l4, b4, HR4.out, HRNS.out⟩⟩
        have HGO := Lib.hid (hG ⟨(k : Nat), Lib.unzigzag n1, Lib.unzigzag n2, rows, []⟩ (.agg #[.int .i64 (k : Nat), .int .i64 (Lib.unzigzag n1), .int .i64 (Lib.unzigzag n2), .slice xa rows.length xc, .slice none 0 0]) wr ⟨(.slice xa rows.length xc), (.slice none 0 0), rfl, HTX.out _ (Chg.refl _ _), HMX.out _ (Chg.refl _ _)⟩ (hTb _ _ HC.out hT))
        cases hb : b5 with
        | true =>
          have HB := Lib.hid hb
          have r2 := HF.out.isBad
          rw [hb] at r2
          clear hb
          have x0 := HBX.out.cell 0
          have x1 := HBX.out.cell 1
          have x2 := HBX.out.cell 2
          have x3 := HBX.out.cell 3
          have x4 := HBX.out.cell 4
          simp only [List.getElem?_toArray, List.getElem?_cons_succ, List.getElem?_cons_zero] at x0 x1 x2 x3 x4
          have q0 := HRR.out.cell 0
          have q1 := HRR.out.cell 1
          have q2 := HRR.out.cell 2
          have q3 := HRR.out.cell 3
          have q4 := HRR.out.cell 4
          have zq0 := HRR.out.frozen 0
          have zq1 := HRR.out.frozen 1
          have zq2 := HRR.out.frozen 2
          have zq3 := HRR.out.frozen 3
          have zq4 := HRR.out.frozen 4
          simp only [List.getElem?_toArray, List.getElem?_cons_succ, List.getElem?_cons_zero] at q0 q1 q2 q3 q4
          have hfi := fill5 HRR.out (.int .i64 0) (.int .i64 0) (.int .i64 0) (.slice none 0 0) (.slice none 0 0)
          have HFI := Lib.hid hfi
          clear hfi
          go_wp2_with fail
          have e0 := HFI.out.1.cell 0
          have e1 := HFI.out.1.cell 1
          have e2 := HFI.out.1.cell 2
          have e3 := HFI.out.1.cell 3
          have e4 := HFI.out.1.cell 4
          simp only [List.getElem?_toArray, List.getElem?_cons_succ, List.getElem?_cons_zero] at e0 e1 e2 e3 e4
          refine bodyPost_ret (v := .tuple #[.agg #[.int .i64 0, .int .i64 0, .int .i64 0, .slice none 0 0, .slice none 0 0], .bool false]) (by simp [results, Tryd.results21, go_sem, e0, e1, e2, e3, e4]) rfl ⟨⟨(k : Nat), Lib.unzigzag n1, Lib.unzigzag n2, rows, []⟩, (.slice xa rows.length xc), (.slice none 0 0), l5, true, pos5, (by rw [← HB.out]; exact HRAK.out), (show Rf _ g S _ true from by rw [← HB.out]; exact HF.out).chg (chg_of_keep HFI.out.2) HGR.out, (by rw [← HB.out]; exact HL.out), chg_box HC.out HFI.out.2 (Nat.le_refl _), HTX.out _ (chg_of_keep HFI.out.2), HMX.out _ (chg_of_keep HFI.out.2), rfl⟩
        | false =>
          have HB := Lib.hid hb
          clear hb
          cases hgd : Ask.good isT ⟨(k : Nat), Lib.unzigzag n1, Lib.unzigzag n2, rows, []⟩ with
          | false =>
            rw [hgd] at HGO
            have HGD := Lib.hid hgd
            clear hgd
            have x0 := HBX.out.cell 0
            have x1 := HBX.out.cell 1
            have x2 := HBX.out.cell 2
            have x3 := HBX.out.cell 3
            have x4 := HBX.out.cell 4
            simp only [List.getElem?_toArray, List.getElem?_cons_succ, List.getElem?_cons_zero] at x0 x1 x2 x3 x4
            have r2 := HF.out.isBad
            rw [HB.out] at r2
            go_wp2_with fail
            refine HGO.out.mono ?_
            rintro e wz ⟨rfl, hbz⟩
            have HF := Lib.hid (show Rf wz g S pos5 false from by rw [← HB.out]; exact HF.out.below hbz HF.out.lt)
            have HRR := Lib.hid (HRR.out.below hbz)
            have HBX := Lib.hid (HBX.out.below hbz)
            have HC := Lib.hid (HC.out.trans (Below.chg hbz))
            have HBZ := Lib.hid hbz
            clear hbz x0 x1 x2 x3 x4 r2
            have x0 := HBX.out.cell 0
            have x1 := HBX.out.cell 1
            have x2 := HBX.out.cell 2
            have x3 := HBX.out.cell 3
            have x4 := HBX.out.cell 4
            simp only [List.getElem?_toArray, List.getElem?_cons_succ, List.getElem?_cons_zero] at x0 x1 x2 x3 x4
            have q0 := HRR.out.cell 0
            have q1 := HRR.out.cell 1
            have q2 := HRR.out.cell 2
            have q3 := HRR.out.cell 3
            have q4 := HRR.out.cell 4
            have zq0 := HRR.out.frozen 0
            have zq1 := HRR.out.frozen 1
            have zq2 := HRR.out.frozen 2
            have zq3 := HRR.out.frozen 3
            have zq4 := HRR.out.frozen 4
            simp only [List.getElem?_toArray, List.getElem?_cons_succ, List.getElem?_cons_zero] at q0 q1 q2 q3 q4
            have hfi := fill5 HRR.out (.int .i64 0) (.int .i64 0) (.int .i64 0) (.slice none 0 0) (.slice none 0 0)
            have HFI := Lib.hid hfi
            clear hfi
            go_wp2_with fail
            have e0 := HFI.out.1.cell 0
            have e1 := HFI.out.1.cell 1
            have e2 := HFI.out.1.cell 2
            have e3 := HFI.out.1.cell 3
            have e4 := HFI.out.1.cell 4
            simp only [List.getElem?_toArray, List.getElem?_cons_succ, List.getElem?_cons_zero] at e0 e1 e2 e3 e4
            refine bodyPost_ret (v := .tuple #[.agg #[.int .i64 0, .int .i64 0, .int .i64 0, .slice none 0 0, .slice none 0 0], .bool false]) (by simp [results, Tryd.results21, go_sem, e0, e1, e2, e3, e4]) rfl ⟨⟨(k : Nat), Lib.unzigzag n1, Lib.unzigzag n2, rows, []⟩, (.slice xa rows.length xc), (.slice none 0 0), l5, false, pos5, (by rw [← HB.out]; exact HRAK.out), HF.out.chg (chg_of_keep HFI.out.2) HGR.out, (by rw [← HB.out]; exact HL.out), chg_box HC.out HFI.out.2 (Nat.le_refl _), HTX.out _ ((Below.chg HBZ.out).trans (chg_of_keep HFI.out.2)), HMX.out _ ((Below.chg HBZ.out).trans (chg_of_keep HFI.out.2)), by rw [HGD.out]; rfl⟩
          | true =>
            rw [hgd] at HGO
            have HGD := Lib.hid hgd
            clear hgd
            have x0 := HBX.out.cell 0
            have x1 := HBX.out.cell 1
            have x2 := HBX.out.cell 2
            have x3 := HBX.out.cell 3
            have x4 := HBX.out.cell 4
            simp only [List.getElem?_toArray, List.getElem?_cons_succ, List.getElem?_cons_zero] at x0 x1 x2 x3 x4
            have r2 := HF.out.isBad
            rw [HB.out] at r2
            go_wp2_with fail
            refine HGO.out.mono ?_
            rintro e wz ⟨rfl, hbz⟩
            have HF := Lib.hid (show Rf wz g S pos5 false from by rw [← HB.out]; exact HF.out.below hbz HF.out.lt)
            have HRR := Lib.hid (HRR.out.below hbz)
            have HBX := Lib.hid (HBX.out.below hbz)
            have HC := Lib.hid (HC.out.trans (Below.chg hbz))
            have HBZ := Lib.hid hbz
            clear hbz x0 x1 x2 x3 x4 r2
            have x0 := HBX.out.cell 0
            have x1 := HBX.out.cell 1
            have x2 := HBX.out.cell 2
            have x3 := HBX.out.cell 3
            have x4 := HBX.out.cell 4
            simp only [List.getElem?_toArray, List.getElem?_cons_succ, List.getElem?_cons_zero] at x0 x1 x2 x3 x4
            have q0 := HRR.out.cell 0
            have q1 := HRR.out.cell 1
            have q2 := HRR.out.cell 2
            have q3 := HRR.out.cell 3
            have q4 := HRR.out.cell 4
            have zq0 := HRR.out.frozen 0
            have zq1 := HRR.out.frozen 1
            have zq2 := HRR.out.frozen 2
            have zq3 := HRR.out.frozen 3
            have zq4 := HRR.out.frozen 4
            simp only [List.getElem?_toArray, List.getElem?_cons_succ, List.getElem?_cons_zero] at q0 q1 q2 q3 q4
            have hfi := fill5 HRR.out (.int .i64 (k : Nat)) (.int .i64 (Lib.unzigzag n1)) (.int .i64 (Lib.unzigzag n2)) ((.slice xa rows.length xc)) ((.slice none 0 0))
            have HFI := Lib.hid hfi
            clear hfi
            go_wp2_with fail
            have e0 := HFI.out.1.cell 0
            have e1 := HFI.out.1.cell 1
            have e2 := HFI.out.1.cell 2
            have e3 := HFI.out.1.cell 3
            have e4 := HFI.out.1.cell 4
            simp only [List.getElem?_toArray, List.getElem?_cons_succ, List.getElem?_cons_zero] at e0 e1 e2 e3 e4
            refine bodyPost_ret (v := .tuple #[.agg #[.int .i64 (k : Nat), .int .i64 (Lib.unzigzag n1), .int .i64 (Lib.unzigzag n2), (.slice xa rows.length xc), (.slice none 0 0)], .bool true]) (by simp [results, Tryd.results21, go_sem, e0, e1, e2, e3, e4]) rfl ⟨⟨(k : Nat), Lib.unzigzag n1, Lib.unzigzag n2, rows, []⟩, (.slice xa rows.length xc), (.slice none 0 0), l5, false, pos5, (by rw [← HB.out]; exact HRAK.out), HF.out.chg (chg_of_keep HFI.out.2) HGR.out, (by rw [← HB.out]; exact HL.out), chg_box HC.out HFI.out.2 (Nat.le_refl _), HTX.out _ ((Below.chg HBZ.out).trans (chg_of_keep HFI.out.2)), HMX.out _ ((Below.chg HBZ.out).trans (chg_of_keep HFI.out.2)), by rw [HGD.out]; rfl⟩
  by_cases k2 : k = 2
  · have e1 : ((k : Int) == 1) = false := by simp [k2]
    have e2 : ((k : Int) == 2) = true := by simp [k2]
    have HK := Lib.hid k2
    clear k1 k2
    have HU4 := Lib.hid (ref_rd 4 g S hS pos3 l3 b3 w7 HF.out HL.out)
    go_wp2_with fail
    refine HU4.out.mono ?_
    rintro e w8 ⟨n, l4, b4, pos4, rfl, hr4, hf8, hl8, hc8⟩
    have hn64 := hr4.le
    have HR4 := Lib.hid hr4
    have HF := Lib.hid hf8
    have HL := Lib.hid hl8
    have HBX := Lib.hid (HBX.out.chg hc8 (by have := HGB.out; omega))
    have HRR := Lib.hid (HRR.out.chg hc8 (Ne.symm HGR.out))
    have HC := Lib.hid (HC.out.trans hc8)
    clear hr4 hf8 hl8 hc8 HU4 c0
    go_wp2_with fail
    go_loopw [8] (fun vi wr => ∃ (j : Nat) (ms : List Mt) (l5 : List UInt8) (b5 : Bool) (pos5 : Nat) (AV : Value), vi = .int .u64 j ∧ j + ms.length = n ∧ Rk 3 (fun q => B + 1 ≤ q) wr AV ms.length (flatM ms) ∧ Bl wr B 25 #[.int .i64 (k : Nat), .int .i64 (Lib.unzigzag n1), .int .i64 (Lib.unzigzag n2), .slice none 0 0, AV] ∧ Bl wr w.heap.size 25 #[.int .i64 0, .int .i64 0, .int .i64 0, .slice none 0 0, .slice none 0 0] ∧ RNs RMt l4 b4 ms l5 b5 ∧ Rf wr g S pos5 b5 ∧ Left l5 b5 S pos5 ∧ Chg g w wr) (fun vi _ => (intOf vi).toNat)
    case atStart => exact ⟨n, [], l4, b4, pos4, _, rfl, by simp, Rk.nil _ _ _, HBX.out, HRR.out, .nil, HF.out, HL.out, HC.out⟩
    case round =>
      obtain ⟨j, ms, l5, b5, pos5, AV, rfl, hjn, hrk, hbx, hrr, hrn, hrf, hlf, hchg⟩ := hrel
      obtain ⟨xa, xc, rfl⟩ := hrk.shape
      have HRK := Lib.hid hrk
      have HBX := Lib.hid hbx
      have HRR := Lib.hid hrr
      have HRNS := Lib.hid hrn
      have HF := Lib.hid hrf
      have HL := Lib.hid hlf
      have HC := Lib.hid hchg
      have hrl : ms.length ≤ 4 := by omega
      have HJN := Lib.hid hjn
      clear hrk hbx hrr hrn hrf hlf hchg hjn
      cases j with
      | succ j =>
        have d1 : (0 : Int) < ((j + 1 : Nat) : Int) := by omega
        have HU2 := Lib.hid (ref_text_rd 20 g (by omega) S hS pos5 l5 b5 wr HF.out HL.out 20 rfl)
        go_wp2_with fail
        refine HU2.out.mono ?_
        rintro e w9 ⟨s1, l6, b6, pos6, rfl, hrt, hf9, hl9, hc9⟩
        have HRT1 := Lib.hid hrt
        have HL := Lib.hid hl9
        have HRK := Lib.hid (HRK.out.carry hc9.size fun q hq _ hlt => hc9.block q hlt (by have := HGB.out; omega))
        have HBX := Lib.hid (HBX.out.chg hc9 (by have := HGB.out; omega))
        have HRR := Lib.hid (HRR.out.chg hc9 (Ne.symm HGR.out))
        have HC := Lib.hid (HC.out.trans hc9)
        obtain ⟨w10, hw10⟩ : ∃ w10, w10 = w9.alloc (.cells #[.string s1, .bool false, .string ⟨#[]⟩] 62) := ⟨_, rfl⟩
        have hb10 : Below w9.heap.size w9 w10 := by rw [hw10]; exact (Below.refl _ w9).alloc (Nat.le_refl _) _
        have hm10 : Bl w10 w9.heap.size 62 #[.string s1, .bool false, .string ⟨#[]⟩] := by rw [hw10]; exact Bl.new w9 62 _
        have HBM := Lib.hid HBX.out.lt
        have HAT : Hid (¬ At (.slice xa ms.length xc) w9.heap.size) := Lib.hid fun ha => by have := (HRK.out.at ha).2; omega
        have hch : Chg g w9 w10 := Below.chg hb10
        have HF := Lib.hid (hf9.below hb10 hf9.lt)
        have HRK := Lib.hid (HRK.out.carry hch.size fun q hq _ hlt => hch.block q hlt (by have := HGB.out; omega))
        have HBX := Lib.hid (HBX.out.chg hch (by have := HGB.out; omega))
        have HRR := Lib.hid (HRR.out.chg hch (Ne.symm HGR.out))
        have HC := Lib.hid (HC.out.trans hch)
        have HM := Lib.hid hm10
        have HW10 := Lib.hid hw10.symm
        clear hrt hf9 hl9 hc9 hw10 hb10 hm10 hch HU2
        go_upto_region 19 with fail
        rw [HW10.out]
        clear HW10
        generalize w9.heap.size = M at HBM HAT HM ⊢
        have HU2 := Lib.hid (ref_rd 1 g S hS pos6 l6 b6 w10 HF.out HL.out)
        go_wp2_with fail
        refine HU2.out.mono ?_
        rintro e w11 ⟨n4, l7, b7, pos7, rfl, hru, hf11, hl11, hc11⟩
        obtain ⟨nt, hnt⟩ : ∃ t, t = decide (n4 = 1) := ⟨_, rfl⟩
        have hq4 : ((n4 : Int) == 1) = nt := by
          rw [hnt]
          by_cases h : n4 = 1
          · rw [decide_eq_true h]; simp [h]
          · rw [decide_eq_false h, beq_eq_false_iff_ne]; omega
        have HNT := Lib.hid hnt
        have HRU1 := Lib.hid hru
        have HF := Lib.hid hf11
        have HL := Lib.hid hl11
        have HRK := Lib.hid (HRK.out.carry hc11.size fun q hq _ hlt => hc11.block q hlt (by have := HGB.out; omega))
        have HBX := Lib.hid (HBX.out.chg hc11 (by have := HGB.out; omega))
        have HRR := Lib.hid (HRR.out.chg hc11 (Ne.symm HGR.out))
        have HC := Lib.hid (HC.out.trans hc11)
        have HM := Lib.hid (HM.out.chg hc11 (by have := HGB.out; have := HBM.out; omega))
        clear hru hf11 hl11 hc11 hnt HU2
        have hm := HM.out.set 1 (.bool nt)
        simp only [List.setIfInBounds_toArray, List.set_cons_succ, List.set_cons_zero] at hm
        have hsc : Chg M w11 (w11.setCell ⟨M, 1, none⟩ (.bool nt)) := Chg.setCell M 1 w11 _
        have m1 := HM.out.cell 1
        have zm1 := HM.out.frozen 1
        simp only [List.getElem?_toArray, List.getElem?_cons_succ, List.getElem?_cons_zero] at m1
        have HRK := Lib.hid (HRK.out.carry hsc.size fun q hq ha hlt => hsc.block q hlt (fun e => HAT.out (e ▸ ha)))
        have HBX := Lib.hid (HBX.out.chg hsc (Nat.ne_of_lt HBM.out))
        have HRR := Lib.hid (HRR.out.chg hsc (by have := HRB.out; have := HBM.out; omega))
        have HC := Lib.hid (chg_set HC.out (B := M) (by have := HRB.out; have := HBM.out; omega) 1 (.bool nt))
        have HF := Lib.hid (HF.out.chg hsc (by have := HGB.out; have := HBM.out; omega))
        have HM := Lib.hid hm
        clear hm hsc
        go_upto_region 20 with fail
        generalize w11.setCell ⟨M, 1, none⟩ (.bool nt) = w12 at HRK HBX HRR HC HF HM ⊢
        clear m1 zm1 hq4
        have HU2 := Lib.hid (ref_text_rd 1024 g (by omega) S hS pos7 l7 b7 w12 HF.out HL.out 1024 rfl)
        go_wp2_with fail
        refine HU2.out.mono ?_
        rintro e w13 ⟨s3, l8, b8, pos8, rfl, hrt, hf13, hl13, hc13⟩
        have HRT3 := Lib.hid hrt
        have HF := Lib.hid hf13
        have HL := Lib.hid hl13
        have HRK := Lib.hid (HRK.out.carry hc13.size fun q hq _ hlt => hc13.block q hlt (by have := HGB.out; omega))
        have HBX := Lib.hid (HBX.out.chg hc13 (by have := HGB.out; omega))
        have HRR := Lib.hid (HRR.out.chg hc13 (Ne.symm HGR.out))
        have HC := Lib.hid (HC.out.trans hc13)
        have HM := Lib.hid (HM.out.chg hc13 (by have := HGB.out; have := HBM.out; omega))
        clear hrt hf13 hl13 hc13 HU2
        have hm := HM.out.set 2 (.string s3)
        simp only [List.setIfInBounds_toArray, List.set_cons_succ, List.set_cons_zero] at hm
        have hsc : Chg M w13 (w13.setCell ⟨M, 2, none⟩ (.string s3)) := Chg.setCell M 2 w13 _
        have m2 := HM.out.cell 2
        have zm2 := HM.out.frozen 2
        simp only [List.getElem?_toArray, List.getElem?_cons_succ, List.getElem?_cons_zero] at m2
        have HRK := Lib.hid (HRK.out.carry hsc.size fun q hq ha hlt => hsc.block q hlt (fun e => HAT.out (e ▸ ha)))
        have HBX := Lib.hid (HBX.out.chg hsc (Nat.ne_of_lt HBM.out))
        have HRR := Lib.hid (HRR.out.chg hsc (by have := HRB.out; have := HBM.out; omega))
        have HC := Lib.hid (chg_set HC.out (B := M) (by have := HRB.out; have := HBM.out; omega) 2 (.string s3))
        have HF := Lib.hid (HF.out.chg hsc (by have := HGB.out; have := HBM.out; omega))
        have HM := Lib.hid hm
        clear hm hsc
        go_upto_region 21 with fail
        generalize w13.setCell ⟨M, 2, none⟩ (.string s3) = w14 at HRK HBX HRR HC HF HM ⊢
        clear m2 zm2
        have c4 := HBX.out.cell 4
        simp only [List.getElem?_toArray, List.getElem?_cons_succ, List.getElem?_cons_zero] at c4
        have d0 := HM.out.cell 0
        have d1 := HM.out.cell 1
        have d2 := HM.out.cell 2
        simp only [List.getElem?_toArray, List.getElem?_cons_succ, List.getElem?_cons_zero] at d0 d1 d2
        have hsw : B + 1 ≤ w14.heap.size := by have := HBX.out.lt; omega
        go_wp2_with (at_builtin; refine wpList_append_rk EM _ rfl _ _ 23 rfl (G := fun q => B + 1 ≤ q) rfl (HRK.out.alloc _) ?c1 (.slice (some ⟨w14.heap.size, 0, none⟩) 1 1) 1 [.string s1, .bool nt, .string s3] rfl (src_mat w14 ⟨s1, nt, s3⟩) ?c3 ?c4 ?_)
        case c1 => intro q hq; simp at hq; omega
        case c3 => omega
        case c4 => omega
        intro v' w15 hown hbel
        obtain ⟨va, vc, rfl⟩ := hown.shape
        have hat : ∀ b, At (.slice xa ms.length xc) b → B + 1 ≤ b := fun b hb => (HRK.out.at hb).1
        have hgB := HGB.out
        have hrB := HRB.out
        have hcA : ∀ b, b < B + 1 → ¬ At (.slice xa ms.length xc) b := fun b hb ha => by have := hat b ha; omega
        have hc8 : Chg g w w15 := chg_keep (HC.out.trans (Chg.alloc g w14 _)) hbel (fun b hb => by have := hat b hb; omega)
        have hf8 : Rf w15 g S pos8 b8 := (HF.out.below ((Below.refl _ w14).alloc (Nat.le_refl _) _) HF.out.lt).carry (hbel.block g (by simp; omega) (hcA g (by omega)))
        have hb8 : Bl w15 B 25 #[.int .i64 (k : Nat), .int .i64 (Lib.unzigzag n1), .int .i64 (Lib.unzigzag n2), .slice none 0 0, .slice xa ms.length xc] := (hbel.block B (by simp; omega) (hcA B (by omega))).trans (HBX.out.below ((Below.refl _ w14).alloc (Nat.le_refl _) _))
        have hr8 : Bl w15 w.heap.size 25 #[.int .i64 0, .int .i64 0, .int .i64 0, .slice none 0 0, .slice none 0 0] := (hbel.block _ (by simp; omega) (hcA _ (by omega))).trans (HRR.out.below ((Below.refl _ w14).alloc (Nat.le_refl _) _))
        have hrk8 : Rk 3 (fun q => B + 1 ≤ q) w15 (.slice va (ms.length + 1) vc) (ms ++ [(⟨s1, nt, s3⟩ : Mt)]).length (flatM (ms ++ [(⟨s1, nt, s3⟩ : Mt)])) := by
          rw [flatM_snoc, List.length_append, List.length_singleton]
          exact hown.mono fun q hq _ => hq.1
        have hset := hb8.set 4 (.slice va (ms.length + 1) vc)
        simp only [List.setIfInBounds_toArray, List.set_cons_succ, List.set_cons_zero] at hset
        have hsc : Chg B w15 (w15.setCell ⟨B, 4, none⟩ (.slice va (ms.length + 1) vc)) := Chg.setCell B 4 w15 _
        have HRK8 := Lib.hid (hrk8.carry hsc.size fun q hq _ hlt => hsc.block q hlt (by omega))
        have HB8 := Lib.hid hset
        have HR8 := Lib.hid (hr8.chg hsc HRN.out)
        have HF8 := Lib.hid (hf8.chg hsc (by omega))
        have HC8 := Lib.hid (chg_set hc8 (B := B) (by omega) 4 (.slice va (ms.length + 1) vc))
        have y4 := hb8.cell 4
        have zy4 := hb8.frozen 4
        simp only [List.getElem?_toArray, List.getElem?_cons_succ, List.getElem?_cons_zero] at y4
        have ew := wrap_dec j (by have := HJN.out; omega)
        clear hown hbel hat hcA hc8 hf8 hb8 hr8 hrk8 hset hsc hsw c4 d0 d1 d2 hgB hrB
        go_wp2_with fail
        go_roundw
        case rel => exact ⟨j, ms ++ [⟨s1, nt, s3⟩], l8, b8, pos8, _, rfl, by rw [List.length_append, List.length_singleton]; have := HJN.out; omega, HRK8.out, HB8.out, HR8.out, .snoc HRNS.out ⟨l6, b6, n4, l7, b7, HRT1.out, HRU1.out, HNT.out, HRT3.out⟩, HF8.out, HL.out, HC8.out⟩
        case measure => simp [intOf]
      | zero =>
        obtain rfl : ms.length = n := by have := HJN.out; omega
        have HTX : Hid (∀ W', Chg w.heap.size wr W' → TextsAt W' (.slice none 0 0) []) := Lib.hid fun W' _ => ⟨none, 0, rfl, by simp, .inl rfl⟩
        have HMX : Hid (∀ W', Chg w.heap.size wr W' → MsAt W' (.slice xa ms.length xc) ms) := Lib.hid fun W' hc => ms_of_rk (HRK.out.carry hc.size fun q hq _ hlt => hc.block q hlt (by have := HRB.out; omega)) (by omega)
        have HRAK : Hid (RAk l bad ⟨(k : Nat), Lib.unzigzag n1, Lib.unzigzag n2, [], ms⟩ l5 b5) := Lib.hid ⟨k, l1, b1, n1, l2', b2', n2, l3, b3, HR1.out, rfl, HR2.out, rfl, HR3.out, rfl, .inr (.inl ⟨HK.out, rfl, l4, b4, HR4.out, HRNS.out⟩)⟩
        have HGO := Lib.hid (hG ⟨(k : Nat), Lib.unzigzag n1, Lib.unzigzag n2, [], ms⟩ (.agg #[.int .i64 (k : Nat), .int .i64 (Lib.unzigzag n1), .int .i64 (Lib.unzigzag n2), .slice none 0 0, .slice xa ms.length xc]) wr ⟨(.slice none 0 0), (.slice xa ms.length xc), rfl, HTX.out _ (Chg.refl _ _), HMX.out _ (Chg.refl _ _)⟩ (hTb _ _ HC.out hT))
        cases hb : b5 with
        | true =>
          have HB := Lib.hid hb
          have r2 := HF.out.isBad
          rw [hb] at r2
          clear hb
          have x0 := HBX.out.cell 0
          have x1 := HBX.out.cell 1
          have x2 := HBX.out.cell 2
          have x3 := HBX.out.cell 3
          have x4 := HBX.out.cell 4
          simp only [List.getElem?_toArray, List.getElem?_cons_succ, List.getElem?_cons_zero] at x0 x1 x2 x3 x4
          have q0 := HRR.out.cell 0
          have q1 := HRR.out.cell 1
          have q2 := HRR.out.cell 2
          have q3 := HRR.out.cell 3
          have q4 := HRR.out.cell 4
          have zq0 := HRR.out.frozen 0
          have zq1 := HRR.out.frozen 1
          have zq2 := HRR.out.frozen 2
          have zq3 := HRR.out.frozen 3
          have zq4 := HRR.out.frozen 4
          simp only [List.getElem?_toArray, List.getElem?_cons_succ, List.getElem?_cons_zero] at q0 q1 q2 q3 q4
          have hfi := fill5 HRR.out (.int .i64 0) (.int .i64 0) (.int .i64 0) (.slice none 0 0) (.slice none 0 0)
          have HFI := Lib.hid hfi
          clear hfi
          go_wp2_with fail
          have e0 := HFI.out.1.cell 0
          have e1 := HFI.out.1.cell 1
          have e2 := HFI.out.1.cell 2
          have e3 := HFI.out.1.cell 3
          have e4 := HFI.out.1.cell 4
          simp only [List.getElem?_toArray, List.getElem?_cons_succ, List.getElem?_cons_zero] at e0 e1 e2 e3 e4
          refine bodyPost_ret (v := .tuple #[.agg #[.int .i64 0, .int .i64 0, .int .i64 0, .slice none 0 0, .slice none 0 0], .bool false]) (by simp [results, Tryd.results21, go_sem, e0, e1, e2, e3, e4]) rfl ⟨⟨(k : Nat), Lib.unzigzag n1, Lib.unzigzag n2, [], ms⟩, (.slice none 0 0), (.slice xa ms.length xc), l5, true, pos5, (by rw [← HB.out]; exact HRAK.out), (show Rf _ g S _ true from by rw [← HB.out]; exact HF.out).chg (chg_of_keep HFI.out.2) HGR.out, (by rw [← HB.out]; exact HL.out), chg_box HC.out HFI.out.2 (Nat.le_refl _), HTX.out _ (chg_of_keep HFI.out.2), HMX.out _ (chg_of_keep HFI.out.2), rfl⟩
        | false =>
          have HB := Lib.hid hb
          clear hb
          cases hgd : Ask.good isT ⟨(k : Nat), Lib.unzigzag n1, Lib.unzigzag n2, [], ms⟩ with
          | false =>
            rw [hgd] at HGO
            have HGD := Lib.hid hgd
            clear hgd
            have x0 := HBX.out.cell 0
            have x1 := HBX.out.cell 1
            have x2 := HBX.out.cell 2
            have x3 := HBX.out.cell 3
            have x4 := HBX.out.cell 4
            simp only [List.getElem?_toArray, List.getElem?_cons_succ, List.getElem?_cons_zero] at x0 x1 x2 x3 x4
            have r2 := HF.out.isBad
            rw [HB.out] at r2
            go_wp2_with fail
            refine HGO.out.mono ?_
            rintro e wz ⟨rfl, hbz⟩
            have HF := Lib.hid (show Rf wz g S pos5 false from by rw [← HB.out]; exact HF.out.below hbz HF.out.lt)
            have HRR := Lib.hid (HRR.out.below hbz)
            have HBX := Lib.hid (HBX.out.below hbz)
            have HC := Lib.hid (HC.out.trans (Below.chg hbz))
            have HBZ := Lib.hid hbz
            clear hbz x0 x1 x2 x3 x4 r2
            have x0 := HBX.out.cell 0
            have x1 := HBX.out.cell 1
            have x2 := HBX.out.cell 2
            have x3 := HBX.out.cell 3
            have x4 := HBX.out.cell 4
            simp only [List.getElem?_toArray, List.getElem?_cons_succ, List.getElem?_cons_zero] at x0 x1 x2 x3 x4
            have q0 := HRR.out.cell 0
            have q1 := HRR.out.cell 1
            have q2 := HRR.out.cell 2
            have q3 := HRR.out.cell 3
            have q4 := HRR.out.cell 4
            have zq0 := HRR.out.frozen 0
            have zq1 := HRR.out.frozen 1
            have zq2 := HRR.out.frozen 2
            have zq3 := HRR.out.frozen 3
            have zq4 := HRR.out.frozen 4
            simp only [List.getElem?_toArray, List.getElem?_cons_succ, List.getElem?_cons_zero] at q0 q1 q2 q3 q4
            have hfi := fill5 HRR.out (.int .i64 0) (.int .i64 0) (.int .i64 0) (.slice none 0 0) (.slice none 0 0)
            have HFI := Lib.hid hfi
            clear hfi
            go_wp2_with fail
            have e0 := HFI.out.1.cell 0
            have e1 := HFI.out.1.cell 1
            have e2 := HFI.out.1.cell 2
            have e3 := HFI.out.1.cell 3
            have e4 := HFI.out.1.cell 4
            simp only [List.getElem?_toArray, List.getElem?_cons_succ, List.getElem?_cons_zero] at e0 e1 e2 e3 e4
            refine bodyPost_ret (v := .tuple #[.agg #[.int .i64 0, .int .i64 0, .int .i64 0, .slice none 0 0, .slice none 0 0], .bool false]) (by simp [results, Tryd.results21, go_sem, e0, e1, e2, e3, e4]) rfl ⟨⟨(k : Nat), Lib.unzigzag n1, Lib.unzigzag n2, [], ms⟩, (.slice none 0 0), (.slice xa ms.length xc), l5, false, pos5, (by rw [← HB.out]; exact HRAK.out), HF.out.chg (chg_of_keep HFI.out.2) HGR.out, (by rw [← HB.out]; exact HL.out), chg_box HC.out HFI.out.2 (Nat.le_refl _), HTX.out _ ((Below.chg HBZ.out).trans (chg_of_keep HFI.out.2)), HMX.out _ ((Below.chg HBZ.out).trans (chg_of_keep HFI.out.2)), by rw [HGD.out]; rfl⟩
          | true =>
            rw [hgd] at HGO
            have HGD := Lib.hid hgd
            clear hgd
            have x0 := HBX.out.cell 0
            have x1 := HBX.out.cell 1
            have x2 := HBX.out.cell 2
            have x3 := HBX.out.cell 3
            have x4 := HBX.out.cell 4
            simp only [List.getElem?_toArray, List.getElem?_cons_succ, List.getElem?_cons_zero] at x0 x1 x2 x3 x4
            have r2 := HF.out.isBad
            rw [HB.out] at r2
            go_wp2_with fail
            refine HGO.out.mono ?_
            rintro e wz ⟨rfl, hbz⟩
            have HF := Lib.hid (show Rf wz g S pos5 false from by rw [← HB.out]; exact HF.out.below hbz HF.out.lt)
            have HRR := Lib.hid (HRR.out.below hbz)
            have HBX := Lib.hid (HBX.out.below hbz)
            have HC := Lib.hid (HC.out.trans (Below.chg hbz))
            have HBZ := Lib.hid hbz
            clear hbz x0 x1 x2 x3 x4 r2
            have x0 := HBX.out.cell 0
            have x1 := HBX.out.cell 1
            have x2 := HBX.out.cell 2
            have x3 := HBX.out.cell 3
            have x4 := HBX.out.cell 4
            simp only [List.getElem?_toArray, List.getElem?_cons_succ, List.getElem?_cons_zero] at x0 x1 x2 x3 x4
            have q0 := HRR.out.cell 0
            have q1 := HRR.out.cell 1
            have q2 := HRR.out.cell 2
            have q3 := HRR.out.cell 3
            have q4 := HRR.out.cell 4
            have zq0 := HRR.out.frozen 0
            have zq1 := HRR.out.frozen 1
            have zq2 := HRR.out.frozen 2
            have zq3 := HRR.out.frozen 3
            have zq4 := HRR.out.frozen 4
            simp only [List.getElem?_toArray, List.getElem?_cons_succ, List.getElem?_cons_zero] at q0 q1 q2 q3 q4
            have hfi := fill5 HRR.out (.int .i64 (k : Nat)) (.int .i64 (Lib.unzigzag n1)) (.int .i64 (Lib.unzigzag n2)) ((.slice none 0 0)) ((.slice xa ms.length xc))
            have HFI := Lib.hid hfi
            clear hfi
            go_wp2_with fail
            have e0 := HFI.out.1.cell 0
            have e1 := HFI.out.1.cell 1
            have e2 := HFI.out.1.cell 2
            have e3 := HFI.out.1.cell 3
            have e4 := HFI.out.1.cell 4
            simp only [List.getElem?_toArray, List.getElem?_cons_succ, List.getElem?_cons_zero] at e0 e1 e2 e3 e4
            refine bodyPost_ret (v := .tuple #[.agg #[.int .i64 (k : Nat), .int .i64 (Lib.unzigzag n1), .int .i64 (Lib.unzigzag n2), (.slice none 0 0), (.slice xa ms.length xc)], .bool true]) (by simp [results, Tryd.results21, go_sem, e0, e1, e2, e3, e4]) rfl ⟨⟨(k : Nat), Lib.unzigzag n1, Lib.unzigzag n2, [], ms⟩, (.slice none 0 0), (.slice xa ms.length xc), l5, false, pos5, (by rw [← HB.out]; exact HRAK.out), HF.out.chg (chg_of_keep HFI.out.2) HGR.out, (by rw [← HB.out]; exact HL.out), chg_box HC.out HFI.out.2 (Nat.le_refl _), HTX.out _ ((Below.chg HBZ.out).trans (chg_of_keep HFI.out.2)), HMX.out _ ((Below.chg HBZ.out).trans (chg_of_keep HFI.out.2)), by rw [HGD.out]; rfl⟩
  · have e1 : ((k : Int) == 1) = false := by simp; omega
    have e2 : ((k : Int) == 2) = false := by simp; omega
    have HTX : Hid (∀ W', Chg w.heap.size w7 W' → TextsAt W' (.slice none 0 0) []) := Lib.hid fun W' _ => ⟨none, 0, rfl, by simp, .inl rfl⟩
    have HMX : Hid (∀ W', Chg w.heap.size w7 W' → MsAt W' (.slice none 0 0) []) := Lib.hid fun W' _ => ⟨none, 0, rfl, by simp, .inl rfl⟩
    have HRAK : Hid (RAk l bad ⟨(k : Nat), Lib.unzigzag n1, Lib.unzigzag n2, [], []⟩ l3 b3) := Lib.hid ⟨k, l1, b1, n1, l2', b2', n2, l3, b3, HR1.out, rfl, HR2.out, rfl, HR3.out, rfl, .inr (.inr ⟨k1, k2, rfl, rfl, rfl, rfl⟩)⟩
    clear k1 k2
    have HGO := Lib.hid (hG ⟨(k : Nat), Lib.unzigzag n1, Lib.unzigzag n2, [], []⟩ (.agg #[.int .i64 (k : Nat), .int .i64 (Lib.unzigzag n1), .int .i64 (Lib.unzigzag n2), .slice none 0 0, .slice none 0 0]) w7 ⟨(.slice none 0 0), (.slice none 0 0), rfl, HTX.out _ (Chg.refl _ _), HMX.out _ (Chg.refl _ _)⟩ (hTb _ _ HC.out hT))
    cases hb : b3 with
    | true =>
      have HB := Lib.hid hb
      have r2 := HF.out.isBad
      rw [hb] at r2
      clear hb
      have x0 := HBX.out.cell 0
      have x1 := HBX.out.cell 1
      have x2 := HBX.out.cell 2
      have x3 := HBX.out.cell 3
      have x4 := HBX.out.cell 4
      simp only [List.getElem?_toArray, List.getElem?_cons_succ, List.getElem?_cons_zero] at x0 x1 x2 x3 x4
      have q0 := HRR.out.cell 0
      have q1 := HRR.out.cell 1
      have q2 := HRR.out.cell 2
      have q3 := HRR.out.cell 3
      have q4 := HRR.out.cell 4
      have zq0 := HRR.out.frozen 0
      have zq1 := HRR.out.frozen 1
      have zq2 := HRR.out.frozen 2
      have zq3 := HRR.out.frozen 3
      have zq4 := HRR.out.frozen 4
      simp only [List.getElem?_toArray, List.getElem?_cons_succ, List.getElem?_cons_zero] at q0 q1 q2 q3 q4
      have hfi := fill5 HRR.out (.int .i64 0) (.int .i64 0) (.int .i64 0) (.slice none 0 0) (.slice none 0 0)
      have HFI := Lib.hid hfi
      clear hfi
      go_wp2_with fail
      have e0 := HFI.out.1.cell 0
      have e1 := HFI.out.1.cell 1
      have e2 := HFI.out.1.cell 2
      have e3 := HFI.out.1.cell 3
      have e4 := HFI.out.1.cell 4
      simp only [List.getElem?_toArray, List.getElem?_cons_succ, List.getElem?_cons_zero] at e0 e1 e2 e3 e4
      refine bodyPost_ret (v := .tuple #[.agg #[.int .i64 0, .int .i64 0, .int .i64 0, .slice none 0 0, .slice none 0 0], .bool false]) (by simp [results, Tryd.results21, go_sem, e0, e1, e2, e3, e4]) rfl ⟨⟨(k : Nat), Lib.unzigzag n1, Lib.unzigzag n2, [], []⟩, (.slice none 0 0), (.slice none 0 0), l3, true, pos3, (by rw [← HB.out]; exact HRAK.out), (show Rf _ g S _ true from by rw [← HB.out]; exact HF.out).chg (chg_of_keep HFI.out.2) HGR.out, (by rw [← HB.out]; exact HL.out), chg_box HC.out HFI.out.2 (Nat.le_refl _), HTX.out _ (chg_of_keep HFI.out.2), HMX.out _ (chg_of_keep HFI.out.2), rfl⟩
    | false =>
      have HB := Lib.hid hb
      clear hb
      cases hgd : Ask.good isT ⟨(k : Nat), Lib.unzigzag n1, Lib.unzigzag n2, [], []⟩ with
      | false =>
        rw [hgd] at HGO
        have HGD := Lib.hid hgd
        clear hgd
        have x0 := HBX.out.cell 0
        have x1 := HBX.out.cell 1
        have x2 := HBX.out.cell 2
        have x3 := HBX.out.cell 3
        have x4 := HBX.out.cell 4
        simp only [List.getElem?_toArray, List.getElem?_cons_succ, List.getElem?_cons_zero] at x0 x1 x2 x3 x4
        have r2 := HF.out.isBad
        rw [HB.out] at r2
        go_wp2_with fail
        refine HGO.out.mono ?_
        rintro e wz ⟨rfl, hbz⟩
        have HF := Lib.hid (show Rf wz g S pos3 false from by rw [← HB.out]; exact HF.out.below hbz HF.out.lt)
        have HRR := Lib.hid (HRR.out.below hbz)
        have HBX := Lib.hid (HBX.out.below hbz)
        have HC := Lib.hid (HC.out.trans (Below.chg hbz))
        have HBZ := Lib.hid hbz
        clear hbz x0 x1 x2 x3 x4 r2
        have x0 := HBX.out.cell 0
        have x1 := HBX.out.cell 1
        have x2 := HBX.out.cell 2
        have x3 := HBX.out.cell 3
        have x4 := HBX.out.cell 4
        simp only [List.getElem?_toArray, List.getElem?_cons_succ, List.getElem?_cons_zero] at x0 x1 x2 x3 x4
        have q0 := HRR.out.cell 0
        have q1 := HRR.out.cell 1
        have q2 := HRR.out.cell 2
        have q3 := HRR.out.cell 3
        have q4 := HRR.out.cell 4
        have zq0 := HRR.out.frozen 0
        have zq1 := HRR.out.frozen 1
        have zq2 := HRR.out.frozen 2
        have zq3 := HRR.out.frozen 3
        have zq4 := HRR.out.frozen 4
        simp only [List.getElem?_toArray, List.getElem?_cons_succ, List.getElem?_cons_zero] at q0 q1 q2 q3 q4
        have hfi := fill5 HRR.out (.int .i64 0) (.int .i64 0) (.int .i64 0) (.slice none 0 0) (.slice none 0 0)
        have HFI := Lib.hid hfi
        clear hfi
        go_wp2_with fail
        have e0 := HFI.out.1.cell 0
        have e1 := HFI.out.1.cell 1
        have e2 := HFI.out.1.cell 2
        have e3 := HFI.out.1.cell 3
        have e4 := HFI.out.1.cell 4
        simp only [List.getElem?_toArray, List.getElem?_cons_succ, List.getElem?_cons_zero] at e0 e1 e2 e3 e4
        refine bodyPost_ret (v := .tuple #[.agg #[.int .i64 0, .int .i64 0, .int .i64 0, .slice none 0 0, .slice none 0 0], .bool false]) (by simp [results, Tryd.results21, go_sem, e0, e1, e2, e3, e4]) rfl ⟨⟨(k : Nat), Lib.unzigzag n1, Lib.unzigzag n2, [], []⟩, (.slice none 0 0), (.slice none 0 0), l3, false, pos3, (by rw [← HB.out]; exact HRAK.out), HF.out.chg (chg_of_keep HFI.out.2) HGR.out, (by rw [← HB.out]; exact HL.out), chg_box HC.out HFI.out.2 (Nat.le_refl _), HTX.out _ ((Below.chg HBZ.out).trans (chg_of_keep HFI.out.2)), HMX.out _ ((Below.chg HBZ.out).trans (chg_of_keep HFI.out.2)), by rw [HGD.out]; rfl⟩
      | true =>
        rw [hgd] at HGO
        have HGD := Lib.hid hgd
        clear hgd
        have x0 := HBX.out.cell 0
        have x1 := HBX.out.cell 1
        have x2 := HBX.out.cell 2
        have x3 := HBX.out.cell 3
        have x4 := HBX.out.cell 4
        simp only [List.getElem?_toArray, List.getElem?_cons_succ, List.getElem?_cons_zero] at x0 x1 x2 x3 x4
        have r2 := HF.out.isBad
        rw [HB.out] at r2
        go_wp2_with fail
        refine HGO.out.mono ?_
        rintro e wz ⟨rfl, hbz⟩
        have HF := Lib.hid (show Rf wz g S pos3 false from by rw [← HB.out]; exact HF.out.below hbz HF.out.lt)
        have HRR := Lib.hid (HRR.out.below hbz)
        have HBX := Lib.hid (HBX.out.below hbz)
        have HC := Lib.hid (HC.out.trans (Below.chg hbz))
        have HBZ := Lib.hid hbz
        clear hbz x0 x1 x2 x3 x4 r2
        have x0 := HBX.out.cell 0
        have x1 := HBX.out.cell 1
        have x2 := HBX.out.cell 2
        have x3 := HBX.out.cell 3
        have x4 := HBX.out.cell 4
        simp only [List.getElem?_toArray, List.getElem?_cons_succ, List.getElem?_cons_zero] at x0 x1 x2 x3 x4
        have q0 := HRR.out.cell 0
        have q1 := HRR.out.cell 1
        have q2 := HRR.out.cell 2
        have q3 := HRR.out.cell 3
        have q4 := HRR.out.cell 4
        have zq0 := HRR.out.frozen 0
        have zq1 := HRR.out.frozen 1
        have zq2 := HRR.out.frozen 2
        have zq3 := HRR.out.frozen 3
        have zq4 := HRR.out.frozen 4
        simp only [List.getElem?_toArray, List.getElem?_cons_succ, List.getElem?_cons_zero] at q0 q1 q2 q3 q4
        have hfi := fill5 HRR.out (.int .i64 (k : Nat)) (.int .i64 (Lib.unzigzag n1)) (.int .i64 (Lib.unzigzag n2)) ((.slice none 0 0)) ((.slice none 0 0))
        have HFI := Lib.hid hfi
        clear hfi
        go_wp2_with fail
        have e0 := HFI.out.1.cell 0
        have e1 := HFI.out.1.cell 1
        have e2 := HFI.out.1.cell 2
        have e3 := HFI.out.1.cell 3
        have e4 := HFI.out.1.cell 4
        simp only [List.getElem?_toArray, List.getElem?_cons_succ, List.getElem?_cons_zero] at e0 e1 e2 e3 e4
        refine bodyPost_ret (v := .tuple #[.agg #[.int .i64 (k : Nat), .int .i64 (Lib.unzigzag n1), .int .i64 (Lib.unzigzag n2), (.slice none 0 0), (.slice none 0 0)], .bool true]) (by simp [results, Tryd.results21, go_sem, e0, e1, e2, e3, e4]) rfl ⟨⟨(k : Nat), Lib.unzigzag n1, Lib.unzigzag n2, [], []⟩, (.slice none 0 0), (.slice none 0 0), l3, false, pos3, (by rw [← HB.out]; exact HRAK.out), HF.out.chg (chg_of_keep HFI.out.2) HGR.out, (by rw [← HB.out]; exact HL.out), chg_box HC.out HFI.out.2 (Nat.le_refl _), HTX.out _ ((Below.chg HBZ.out).trans (chg_of_keep HFI.out.2)), HMX.out _ ((Below.chg HBZ.out).trans (chg_of_keep HFI.out.2)), by rw [HGD.out]; rfl⟩


end Go.Proofs.YtaghogfkkmphoaaDoor.E4
