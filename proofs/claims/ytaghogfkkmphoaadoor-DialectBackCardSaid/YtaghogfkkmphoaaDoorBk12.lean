/-
  THE DOCUMENT's BYTES OF A QUESTION.
-/
import Derived.Test.YtaghogfkkmphoaaDoorDm12
import Derived.Test.YtaghogfkkmphoaaDoorNl
import Derived.Deep.DeepCutAuto
import Derived.Deep.CutBlock
namespace Go.Proofs.YtaghogfkkmphoaaDoor.E4
open Go.RowKit Go

theorem refL_bool (b : Bool) (w : World) : Calls Tryd.prog 44 #[.bool b] w fun e w' => e = .returned (.string ⟨(boolB b).toArray⟩) ∧ Lay w w' := by
  cases b
  · go_enter Tryd.func44, Tryd.ntmps44
    go_wp2_with fail
    go_ret
    exact ⟨rfl, Keep.refl _ _⟩
  · go_enter Tryd.func44, Tryd.ntmps44
    go_wp2_with fail
    go_ret
    exact ⟨rfl, Keep.refl _ _⟩

theorem flat_len {α : Type} {B : α → List UInt8} {c : Nat} : ∀ {l : List α}, (∀ x ∈ l, (B x).length ≤ c) → (l.map B).flatten.length ≤ c * l.length
  | [], _ => by simp
  | x :: l, h => by
    rw [List.map_cons, List.flatten_cons, List.length_append, List.length_cons, Nat.mul_add, Nat.mul_one]
    have h1 := h x (by simp)
    have h2 := flat_len (l := l) fun y hy => h y (by simp [hy])
    omega
theorem wordB_len {s : ByteArray} (h : s.size ≤ 100000) : (wordB s).length ≤ s.size + 10 := by
  unfold wordB textB
  rw [List.length_append]
  have h1 : s.data.toList.length = s.size := dlen s
  have h2 := Lib.uvarint_length64 (x := s.data.toList.length) (by omega)
  omega
theorem rowB_len {l : List ByteArray} (h : rowOk l) : (rowB l).length ≤ 100000 := by
  unfold rowB
  rw [List.length_append]
  have h1 := h.1
  have h2 := Lib.uvarint_length64 (x := l.length) (by omega)
  have h3 := flat_len (B := wordB) (c := 1034) (l := l) fun x hx => by
    have h4 : x.size ≤ 1024 := h.2 x hx
    have h5 := wordB_len (s := x) (by omega)
    omega
  omega
theorem matB_len {m : Mt} (h : matOk m) : (matB m).length ≤ 2000 := by
  unfold matB
  rw [List.length_append, List.length_append]
  have h0 := h.1
  have h9 := h.2
  have h1 := wordB_len (s := m.name) (by omega)
  have h2 := wordB_len (s := m.value) (by omega)
  have h3 : (boolB m.not).length ≤ 1 := by unfold boolB; split <;> simp
  omega
theorem flat_snoc {α : Type} (B : α → List UInt8) (l : List α) (k : Nat) (h : k < l.length) : ((l.take k).map B).flatten ++ B l[k] = ((l.take (k + 1)).map B).flatten := by
  rw [← List.take_append_getElem h, List.map_append, List.flatten_append]
  simp

/-- A text, of bytes. -/
def bs (l : List UInt8) : ByteArray := ⟨l.toArray⟩
theorem bs_size (l : List UInt8) : (bs l).size = l.length := mk_size l
theorem bs_add (a b : List UInt8) (h : a.length + b.length ≤ 9223372036854775807) (w : World) : (Op.stringOp .add (bs a) (bs b)).run Tryd.prog w = .ok (.string (bs (a ++ b))) w := add_run a b h w

set_option maxHeartbeats 8000000 in
set_option maxRecDepth 100000 in
theorem askBytes_any (a : Ask) (v : Value) (w : World) (h : AskAt w v a) (hok : a.Ok) :
    Calls Tryd.prog 18 #[v] w fun e w' => e = .returned (.string (bs a.bytes)) ∧ Below w.heap.size w w' := by
  have hmx : Tryd.prog.follows .mixedOrders = true := by kernel_rfl
  obtain ⟨av, mv, rfl, hall, hmat⟩ := h
  obtain ⟨aa, ca, rfl, ha63, hac⟩ := id hall
  obtain ⟨am, cm, rfl, hm63, hmc⟩ := id hmat
  unfold Ask.cells
  obtain ⟨w1, hw1⟩ : ∃ w1, w1 = w.alloc (.cells #[.int .i64 a.kd, .int .i64 a.src, .int .i64 a.til, .slice aa a.all.length ca, .slice am a.mat.length cm] 25) := ⟨_, rfl⟩
  have hb1 : Below w.heap.size w w1 := by rw [hw1]; exact (Below.refl _ w).alloc (Nat.le_refl _) _
  have hk1 : Bl w1 w.heap.size 25 #[.int .i64 a.kd, .int .i64 a.src, .int .i64 a.til, .slice aa a.all.length ca, .slice am a.mat.length cm] := by rw [hw1]; exact Bl.new w 25 _
  have HW1 := Lib.hid hw1.symm
  have HB1 := Lib.hid hb1
  have HK1 := Lib.hid hk1
  have HAC := Lib.hid hac
  have HMC := Lib.hid hmc
  have HOK := Lib.hid hok
  have hkd := hok.kd
  have ek : IntKind.u64.wrap a.kd = ((a.kd.toNat : Nat) : Int) := by rw [IntKind.wrap_u64]; omega
  have C1 := fun W => refL_uint a.kd.toNat (by omega) W
  have C2 := fun W => refL_int a.src hok.src.1 hok.src.2 W
  have C3 := fun W => refL_int a.til hok.til.1 hok.til.2 W
  obtain ⟨L1, hL1⟩ : ∃ l, l = Lib.uvarint a.kd.toNat := ⟨_, rfl⟩
  obtain ⟨L2, hL2⟩ : ∃ l, l = Lib.uvarint (Lib.zigzag a.src) := ⟨_, rfl⟩
  obtain ⟨L3, hL3⟩ : ∃ l, l = Lib.uvarint (Lib.zigzag a.til) := ⟨_, rfl⟩
  have l1 : L1.length ≤ 10 := by rw [hL1]; exact Lib.uvarint_length64 (by omega)
  have l2 : L2.length ≤ 10 := by rw [hL2]; exact Lib.uvarint_length64 (Lib.zigzag_lt hok.src.1 hok.src.2)
  have l3 : L3.length ≤ 10 := by rw [hL3]; exact Lib.uvarint_length64 (Lib.zigzag_lt hok.til.1 hok.til.2)
  have hbytes : a.bytes = L1 ++ L2 ++ L3 ++ a.tail := by unfold Ask.bytes; rw [hL1, hL2, hL3]; simp only [List.append_assoc]
  rw [← hL1] at C1
  rw [← hL2] at C2
  rw [← hL3] at C3
  rw [← ek] at C1
  have a1 : ∀ W, (Op.stringOp .add (bs L1) (bs L2)).run Tryd.prog W = .ok (.string (bs (L1 ++ L2))) W := bs_add L1 L2 (by omega)
  have a2 : ∀ W, (Op.stringOp .add (bs (L1 ++ L2)) (bs L3)).run Tryd.prog W = .ok (.string (bs (L1 ++ L2 ++ L3))) W := bs_add _ _ (by rw [List.length_append]; omega)
  have l4 : (L1 ++ L2 ++ L3).length ≤ 30 := by rw [List.length_append, List.length_append]; omega
  have HBY := Lib.hid hbytes
  change ∀ W, Calls _ _ _ W fun e w' => e = .returned (.string (bs L1)) ∧ Lay W w' at C1
  change ∀ W, Calls _ _ _ W fun e w' => e = .returned (.string (bs L2)) ∧ Lay W w' at C2
  change ∀ W, Calls _ _ _ W fun e w' => e = .returned (.string (bs L3)) ∧ Lay W w' at C3
  generalize L1 ++ L2 ++ L3 = P at a2 l4 HBY
  generalize bs (L1 ++ L2) = P2 at a1 a2
  generalize bs L1 = S1 at C1 a1
  generalize bs L2 = S2 at C2 a1
  generalize bs L3 = S3 at C3 a2
  obtain ⟨PS, hPS⟩ : ∃ s, s = bs P := ⟨_, rfl⟩
  rw [← hPS] at a2
  have HPS := Lib.hid hPS
  have D1 := grown_layR C1 w1
  have D2 := grown_layR C2 w1
  have D3 := grown_layR C3 w1
  have c0 := hk1.cell 0
  have c1 := hk1.cell 1
  have c2 := hk1.cell 2
  have c3 := hk1.cell 3
  have c4 := hk1.cell 4
  simp only [List.getElem?_toArray, List.getElem?_cons_succ, List.getElem?_cons_zero] at c0 c1 c2 c3 c4
  have g0 := cell_grown (w := w1) (a := ⟨w.heap.size, 0, none⟩) hk1.lt c0
  have g1 := cell_grown (w := w1) (a := ⟨w.heap.size, 1, none⟩) hk1.lt c1
  have g2 := cell_grown (w := w1) (a := ⟨w.heap.size, 2, none⟩) hk1.lt c2
  clear hall hmat hw1 hb1 hk1 hac hmc hok ek C1 C2 C3 hL1 hL2 hL3 l1 l2 l3 hbytes hPS c0 c1 c2 c3 c4
  go_enter Tryd.func18, Tryd.ntmps18
  go_upto_region 1 with fail
  rw [HW1.out]
  go_quiet_grown ((first | (go_at_call 41; with_reducible (exact D1 _ _)) | (go_at_call 42; with_reducible (first | exact D2 _ _ | exact D3 _ _))))
  have hl2 := (Lay.of_grown (w := w1) nq osq)
  have hb2 : Below w1.heap.size w1 (Sort.grow (w1.drewN nq) osq) := ⟨hl2.os, hl2.tape, hl2.output, hl2.size, fun k hk => hl2.block hk⟩
  clear D1 D2 D3 g0 g1 g2 a1 a2 hl2
  generalize Sort.grow (w1.drewN nq) osq = w2 at hb2 ⊢
  have HB2 := Lib.hid (below_mid12 HB1.out hb2)
  have HK2 := Lib.hid (Bl.below HK1.out hb2)
  clear hb2
  have h12 := HOK.out.kd
  have c0 := HK2.out.cell 0
  have c1 := HK2.out.cell 1
  have c2 := HK2.out.cell 2
  have c3 := HK2.out.cell 3
  have c4 := HK2.out.cell 4
  simp only [List.getElem?_toArray, List.getElem?_cons_succ, List.getElem?_cons_zero] at c0 c1 c2 c3 c4
  by_cases k1 : a.kd = 1
  · obtain ⟨hal, har⟩ := HOK.out.all k1
    have HAR := Lib.hid har
    have e1 : (a.kd == 1) = true := by simp [k1]
    have e2 : (a.kd == 2) = false := by simp [k1]
    have CU := fun W => refL_uint a.all.length (by omega) W
    obtain ⟨L4, hL4⟩ : ∃ l, l = Lib.uvarint a.all.length := ⟨_, rfl⟩
    have l5 : L4.length ≤ 10 := by rw [hL4]; exact Lib.uvarint_length64 (by omega)
    have HTL : Hid (a.bytes = P ++ L4 ++ (a.all.map rowB).flatten) := Lib.hid (by rw [HBY.out, hL4]; unfold Ask.tail; rw [if_pos k1, List.append_assoc])
    rw [← hL4] at CU
    change ∀ W, Calls _ _ _ W fun e w' => e = .returned (.string (bs L4)) ∧ Lay W w' at CU
    have ew : IntKind.u64.wrap (a.all.length : Int) = (a.all.length : Int) := by rw [IntKind.wrap_u64]; omega
    have a3 : ∀ W, (Op.stringOp .add PS (bs L4)).run Tryd.prog W = .ok (.string (bs (P ++ L4))) W := by rw [HPS.out]; exact bs_add _ _ (by omega)
    have l6 : (P ++ L4).length ≤ 40 := by rw [List.length_append]; omega
    generalize P ++ L4 = P1 at a3 l6 HTL
    generalize bs L4 = S4 at CU a3
    have HCU := Lib.hid CU
    obtain ⟨PS1, hPS1⟩ : ∃ s, s = bs P1 := ⟨_, rfl⟩
    rw [← hPS1] at a3
    have HPS1 := Lib.hid hPS1
    clear har CU hL4 l5 hPS1 k1 HMC HBY l4 HPS
    go_wp2_with fail
    refine (HCU.out _).mono ?_
    rintro e w3 ⟨rfl, hl3⟩
    have hb3 : Below w2.heap.size w2 w3 := ⟨hl3.os, hl3.tape, hl3.output, hl3.size, fun k hk => hl3.block hk⟩
    have HB3 := Lib.hid (below_mid12 HB2.out hb3)
    have HK3 := Lib.hid (Bl.below HK2.out hb3)
    clear hl3 hb3 HCU c0 c1 c2 c3 c4
    have c0 := HK3.out.cell 0
    have c1 := HK3.out.cell 1
    have c2 := HK3.out.cell 2
    have c3 := HK3.out.cell 3
    have c4 := HK3.out.cell 4
    simp only [List.getElem?_toArray, List.getElem?_cons_succ, List.getElem?_cons_zero] at c0 c1 c2 c3 c4
    go_wp2_with fail
    clear a3
    go_loopw [35, 3] (fun vi vs wr => ∃ (k : Nat) (S : ByteArray), vi = .int .i64 k ∧ vs = .string S ∧ k ≤ a.all.length ∧ Below w3.heap.size w3 wr ∧ S = bs (P1 ++ ((a.all.take k).map rowB).flatten)) (fun vi _ _ => a.all.length - (intOf vi).toNat)
    case atStart => exact ⟨0, PS1, rfl, rfl, Nat.zero_le _, Below.refl _ _, by rw [HPS1.out]; simp⟩
    case round =>
      obtain ⟨k, S, rfl, rfl, hk, hbw, hS⟩ := hrel
      have HBW := Lib.hid hbw
      by_cases hlt : k < a.all.length
      · rcases HAC.out with h0 | ⟨br, off, rfl, hbr, hcells⟩
        · exact absurd hlt (by rw [h0]; simp)
        obtain ⟨rv, hc0, hsr⟩ := hcells k hlt
        have hb3 := below_mid12 HB3.out hbw
        have hc := (hb3.cell (p := ⟨br, off + k, none⟩) hbr).trans hc0
        have hrow := HAR.out a.all[k] (List.getElem_mem hlt)
        have hsn := flat_snoc rowB a.all k hlt
        have hfl := flat_len (B := rowB) (c := 100000) (l := a.all.take k) fun x hx => rowB_len (HAR.out x (List.mem_of_mem_take hx))
        rw [List.length_take] at hfl
        generalize a.all[k] = l at hsr hrow hsn
        obtain ⟨al, cl, rfl, hl63, hlc⟩ := id hsr
        have hll := hrow.1
        have HWO := Lib.hid hrow.2
        have HSN := Lib.hid hsn
        have HLC := Lib.hid hlc
        have CV := fun W => refL_uint l.length (by omega) W
        obtain ⟨L5, hL5⟩ : ∃ t, t = Lib.uvarint l.length := ⟨_, rfl⟩
        have l7 : L5.length ≤ 10 := by rw [hL5]; exact Lib.uvarint_length64 (by omega)
        have HL5 := Lib.hid hL5
        rw [← hL5] at CV
        change ∀ W, Calls _ _ _ W fun e w' => e = .returned (.string (bs L5)) ∧ Lay W w' at CV
        have ev : IntKind.u64.wrap (l.length : Int) = (l.length : Int) := by rw [IntKind.wrap_u64]; omega
        obtain ⟨Q, hQ⟩ : ∃ t, t = P1 ++ ((a.all.take k).map rowB).flatten := ⟨_, rfl⟩
        rw [← hQ] at hS
        have l8 : Q.length ≤ 6400040 := by rw [hQ, List.length_append]; omega
        have a4 : ∀ W, (Op.stringOp .add S (bs L5)).run Tryd.prog W = .ok (.string (bs (Q ++ L5))) W := by rw [hS]; exact bs_add _ _ (by omega)
        have l9 : (Q ++ L5).length ≤ 6400050 := by rw [List.length_append]; omega
        have HQ1 : Hid (Q ++ L5 ++ (l.map wordB).flatten = P1 ++ ((a.all.take (k + 1)).map rowB).flatten) := Lib.hid (by
          rw [← hsn, hQ, hL5]
          unfold rowB
          simp only [List.append_assoc])
        generalize Q ++ L5 = Q1 at a4 l9 HQ1
        generalize bs L5 = S5 at CV a4
        obtain ⟨QS, hQS⟩ : ∃ s, s = bs Q1 := ⟨_, rfl⟩
        rw [← hQS] at a4
        have HQS := Lib.hid hQS
        have HCV := Lib.hid CV
        clear hc0 hsr hrow hsn hfl hlc CV hL5 l7 hQ hS l8 hQS hb3 hcells hbw
        go_wp2_with fail
        refine (HCV.out _).mono ?_
        rintro e w4 ⟨rfl, hl4⟩
        have HB4 := Lib.hid (below_mid12 HBW.out (⟨hl4.os, hl4.tape, hl4.output, hl4.size, fun k hk => hl4.block hk⟩ : Below wr.heap.size wr w4))
        clear hl4 HCV hc
        go_wp2_with fail
        clear a4
        go_loopw [47, 3] (fun vj vs wq => ∃ (j : Nat) (S : ByteArray), vj = .int .i64 j ∧ vs = .string S ∧ j ≤ l.length ∧ Below w4.heap.size w4 wq ∧ S = bs (Q1 ++ ((l.take j).map wordB).flatten)) (fun vj _ _ => l.length - (intOf vj).toNat)
        case atStart => exact ⟨0, QS, rfl, rfl, Nat.zero_le _, Below.refl _ _, by rw [HQS.out]; simp⟩
        case round =>
          obtain ⟨j, S', rfl, rfl, hj, hbv, hS'⟩ := hrel
          have HBV := Lib.hid (below_mid12 HB4.out hbv)
          have HBV4 := Lib.hid hbv
          by_cases hltj : j < l.length
          · rcases HLC.out with h0 | ⟨bl, offl, rfl, hbl, hcl⟩
            · exact absurd hltj (by rw [h0]; simp)
            have hx := ((below_mid12 HB3.out HBV.out).cell (p := ⟨bl, offl + j, none⟩) hbl).trans (hcl j hltj)
            have hwo : l[j].size ≤ 1024 := HWO.out l[j] (List.getElem_mem hltj)
            have hsj := flat_snoc wordB l j hltj
            have hfj := flat_len (B := wordB) (c := 1034) (l := l.take j) fun x hx => by
              have h4 : x.size ≤ 1024 := HWO.out x (List.mem_of_mem_take hx)
              have h5 := wordB_len (s := x) (by omega)
              omega
            rw [List.length_take] at hfj
            generalize l[j] = s at hx hwo hsj
            have CW := fun W => refL_text s (by omega) W
            have hwl := wordB_len (s := s) (by omega)
            change ∀ W, Calls _ _ _ W fun e w' => e = .returned (.string (bs (wordB s))) ∧ Lay W w' at CW
            have a5 : ∀ W, (Op.stringOp .add S' (bs (wordB s))).run Tryd.prog W = .ok (.string (bs (Q1 ++ ((l.take j).map wordB).flatten ++ wordB s))) W := by rw [hS']; exact bs_add _ _ (by rw [List.length_append]; omega)
            rw [List.append_assoc, hsj] at a5
            obtain ⟨NS, hNS⟩ : ∃ t, t = bs (Q1 ++ ((l.take (j + 1)).map wordB).flatten) := ⟨_, rfl⟩
            rw [← hNS] at a5
            have HNS := Lib.hid hNS
            generalize bs (wordB s) = S6 at CW a5
            have HCW := Lib.hid CW
            clear hwo hsj hfj CW hwl hS' hNS hcl hbv
            go_wp2_with fail
            refine (HCW.out _).mono ?_
            rintro e w5 ⟨rfl, hl5⟩
            have HB5 := Lib.hid (below_mid12 HBV4.out (⟨hl5.os, hl5.tape, hl5.output, hl5.size, fun k hk => hl5.block hk⟩ : Below wr.heap.size wr w5))
            clear hl5 HCW hx
            go_wp2_with fail
            go_roundw
            case rel => exact ⟨j + 1, NS, by go_num, rfl, by omega, HB5.out, HNS.out⟩
            case measure => simp [intOf]; omega
          · obtain rfl : j = l.length := by omega
            rw [List.take_of_length_le (Nat.le_refl _), HQ1.out] at hS'
            have HS' := Lib.hid hS'
            clear hS' hbv
            go_wp2_with fail
            go_roundw
            case rel => exact ⟨k + 1, S', by go_num, rfl, by omega, HBV.out, HS'.out⟩
            case measure => simp [intOf]; omega
      · obtain rfl : k = a.all.length := by omega
        rw [List.take_of_length_le (Nat.le_refl _), ← HTL.out] at hS
        have HS := Lib.hid hS
        have HBX := Lib.hid (below_mid12 HB3.out hbw)
        have HKX := Lib.hid (Bl.below HK3.out hbw)
        clear hS hbw c0 c1 c2 c3 c4
        have c0 := HKX.out.cell 0
        have c1 := HKX.out.cell 1
        have c2 := HKX.out.cell 2
        have c3 := HKX.out.cell 3
        have c4 := HKX.out.cell 4
        simp only [List.getElem?_toArray, List.getElem?_cons_succ, List.getElem?_cons_zero] at c0 c1 c2 c3 c4
        go_wp2_with fail
        go_ret
        exact ⟨by rw [← HS.out]; rfl, HBX.out⟩
  · have e1 : (a.kd == 1) = false := by simp [k1]
    by_cases k2 : a.kd = 2
    · obtain ⟨hml, hmr⟩ := HOK.out.mat k2
      have HMR := Lib.hid hmr
      have e2 : (a.kd == 2) = true := by simp [k2]
      have CU := fun W => refL_uint a.mat.length (by omega) W
      obtain ⟨L4, hL4⟩ : ∃ l, l = Lib.uvarint a.mat.length := ⟨_, rfl⟩
      have l5 : L4.length ≤ 10 := by rw [hL4]; exact Lib.uvarint_length64 (by omega)
      have HTL : Hid (a.bytes = P ++ L4 ++ (a.mat.map matB).flatten) := Lib.hid (by rw [HBY.out, hL4]; unfold Ask.tail; rw [if_neg k1, if_pos k2, List.append_assoc])
      rw [← hL4] at CU
      change ∀ W, Calls _ _ _ W fun e w' => e = .returned (.string (bs L4)) ∧ Lay W w' at CU
      have ew : IntKind.u64.wrap (a.mat.length : Int) = (a.mat.length : Int) := by rw [IntKind.wrap_u64]; omega
      have a3 : ∀ W, (Op.stringOp .add PS (bs L4)).run Tryd.prog W = .ok (.string (bs (P ++ L4))) W := by rw [HPS.out]; exact bs_add _ _ (by omega)
      have l6 : (P ++ L4).length ≤ 40 := by rw [List.length_append]; omega
      generalize P ++ L4 = P1 at a3 l6 HTL
      generalize bs L4 = S4 at CU a3
      have HCU := Lib.hid CU
      obtain ⟨PS1, hPS1⟩ : ∃ s, s = bs P1 := ⟨_, rfl⟩
      rw [← hPS1] at a3
      have HPS1 := Lib.hid hPS1
      clear hmr CU hL4 l5 hPS1 k1 k2 HAC HBY l4 HPS
      go_wp2_with fail
      refine (HCU.out _).mono ?_
      rintro e w3 ⟨rfl, hl3⟩
      have hb3 : Below w2.heap.size w2 w3 := ⟨hl3.os, hl3.tape, hl3.output, hl3.size, fun k hk => hl3.block hk⟩
      have HB3 := Lib.hid (below_mid12 HB2.out hb3)
      have HK3 := Lib.hid (Bl.below HK2.out hb3)
      clear hl3 hb3 HCU c0 c1 c2 c3 c4
      have c0 := HK3.out.cell 0
      have c1 := HK3.out.cell 1
      have c2 := HK3.out.cell 2
      have c3 := HK3.out.cell 3
      have c4 := HK3.out.cell 4
      simp only [List.getElem?_toArray, List.getElem?_cons_succ, List.getElem?_cons_zero] at c0 c1 c2 c3 c4
      go_wp2_with fail
      clear a3
      go_loopw [70, 3] (fun vi vs wr => ∃ (k : Nat) (S : ByteArray), vi = .int .i64 k ∧ vs = .string S ∧ k ≤ a.mat.length ∧ Below w3.heap.size w3 wr ∧ S = bs (P1 ++ ((a.mat.take k).map matB).flatten)) (fun vi _ _ => a.mat.length - (intOf vi).toNat)
      case atStart => exact ⟨0, PS1, rfl, rfl, Nat.zero_le _, Below.refl _ _, by rw [HPS1.out]; simp⟩
      case round =>
        obtain ⟨k, S, rfl, rfl, hk, hbw, hS⟩ := hrel
        have HBW := Lib.hid hbw
        by_cases hlt : k < a.mat.length
        · rcases HMC.out with h0 | ⟨br, off, rfl, hbr, hcells⟩
          · exact absurd hlt (by rw [h0]; simp)
          obtain ⟨x0, x1, x2⟩ := hcells k hlt
          have hb3 := below_mid12 HB3.out hbw
          have y0 := (hb3.cell (p := ⟨br, off + k * 3, none⟩) hbr).trans x0
          have y1 := (hb3.cell (p := ⟨br, off + k * 3 + 1, none⟩) hbr).trans x1
          have y2 := (hb3.cell (p := ⟨br, off + k * 3 + 2, none⟩) hbr).trans x2
          have hmo := HMR.out a.mat[k] (List.getElem_mem hlt)
          have hsn := flat_snoc matB a.mat k hlt
          have hfl := flat_len (B := matB) (c := 2000) (l := a.mat.take k) fun x hx => matB_len (HMR.out x (List.mem_of_mem_take hx))
          rw [List.length_take] at hfl
          generalize a.mat[k] = m at x0 x1 x2 y0 y1 y2 hmo hsn
          have hm0 := hmo.1
          have hm1 := hmo.2
          have ln := wordB_len (s := m.name) (by omega)
          have lv := wordB_len (s := m.value) (by omega)
          have lb : (boolB m.not).length ≤ 1 := by unfold boolB; split <;> simp
          have C0 := fun W => refL_text m.name (by omega) W
          have C1 := fun W => refL_bool m.not W
          have C2 := fun W => refL_text m.value (by omega) W
          change ∀ W, Calls _ _ _ W fun e w' => e = .returned (.string (bs (wordB m.name))) ∧ Lay W w' at C0
          change ∀ W, Calls _ _ _ W fun e w' => e = .returned (.string (bs (boolB m.not))) ∧ Lay W w' at C1
          change ∀ W, Calls _ _ _ W fun e w' => e = .returned (.string (bs (wordB m.value))) ∧ Lay W w' at C2
          obtain ⟨Q, hQ⟩ : ∃ t, t = P1 ++ ((a.mat.take k).map matB).flatten := ⟨_, rfl⟩
          rw [← hQ] at hS
          have l8 : Q.length ≤ 8040 := by rw [hQ, List.length_append]; omega
          have a4 : ∀ W, (Op.stringOp .add S (bs (wordB m.name))).run Tryd.prog W = .ok (.string (bs (Q ++ wordB m.name))) W := by rw [hS]; exact bs_add _ _ (by omega)
          have a5 : ∀ W, (Op.stringOp .add (bs (Q ++ wordB m.name)) (bs (boolB m.not))).run Tryd.prog W = .ok (.string (bs (Q ++ wordB m.name ++ boolB m.not))) W := bs_add _ _ (by rw [List.length_append]; omega)
          have a6 : ∀ W, (Op.stringOp .add (bs (Q ++ wordB m.name ++ boolB m.not)) (bs (wordB m.value))).run Tryd.prog W = .ok (.string (bs (Q ++ wordB m.name ++ boolB m.not ++ wordB m.value))) W := bs_add _ _ (by rw [List.length_append, List.length_append]; omega)
          have HSE : Hid (bs (Q ++ wordB m.name ++ boolB m.not ++ wordB m.value) = bs (P1 ++ ((a.mat.take (k + 1)).map matB).flatten)) := Lib.hid (by
            rw [← hsn, hQ]
            unfold matB
            simp only [List.append_assoc])
          generalize bs (Q ++ wordB m.name ++ boolB m.not ++ wordB m.value) = T3 at a6 HSE
          generalize bs (Q ++ wordB m.name ++ boolB m.not) = T2 at a5 a6
          generalize bs (Q ++ wordB m.name) = T1 at a4 a5
          generalize bs (wordB m.name) = U1 at C0 a4
          generalize bs (boolB m.not) = U2 at C1 a5
          generalize bs (wordB m.value) = U3 at C2 a6
          have hss : ∀ o, wr.heap.size < (wr.alloc o).heap.size := fun o => by simp
          clear x0 x1 x2 hb3 hmo hsn hfl hm0 hm1 ln lv lb hQ hS l8 hcells hbw
          go_wp2_with fail
          have f0 := cell_grown (w := wr.alloc (.cells #[.string m.name, .bool m.not, .string m.value] 62)) (a := ⟨wr.heap.size, 0, none⟩) (v := .string m.name) (hss _) (by go_simp)
          have f1 := cell_grown (w := wr.alloc (.cells #[.string m.name, .bool m.not, .string m.value] 62)) (a := ⟨wr.heap.size, 1, none⟩) (v := .bool m.not) (hss _) (by go_simp)
          have f2 := cell_grown (w := wr.alloc (.cells #[.string m.name, .bool m.not, .string m.value] 62)) (a := ⟨wr.heap.size, 2, none⟩) (v := .string m.value) (hss _) (by go_simp)
          have HLa := Lib.hid (HBW.out.alloc HBW.out.size (.cells #[.string m.name, .bool m.not, .string m.value] 62))
          clear hss
          generalize wr.alloc (.cells #[.string m.name, .bool m.not, .string m.value] 62) = wa at f0 f1 f2 HLa ⊢
          have D0 := grown_layR C0 wa
          have D1 := grown_layR C1 wa
          have D2 := grown_layR C2 wa
          clear C0 C1 C2
          go_quiet_grown ((first | (go_at_call 43; with_reducible (first | exact D0 _ _ | exact D2 _ _)) | (go_at_call 44; with_reducible (exact D1 _ _))))
          have HBZ := Lib.hid (below_mid12 HLa.out (Lay.below (Lay.of_grown (w := wa) nq osq)))
          clear D0 D1 D2 f0 f1 f2 a4 a5 a6
          go_wp2_with fail
          go_roundw
          case rel => exact ⟨k + 1, T3, by go_num, rfl, by omega, HBZ.out, HSE.out⟩
          case measure => simp [intOf]; omega
        · obtain rfl : k = a.mat.length := by omega
          rw [List.take_of_length_le (Nat.le_refl _), ← HTL.out] at hS
          have HS := Lib.hid hS
          have HBX := Lib.hid (below_mid12 HB3.out hbw)
          clear hS hbw
          go_wp2_with fail
          go_ret
          exact ⟨by rw [← HS.out]; rfl, HBX.out⟩
    · have e2 : (a.kd == 2) = false := by simp [k2]
      have HTL : Hid (PS = bs a.bytes) := Lib.hid (by rw [HPS.out, HBY.out]; unfold Ask.tail; rw [if_neg k1, if_neg k2, List.append_nil])
      clear k1 k2 HBY HPS
      go_wp2_with fail
      go_ret
      exact ⟨by rw [← HTL.out]; rfl, HB2.out⟩

end Go.Proofs.YtaghogfkkmphoaaDoor.E4
