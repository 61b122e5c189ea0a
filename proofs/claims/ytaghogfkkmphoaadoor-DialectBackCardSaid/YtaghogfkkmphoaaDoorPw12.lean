/-
  num.Bool; dialect.putRows, putMatchers.
-/
import Derived.Test.YtaghogfkkmphoaaDoorBk12
import Derived.Test.YtaghogfkkmphoaaDoorNb
namespace Go.Proofs.YtaghogfkkmphoaaDoor.E4
open Go.RowKit Go

set_option maxHeartbeats 1000000 in
/-- num.Bool. -/
theorem bool_put {G : Nat → Prop} (x : Bool) (sv : Value) (l : List UInt8) (w : World) (hown : By G w sv l) (hlim : l.length ≤ 35184372088832) :
    Calls Tryd.prog 72 #[sv, .bool x] w (PutPost sv (l ++ boolB x) w) := by
  obtain ⟨i5, E5⟩ := elem5
  have hown0 : By (fun b => At sv b ∨ w.heap.size ≤ b) w sv l := hown.mono fun b _ ha => .inl ha
  have HO := Lib.hid hown0
  clear hown hown0
  cases x
  · go_enter Tryd.func72, Tryd.ntmps72
    go_wp2_with (at_builtin; refine wpList_append_rk E5 _ rfl _ _ 37 rfl (G := fun b => At sv b ∨ w.heap.size ≤ b) rfl (HO.out.alloc _) ?c1 (.slice (some ⟨w.heap.size, 0, none⟩) 1 1) 1 (cellsOf [0]) rfl (src_one w _ _ ?c2) ?c3 ?c4 ?_)
    case c1 => intro b hb; simp at hb; right; omega
    case c2 => rfl
    case c3 => simp; omega
    case c4 => simp; omega
    intro v2 w2 ho2 hb2
    have HK1 := Lib.hid (((Keep.refl (At sv) w).alloc _).trans hb2)
    have ho' : By (fun b => At sv b ∨ w.heap.size ≤ b) w2 v2 (l ++ [0]) := by
      have := ho2.mono (G' := fun b => At sv b ∨ w.heap.size ≤ b) fun b hb _ => hb.1
      rw [← cellsOf_append] at this
      exact By.of this
    have HO' := Lib.hid ho'
    clear ho2 hb2 ho'
    go_wp2
    go_ret
    exact ⟨v2, rfl, HO'.out, HK1.out⟩
  · go_enter Tryd.func72, Tryd.ntmps72
    go_wp2_with (at_builtin; refine wpList_append_rk E5 _ rfl _ _ 37 rfl (G := fun b => At sv b ∨ w.heap.size ≤ b) rfl (HO.out.alloc _) ?c1 (.slice (some ⟨w.heap.size, 0, none⟩) 1 1) 1 (cellsOf [1]) rfl (src_one w _ _ ?c2) ?c3 ?c4 ?_)
    case c1 => intro b hb; simp at hb; right; omega
    case c2 => rfl
    case c3 => simp; omega
    case c4 => simp; omega
    intro v2 w2 ho2 hb2
    have HK1 := Lib.hid (((Keep.refl (At sv) w).alloc _).trans hb2)
    have ho' : By (fun b => At sv b ∨ w.heap.size ≤ b) w2 v2 (l ++ [1]) := by
      have := ho2.mono (G' := fun b => At sv b ∨ w.heap.size ≤ b) fun b hb _ => hb.1
      rw [← cellsOf_append] at this
      exact By.of this
    have HO' := Lib.hid ho'
    clear ho2 hb2 ho'
    go_wp2
    go_ret
    exact ⟨v2, rfl, HO'.out, HK1.out⟩

/-- Bytes that are being put: in the slice's own block, or in new ones. -/
def PI (w : World) (sv : Value) (L : List UInt8) (wr : World) (v : Value) : Prop := By (fun b => At sv b ∨ w.heap.size ≤ b) wr v L ∧ Keep (At sv) w wr
theorem PI.start {G : Nat → Prop} {w : World} {sv : Value} {L : List UInt8} (h : By G w sv L) : PI w sv L w sv := ⟨h.mono fun _ _ ha => .inl ha, Keep.refl _ _⟩
theorem PI.put {w wr wx w2 : World} {sv v : Value} {L L2 : List UInt8} {e : Ending} (h : PI w sv L wr v) (kx : Keep (At v) wr wx) (p : PutPost v L2 wx e w2) :
    ∃ v2, e = .returned v2 ∧ PI w sv L2 w2 v2 ∧ (∀ k, k < wx.heap.size → ¬ At v k → ¬ At v2 k ∧ w2.heap[k]? = wx.heap[k]?) := by
  obtain ⟨v2, he, hb, hk⟩ := PutPost.then h.1 h.2 kx p
  refine ⟨v2, he, ⟨hb, hk⟩, fun k hlt hn => ?_⟩
  obtain ⟨v3, he3, hb3, hk3⟩ := p
  have : v3 = v2 := by rw [he] at he3; injection he3 with h; exact h.symm
  subst this
  refine ⟨fun ha => ?_, hk3.block k hlt hn⟩
  rcases (hb3.at ha).1 with h1 | h1
  · exact hn h1
  · omega
theorem PI.below {w0 w wr : World} {sv v : Value} {L : List UInt8} (h : PI w sv L wr v) (hb : Below w0.heap.size w0 w) (ha : ∀ b, At sv b → w0.heap.size ≤ b) : Below w0.heap.size w0 wr :=
  hb.trans ⟨h.2.os, h.2.tape, h.2.output, h.2.size, fun k hk => h.2.block k (Nat.lt_of_lt_of_le hk hb.size) fun hv => by have := ha k hv; omega⟩
theorem PI.post {w wr : World} {sv v : Value} {L : List UInt8} (h : PI w sv L wr v) : PutPost sv L w (.returned v) wr := ⟨v, rfl, h.1, h.2⟩

set_option maxHeartbeats 8000000 in
set_option maxRecDepth 100000 in
theorem putRows_any {H : Nat → Prop} {w0 w : World} {sv av : Value} {l : List UInt8} {ls : List (List ByteArray)} (hb : Below w0.heap.size w0 w) (h : TextsAt w0 av ls) (hs : By H w sv l) (ha : ∀ b, At sv b → w0.heap.size ≤ b) (hl : l.length ≤ 1000) (hn : ls.length ≤ 64) (hok : ∀ x ∈ ls, rowOk x) :
    Calls Tryd.prog 39 #[sv, av] w (PutPost sv (l ++ (Lib.uvarint ls.length ++ (ls.map rowB).flatten)) w) := by
  obtain ⟨aa, ca, rfl, hz1, hac⟩ := id h
  have HU := Lib.hid (uint_put ls.length (by omega) sv l w hs (by omega))
  have HS := Lib.hid (PI.start hs)
  have HB := Lib.hid hb
  have HA := Lib.hid ha
  have HAC := Lib.hid hac
  have HOK := Lib.hid hok
  have l4 := Lib.uvarint_length64 (x := ls.length) (by omega)
  have ew : IntKind.u64.wrap (ls.length : Int) = (ls.length : Int) := by rw [IntKind.wrap_u64]; omega
  clear hb h hs ha hac hok
  go_enter Tryd.func39, Tryd.ntmps39
  go_wp2_with fail
  refine HU.out.mono ?_
  intro e w1 hp
  obtain ⟨v1, rfl, hpi, -⟩ := HS.out.put (Keep.refl _ _) hp
  have HP := Lib.hid hpi
  clear hp hpi HU
  go_wp2_with fail
  go_loopw [16, 0] (fun vi vb wr => ∃ (k : Nat) (L : List UInt8) (V : Value), vi = .int .i64 k ∧ V = vb ∧ k ≤ ls.length ∧ PI w sv L wr V ∧ L = l ++ Lib.uvarint ls.length ++ ((ls.take k).map rowB).flatten) (fun vi _ _ => ls.length - (intOf vi).toNat)
  case atStart => exact ⟨0, _, _, rfl, rfl, Nat.zero_le _, HP.out, by simp⟩
  case round =>
    obtain ⟨k, L, vb, rfl, rfl, hk, hpi, hL⟩ := hrel
    have HPI := Lib.hid hpi
    by_cases hlt : k < ls.length
    · rcases HAC.out with h0 | ⟨br, off, rfl, hbr, hcells⟩
      · exact absurd hlt (by rw [h0]; simp)
      obtain ⟨rv, hc0, hsr⟩ := hcells k hlt
      have hbw := hpi.below HB.out HA.out
      have hc := (hbw.cell (p := ⟨br, off + k, none⟩) hbr).trans hc0
      have hsw := hsr.below hbw
      have hrow := HOK.out ls[k] (List.getElem_mem hlt)
      have hsn := flat_snoc rowB ls k hlt
      have hfl := flat_len (B := rowB) (c := 100000) (l := ls.take k) fun x hx => rowB_len (HOK.out x (List.mem_of_mem_take hx))
      rw [List.length_take] at hfl
      generalize ls[k] = x at hsr hsw hrow hsn
      obtain ⟨al, cl, rfl, hl63, hlc⟩ := id hsr
      have hll := hrow.1
      have l8 : L.length ≤ 6401100 := by rw [hL, List.length_append, List.length_append]; omega
      have ev : IntKind.u64.wrap (x.length : Int) = (x.length : Int) := by rw [IntKind.wrap_u64]; omega
      have l5 := Lib.uvarint_length64 (x := x.length) (by omega)
      have HL : Hid (L ++ Lib.uvarint x.length ++ (x.map wordB).flatten = l ++ Lib.uvarint ls.length ++ ((ls.take (k + 1)).map rowB).flatten) := Lib.hid (by
        rw [← hsn, hL]
        unfold rowB
        simp only [List.append_assoc])
      have HCV := Lib.hid (uint_put x.length (by omega) vb L wr hpi.1 (by omega))
      have HWO := Lib.hid hrow.2
      have HLC := Lib.hid hlc
      clear hc0 hsr hsw hrow hsn hfl hL hpi hlc hcells hbw l4 ew
      go_wp2_with fail
      refine HCV.out.mono ?_
      intro e w2 hp
      obtain ⟨v2, rfl, hpi, -⟩ := HPI.out.put (Keep.refl _ _) hp
      have HP2 := Lib.hid hpi
      clear hp hpi HCV hc ev
      go_wp2_with fail
      go_loopw [27, 0] (fun vj vb wq => ∃ (j : Nat) (M : List UInt8) (V : Value), vj = .int .i64 j ∧ V = vb ∧ j ≤ x.length ∧ PI w sv M wq V ∧ M = L ++ Lib.uvarint x.length ++ ((x.take j).map wordB).flatten) (fun vj _ _ => x.length - (intOf vj).toNat)
      case atStart => exact ⟨0, _, _, rfl, rfl, Nat.zero_le _, HP2.out, by simp⟩
      case round =>
        obtain ⟨j, M, vq, rfl, rfl, hj, hpj, hM⟩ := hrel
        have HPJ := Lib.hid hpj
        by_cases hltj : j < x.length
        · rcases HLC.out with h0 | ⟨bl, offl, rfl, hbl, hcl⟩
          · exact absurd hltj (by rw [h0]; simp)
          have hx := ((hpj.below HB.out HA.out).cell (p := ⟨bl, offl + j, none⟩) hbl).trans (hcl j hltj)
          have hwo : x[j].size ≤ 1024 := HWO.out x[j] (List.getElem_mem hltj)
          have hsj := flat_snoc wordB x j hltj
          have hfj := flat_len (B := wordB) (c := 1034) (l := x.take j) fun y hy => by
            have h4 : y.size ≤ 1024 := HWO.out y (List.mem_of_mem_take hy)
            have h5 := wordB_len (s := y) (by omega)
            omega
          rw [List.length_take] at hfj
          generalize x[j] = s at hx hwo hsj
          have hml : M.length ≤ 7000000 := by rw [hM, List.length_append, List.length_append]; omega
          have HCW := Lib.hid (text_put s (by omega) vq M wr hpj.1 (by omega))
          have HMN : Hid (M ++ textB s.data.toList = L ++ Lib.uvarint x.length ++ ((x.take (j + 1)).map wordB).flatten) := Lib.hid (by
            rw [← hsj, hM]
            unfold wordB
            simp only [List.append_assoc])
          clear hwo hsj hfj hM hpj hcl hml
          go_wp2_with fail
          refine HCW.out.mono ?_
          intro e w3 hp
          obtain ⟨v3, rfl, hpi, -⟩ := HPJ.out.put (Keep.refl _ _) hp
          have HP3 := Lib.hid hpi
          clear hp hpi HCW hx
          go_wp2_with fail
          go_roundw
          case rel => exact ⟨j + 1, _, _, by go_num, rfl, by omega, HP3.out, HMN.out⟩
          case measure => simp [intOf]; omega
        · obtain rfl : j = x.length := by omega
          rw [List.take_of_length_le (Nat.le_refl _), HL.out] at hM
          have HM := Lib.hid hM
          clear hM hpj
          go_wp2_with fail
          go_roundw
          case rel => exact ⟨k + 1, M, _, by go_num, rfl, by omega, HPJ.out, HM.out⟩
          case measure => simp [intOf]; omega
    · obtain rfl : k = ls.length := by omega
      rw [List.take_of_length_le (Nat.le_refl _), List.append_assoc] at hL
      have HL := Lib.hid hL
      clear hL hpi
      go_wp2_with fail
      go_ret
      rw [← HL.out]
      exact HPI.out.post

set_option maxHeartbeats 8000000 in
set_option maxRecDepth 100000 in
theorem putMatchers_any {H : Nat → Prop} {w0 w : World} {sv mv : Value} {l : List UInt8} {ms : List Mt} (hb : Below w0.heap.size w0 w) (h : MsAt w0 mv ms) (hs : By H w sv l) (ha : ∀ b, At sv b → w0.heap.size ≤ b) (hl : l.length ≤ 1000) (hn : ms.length ≤ 4) (hok : ∀ x ∈ ms, matOk x) :
    Calls Tryd.prog 40 #[sv, mv] w (PutPost sv (l ++ (Lib.uvarint ms.length ++ (ms.map matB).flatten)) w) := by
  obtain ⟨aa, ca, rfl, hz1, hac⟩ := id h
  have HU := Lib.hid (uint_put ms.length (by omega) sv l w hs (by omega))
  have HS := Lib.hid (PI.start hs)
  have HB := Lib.hid hb
  have HA := Lib.hid ha
  have HAC := Lib.hid hac
  have HOK := Lib.hid hok
  have l4 := Lib.uvarint_length64 (x := ms.length) (by omega)
  have ew : IntKind.u64.wrap (ms.length : Int) = (ms.length : Int) := by rw [IntKind.wrap_u64]; omega
  clear hb h hs ha hac hok
  go_enter Tryd.func40, Tryd.ntmps40
  go_wp2_with fail
  refine HU.out.mono ?_
  intro e w1 hp
  obtain ⟨v1, rfl, hpi, -⟩ := HS.out.put (Keep.refl _ _) hp
  have HP := Lib.hid hpi
  clear hp hpi HU
  go_wp2_with fail
  go_loopw [14, 0] (fun vi vb wr => ∃ (k : Nat) (L : List UInt8) (V : Value), vi = .int .i64 k ∧ V = vb ∧ k ≤ ms.length ∧ PI w sv L wr V ∧ L = l ++ Lib.uvarint ms.length ++ ((ms.take k).map matB).flatten) (fun vi _ _ => ms.length - (intOf vi).toNat)
  case atStart => exact ⟨0, _, _, rfl, rfl, Nat.zero_le _, HP.out, by simp⟩
  case round =>
    obtain ⟨k, L, vb, rfl, rfl, hk, hpi, hL⟩ := hrel
    have HPI := Lib.hid hpi
    by_cases hlt : k < ms.length
    · rcases HAC.out with h0 | ⟨br, off, rfl, hbr, hcells⟩
      · exact absurd hlt (by rw [h0]; simp)
      obtain ⟨x0, x1, x2⟩ := hcells k hlt
      have hbw := hpi.below HB.out HA.out
      have y0 := (hbw.cell (p := ⟨br, off + k * 3, none⟩) hbr).trans x0
      have y1 := (hbw.cell (p := ⟨br, off + k * 3 + 1, none⟩) hbr).trans x1
      have y2 := (hbw.cell (p := ⟨br, off + k * 3 + 2, none⟩) hbr).trans x2
      have hmo := HOK.out ms[k] (List.getElem_mem hlt)
      have hsn := flat_snoc matB ms k hlt
      have hfl := flat_len (B := matB) (c := 2000) (l := ms.take k) fun x hx => matB_len (HOK.out x (List.mem_of_mem_take hx))
      rw [List.length_take] at hfl
      generalize ms[k] = m at x0 x1 x2 y0 y1 y2 hmo hsn
      have hm0 := hmo.1
      have hm1 := hmo.2
      have ln := wordB_len (s := m.name) (by omega)
      have lv := wordB_len (s := m.value) (by omega)
      have lb : (boolB m.not).length ≤ 1 := by unfold boolB; split <;> simp
      have l8 : L.length ≤ 9100 := by rw [hL, List.length_append, List.length_append]; omega
      have HL : Hid (L ++ wordB m.name ++ boolB m.not ++ wordB m.value = l ++ Lib.uvarint ms.length ++ ((ms.take (k + 1)).map matB).flatten) := Lib.hid (by
        rw [← hsn, hL]
        unfold matB
        simp only [List.append_assoc])
      have kx : Keep (At vb) wr (wr.alloc (.cells #[.string m.name, .bool m.not, .string m.value] 62)) := (Keep.refl _ wr).alloc _
      have hbx := Bl.new wr 62 #[.string m.name, .bool m.not, .string m.value]
      have hlx : wr.heap.size < (wr.alloc (.cells #[.string m.name, .bool m.not, .string m.value] 62)).heap.size := by simp
      have hnat : ¬ At vb wr.heap.size := fun ha => by have := (hpi.1.at ha).2; omega
      obtain ⟨wx, hwx⟩ : ∃ wx, wx = wr.alloc (.cells #[.string m.name, .bool m.not, .string m.value] 62) := ⟨_, rfl⟩
      have hown : By (fun b => At sv b ∨ w.heap.size ≤ b) wx vb L := by rw [hwx]; exact hpi.1.alloc _
      rw [← hwx] at kx hbx hlx
      have HX := Lib.hid hwx.symm
      have HKX := Lib.hid kx
      have HBX := Lib.hid hbx
      have HLX := Lib.hid hlx
      have HNX := Lib.hid hnat
      have HC1 := Lib.hid (text_put m.name (by omega) vb L wx hown (by omega))
      have c0 := hbx.cell 0
      simp only [List.getElem?_toArray, List.getElem?_cons_zero] at c0
      have LEN := Lib.hid (show L.length ≤ 9100 ∧ (wordB m.name).length ≤ 40 ∧ (boolB m.not).length ≤ 1 ∧ m.value.size ≤ 1024 from ⟨l8, by omega, lb, hm1⟩)
      clear x0 x1 x2 hbw hmo hsn hfl hm0 hm1 ln lv lb l8 hL kx hbx hlx hnat hwx hown hpi hcells l4 ew
      go_upto_region 5 with fail
      rw [HX.out]
      clear y0 y1 y2
      go_wp2_with fail
      refine HC1.out.mono ?_
      intro e w2 hp
      obtain ⟨v2, rfl, hpi2, hk2⟩ := HPI.out.put HKX.out hp
      obtain ⟨hn2, hb2⟩ := hk2 _ HLX.out HNX.out
      have hbx2 : Bl w2 wr.heap.size 62 #[.string m.name, .bool m.not, .string m.value] := hb2.trans HBX.out
      have HC2 := Lib.hid (bool_put m.not v2 _ w2 hpi2.1 (by have := LEN.out; rw [List.length_append]; show L.length + (wordB m.name).length ≤ _; omega))
      have HP2 := Lib.hid hpi2
      have HB2 := Lib.hid hbx2
      have HN2 := Lib.hid hn2
      clear c0
      have c1 := hbx2.cell 1
      simp only [List.getElem?_toArray, List.getElem?_cons_succ, List.getElem?_cons_zero] at c1
      clear hp hpi2 hk2 hn2 hb2 hbx2 HC1
      go_wp2_with fail
      refine HC2.out.mono ?_
      intro e w3 hp
      obtain ⟨v3, rfl, hpi3, hk3⟩ := HP2.out.put (Keep.refl _ _) hp
      obtain ⟨hn3, hb3⟩ := hk3 _ HB2.out.lt HN2.out
      have hbx3 : Bl w3 wr.heap.size 62 #[.string m.name, .bool m.not, .string m.value] := hb3.trans HB2.out
      have HC3 := Lib.hid (text_put m.value (by have := LEN.out; omega) v3 _ w3 hpi3.1 (by have := LEN.out; rw [List.length_append, List.length_append]; show L.length + (wordB m.name).length + (boolB m.not).length ≤ _; omega))
      have HP3 := Lib.hid hpi3
      clear c1
      have c2 := hbx3.cell 2
      simp only [List.getElem?_toArray, List.getElem?_cons_succ, List.getElem?_cons_zero] at c2
      clear hp hpi3 hk3 hn3 hb3 hbx3 HC2
      go_wp2_with fail
      refine HC3.out.mono ?_
      intro e w4 hp
      obtain ⟨v4, rfl, hpi4, -⟩ := HP3.out.put (Keep.refl _ _) hp
      have HP4 := Lib.hid hpi4
      clear hp hpi4 HC3 c2
      go_wp2_with fail
      go_roundw
      case rel => exact ⟨k + 1, _, _, by go_num, rfl, by omega, HP4.out, HL.out⟩
      case measure => simp [intOf]; omega
    · obtain rfl : k = ms.length := by omega
      rw [List.take_of_length_le (Nat.le_refl _), List.append_assoc] at hL
      have HL := Lib.hid hL
      clear hL hpi
      go_wp2_with fail
      go_ret
      rw [← HL.out]
      exact HPI.out.post

end Go.Proofs.YtaghogfkkmphoaaDoor.E4
