/-
  num.Reader.Bool; dialect.getRows, getMatchers.
-/
import Derived.Test.YtaghogfkkmphoaaDoorHp12
import Derived.Test.YtaghogfkkmphoaaDoorDm12
import Derived.Test.YtaghogfkkmphoaaDoorFa12
namespace Go.Proofs.YtaghogfkkmphoaaDoor.E4
open Go.RowKit Go

/-- It stands in every world that has the blocks from B on as they are. -/
def KeptT (B : Nat) (w : World) (P : World → Prop) : Prop := ∀ W' : World, w.heap.size ≤ W'.heap.size → (∀ k, B ≤ k → k < w.heap.size → W'.heap[k]? = w.heap[k]?) → P W'
theorem KeptT.self {B : Nat} {w : World} {P : World → Prop} (h : KeptT B w P) : P w := h w (Nat.le_refl _) fun _ _ _ => rfl
theorem KeptT.mono {B B' : Nat} {w : World} {P : World → Prop} (h : KeptT B' w P) (hB : B ≤ B') : KeptT B w P := fun W' hs hb => h W' hs fun k hk => hb k (Nat.le_trans hB hk)
theorem KeptT.below {B : Nat} {w w' : World} {P : World → Prop} (h : KeptT B w P) (hb : Below w.heap.size w w') : KeptT B w' P :=
  fun W' hs hk => h W' (Nat.le_trans hb.size hs) fun k h1 h2 => (hk k h1 (Nat.lt_of_lt_of_le h2 hb.size)).trans (hb.block k h2)
theorem KeptT.chg {B g : Nat} {w w' : World} {P : World → Prop} (h : KeptT B w P) (hc : Chg g w w') (hg : g < B) : KeptT B w' P :=
  fun W' hs hk => h W' (Nat.le_trans hc.size hs) fun k h1 h2 => (hk k h1 (Nat.lt_of_lt_of_le h2 hc.size)).trans (hc.block k h2 (by omega))
theorem RowsG.kept {B : Nat} {w : World} {av : Value} {rows : List (List ByteArray)} {xs : List Value} (h : RowsG B w av rows xs) (hl : rows.length ≤ 1000) : KeptT B w (fun W => TextsAt W av rows) :=
  fun W' hs hb => RowsG.at (B := B) (xs := xs) ⟨h.1.carry hs fun k hB _ hlt => hb k hB hlt, fun i hi => by
    obtain ⟨u, hu, hsg⟩ := h.2 i hi
    exact ⟨u, hu, hsg.carry hs (fun q hq hlt => hb q hq.1 hlt) fun _ h _ => h⟩⟩ hl

set_option maxRecDepth 100000 in
theorem bool_rd (g : Nat) (l : List UInt8) (bad : Bool) (w : World) (h : Rd w g l bad) :
    Calls Tryd.prog 97 #[.pointer (some ⟨g, 0, none⟩)] w fun e w' => ∃ (n : Nat) (l' : List UInt8) (bad' : Bool), e = .returned (.bool (decide (n = 1))) ∧ RU 1 l bad n l' bad' ∧ Rd w' g l' bad' ∧ Only g w w' := by
  have HU := Lib.hid (uint_rd 1 g l bad w h)
  clear h
  go_enter Tryd.func97, Tryd.ntmps97
  go_wp2_with fail
  refine HU.out.mono ?_
  rintro e w2 ⟨n, l1, b1, rfl, hru, hrd, hon⟩
  have HRU := Lib.hid hru
  have HRD := Lib.hid hrd
  have HON := Lib.hid hon
  clear hru hrd hon
  by_cases hn : n = 1
  · have e1 : ((n : Int) == 1) = true := by simp [hn]
    have HN : Hid (decide (n = 1) = true) := Lib.hid (decide_eq_true hn)
    clear hn
    go_wp2_with fail
    go_ret
    exact ⟨n, l1, b1, by rw [HN.out]; rfl, HRU.out, HRD.out, HON.out⟩
  · have e1 : ((n : Int) == 1) = false := by simp; omega
    have HN : Hid (decide (n = 1) = false) := Lib.hid (decide_eq_false hn)
    clear hn
    go_wp2_with fail
    go_ret
    exact ⟨n, l1, b1, by rw [HN.out]; rfl, HRU.out, HRD.out, HON.out⟩

set_option maxHeartbeats 4000000 in
set_option maxRecDepth 100000 in
theorem getRows_any (g : Nat) (l : List UInt8) (bad : Bool) (w : World) (h : Rd w g l bad) :
    Calls Tryd.prog 75 #[.pointer (some ⟨g, 0, none⟩)] w fun e w' => ∃ rows av l1 b1 l' b', e = .returned av ∧ RU 64 l bad rows.length l1 b1 ∧ RNs RRow l1 b1 rows l' b' ∧ Rd w' g l' b' ∧ Chg g w w' ∧ KeptT w.heap.size w' (fun W => TextsAt W av rows) := by
  obtain ⟨iS, zS, ES⟩ := elemS
  obtain ⟨iR, zR, ER⟩ := elemR
  have hg := h.lt
  have HU := Lib.hid (uint_rd 64 g l bad w h)
  clear h
  go_enter Tryd.func75, Tryd.ntmps75
  go_wp2_with fail
  refine HU.out.mono ?_
  rintro e w1 ⟨n, l1, b1, rfl, hru, hrd, hon⟩
  have hn64 := hru.le
  have HRU := Lib.hid hru
  have HRD1 := Lib.hid hrd
  have HC1 := Lib.hid hon.chg
  clear hru hrd hon HU
  go_wp2_with fail
  go_loopw [7, 3] (fun vi va wr => ∃ (k : Nat) (rows : List (List ByteArray)) (xs : List Value) (l2 : List UInt8) (b2 : Bool) (AV : Value), vi = .int .u64 k ∧ AV = va ∧ k ≤ n ∧ rows.length = k ∧ RowsG w.heap.size wr AV rows xs ∧ RNs RRow l1 b1 rows l2 b2 ∧ Rd wr g l2 b2 ∧ Chg g w wr) (fun vi _ _ => n - (intOf vi).toNat)
  case atStart => exact ⟨0, [], [], l1, b1, _, rfl, rfl, Nat.zero_le _, rfl, RowsG.nil _ _, .nil, HRD1.out, HC1.out⟩
  case round =>
    obtain ⟨k, rows, xs, l2, b2, AV, rfl, rfl, hk, hkl, hrg, hrn, hrd, hchg⟩ := hrel
    have HRG := Lib.hid hrg
    have HRN := Lib.hid hrn
    have HRD := Lib.hid hrd
    have HCH := Lib.hid hchg
    have HKL := Lib.hid hkl
    by_cases hlt : k < n
    · have HU2 := Lib.hid (uint_rd 64 g l2 b2 wr hrd)
      clear hrg hrn hrd hchg hkl
      go_wp2_with fail
      refine HU2.out.mono ?_
      rintro e w2 ⟨m, l3, b3, rfl, hru, hrd, hon⟩
      have hm64 := hru.le
      have HRU2 := Lib.hid hru
      have HRD2 := Lib.hid hrd
      have HC2 := Lib.hid (HCH.out.trans hon.chg)
      have HRG2 := Lib.hid (HRG.out.chg hon.chg hg)
      have hs2 : w.heap.size ≤ w2.heap.size := HC2.out.size
      have hg2 : g < w2.heap.size := hrd.lt
      have HS2 := Lib.hid hs2
      clear hru hrd hon HU2 HRG hs2
      go_wp2_with fail
      go_loopw [11, 4] (fun vj vr wq => ∃ (j : Nat) (row : List ByteArray) (l4 : List UInt8) (b4 : Bool) (RV : Value), vj = .int .u64 j ∧ RV = vr ∧ j ≤ m ∧ row.length = j ∧ Rk 1 (fun q => w2.heap.size ≤ q) wq RV row.length (strs row) ∧ RNs RW l3 b3 row l4 b4 ∧ Rd wq g l4 b4 ∧ Chg g w2 wq) (fun vj _ _ => m - (intOf vj).toNat)
      case atStart => exact ⟨0, [], l3, b3, _, rfl, rfl, Nat.zero_le _, rfl, Rk.nil _ _ _, .nil, HRD2.out, Chg.refl _ _⟩
      case round =>
        obtain ⟨j, row, l4, b4, RV, rfl, rfl, hj, hjl, hrk, hrn4, hrd4, hch4⟩ := hrel
        have HRK := Lib.hid hrk
        have HRN4 := Lib.hid hrn4
        have HCH4 := Lib.hid hch4
        have HJL := Lib.hid hjl
        by_cases hltj : j < m
        · have HT := Lib.hid (text_rd 1024 g (by omega) l4 b4 wr hrd4 1024 rfl)
          clear hrk hrn4 hrd4 hch4 hjl
          go_wp2_with fail
          refine HT.out.mono ?_
          rintro e w3 ⟨s, l5, b5, rfl, hrt, hrd5, hon5⟩
          have HRT := Lib.hid hrt
          have HRD5 := Lib.hid hrd5
          have HC5 := Lib.hid (HCH4.out.trans hon5.chg)
          have hrk5 : Rk 1 (fun q => w2.heap.size ≤ q) w3 RV row.length (strs row) := HRK.out.carry hon5.chg.size fun q hq _ _ => hon5.block q (by omega)
          have HRK5 := Lib.hid hrk5
          have hs3 : w2.heap.size ≤ w3.heap.size := HC5.out.size
          have hrl : row.length ≤ 64 := by rw [HJL.out]; omega
          clear hrt hrd5 hon5 hrk5 HT
          go_wp2_with (at_builtin; refine wpList_append_rk ES _ rfl _ _ 60 rfl (G := fun q => w2.heap.size ≤ q) rfl (HRK5.out.alloc _) ?c1 (.slice (some ⟨w3.heap.size, 0, none⟩) 1 1) 1 [.string s] rfl (src_str w3 s) ?c3 ?c4 ?_)
          case c1 => intro q hq; simp at hq; omega
          case c3 => omega
          case c4 => omega
          intro v' w4 hown hbel
          have hat : ∀ b, At RV b → w2.heap.size ≤ b := fun b hb => (HRK5.out.at hb).1
          have hc6 : Chg g w2 w4 := chg_keep (HC5.out.trans (Chg.alloc g w3 _)) hbel hat
          have hrd6 : Rd w4 g l5 b5 := (HRD5.out.alloc _).carry (hbel.block g (by simp; have := HRD5.out.lt; omega) fun ha => by have := hat g ha; omega)
          have hrk6 : Rk 1 (fun q => w2.heap.size ≤ q) w4 v' (row ++ [s]).length (strs (row ++ [s])) := by
            rw [strs_snoc, List.length_append, List.length_singleton]
            exact hown.mono fun q hq _ => hq.1
          have HC6 := Lib.hid hc6
          have HRD6 := Lib.hid hrd6
          have HRK6 := Lib.hid hrk6
          clear hown hbel hat hc6 hrd6 hrk6 hs3 hrl
          go_wp2_with fail
          go_roundw
          case rel => exact ⟨j + 1, row ++ [s], l5, b5, _, by go_num, rfl, by omega, by rw [List.length_append, HJL.out]; rfl, HRK6.out, .snoc HRN4.out HRT.out, HRD6.out, HC6.out⟩
          case measure => simp [intOf]; omega
        · obtain rfl : j = m := by omega
          have HRD4 := Lib.hid hrd4
          have hc7 := HC2.out.trans hch4
          have HC7 := Lib.hid hc7
          have HRG7 := Lib.hid (HRG2.out.chg hch4 hg)
          have hatv : ∀ b, At AV b → b < w2.heap.size := fun b hb => (HRG2.out.1.at hb).2
          have hrk7 : Rk 1 (fun q => w.heap.size ≤ q ∧ ¬ At AV q) wr RV row.length (strs row) := hrk.mono fun q hq _ => ⟨Nat.le_trans HS2.out hq, fun ha => by have := hatv q ha; omega⟩
          have HRK7 := Lib.hid hrk7
          obtain ⟨x, y, hx⟩ := hrk.shape
          subst hx
          have hrl : rows.length ≤ 64 := by rw [HKL.out]; omega
          have HRL := Lib.hid (show row.length ≤ 64 by rw [HJL.out]; omega)
          have hsz : w.heap.size ≤ wr.heap.size := hc7.size
          clear hrk hrn4 hrd4 hch4 hjl hc7 hatv hrk7
          go_wp2_with (at_builtin; refine wpList_append_rk ER _ rfl _ _ 22 rfl (G := fun q => w.heap.size ≤ q) rfl (HRG7.out.1.alloc _) ?c1 (.slice (some ⟨wr.heap.size, 0, none⟩) 1 1) 1 [.slice x row.length y] rfl (src_row wr _ rfl) ?c3 ?c4 ?_)
          case c1 => intro q hq; simp at hq; omega
          case c3 => omega
          case c4 => omega
          intro v' w4 hown hbel
          have hat : ∀ b, At AV b → w.heap.size ≤ b := fun b hb => (HRG7.out.1.at hb).1
          have hc8 : Chg g w w4 := chg_keep (HC7.out.trans (Chg.alloc g wr _)) hbel hat
          have hrd8 : Rd w4 g l4 b4 := (HRD4.out.alloc _).carry (hbel.block g (by simp; have := HRD4.out.lt; omega) fun ha => by have := hat g ha; omega)
          have hrg8 := RowsG.snoc HRG7.out HRK7.out (by have := HRL.out; omega) rfl hown hbel
          have HC8 := Lib.hid hc8
          have HRD8 := Lib.hid hrd8
          have HRG8 := Lib.hid hrg8
          clear hown hbel hat hc8 hrd8 hrg8 hsz hrl
          go_wp2_with fail
          go_roundw
          case rel => exact ⟨k + 1, rows ++ [row], _, l4, b4, _, by go_num, rfl, by omega, by rw [List.length_append, HKL.out]; rfl, HRG8.out, .snoc HRN.out ⟨l3, b3, by rw [HJL.out]; exact HRU2.out, HRN4.out⟩, HRD8.out, HC8.out⟩
          case measure => simp [intOf]; omega
    · obtain rfl : k = n := by omega
      have HTX := Lib.hid (hrg.kept (by rw [hkl]; omega))
      clear hrg hrn hrd hchg hkl
      go_wp2_with fail
      go_ret
      exact ⟨rows, _, l1, b1, l2, b2, rfl, by rw [HKL.out]; exact HRU.out, HRN.out, HRD.out, HCH.out, HTX.out⟩

set_option maxHeartbeats 4000000 in
set_option maxRecDepth 100000 in
theorem getMatchers_any (g : Nat) (l : List UInt8) (bad : Bool) (w : World) (h : Rd w g l bad) :
    Calls Tryd.prog 76 #[.pointer (some ⟨g, 0, none⟩)] w fun e w' => ∃ ms mv l1 b1 l' b', e = .returned mv ∧ RU 4 l bad ms.length l1 b1 ∧ RNs RMt l1 b1 ms l' b' ∧ Rd w' g l' b' ∧ Chg g w w' ∧ KeptT w.heap.size w' (fun W => MsAt W mv ms) := by
  obtain ⟨iM, zM, EM⟩ := elemM
  have hg := h.lt
  have HU := Lib.hid (uint_rd 4 g l bad w h)
  clear h
  go_enter Tryd.func76, Tryd.ntmps76
  go_wp2_with fail
  refine HU.out.mono ?_
  rintro e w1 ⟨n, l1, b1, rfl, hru, hrd, hon⟩
  have hn64 := hru.le
  have HRU := Lib.hid hru
  have HRD1 := Lib.hid hrd
  have HC1 := Lib.hid hon.chg
  clear hru hrd hon HU
  go_wp2_with fail
  go_loopw [7, 3] (fun vi va wr => ∃ (k : Nat) (ms : List Mt) (l2 : List UInt8) (b2 : Bool) (AV : Value), vi = .int .u64 k ∧ AV = va ∧ k ≤ n ∧ ms.length = k ∧ Rk 3 (fun q => w.heap.size ≤ q) wr AV ms.length (flatM ms) ∧ RNs RMt l1 b1 ms l2 b2 ∧ Rd wr g l2 b2 ∧ Chg g w wr) (fun vi _ _ => n - (intOf vi).toNat)
  case atStart => exact ⟨0, [], l1, b1, _, rfl, rfl, Nat.zero_le _, rfl, Rk.nil _ _ _, .nil, HRD1.out, HC1.out⟩
  case round =>
    obtain ⟨k, ms, l2, b2, AV, rfl, rfl, hk, hkl, hrg, hrn, hrd, hchg⟩ := hrel
    have HRG := Lib.hid hrg
    have HRN := Lib.hid hrn
    have HRD := Lib.hid hrd
    have HCH := Lib.hid hchg
    have HKL := Lib.hid hkl
    by_cases hlt : k < n
    · have hsz := hchg.size
      obtain ⟨wx, hwx⟩ : ∃ wx, wx = wr.alloc (.cells #[.string ⟨#[]⟩, .bool false, .string ⟨#[]⟩] 62) := ⟨_, rfl⟩
      have hbx : Bl wx wr.heap.size 62 #[.string ⟨#[]⟩, .bool false, .string ⟨#[]⟩] := by rw [hwx]; exact Bl.new wr 62 _
      have hrkx : Rk 3 (fun q => w.heap.size ≤ q) wx AV ms.length (flatM ms) := by rw [hwx]; exact hrg.alloc _
      have hcx : Chg g w wx := by rw [hwx]; exact hchg.trans (Chg.alloc g wr _)
      have hrdx : Rd wx g l2 b2 := by rw [hwx]; exact hrd.alloc _
      have hatx : ¬ At AV wr.heap.size := fun ha => by have := (hrg.at ha).2; omega
      have HX := Lib.hid hwx.symm
      have HT := Lib.hid (text_rd 20 g (by omega) l2 b2 wx hrdx 20 rfl)
      obtain ⟨B, hB⟩ : ∃ B, B = wr.heap.size := ⟨_, rfl⟩
      have hwB : w.heap.size ≤ B := by rw [hB]; exact hsz
      have hgB : g ≠ B := by omega
      rw [← hB] at hbx hatx
      have HBX := Lib.hid hbx
      have HRKX := Lib.hid hrkx
      have HCX := Lib.hid hcx
      have HATX := Lib.hid hatx
      have HB := Lib.hid hB.symm
      clear hrg hrn hrd hchg hkl hwx hbx hrkx hcx hrdx hatx hB hsz
      go_upto_region 5 with fail
      rw [HX.out, HB.out]
      go_wp2_with fail
      refine HT.out.mono ?_
      rintro e w2 ⟨s1, l3, b3, rfl, hrt, hrd, hon⟩
      have HRT1 := Lib.hid hrt
      have hb2 := HBX.out.only hon (Ne.symm hgB)
      have c0 := hb2.cell 0
      have z0 := hb2.frozen 0
      simp only [List.getElem?_toArray, List.getElem?_cons_zero] at c0
      have hb3 := hb2.set 0 (.string s1)
      simp only [List.setIfInBounds_toArray, List.set_cons_zero] at hb3
      have hrd3 : Rd (w2.setCell ⟨B, 0, none⟩ (.string s1)) g l3 b3 := hrd.carry (Below.heap_setCell _ _ _ _ (by exact hgB))
      have hc3 : Chg g w (w2.setCell ⟨B, 0, none⟩ (.string s1)) := chg_set (HCX.out.trans hon.chg) hwB 0 _
      have hrk3 : Rk 3 (fun q => w.heap.size ≤ q) (w2.setCell ⟨B, 0, none⟩ (.string s1)) AV ms.length (flatM ms) := HRKX.out.carry (by have := hon.chg.size; simpa [World.setCell] using this) fun q hq ha _ => (Below.heap_setCell _ _ _ _ (fun e => HATX.out (by rw [show B = q from e.symm]; exact ha))).trans (hon.block q (by omega))
      have HB3 := Lib.hid hb3
      have HRD3 := Lib.hid hrd3
      have HC3 := Lib.hid hc3
      have HRK3 := Lib.hid hrk3
      clear hrt hrd hon hb2 hb3 hrd3 hc3 hrk3 HT HBX HRKX HCX
      go_upto_region 6 with fail
      generalize w2.setCell ⟨B, 0, none⟩ (.string s1) = w3 at HB3 HRD3 HC3 HRK3 ⊢
      clear c0 z0
      have HT2 := Lib.hid (bool_rd g l3 b3 w3 HRD3.out)
      go_wp2_with fail
      refine HT2.out.mono ?_
      rintro e w4 ⟨n4, l4, b4, rfl, hrt, hrd, hon⟩
      have HRT2 := Lib.hid hrt
      obtain ⟨nt, hnt⟩ : ∃ t, t = decide (n4 = 1) := ⟨_, rfl⟩
      rw [← hnt]
      have HNT := Lib.hid hnt
      have hb4 := HB3.out.only hon (Ne.symm hgB)
      have c1 := hb4.cell 1
      have z1 := hb4.frozen 1
      simp only [List.getElem?_toArray, List.getElem?_cons_succ, List.getElem?_cons_zero] at c1
      have hb5 := hb4.set 1 (.bool nt)
      simp only [List.setIfInBounds_toArray, List.set_cons_succ, List.set_cons_zero] at hb5
      have hrd5 : Rd (w4.setCell ⟨B, 1, none⟩ (.bool nt)) g l4 b4 := hrd.carry (Below.heap_setCell _ _ _ _ (by exact hgB))
      have hc5 : Chg g w (w4.setCell ⟨B, 1, none⟩ (.bool nt)) := chg_set (HC3.out.trans hon.chg) hwB 1 _
      have hrk5 : Rk 3 (fun q => w.heap.size ≤ q) (w4.setCell ⟨B, 1, none⟩ (.bool nt)) AV ms.length (flatM ms) := HRK3.out.carry (by have := hon.chg.size; simpa [World.setCell] using this) fun q hq ha _ => (Below.heap_setCell _ _ _ _ (fun e => HATX.out (by rw [show B = q from e.symm]; exact ha))).trans (hon.block q (by omega))
      have HB5 := Lib.hid hb5
      have HRD5 := Lib.hid hrd5
      have HC5 := Lib.hid hc5
      have HRK5 := Lib.hid hrk5
      clear hrt hrd hon hb4 hb5 hrd5 hc5 hrk5 hnt HT2 HB3 HRD3 HC3 HRK3
      go_upto_region 7 with fail
      generalize w4.setCell ⟨B, 1, none⟩ (.bool nt) = w5 at HB5 HRD5 HC5 HRK5 ⊢
      clear c1 z1
      have HT3 := Lib.hid (text_rd 1024 g (by omega) l4 b4 w5 HRD5.out 1024 rfl)
      go_wp2_with fail
      refine HT3.out.mono ?_
      rintro e w6 ⟨s3, l6, b6, rfl, hrt, hrd, hon⟩
      have HRT3 := Lib.hid hrt
      have hb6 := HB5.out.only hon (Ne.symm hgB)
      have c2 := hb6.cell 2
      have z2 := hb6.frozen 2
      simp only [List.getElem?_toArray, List.getElem?_cons_succ, List.getElem?_cons_zero] at c2
      have hb7 := hb6.set 2 (.string s3)
      simp only [List.setIfInBounds_toArray, List.set_cons_succ, List.set_cons_zero] at hb7
      have hrd7 : Rd (w6.setCell ⟨B, 2, none⟩ (.string s3)) g l6 b6 := hrd.carry (Below.heap_setCell _ _ _ _ (by exact hgB))
      have hc7 : Chg g w (w6.setCell ⟨B, 2, none⟩ (.string s3)) := chg_set (HC5.out.trans hon.chg) hwB 2 _
      have hrk7 : Rk 3 (fun q => w.heap.size ≤ q) (w6.setCell ⟨B, 2, none⟩ (.string s3)) AV ms.length (flatM ms) := HRK5.out.carry (by have := hon.chg.size; simpa [World.setCell] using this) fun q hq ha _ => (Below.heap_setCell _ _ _ _ (fun e => HATX.out (by rw [show B = q from e.symm]; exact ha))).trans (hon.block q (by omega))
      have HB7 := Lib.hid hb7
      have HRD7 := Lib.hid hrd7
      have HC7 := Lib.hid hc7
      have HRK7 := Lib.hid hrk7
      clear hrt hrd hon hb6 hb7 hrd7 hc7 hrk7 HT3 HB5 HRD5 HC5 HRK5
      go_upto_region 8 with fail
      generalize w6.setCell ⟨B, 2, none⟩ (.string s3) = w7 at HB7 HRD7 HC7 HRK7 ⊢
      clear c2 z2
      have c0 := HB7.out.cell 0
      have c1 := HB7.out.cell 1
      have c2 := HB7.out.cell 2
      simp only [List.getElem?_toArray, List.getElem?_cons_succ, List.getElem?_cons_zero] at c0 c1 c2
      have hsz7 : w.heap.size ≤ w7.heap.size := HC7.out.size
      have hml : ms.length ≤ 4 := by rw [HKL.out]; omega
      go_wp2_with (at_builtin; refine wpList_append_rk EM _ rfl _ _ 23 rfl (G := fun q => w.heap.size ≤ q) rfl (HRK7.out.alloc _) ?c1 (.slice (some ⟨w7.heap.size, 0, none⟩) 1 1) 1 [.string s1, .bool nt, .string s3] rfl (src_mat w7 ⟨s1, nt, s3⟩) ?c3 ?c4 ?_)
      case c1 => intro q hq; simp at hq; omega
      case c3 => omega
      case c4 => omega
      intro v' w8 hown hbel
      have hat : ∀ b, At AV b → w.heap.size ≤ b := fun b hb => (HRK7.out.at hb).1
      have hc8 : Chg g w w8 := chg_keep (HC7.out.trans (Chg.alloc g w7 _)) hbel hat
      have hrd8 : Rd w8 g l6 b6 := (HRD7.out.alloc _).carry (hbel.block g (by simp; have := HRD7.out.lt; omega) fun ha => by have := hat g ha; omega)
      have hrk8 : Rk 3 (fun q => w.heap.size ≤ q) w8 v' (ms ++ [(⟨s1, nt, s3⟩ : Mt)]).length (flatM (ms ++ [(⟨s1, nt, s3⟩ : Mt)])) := by
        rw [flatM_snoc, List.length_append, List.length_singleton]
        exact hown.mono fun q hq _ => hq.1
      have HC8 := Lib.hid hc8
      have HRD8 := Lib.hid hrd8
      have HRK8 := Lib.hid hrk8
      clear hown hbel hat hc8 hrd8 hrk8 hsz7 hml c0 c1 c2
      go_wp2_with fail
      go_roundw
      case rel => exact ⟨k + 1, ms ++ [⟨s1, nt, s3⟩], l6, b6, _, by go_num, rfl, by omega, by rw [List.length_append, HKL.out]; rfl, HRK8.out, .snoc HRN.out ⟨l3, b3, n4, l4, b4, HRT1.out, HRT2.out, HNT.out, HRT3.out⟩, HRD8.out, HC8.out⟩
      case measure => simp [intOf]; omega
    · obtain rfl : k = n := by omega
      have HTX : Hid (KeptT w.heap.size wr (fun W => MsAt W AV ms)) := Lib.hid fun W' hs hb => ms_of_rk (hrg.carry hs fun k hB _ hlt => hb k hB hlt) (by rw [hkl]; omega)
      clear hrg hrn hrd hchg hkl
      go_wp2_with fail
      go_ret
      exact ⟨ms, _, l1, b1, l2, b2, rfl, by rw [HKL.out]; exact HRU.out, HRN.out, HRD.out, HCH.out, HTX.out⟩

end Go.Proofs.YtaghogfkkmphoaaDoor.E4
