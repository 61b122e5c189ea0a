/-
  Nb, Ma13, Ak12, Hq12.
-/
import Derived.Test.YtoobjjpheegmdaaGreatJ03
import Derived.Test.YtoobjjpheegmdaaGreatJ08
import Derived.Test.YtoobjjpheegmdaaGreatJ02
import Derived.Orders
import Derived.WalkKit
import Derived.Laws.Cover1
import Derived.Deep.QuietTactic
import Derived.BigQuiet
import Derived.Deep.RegionWith
import Derived.Outline
import Derived.Test.YtoobjjpheegmdaaGreatJ01
import Derived.Maps.OwnSet
import Derived.Test.YtoobjjpheegmdaaGreatJ06
namespace Go.Proofs.YtoobjjpheegmdaaGreat.E4
open Go.RowKit Go
def labOK (ls : List Lab) (i : Nat) : Bool :=
  MW.name (ls.getD i noLab).n.data.toList && decide ((ls.getD i noLab).v.size ≤ 20) && (i == 0 || decide (strC (ls.getD (i - 1) noLab).n (ls.getD i noLab).n = -1))
def labsOK (ls : List Lab) : Bool := decide (ls.length ≤ 4) && (List.range ls.length).all (labOK ls)
def timeOK (n : Int) : Bool := decide (-1099511627776 ≤ n) && decide (n ≤ 1099511627776)
def lineOK (s : ByteArray) : Bool := decide (s.size ≤ 200) && s.data.toList.all (· != 10)
def Ent.ok (e : Ent) : Bool := timeOK e.tm && labsOK e.labs && lineOK e.line
theorem labsOK_no {ls : List Lab} {k : Nat} (hk : k < ls.length) (h : labOK ls k = false) : labsOK ls = false := by
  unfold labsOK
  have : (List.range ls.length).all (labOK ls) = false := by
    rw [Bool.eq_false_iff]
    intro h'
    have := List.all_eq_true.1 h' k (List.mem_range.2 hk)
    rw [h] at this
    cases this
  rw [this, Bool.and_false]
theorem labsOK_yes {ls : List Lab} (h4 : ls.length ≤ 4) (h : ∀ j, j < ls.length → labOK ls j = true) : labsOK ls = true := by
  unfold labsOK
  rw [decide_eq_true h4, Bool.true_and]
  exact List.all_eq_true.2 fun j hj => h j (List.mem_range.1 hj)
theorem labsOK_many {ls : List Lab} (h4 : ¬ ls.length ≤ 4) : labsOK ls = false := by
  unfold labsOK
  rw [decide_eq_false h4]
  rfl
set_option maxHeartbeats 1000000 in
theorem time_any (n : Int) (w : World) : Calls Tryz.prog 33 #[.int .i64 n] w fun e w' => e = .returned (.bool (timeOK n)) ∧ w' = w := by
  unfold timeOK
  by_cases h1 : -1099511627776 ≤ n
  · by_cases h2 : n ≤ 1099511627776
    · have d1 : decide (-1099511627776 ≤ n) = true := by simpa using h1
      have d2 : decide (n ≤ 1099511627776) = true := by simpa using h2
      go_enter Tryz.func33, Tryz.ntmps33
      go_wp2
      go_ret
      exact ⟨by simp [h1, h2], rfl⟩
    · have d1 : decide (-1099511627776 ≤ n) = true := by simpa using h1
      have d2 : decide (n ≤ 1099511627776) = false := by simpa using h2
      go_enter Tryz.func33, Tryz.ntmps33
      go_wp2
      go_ret
      exact ⟨by first | (simp; done) | (simp; omega), rfl⟩
  · have d1 : decide (-1099511627776 ≤ n) = false := by simpa using h1
    go_enter Tryz.func33, Tryz.ntmps33
    go_wp2
    go_ret
    exact ⟨by first | (simp; done) | (simp; omega), rfl⟩
set_option maxHeartbeats 4000000 in
set_option maxRecDepth 100000 in
theorem goodLabels_any {G : Nat → Prop} {w : World} {v : Value} {ls : List Lab} (h : LabsAt G w v ls) :
    Calls Tryz.prog 34 #[v] w fun e w' => e = .returned (.bool (labsOK ls)) ∧ Lay w w' := by
  obtain ⟨a, ca, rfl, hl63, ha⟩ := h
  have HA := Lib.hid ha
  clear ha
  by_cases h4 : ls.length ≤ 4
  · have d4 : decide (4 < (ls.length : Int)) = false := by simp; omega
    go_enter Tryz.func34, Tryz.ntmps34
    go_wp2_with fail
    clear d4
    go_loopw [10] (fun vi wr => ∃ k : Nat, vi = .int .i64 k ∧ k ≤ ls.length ∧ Lay w wr ∧ ∀ j, j < k → labOK ls j = true) (fun vi _ => ls.length - (intOf vi).toNat)
    case atStart => exact ⟨0, rfl, Nat.zero_le _, Keep.refl _ _, fun j hj => by omega⟩
    case round =>
      obtain ⟨k, rfl, hk, hl, hz⟩ := hrel
      have HZ := Lib.hid hz
      have HL := Lib.hid hl
      clear hz
      by_cases hlt : k < ls.length
      · rcases HA.out with h0 | ⟨bx, ox, rfl, hgx, hbx, hcx⟩
        · exact absurd hlt (by rw [h0]; simp)
        obtain ⟨x0, x1⟩ := hcx k hlt
        have g0 := (hl.cell hbx).trans x0
        have g1 := (hl.cell hbx).trans x1
        have hbw : bx < wr.heap.size := Nat.lt_of_lt_of_le hbx hl.size
        have hx : ls.getD k noLab = ls[k] := by simp [List.getD, hlt]
        generalize ls[k] = x at g0 g1 hx x0 x1
        have hpre : ∀ w' : World, Lay w w' → 0 < k → w'.cell? ⟨bx, ox + (k - 1) * 2, none⟩ = some (.string (ls.getD (k - 1) noLab).n) := fun w' hl' h0 => by
          have := (hcx (k - 1) (by omega)).1
          rw [show (ls.getD (k - 1) noLab) = ls[k - 1] from by simp [List.getD, show k - 1 < ls.length by omega]]
          exact (hl'.cell hbx).trans this
        have HPRE := Lib.hid hpre
        have HX := Lib.hid hx
        clear hcx hx hl x0 x1 hpre
        go_wp2_with fail
        refine (name_any x.n _).mono ?_
        rintro e w' ⟨rfl, hl2⟩
        have b0 : w'.cell? ⟨wr.heap.size, 0, none⟩ = some (.string x.n) := (Lay.cell hl2 (by simp)).trans (by go_simp)
        have b1 : w'.cell? ⟨wr.heap.size, 1, none⟩ = some (.string x.v) := (Lay.cell hl2 (by simp)).trans (by go_simp)
        have HL2 := Lib.hid (Keep.trans (HL.out.alloc _) hl2)
        have HOK : Hid (labOK ls k = (MW.name x.n.data.toList && decide (x.v.size ≤ 20) && (k == 0 || decide (strC (ls.getD (k - 1) noLab).n x.n = -1)))) := Lib.hid (by unfold labOK; rw [HX.out])
        clear hl2 g0 g1
        cases hnm : MW.name x.n.data.toList with
        | false =>
          have HO := HOK.out
          rw [hnm] at HO
          have HR := Lib.hid (labsOK_no hlt (HO.trans rfl))
          clear HO hnm
          go_wp2_with fail
          go_ret
          exact ⟨by rw [HR.out]; rfl, HL2.out⟩
        | true =>
          have HN := Lib.hid hnm
          clear hnm
          by_cases hv : x.v.size ≤ 20
          · have HV := Lib.hid hv
            have d20 : decide (20 < (x.v.size : Int)) = false := by simp; omega
            clear hv
            by_cases hk0 : k = 0
            · subst hk0
              have HO := HOK.out
              rw [HN.out, decide_eq_true HV.out] at HO
              have HR := Lib.hid (HO.trans rfl)
              clear HO
              go_wp2_with fail
              go_quiet (fail)
              go_wp2_with fail
              go_roundw
              case rel => exact ⟨1, by go_num, by omega, HL2.out.drewN _, fun j hj => by obtain rfl : j = 0 := by omega
                                                                                         exact HR.out⟩
              case measure => simp [intOf]; omega
            · have p0 := HPRE.out w' HL2.out (by omega)
              have kk : ((k : Int) - 1).toNat = k - 1 := by omega
              have dk : decide (0 < k) = true := by simp; omega
              have hbw' : bx < w'.heap.size := Nat.lt_of_lt_of_le hbx HL2.out.size
              generalize (ls.getD (k - 1) noLab).n = y at p0 HOK
              by_cases hc : strC y x.n = -1
              · have hbl : Op.bytesLess y.toList x.n.toList = true := by rw [less_strC]; exact decide_eq_true hc
                have HO := HOK.out
                rw [HN.out, decide_eq_true HV.out, decide_eq_true hc] at HO
                have HR : Hid (labOK ls k = true) := Lib.hid (HO.trans (by simp))
                clear HO hc
                go_wp2_with fail
                go_quiet (fail)
                go_wp2_with fail
                go_roundw
                case rel =>
                  refine ⟨k + 1, by go_num, by omega, HL2.out.drewN _, fun j hj => ?_⟩
                  by_cases e : j = k
                  · rw [e]; exact HR.out
                  · exact HZ.out j (by omega)
                case measure => simp [intOf]; omega
              · have hbl : Op.bytesLess y.toList x.n.toList = false := by rw [less_strC]; exact decide_eq_false hc
                have hkz : (k == 0) = false := by simpa using hk0
                have HO := HOK.out
                rw [HN.out, decide_eq_true HV.out, decide_eq_false hc, hkz] at HO
                have HR := Lib.hid (labsOK_no hlt (HO.trans rfl))
                clear HO hc hkz
                go_wp2_with fail
                go_quiet (fail)
                go_wp2_with fail
                go_ret
                exact ⟨by rw [HR.out]; rfl, HL2.out.drewN _⟩
          · have d20 : decide (20 < (x.v.size : Int)) = true := by simp; omega
            have HO := HOK.out
            rw [HN.out, decide_eq_false hv] at HO
            have HR := Lib.hid (labsOK_no hlt (HO.trans rfl))
            clear HO hv
            go_wp2_with fail
            go_ret
            exact ⟨by rw [HR.out]; rfl, HL2.out⟩
      · obtain rfl : k = ls.length := by omega
        have HR := Lib.hid (labsOK_yes h4 HZ.out)
        go_wp2_with fail
        go_ret
        exact ⟨by rw [HR.out]; rfl, HL.out⟩
  · have d4 : decide (4 < (ls.length : Int)) = true := by simp; omega
    have HR := Lib.hid (labsOK_many h4)
    go_enter Tryz.func34, Tryz.ntmps34
    go_wp2_with fail
    go_ret
    exact ⟨by rw [HR.out]; rfl, Keep.refl _ _⟩
theorem indexByte_lo (c : UInt8) : ∀ l : List UInt8, -1 ≤ Lib.indexByte l c
  | [] => by simp [Lib.indexByte]
  | a :: r => by
    have := indexByte_lo c r
    unfold Lib.indexByte
    repeat' split
    all_goals omega
theorem indexByte_any (c : UInt8) : ∀ l : List UInt8, decide (0 ≤ Lib.indexByte l c) = !l.all (· != c)
  | [] => by simp [Lib.indexByte]
  | a :: r => by
    have h := indexByte_any c r
    have hl := indexByte_lo c r
    rw [List.all_cons]
    by_cases e : a = c
    · subst e
      simp [Lib.indexByte]
    · have e' : (a != c) = true := by simp [e]
      rw [e', Bool.true_and, ← h]
      rw [Bool.eq_iff_iff]
      simp [Lib.indexByte, e]
      try (split <;> omega)
set_option maxHeartbeats 4000000 in
set_option maxRecDepth 100000 in
theorem good_any {G : Nat → Prop} {w : World} {e : Ent} {lv : Value} (h : LabsAt G w lv e.labs) :
    Calls Tryz.prog 24 #[e.val lv] w fun x w' => x = .returned (.bool e.ok) ∧ Lay w w' := by
  obtain ⟨a, ca, rfl, _⟩ := id h
  obtain ⟨tm, labs, line⟩ := e
  have hB : LabsAt G (w.alloc (.cells #[.int .i64 tm, .slice a labs.length ca, .string line] 32)) (.slice a labs.length ca) labs := h.alloc _
  have HB := Lib.hid hB
  have HL : Hid (Lay w (w.alloc (.cells #[.int .i64 tm, .slice a labs.length ca, .string line] 32))) := Lib.hid ((Keep.refl _ _).alloc _)
  have hOK : Ent.ok ⟨tm, labs, line⟩ = (timeOK tm && labsOK labs && lineOK line) := rfl
  have HOK := Lib.hid hOK
  unfold Ent.val
  clear h hB hOK
  cases ht : timeOK tm with
  | false =>
    have HO := HOK.out
    rw [ht, Bool.false_and, Bool.false_and] at HO
    have HR := Lib.hid HO
    have HT := Lib.hid ht
    clear HO ht
    go_enter Tryz.func24, Tryz.ntmps24
    go_wp2_with (first | (go_at_call 33; refine (time_any tm _).mono ?_; rw [HT.out]; rintro e w' ⟨rfl, rfl⟩))
    go_ret
    exact ⟨by rw [HR.out]; rfl, HL.out⟩
  | true =>
    have HO := HOK.out
    rw [ht, Bool.true_and] at HO
    have HOK := Lib.hid HO
    have HT := Lib.hid ht
    clear HO ht
    cases hls : labsOK labs with
    | false =>
      have HO := HOK.out
      rw [hls, Bool.false_and] at HO
      have HR := Lib.hid HO
      have HS := Lib.hid hls
      clear HO hls
      go_enter Tryz.func24, Tryz.ntmps24
      go_wp2_with (first | (go_at_call 33; refine (time_any tm _).mono ?_; rw [HT.out]; rintro e w' ⟨rfl, rfl⟩) | (go_at_call 34; refine (goodLabels_any HB.out).mono ?_; rw [HS.out]; rintro e w2 ⟨rfl, hl2⟩))
      go_ret
      exact ⟨by rw [HR.out]; rfl, Keep.trans HL.out hl2⟩
    | true =>
      have HO := HOK.out
      rw [hls, Bool.true_and] at HO
      have HOK := Lib.hid HO
      have HS := Lib.hid hls
      clear HO hls
      by_cases h200 : line.size ≤ 200
      · have HO := HOK.out
        unfold lineOK at HO
        rw [decide_eq_true h200, Bool.true_and] at HO
        have HOK := Lib.hid HO
        have hC := fun w => Tryz.strings_Contains_one line 10 w
        have hCI := indexByte_any 10 line.data.toList
        have HCI := Lib.hid hCI
        have HC := Lib.hid hC
        have d200 : decide ((line.size : Int) ≤ 200) = true := by simp; omega
        clear HO hC hCI h200
        cases hall : line.data.toList.all (· != 10)
        all_goals
          rw [hall] at HCI HOK
          have HR := Lib.hid HOK.out
          clear hall
          go_enter Tryz.func24, Tryz.ntmps24
          go_wp2_with (first | (go_at_call 33; refine (time_any tm _).mono ?_; rw [HT.out]; rintro e w' ⟨rfl, rfl⟩) | (go_at_call 34; refine (goodLabels_any HB.out).mono ?_; rw [HS.out]; rintro e w2 ⟨rfl, hl2⟩; have k2 : w2.cell? ⟨w.heap.size, 2, none⟩ = some (.string line) := (Lay.cell hl2 (by simp)).trans (by go_simp)) | (go_at_call 35; refine (HC.out _).mono ?_; rw [HCI.out]; rintro e w' ⟨rfl, rfl⟩))
          go_ret
          exact ⟨by rw [HR.out]; rfl, Keep.trans HL.out hl2⟩
      · have HO := HOK.out
        unfold lineOK at HO
        rw [decide_eq_false h200, Bool.false_and] at HO
        have HR := Lib.hid HO
        have d200 : decide ((line.size : Int) ≤ 200) = false := by simp; omega
        clear HO h200
        go_enter Tryz.func24, Tryz.ntmps24
        go_wp2_with (first | (go_at_call 33; refine (time_any tm _).mono ?_; rw [HT.out]; rintro e w' ⟨rfl, rfl⟩) | (go_at_call 34; refine (goodLabels_any HB.out).mono ?_; rw [HS.out]; rintro e w2 ⟨rfl, hl2⟩; have k2 : w2.cell? ⟨w.heap.size, 2, none⟩ = some (.string line) := (Lay.cell hl2 (by simp)).trans (by go_simp)))
        go_ret
        exact ⟨by rw [HR.out]; rfl, Keep.trans HL.out hl2⟩
end Go.Proofs.YtoobjjpheegmdaaGreat.E4
namespace Go.Proofs.YtoobjjpheegmdaaGreat.E4
open Go.RowKit Go
def labB (x : Lab) : List UInt8 := textB x.n.data.toList ++ textB x.v.data.toList
def labsF : List Lab → List UInt8
  | [] => []
  | x :: r => labB x ++ labsF r
def labsB (ls : List Lab) : List UInt8 := Lib.uvarint ls.length ++ labsF ls
def Ent.bytes (e : Ent) : List UInt8 := Lib.uvarint (Lib.zigzag e.tm) ++ labsB e.labs ++ textB e.line.data.toList
theorem labsF_append : ∀ l m : List Lab, labsF (l ++ m) = labsF l ++ labsF m
  | [], _ => rfl
  | x :: r, m => by simp only [List.cons_append, labsF, labsF_append r m, List.append_assoc]
theorem textB_len (s : ByteArray) (h : s.size ≤ 100000) : (textB s.data.toList).length ≤ s.size + 10 := by
  have hs : s.data.toList.length = s.size := (Lib.size_eq s).symm
  have := Lib.uvarint_length64 (x := s.data.toList.length) (by omega)
  simp only [textB, List.length_append]
  omega
def LabsMod (ls : List Lab) : Prop := ls.length ≤ 1000 ∧ ∀ x ∈ ls, x.n.size ≤ 100000 ∧ x.v.size ≤ 100000
theorem labB_len {x : Lab} (h : x.n.size ≤ 100000 ∧ x.v.size ≤ 100000) : (labB x).length ≤ 200020 := by
  have a := textB_len x.n h.1
  have b := textB_len x.v h.2
  simp only [labB, List.length_append]
  omega
theorem labsF_len : ∀ ls : List Lab, (∀ x ∈ ls, x.n.size ≤ 100000 ∧ x.v.size ≤ 100000) → (labsF ls).length ≤ 200020 * ls.length
  | [], _ => by simp [labsF]
  | x :: r, h => by
    have a := labB_len (h x (by simp))
    have b := labsF_len r fun y hy => h y (by simp [hy])
    simp only [labsF, List.length_append, List.length_cons]
    omega
theorem take_snocL {ls : List Lab} {k : Nat} (h : k < ls.length) : labsF (ls.take (k + 1)) = labsF (ls.take k) ++ labB ls[k] := by
  rw [List.take_succ_eq_append_getElem h, labsF_append]
  simp [labsF]
set_option maxHeartbeats 4000000 in
set_option maxRecDepth 100000 in
theorem putLabels_any {G H : Nat → Prop} {w : World} {lv sv : Value} {ls : List Lab} {l : List UInt8} (hs : By H w sv l) (h : LabsAt G w lv ls) (hG : ∀ b, G b → b < w.heap.size → ¬ At sv b) (hm : LabsMod ls) (hl : l.length ≤ 1000000000) :
    Calls Tryz.prog 80 #[sv, lv] w (PutPost sv (l ++ labsB ls) w) := by
  obtain ⟨a, ca, rfl, hl63, ha⟩ := h
  have HA := Lib.hid ha
  have HM := Lib.hid hm
  have hn := hm.1
  have HU := Lib.hid (uint_put ls.length (by omega) sv l w hs (by omega))
  have hw64 : IntKind.u64.wrap ((ls.length : Nat) : Int) = (ls.length : Int) := by rw [IntKind.wrap_u64]; omega
  have hst : By (fun b => At sv b ∨ w.heap.size ≤ b) w sv l := hs.mono fun b _ ha => .inl ha
  clear ha hm hs
  go_enter Tryz.func80, Tryz.ntmps80
  go_wp2_with fail
  refine HU.out.mono ?_
  rintro e w1 ⟨v1, rfl, hs1, hb1⟩
  have HS1 := Lib.hid hs1
  clear hs1 HU hst
  go_wp2_with fail
  go_loopw [0, 14] (fun vb vi wr => ∃ k : Nat, vi = .int .i64 k ∧ k ≤ ls.length ∧ By (fun b => At sv b ∨ w.heap.size ≤ b) wr vb (l ++ Lib.uvarint ls.length ++ labsF (ls.take k)) ∧ Keep (At sv) w wr) (fun _ vi _ => ls.length - (intOf vi).toNat)
  case atStart => exact ⟨0, rfl, Nat.zero_le _, by simpa [labsF] using HS1.out, hb1⟩
  case round =>
    obtain ⟨k, rfl, hk, hbs, hbw⟩ := hrel
    have hul := Lib.uvarint_length64 (x := ls.length) (by omega)
    have hfl := labsF_len (ls.take k) (fun x hx => HM.out.2 x (List.mem_of_mem_take hx))
    rw [List.length_take] at hfl
    have hlen : (l ++ Lib.uvarint ls.length ++ labsF (ls.take k)).length ≤ 2000000000 := by
      simp only [List.length_append]
      omega
    have HLEN := Lib.hid hlen
    have HBS := Lib.hid hbs
    have HBW := Lib.hid hbw
    have hsz := hbw.size
    clear hul hfl hlen hbs hbw
    by_cases hlt : k < ls.length
    · rcases HA.out with h0 | ⟨bx, ox, rfl, hgx, hbx, hcx⟩
      · exact absurd hlt (by rw [h0]; simp)
      obtain ⟨x0, x1⟩ := hcx k hlt
      have hblk := HBW.out.block bx hbx (hG bx hgx hbx)
      have g0 := (World.cell?_of_block (a := ⟨bx, ox + k * 2, none⟩) hblk).trans x0
      have g1 := (World.cell?_of_block (a := ⟨bx, ox + k * 2 + 1, none⟩) hblk).trans x1
      have hbr : bx < wr.heap.size := by omega
      have hmx := HM.out.2 _ (List.getElem_mem hlt)
      have HTS := Lib.hid (take_snocL hlt)
      generalize ls[k] = x at g0 g1 x0 x1 hmx HTS
      have HT1 := Lib.hid (text_put x.n (by omega) _ _ _ (HBS.out.alloc (.cells #[.string x.n, .string x.v] 86)) (by have := HLEN.out; omega))
      have HMX := Lib.hid hmx
      have HAT := Lib.hid (fun b hb => (HBS.out.at (b := b) hb).2)
      clear hcx x0 x1 hmx hblk
      go_wp2_with fail
      refine HT1.out.mono ?_
      rintro e w2 hp2
      obtain ⟨v2, rfl, hs2, hk2⟩ := id hp2
      have hsa : (wr.alloc (.cells #[.string x.n, .string x.v] 86)).heap.size = wr.heap.size + 1 := by simp
      have k1 : w2.cell? ⟨wr.heap.size, 1, none⟩ = some (.string x.v) := (World.cell?_of_block (a := ⟨wr.heap.size, 1, none⟩) (hk2.block wr.heap.size (by omega) (fun ha => by have := HAT.out _ ha; omega))).trans (by go_simp)
      have hp2' := PutPost.then HBS.out HBW.out ((Keep.refl _ _).alloc _) hp2
      obtain ⟨_, he2, hs2', hk2'⟩ := hp2'
      cases he2
      have HS2 := Lib.hid hs2'
      have HK2 := Lib.hid hk2'
      have ht1 := textB_len x.n HMX.out.1
      have HT2 := Lib.hid (text_put x.v (by have := HMX.out.2; omega) _ _ _ hs2' (by have := HLEN.out; rw [List.length_append]; have := HMX.out.1; omega))
      clear hs2 hk2 hp2 hs2' hk2' HT1 hsa ht1
      go_wp2_with fail
      refine HT2.out.mono ?_
      rintro e w3 hp3
      obtain ⟨v3, he3, hs3, hk3⟩ := PutPost.then HS2.out HK2.out (Keep.refl _ _) hp3
      subst he3
      have HS3 := Lib.hid hs3
      have HK3 := Lib.hid hk3
      clear hs3 hk3 hp3 HT2
      go_wp2_with fail
      go_roundw
      case rel =>
        refine ⟨k + 1, by go_num, by omega, ?_, HK3.out⟩
        have := HS3.out
        rw [HTS.out]
        unfold labB
        simpa using this
      case measure => simp [intOf]; omega
    · obtain rfl : k = ls.length := by omega
      have := HBS.out
      rw [List.take_length, List.append_assoc] at this
      have HF := Lib.hid this
      clear this
      go_wp2_with fail
      go_ret
      exact ⟨_, rfl, HF.out, HBW.out⟩
structure Ent.Mod (e : Ent) : Prop where
  lo : -9223372036854775808 ≤ e.tm
  hi : e.tm ≤ 9223372036854775807
  labs : LabsMod e.labs
  line : e.line.size ≤ 100000
theorem labsB_len {ls : List Lab} (h : LabsMod ls) : (labsB ls).length ≤ 200020 * ls.length + 10 := by
  have a := labsF_len ls h.2
  have b := Lib.uvarint_length64 (x := ls.length) (by have := h.1; omega)
  simp only [labsB, List.length_append]
  omega
theorem PutPost.base {sv : Value} {l : List UInt8} {w wA w' : World} {e : Ending} (h : PutPost sv l wA e w') (k : Keep (At sv) w wA) : PutPost sv l w e w' := by
  obtain ⟨v', he, hb, hk⟩ := h
  refine ⟨v', he, hb.mono fun b hb _ => hb.imp id (fun h => Nat.le_trans k.size h), k.trans hk⟩
end Go.Proofs.YtoobjjpheegmdaaGreat.E4
namespace Go.Proofs.YtoobjjpheegmdaaGreat.E4
open Go.RowKit Go
theorem uv_inj {x y : Nat} (hx : x < 18446744073709551616) (hy : y < 18446744073709551616) {r s : List UInt8} (h : Lib.uvarint x ++ r = Lib.uvarint y ++ s) : x = y ∧ r = s := by
  obtain ⟨l0, c, e, hl, hlow⟩ := M.isNum_of x hx
  obtain ⟨m0, d, f, hm, hmow⟩ := M.isNum_of y hy
  rw [e, f, List.append_assoc, List.append_assoc] at h
  simp only [List.singleton_append] at h
  obtain ⟨rfl, rfl, rfl⟩ := M.parts_unique hl.cont hl.last hm.cont hm.last h
  exact ⟨hlow.symm.trans hmow, rfl⟩
theorem textB_inj {a b : List UInt8} (ha : a.length < 18446744073709551616) (hb : b.length < 18446744073709551616) {r s : List UInt8} (h : textB a ++ r = textB b ++ s) : a = b ∧ r = s := by
  unfold textB at h
  rw [List.append_assoc, List.append_assoc] at h
  obtain ⟨h1, h2⟩ := uv_inj ha hb h
  exact List.append_inj h2 h1
theorem data_inj {a b : ByteArray} (h : a.data.toList = b.data.toList) : a = b := toList_inj a b (by rw [Lib.toList_data, Lib.toList_data]; exact h)
theorem dlen (s : ByteArray) : s.data.toList.length = s.size := (Lib.size_eq s).symm
theorem labB_inj {x y : Lab} (hx : x.n.size ≤ 100000 ∧ x.v.size ≤ 100000) (hy : y.n.size ≤ 100000 ∧ y.v.size ≤ 100000) {r s : List UInt8} (h : labB x ++ r = labB y ++ s) : x = y ∧ r = s := by
  unfold labB at h
  rw [List.append_assoc, List.append_assoc] at h
  obtain ⟨h1, h2⟩ := textB_inj (by rw [dlen]; omega) (by rw [dlen]; omega) h
  obtain ⟨h3, h4⟩ := textB_inj (by rw [dlen]; omega) (by rw [dlen]; omega) h2
  obtain ⟨xn, xv⟩ := x
  obtain ⟨yn, yv⟩ := y
  have e1 : xn = yn := data_inj h1
  have e2 : xv = yv := data_inj h3
  subst e1 e2
  exact ⟨rfl, h4⟩
theorem labsF_inj : ∀ {l m : List Lab}, (∀ x ∈ l, x.n.size ≤ 100000 ∧ x.v.size ≤ 100000) → (∀ x ∈ m, x.n.size ≤ 100000 ∧ x.v.size ≤ 100000) → l.length = m.length → ∀ {r s : List UInt8}, labsF l ++ r = labsF m ++ s → l = m ∧ r = s
  | [], [], _, _, _, _, _, h => ⟨rfl, h⟩
  | [], _ :: _, _, _, h, _, _, _ => by simp at h
  | _ :: _, [], _, _, h, _, _, _ => by simp at h
  | a :: l, b :: m, ha, hb, hl, r, s, h => by
    simp only [labsF, List.append_assoc] at h
    obtain ⟨rfl, h2⟩ := labB_inj (ha a (by simp)) (hb b (by simp)) h
    obtain ⟨rfl, h3⟩ := labsF_inj (fun x hx => ha x (by simp [hx])) (fun x hx => hb x (by simp [hx])) (by simpa using hl) h2
    exact ⟨rfl, h3⟩
theorem labsB_inj {l m : List Lab} (hl : LabsMod l) (hm : LabsMod m) {r s : List UInt8} (h : labsB l ++ r = labsB m ++ s) : l = m ∧ r = s := by
  unfold labsB at h
  rw [List.append_assoc, List.append_assoc] at h
  have a := hl.1
  have b := hm.1
  obtain ⟨h1, h2⟩ := uv_inj (by omega) (by omega) h
  exact labsF_inj hl.2 hm.2 h1 h2
theorem mod_of {e : Ent} (hw : -9223372036854775808 ≤ e.tm ∧ e.tm ≤ 9223372036854775807) (hb : e.big = false) : e.Mod ∧ e.labs.length ≤ 20 ∧ e.line.size ≤ 1000 ∧ ∀ x ∈ e.labs, x.n.size ≤ 200 ∧ x.v.size ≤ 200 := by
  unfold Ent.big at hb
  simp only [Bool.or_eq_false_iff, decide_eq_false_iff_not] at hb
  obtain ⟨⟨h1, h2⟩, h3⟩ := hb
  have h4 : ∀ x ∈ e.labs, x.n.size ≤ 200 ∧ x.v.size ≤ 200 := fun x hx => by
    have := List.any_eq_false.1 h3 x hx
    unfold Lab.big at this
    simp at this
    exact this
  exact ⟨⟨hw.1, hw.2, ⟨by omega, fun x hx => by have := h4 x hx; omega⟩, by omega⟩, by omega, by omega, h4⟩
end Go.Proofs.YtoobjjpheegmdaaGreat.E4
namespace Go.Proofs.YtoobjjpheegmdaaGreat.E4
open Go.RowKit Go
end Go.Proofs.YtoobjjpheegmdaaGreat.E4
namespace Go.Proofs.YtoobjjpheegmdaaGreat.E4
open Go.RowKit Go Go.Maps
def heldR (v : Value) : Option (DataW Value × List MemPlace) := some (.held v, [])
def klit (s : ByteArray) : Lit := .string s.data.toList
theorem klit_ne {s t : ByteArray} (h : t ≠ s) : klit t ≠ klit s := fun e => h (by
  unfold klit at e
  injection e with e
  exact ByteArray.ext (Array.toList_inj.1 e))
def MapAt (P : Program) (k : TypeId) (w : World) (b n : Nat) (f : ByteArray → Option Value) : Prop :=
  ∃ D, w.ownsMap P k heldR b n D ∧ ∀ s, s.size ≤ maxLen → ∀ z, D.atKey (klit s) z = match f s with | some v => .held v | none => z
variable {P : Program} {k t e : TypeId} {w : World} {b n : Nat} {f : ByteArray → Option Value}
theorem MapAt.lt (h : MapAt P k w b n f) : b < w.heap.size := by
  obtain ⟨D, h, _⟩ := h
  exact h.lt
theorem MapAt.mono {m : Nat} (h : MapAt P k w b n f) (hm : n ≤ m) : MapAt P k w b m f := by
  obtain ⟨D, h, h2⟩ := h
  exact ⟨D, h.mono hm, h2⟩
theorem MapAt.carry {w' : World} (h : MapAt P k w b n f) (hb : w'.heap[b]? = w.heap[b]?) : MapAt P k w' b n f := by
  obtain ⟨D, ⟨es, clock, h0, h1⟩, h2⟩ := h
  exact ⟨D, ⟨es, clock, hb.trans h0, h1⟩, h2⟩
theorem MapAt.made (w : World) (P : Program) (k : TypeId) : MapAt P k (w.alloc (.map #[] 0)) w.heap.size 0 (fun _ => none) :=
  ⟨_, World.ownsMap_made w P k heldR, fun _ _ _ => rfl⟩
theorem held_has {D : DataW Value} (hD : ∀ s, s.size ≤ maxLen → ∀ z, D.atKey (klit s) z = match f s with | some v => .held v | none => z) {s : ByteArray} (hs : s.size ≤ maxLen) : Maps.has D (klit s) = (f s).isSome := by
  cases hf : f s with
  | none => exact has_false_of_atKey fun z => by rw [hD s hs z, hf]
  | some v => exact has_true_of_atKey (y := .held v) fun z => by rw [hD s hs z, hf]
theorem MapAt.look (h : MapAt P k w b n f) (hk : P.underlying k = some .string) (ht : P.underlying t = some (.map k e)) {z : Value} (hz : (zeroValue e).run P w = .ok z w) {s : ByteArray} (hs : s.size ≤ maxLen) :
    (Instr.lookup t (.map (some b)) (.string s) false).run P w = .ok ((f s).getD z) w := by
  obtain ⟨D, h1, h2⟩ := h
  obtain ⟨v, ps, hr, hv⟩ := h1.lookup (string_keyed hk) ht hz (zd := .held z) (zp := []) rfl (kl := klit s) (WideMaps.keyOf_string_mk hk hs)
  rw [h2 s hs] at hv
  rw [hr]
  unfold heldR at hv
  cases hf : f s with
  | none => rw [hf] at hv; simp at hv; rw [hv.1]; rfl
  | some u => rw [hf] at hv; simp at hv; rw [hv.1]; rfl
theorem MapAt.look_ok (h : MapAt P k w b n f) (hk : P.underlying k = some .string) (ht : P.underlying t = some (.map k e)) {z : Value} (hz : (zeroValue e).run P w = .ok z w) {s : ByteArray} (hs : s.size ≤ maxLen) :
    (Instr.lookup t (.map (some b)) (.string s) true).run P w = .ok (.tuple #[(f s).getD z, .bool (f s).isSome]) w := by
  obtain ⟨D, h1, h2⟩ := h
  obtain ⟨v, ps, hr, hv⟩ := h1.look_ok (string_keyed hk) ht hz (zd := .held z) (zp := []) rfl (kl := klit s) (WideMaps.keyOf_string_mk hk hs)
  rw [h2 s hs] at hv
  rw [hr, held_has h2 hs]
  unfold heldR at hv
  cases hf : f s with
  | none => rw [hf] at hv; simp at hv; rw [hv.1]; rfl
  | some u => rw [hf] at hv; simp at hv; rw [hv.1]; rfl
theorem keep_setBlock {w : World} {b : Nat} {es : Array MapEntry} {clock : Nat} {o : Obj} (h : w.heap[b]? = some (.map es clock)) : Keep (fun k => k = b) w (ChangeMaps.setBlock w b o) :=
  ⟨rfl, rfl, rfl, by simp [ChangeMaps.setBlock], Nat.le_refl _, fun _ _ hi => ChangeMaps.heap_setBlock_other h _ hi⟩
theorem MapAt.store (h : MapAt P k w b n f) (hk : P.underlying k = some .string) (ht : P.underlying t = some (.map k e)) (hn : n < maxLen) {s : ByteArray} (hs : s.size ≤ maxLen) (v : Value) :
    ∃ w', (Instr.mapUpdate t (.map (some b)) (.string s) v).run P w = .ok () w' ∧ MapAt P k w' b (n + 1) (fun x => if x = s then some v else f x) ∧ Keep (fun k => k = b) w w' := by
  obtain ⟨D, h1, h2⟩ := h
  obtain ⟨w', hr, h3, es, clock, es', clock', hb, rfl⟩ := h1.store (string_keyed hk) ht hn (kl := klit s) (WideMaps.keyOf_string_mk hk hs) (val := v) (d := .held v) (ps := []) rfl
  refine ⟨_, hr, ⟨_, h3, fun x hx z => ?_⟩, keep_setBlock hb⟩
  by_cases hxs : x = s
  · subst hxs
    show _ = match (if x = x then some v else f x) with | some v => DataW.held v | none => z
    rw [if_pos rfl, atKey_put_same h1.isMap (by unfold klit WideAt.IsKeyLit; trivial)]
  · show _ = match (if x = s then some v else f x) with | some v => DataW.held v | none => z
    rw [if_neg hxs, atKey_put_other (klit_ne hxs)]
    exact h2 x hx z
end Go.Proofs.YtoobjjpheegmdaaGreat.E4
namespace Go.Proofs.YtoobjjpheegmdaaGreat.E4
open Go.RowKit Go
def StrsAt (w : World) (v : Value) (l : List ByteArray) : Prop :=
  ∃ a cap, v = .slice a l.length cap ∧ l.length ≤ 9223372036854775807 ∧ (l = [] ∨ ∃ b off, a = some ⟨b, off, none⟩ ∧ b < w.heap.size ∧
    ∀ i (h : i < l.length), w.cell? ⟨b, off + i, none⟩ = some (.string l[i]))
def TextsAt (w : World) (v : Value) (ls : List (List ByteArray)) : Prop :=
  ∃ a cap, v = .slice a ls.length cap ∧ ls.length ≤ 9223372036854775807 ∧ (ls = [] ∨ ∃ b off, a = some ⟨b, off, none⟩ ∧ b < w.heap.size ∧
    ∀ i (h : i < ls.length), ∃ rv, w.cell? ⟨b, off + i, none⟩ = some rv ∧ StrsAt w rv ls[i])
theorem StrsAt.below {w w' : World} {v : Value} {l : List ByteArray} (h : StrsAt w v l) (hb : Below w.heap.size w w') : StrsAt w' v l := by
  obtain ⟨a, cap, hv, hn, h | ⟨b, off, ha, hlt, hc⟩⟩ := h
  · exact ⟨a, cap, hv, hn, .inl h⟩
  · exact ⟨a, cap, hv, hn, .inr ⟨b, off, ha, Nat.lt_of_lt_of_le hlt hb.size, fun i hi => (hb.cell hlt).trans (hc i hi)⟩⟩
theorem TextsAt.below {w w' : World} {v : Value} {ls : List (List ByteArray)} (h : TextsAt w v ls) (hb : Below w.heap.size w w') : TextsAt w' v ls := by
  obtain ⟨a, cap, hv, hn, h | ⟨b, off, ha, hlt, hc⟩⟩ := h
  · exact ⟨a, cap, hv, hn, .inl h⟩
  · refine ⟨a, cap, hv, hn, .inr ⟨b, off, ha, Nat.lt_of_lt_of_le hlt hb.size, fun i hi => ?_⟩⟩
    obtain ⟨rv, h0, h1⟩ := hc i hi
    exact ⟨rv, (hb.cell hlt).trans h0, h1.below hb⟩
theorem MsAt.below12 {w w' : World} {v : Value} {l : List Mt} (h : MsAt w v l) (hb : Below w.heap.size w w') : MsAt w' v l := by
  obtain ⟨a, cap, hv, hn, h | ⟨b, off, ha, hlt, hc⟩⟩ := h
  · exact ⟨a, cap, hv, hn, .inl h⟩
  · refine ⟨a, cap, hv, hn, .inr ⟨b, off, ha, Nat.lt_of_lt_of_le hlt hb.size, fun i hi => ?_⟩⟩
    obtain ⟨h0, h1, h2⟩ := hc i hi
    exact ⟨(hb.cell hlt).trans h0, (hb.cell hlt).trans h1, (hb.cell hlt).trans h2⟩
structure Ask where
  kd : Int
  src : Int
  til : Int
  all : List (List ByteArray)
  mat : List Mt
def Ask.cells (a : Ask) (av mv : Value) : Array Value := #[.int .i64 a.kd, .int .i64 a.src, .int .i64 a.til, av, mv]
def AskAt (w : World) (v : Value) (a : Ask) : Prop := ∃ av mv, v = .agg (a.cells av mv) ∧ TextsAt w av a.all ∧ MsAt w mv a.mat
def Bl (W : World) (B : Nat) (t : TypeId) (arr : Array Value) : Prop := W.heap[B]? = some (.cells arr t (0, 0))
theorem Bl.lt {W : World} {B : Nat} {t : TypeId} {arr : Array Value} (h : Bl W B t arr) : B < W.heap.size := (Array.getElem?_eq_some_iff.1 h).1
theorem Bl.cell {W : World} {B : Nat} {t : TypeId} {arr : Array Value} (h : Bl W B t arr) (i : Nat) : W.cell? ⟨B, i, none⟩ = arr[i]? := by simp [World.cell?, show W.heap[B]? = _ from h]
theorem Bl.new (W : World) (t : TypeId) (arr : Array Value) : Bl (W.alloc (.cells arr t)) W.heap.size t arr := by
  show (W.heap.push _)[W.heap.size]? = _
  simp
theorem Bl.below {W W' : World} {B : Nat} {t : TypeId} {arr : Array Value} (h : Bl W B t arr) (hb : Below W.heap.size W W') : Bl W' B t arr := (hb.block B h.lt).trans h
theorem below_mid12 {a b c : World} (h : Below a.heap.size a b) (k : Below b.heap.size b c) : Below a.heap.size a c := h.trans (k.mono h.size)
end Go.Proofs.YtoobjjpheegmdaaGreat.E4
namespace Go.Proofs.YtoobjjpheegmdaaGreat.E4
open Go.RowKit Go
theorem infoS : (Tryz.prog.info? 9).map (fun i => (i.zero, i.size, i.bytes)) = some (some (.string ⟨#[]⟩), 1, 16) := by kernel_rfl
theorem elemS : ∃ i z, Elem Tryz.prog 87 9 i z 1 16 := by
  obtain ⟨i, hi, hz, hs, hb⟩ := info_parts infoS
  exact ⟨i, _, Tryz.underlying87, hi, hz, hs, hb, by kernel_rfl⟩
theorem infoR : (Tryz.prog.info? 87).map (fun i => (i.zero, i.size, i.bytes)) = some (some (.slice none 0 0), 1, 24) := by kernel_rfl
theorem elemR : ∃ i z, Elem Tryz.prog 33 87 i z 1 24 := by
  obtain ⟨i, hi, hz, hs, hb⟩ := info_parts infoR
  exact ⟨i, _, Tryz.underlying33, hi, hz, hs, hb, by kernel_rfl⟩
theorem infoM : (Tryz.prog.info? 89).map (fun i => (i.zero, i.size, i.bytes)) = some (some (.agg #[.string ⟨#[]⟩, .bool false, .string ⟨#[]⟩]), 3, 40) := by kernel_rfl
theorem elemM : ∃ i z, Elem Tryz.prog 34 89 i z 3 40 := by
  obtain ⟨i, hi, hz, hs, hb⟩ := info_parts infoM
  exact ⟨i, _, Tryz.underlying34, hi, hz, hs, hb, by kernel_rfl⟩
def strs (l : List ByteArray) : List Value := l.map Value.string
theorem strs_len (l : List ByteArray) : (strs l).length = l.length := List.length_map ..
def SG (G : Nat → Prop) (w : World) (v : Value) (l : List ByteArray) : Prop := ∃ a cap, v = .slice a l.length cap ∧ l.length ≤ 9223372036854775807 ∧ (l = [] ∨ ∃ b off, a = some ⟨b, off, none⟩ ∧ G b ∧ b < w.heap.size ∧ ∀ i (h : i < l.length), w.cell? ⟨b, off + i, none⟩ = some (.string l[i]))
theorem SG.at {G : Nat → Prop} {w : World} {v : Value} {l : List ByteArray} (h : SG G w v l) : StrsAt w v l := by
  obtain ⟨a, c, hv, hn, h | ⟨b, off, ha, _, hlt, hc⟩⟩ := h
  · exact ⟨a, c, hv, hn, .inl h⟩
  · exact ⟨a, c, hv, hn, .inr ⟨b, off, ha, hlt, hc⟩⟩
theorem SG.carry {G H : Nat → Prop} {w w' : World} {v : Value} {l : List ByteArray} (h : SG G w v l) (hs : w.heap.size ≤ w'.heap.size) (hb : ∀ b, G b → b < w.heap.size → w'.heap[b]? = w.heap[b]?) (hG : ∀ b, G b → b < w.heap.size → H b) : SG H w' v l := by
  obtain ⟨a, c, hv, hn, h | ⟨b, off, ha, hg, hlt, hc⟩⟩ := h
  · exact ⟨a, c, hv, hn, .inl h⟩
  · exact ⟨a, c, hv, hn, .inr ⟨b, off, ha, hG b hg hlt, Nat.lt_of_lt_of_le hlt hs, fun i hi => (World.cell?_of_block (a := ⟨b, off + i, none⟩) (hb b hg hlt)).trans (hc i hi)⟩⟩
theorem sg_of_rk {G : Nat → Prop} {w : World} {v : Value} {l : List ByteArray} (h : Rk 1 G w v l.length (strs l)) (hl : l.length ≤ 1000) : SG G w v l := by
  obtain ⟨hn, ⟨rfl, h0⟩ | ⟨g, cap, rfl, hg, hlt, _, _, hc, _⟩⟩ := h
  · have : l = [] := List.eq_nil_of_length_eq_zero h0
    subst this
    exact ⟨none, 0, rfl, by simp, .inl rfl⟩
  · refine ⟨_, cap, rfl, by omega, .inr ⟨g, 0, rfl, hg, hlt, fun i hi => ?_⟩⟩
    rw [Nat.zero_add, hc i (by unfold strs; rw [List.length_map]; exact hi)]
    simp [strs, hi]
def TextsG (G : Nat → Prop) (w : World) (v : Value) (ls : List (List ByteArray)) : Prop := ∃ a cap, v = .slice a ls.length cap ∧ ls.length ≤ 9223372036854775807 ∧ (ls = [] ∨ ∃ b off, a = some ⟨b, off, none⟩ ∧ G b ∧ b < w.heap.size ∧ ∀ i (h : i < ls.length), ∃ rv, w.cell? ⟨b, off + i, none⟩ = some rv ∧ SG G w rv ls[i])
theorem TextsG.at {G : Nat → Prop} {w : World} {v : Value} {ls : List (List ByteArray)} (h : TextsG G w v ls) : TextsAt w v ls := by
  obtain ⟨a, c, hv, hn, h | ⟨b, off, ha, _, hlt, hc⟩⟩ := h
  · exact ⟨a, c, hv, hn, .inl h⟩
  · refine ⟨a, c, hv, hn, .inr ⟨b, off, ha, hlt, fun i hi => ?_⟩⟩
    obtain ⟨rv, h0, h1⟩ := hc i hi
    exact ⟨rv, h0, h1.at⟩
theorem TextsG.carry {G H : Nat → Prop} {w w' : World} {v : Value} {ls : List (List ByteArray)} (h : TextsG G w v ls) (hs : w.heap.size ≤ w'.heap.size) (hb : ∀ b, G b → b < w.heap.size → w'.heap[b]? = w.heap[b]?) (hG : ∀ b, G b → b < w.heap.size → H b) : TextsG H w' v ls := by
  obtain ⟨a, c, hv, hn, h | ⟨b, off, ha, hg, hlt, hc⟩⟩ := h
  · exact ⟨a, c, hv, hn, .inl h⟩
  · refine ⟨a, c, hv, hn, .inr ⟨b, off, ha, hG b hg hlt, Nat.lt_of_lt_of_le hlt hs, fun i hi => ?_⟩⟩
    obtain ⟨rv, h0, h1⟩ := hc i hi
    exact ⟨rv, (World.cell?_of_block (a := ⟨b, off + i, none⟩) (hb b hg hlt)).trans h0, h1.carry hs hb hG⟩
theorem SG.of {w : World} {v : Value} {l : List ByteArray} (h : StrsAt w v l) : SG (fun k => k < w.heap.size) w v l := by
  obtain ⟨a, c, hv, hn, h | ⟨b, off, ha, hlt, hc⟩⟩ := h
  · exact ⟨a, c, hv, hn, .inl h⟩
  · exact ⟨a, c, hv, hn, .inr ⟨b, off, ha, hlt, hlt, hc⟩⟩
theorem TextsG.of {w : World} {v : Value} {ls : List (List ByteArray)} (h : TextsAt w v ls) : TextsG (fun k => k < w.heap.size) w v ls := by
  obtain ⟨a, c, hv, hn, h | ⟨b, off, ha, hlt, hc⟩⟩ := h
  · exact ⟨a, c, hv, hn, .inl h⟩
  · refine ⟨a, c, hv, hn, .inr ⟨b, off, ha, hlt, hlt, fun i hi => ?_⟩⟩
    obtain ⟨rv, h0, h1⟩ := hc i hi
    exact ⟨rv, h0, SG.of h1⟩
def flatM : List Mt → List Value
  | [] => []
  | m :: l => .string m.name :: .bool m.not :: .string m.value :: flatM l
theorem flatM_len : ∀ l : List Mt, (flatM l).length = l.length * 3
  | [] => rfl
  | _ :: l => by simp only [flatM, List.length_cons]; rw [flatM_len l]; omega
theorem flatM_get : ∀ (l : List Mt) (i : Nat) (h : i < l.length), (flatM l)[i * 3]? = some (.string l[i].name) ∧ (flatM l)[i * 3 + 1]? = some (.bool l[i].not) ∧ (flatM l)[i * 3 + 2]? = some (.string l[i].value)
  | x :: l, 0, _ => ⟨rfl, rfl, rfl⟩
  | x :: l, i + 1, h => by
    have := flatM_get l i (by simpa using h)
    have e : (i + 1) * 3 = i * 3 + 1 + 1 + 1 := by omega
    rw [e]
    exact this
theorem ms_of_rk {G : Nat → Prop} {w : World} {v : Value} {l : List Mt} (h : Rk 3 G w v l.length (flatM l)) (hl : l.length ≤ 1000) : MsAt w v l := by
  obtain ⟨hn, ⟨rfl, h0⟩ | ⟨g, cap, rfl, hg, hlt, _, _, hc, _⟩⟩ := h
  · have : l = [] := List.eq_nil_of_length_eq_zero h0
    subst this
    exact ⟨none, 0, rfl, by simp, .inl rfl⟩
  · refine ⟨_, cap, rfl, by omega, .inr ⟨g, 0, rfl, hlt, fun i hi => ?_⟩⟩
    obtain ⟨e0, e1, e2⟩ := flatM_get l i hi
    have hz := flatM_len l
    refine ⟨?_, ?_, ?_⟩
    · rw [Nat.zero_add, hc _ (by omega), e0]
    · rw [Nat.zero_add, hc _ (by omega), e1]
    · rw [Nat.zero_add, hc _ (by omega), e2]
end Go.Proofs.YtoobjjpheegmdaaGreat.E4
