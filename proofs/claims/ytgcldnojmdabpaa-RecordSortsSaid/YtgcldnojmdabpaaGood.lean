/-
  WHAT CAN BE: Time, goodLabels, Good of package record.
-/
import Derived.Test.YtgcldnojmdabpaaNames
import Derived.Test.YtgcldnojmdabpaaCmp
namespace Go.Proofs.Ytgcldnojmdabpaa
open Go.RowKit Go

def noLab : Lab := ⟨⟨#[]⟩, ⟨#[]⟩⟩

/-- Can the i-th label be? -/
def labOK (ls : List Lab) (i : Nat) : Bool :=
  MW.name (ls.getD i noLab).n.data.toList && decide ((ls.getD i noLab).v.size ≤ 20) && (i == 0 || decide (strC (ls.getD (i - 1) noLab).n (ls.getD i noLab).n = -1))
def labsOK (ls : List Lab) : Bool := decide (ls.length ≤ 4) && (List.range ls.length).all (labOK ls)
def timeOK (n : Int) : Bool := decide (-1099511627776 ≤ n) && decide (n ≤ 1099511627776)
def lineOK (s : ByteArray) : Bool := decide (s.size ≤ 200) && s.data.toList.all (· != 10)
def Ent.ok (e : Ent) : Bool := timeOK e.tm && labsOK e.labs && lineOK e.line

theorem labsOK_no {ls : List Lab} {k : Nat} (hk : k < ls.length) (h : labOK ls k = false) : labsOK ls = false := by
  unfold labsOK
  have : (List.range ls.length).all (labOK ls) = false := by
    rw [Bool.eq_false_iff]
    intro h'
    have := List.all_eq_true.1 h' k (List.mem_range.2 hk)
    rw [h] at this
    cases this
  rw [this, Bool.and_false]
theorem labsOK_yes {ls : List Lab} (h4 : ls.length ≤ 4) (h : ∀ j, j < ls.length → labOK ls j = true) : labsOK ls = true := by
  unfold labsOK
  rw [decide_eq_true h4, Bool.true_and]
  exact List.all_eq_true.2 fun j hj => h j (List.mem_range.1 hj)
theorem labsOK_many {ls : List Lab} (h4 : ¬ ls.length ≤ 4) : labsOK ls = false := by
  unfold labsOK
  rw [decide_eq_false h4]
  rfl

set_option maxHeartbeats 1000000 in
theorem time_any (n : Int) (w : World) : Calls Try.prog 18 #[.int .i64 n] w fun e w' => e = .returned (.bool (timeOK n)) ∧ w' = w := by
  unfold timeOK
  by_cases h1 : -1099511627776 ≤ n
  · by_cases h2 : n ≤ 1099511627776
    · have d1 : decide (-1099511627776 ≤ n) = true := by simpa using h1
      have d2 : decide (n ≤ 1099511627776) = true := by simpa using h2
      go_enter Try.func18, Try.ntmps18
      go_wp2
      go_ret
      exact ⟨by simp [h1, h2], rfl⟩
    · have d1 : decide (-1099511627776 ≤ n) = true := by simpa using h1
      have d2 : decide (n ≤ 1099511627776) = false := by simpa using h2
      go_enter Try.func18, Try.ntmps18
      go_wp2
      go_ret
      exact ⟨by first | (simp; done) | (simp; omega), rfl⟩
  · have d1 : decide (-1099511627776 ≤ n) = false := by simpa using h1
    go_enter Try.func18, Try.ntmps18
    go_wp2
    go_ret
    exact ⟨by first | (simp; done) | (simp; omega), rfl⟩

set_option maxHeartbeats 4000000 in
set_option maxRecDepth 100000 in
/-- record.goodLabels. -/
theorem goodLabels_any {G : Nat → Prop} {w : World} {v : Value} {ls : List Lab} (h : LabsAt G w v ls) :
    Calls Try.prog 36 #[v] w fun e w' => e = .returned (.bool (labsOK ls)) ∧ Lay w w' := by
  obtain ⟨a, ca, rfl, hl63, ha⟩ := h
  have HA := Lib.hid ha
  clear ha
  by_cases h4 : ls.length ≤ 4
  · have d4 : decide (4 < (ls.length : Int)) = false := by simp; omega
    go_enter Try.func36, Try.ntmps36
    go_wp2_with fail
    clear d4
    go_loopw [10] (fun vi wr => ∃ k : Nat, vi = .int .i64 k ∧ k ≤ ls.length ∧ Lay w wr ∧ ∀ j, j < k → labOK ls j = true) (fun vi _ => ls.length - (intOf vi).toNat)
    case atStart => exact ⟨0, rfl, Nat.zero_le _, Keep.refl _ _, fun j hj => by omega⟩
    case round =>
      obtain ⟨k, rfl, hk, hl, hz⟩ := hrel
      have HZ := Lib.hid hz
      have HL := Lib.hid hl
      clear hz
      by_cases hlt : k < ls.length
      · rcases HA.out with h0 | ⟨bx, ox, rfl, hgx, hbx, hcx⟩
        · exact absurd hlt (by rw [h0]; simp)
        obtain ⟨x0, x1⟩ := hcx k hlt
        have g0 := (hl.cell hbx).trans x0
        have g1 := (hl.cell hbx).trans x1
        have hbw : bx < wr.heap.size := Nat.lt_of_lt_of_le hbx hl.size
        have hx : ls.getD k noLab = ls[k] := by simp [List.getD, hlt]
        generalize ls[k] = x at g0 g1 hx x0 x1
        have hpre : ∀ w' : World, Lay w w' → 0 < k → w'.cell? ⟨bx, ox + (k - 1) * 2, none⟩ = some (.string (ls.getD (k - 1) noLab).n) := fun w' hl' h0 => by
          have := (hcx (k - 1) (by omega)).1
          rw [show (ls.getD (k - 1) noLab) = ls[k - 1] from by simp [List.getD, show k - 1 < ls.length by omega]]
          exact (hl'.cell hbx).trans this
        have HPRE := Lib.hid hpre
        have HX := Lib.hid hx
        clear hcx hx hl x0 x1 hpre
        go_wp2_with fail
        refine (name_any x.n _).mono ?_
        rintro e w' ⟨rfl, hl2⟩
        have b0 : w'.cell? ⟨wr.heap.size, 0, none⟩ = some (.string x.n) := (Lay.cell hl2 (by simp)).trans (by go_simp)
        have b1 : w'.cell? ⟨wr.heap.size, 1, none⟩ = some (.string x.v) := (Lay.cell hl2 (by simp)).trans (by go_simp)
        have HL2 := Lib.hid (Keep.trans (HL.out.alloc _) hl2)
        have HOK : Hid (labOK ls k = (MW.name x.n.data.toList && decide (x.v.size ≤ 20) && (k == 0 || decide (strC (ls.getD (k - 1) noLab).n x.n = -1)))) := Lib.hid (by unfold labOK; rw [HX.out])
        clear hl2 g0 g1
        cases hnm : MW.name x.n.data.toList with
        | false =>
          have HO := HOK.out
          rw [hnm] at HO
          have HR := Lib.hid (labsOK_no hlt (HO.trans rfl))
          clear HO hnm
          go_wp2_with fail
          go_ret
          exact ⟨by rw [HR.out]; rfl, HL2.out⟩
        | true =>
          have HN := Lib.hid hnm
          clear hnm
          by_cases hv : x.v.size ≤ 20
          · have HV := Lib.hid hv
            have d20 : decide (20 < (x.v.size : Int)) = false := by simp; omega
            clear hv
            by_cases hk0 : k = 0
            · subst hk0
              have HO := HOK.out
              rw [HN.out, decide_eq_true HV.out] at HO
              have HR := Lib.hid (HO.trans rfl)
              clear HO
              go_wp2_with fail
              go_quiet (fail)
              go_wp2_with fail
              go_roundw
              case rel => exact ⟨1, by go_num, by omega, HL2.out.drewN _, fun j hj => by obtain rfl : j = 0 := by omega
                                                                                         exact HR.out⟩
              case measure => simp [intOf]; omega
            · have p0 := HPRE.out w' HL2.out (by omega)
              have kk : ((k : Int) - 1).toNat = k - 1 := by omega
              have dk : decide (0 < k) = true := by simp; omega
              have hbw' : bx < w'.heap.size := Nat.lt_of_lt_of_le hbx HL2.out.size
              generalize (ls.getD (k - 1) noLab).n = y at p0 HOK
              by_cases hc : strC y x.n = -1
              · have hbl : Op.bytesLess y.toList x.n.toList = true := by rw [less_strC]; exact decide_eq_true hc
                have HO := HOK.out
                rw [HN.out, decide_eq_true HV.out, decide_eq_true hc] at HO
                have HR : Hid (labOK ls k = true) := Lib.hid (HO.trans (by simp))
                clear HO hc
                go_wp2_with fail
                go_quiet (fail)
                go_wp2_with fail
                go_roundw
                case rel =>
                  refine ⟨k + 1, by go_num, by omega, HL2.out.drewN _, fun j hj => ?_⟩
                  by_cases e : j = k
                  · rw [e]; exact HR.out
                  · exact HZ.out j (by omega)
                case measure => simp [intOf]; omega
              · have hbl : Op.bytesLess y.toList x.n.toList = false := by rw [less_strC]; exact decide_eq_false hc
                have hkz : (k == 0) = false := by simpa using hk0
                have HO := HOK.out
                rw [HN.out, decide_eq_true HV.out, decide_eq_false hc, hkz] at HO
                have HR := Lib.hid (labsOK_no hlt (HO.trans rfl))
                clear HO hc hkz
                go_wp2_with fail
                go_quiet (fail)
                go_wp2_with fail
                go_ret
                exact ⟨by rw [HR.out]; rfl, HL2.out.drewN _⟩
          · have d20 : decide (20 < (x.v.size : Int)) = true := by simp; omega
            have HO := HOK.out
            rw [HN.out, decide_eq_false hv] at HO
            have HR := Lib.hid (labsOK_no hlt (HO.trans rfl))
            clear HO hv
            go_wp2_with fail
            go_ret
            exact ⟨by rw [HR.out]; rfl, HL2.out⟩
      · obtain rfl : k = ls.length := by omega
        have HR := Lib.hid (labsOK_yes h4 HZ.out)
        go_wp2_with fail
        go_ret
        exact ⟨by rw [HR.out]; rfl, HL.out⟩
  · have d4 : decide (4 < (ls.length : Int)) = true := by simp; omega
    have HR := Lib.hid (labsOK_many h4)
    go_enter Try.func36, Try.ntmps36
    go_wp2_with fail
    go_ret
    exact ⟨by rw [HR.out]; rfl, Keep.refl _ _⟩

theorem indexByte_lo (c : UInt8) : ∀ l : List UInt8, -1 ≤ Lib.indexByte l c
  | [] => by simp [Lib.indexByte]
  | a :: r => by
    have := indexByte_lo c r
    unfold Lib.indexByte
    repeat' split
    all_goals omega
theorem indexByte_any (c : UInt8) : ∀ l : List UInt8, decide (0 ≤ Lib.indexByte l c) = !l.all (· != c)
  | [] => by simp [Lib.indexByte]
  | a :: r => by
    have h := indexByte_any c r
    have hl := indexByte_lo c r
    rw [List.all_cons]
    by_cases e : a = c
    · subst e
      simp [Lib.indexByte]
    · have e' : (a != c) = true := by simp [e]
      rw [e', Bool.true_and, ← h]
      rw [Bool.eq_iff_iff]
      simp [Lib.indexByte, e]
      try (split <;> omega)

set_option maxHeartbeats 4000000 in
set_option maxRecDepth 100000 in
/-- record.Good. -/
theorem good_any {G : Nat → Prop} {w : World} {e : Ent} {lv : Value} (h : LabsAt G w lv e.labs) :
    Calls Try.prog 14 #[e.val lv] w fun x w' => x = .returned (.bool e.ok) ∧ Lay w w' := by
  obtain ⟨a, ca, rfl, _⟩ := id h
  obtain ⟨tm, labs, line⟩ := e
  have hB : LabsAt G (w.alloc (.cells #[.int .i64 tm, .slice a labs.length ca, .string line] 24)) (.slice a labs.length ca) labs := h.alloc _
  have HB := Lib.hid hB
  have HL : Hid (Lay w (w.alloc (.cells #[.int .i64 tm, .slice a labs.length ca, .string line] 24))) := Lib.hid ((Keep.refl _ _).alloc _)
  have hOK : Ent.ok ⟨tm, labs, line⟩ = (timeOK tm && labsOK labs && lineOK line) := rfl
  have HOK := Lib.hid hOK
  unfold Ent.val
  clear h hB hOK
  cases ht : timeOK tm with
  | false =>
    have HO := HOK.out
    rw [ht, Bool.false_and, Bool.false_and] at HO
    have HR := Lib.hid HO
    have HT := Lib.hid ht
    clear HO ht
    go_enter Try.func14, Try.ntmps14
    go_wp2_with (first | (go_at_call 18; refine (time_any tm _).mono ?_; rw [HT.out]; rintro e w' ⟨rfl, rfl⟩))
    go_ret
    exact ⟨by rw [HR.out]; rfl, HL.out⟩
  | true =>
    have HO := HOK.out
    rw [ht, Bool.true_and] at HO
    have HOK := Lib.hid HO
    have HT := Lib.hid ht
    clear HO ht
    cases hls : labsOK labs with
    | false =>
      have HO := HOK.out
      rw [hls, Bool.false_and] at HO
      have HR := Lib.hid HO
      have HS := Lib.hid hls
      clear HO hls
      go_enter Try.func14, Try.ntmps14
      go_wp2_with (first | (go_at_call 18; refine (time_any tm _).mono ?_; rw [HT.out]; rintro e w' ⟨rfl, rfl⟩) | (go_at_call 36; refine (goodLabels_any HB.out).mono ?_; rw [HS.out]; rintro e w2 ⟨rfl, hl2⟩))
      go_ret
      exact ⟨by rw [HR.out]; rfl, Keep.trans HL.out hl2⟩
    | true =>
      have HO := HOK.out
      rw [hls, Bool.true_and] at HO
      have HOK := Lib.hid HO
      have HS := Lib.hid hls
      clear HO hls
      by_cases h200 : line.size ≤ 200
      · have HO := HOK.out
        unfold lineOK at HO
        rw [decide_eq_true h200, Bool.true_and] at HO
        have HOK := Lib.hid HO
        have hC := fun w => Try.strings_Contains_one line 10 w
        have hCI := indexByte_any 10 line.data.toList
        have HCI := Lib.hid hCI
        have HC := Lib.hid hC
        have d200 : decide ((line.size : Int) ≤ 200) = true := by simp; omega
        clear HO hC hCI h200
        cases hall : line.data.toList.all (· != 10)
        all_goals
          rw [hall] at HCI HOK
          have HR := Lib.hid HOK.out
          clear hall
          go_enter Try.func14, Try.ntmps14
          go_wp2_with (first | (go_at_call 18; refine (time_any tm _).mono ?_; rw [HT.out]; rintro e w' ⟨rfl, rfl⟩) | (go_at_call 36; refine (goodLabels_any HB.out).mono ?_; rw [HS.out]; rintro e w2 ⟨rfl, hl2⟩; have k2 : w2.cell? ⟨w.heap.size, 2, none⟩ = some (.string line) := (Lay.cell hl2 (by simp)).trans (by go_simp)) | (go_at_call 37; refine (HC.out _).mono ?_; rw [HCI.out]; rintro e w' ⟨rfl, rfl⟩))
          go_ret
          exact ⟨by rw [HR.out]; rfl, Keep.trans HL.out hl2⟩
      · have HO := HOK.out
        unfold lineOK at HO
        rw [decide_eq_false h200, Bool.false_and] at HO
        have HR := Lib.hid HO
        have d200 : decide ((line.size : Int) ≤ 200) = false := by simp; omega
        clear HO h200
        go_enter Try.func14, Try.ntmps14
        go_wp2_with (first | (go_at_call 18; refine (time_any tm _).mono ?_; rw [HT.out]; rintro e w' ⟨rfl, rfl⟩) | (go_at_call 36; refine (goodLabels_any HB.out).mono ?_; rw [HS.out]; rintro e w2 ⟨rfl, hl2⟩; have k2 : w2.cell? ⟨w.heap.size, 2, none⟩ = some (.string line) := (Lay.cell hl2 (by simp)).trans (by go_simp)))
        go_ret
        exact ⟨by rw [HR.out]; rfl, Keep.trans HL.out hl2⟩

end Go.Proofs.Ytgcldnojmdabpaa
