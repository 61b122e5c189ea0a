/-
  IS MORE HANDED IN THAN IS PLAYED? The law's great.
-/
import Derived.Test.YtidjodplimkmgaaBs11
namespace Go.Proofs.Ytidjodplimkmgaa.E4
open Go.RowKit Go
open Go.Sort (grow)

/-- A row that is more than is played. -/
def bigRow (es : List Ent) : Bool := decide (60 < es.length) || es.any Ent.big
/-- Numbers, rows that are. -/
def bigIn (l : List Int) (rows : List (List Ent)) : Bool := decide (300 < l.length) || decide (6 < rows.length) || rows.any bigRow

theorem bigIn_no {l : List Int} {rows : List (List Ent)} (h : bigIn l rows = false) : l.length ≤ 300 ∧ rows.length ≤ 6 ∧ Fine rows ∧ ∀ i, (rows.take i).flatten.length ≤ i * 60 := by
  unfold bigIn at h
  simp only [Bool.or_eq_false_iff, decide_eq_false_iff_not] at h
  obtain ⟨⟨h1, h2⟩, h3⟩ := h
  have h4 : ∀ r ∈ rows, bigRow r = false := fun r hr => by
    cases hb : bigRow r with
    | false => rfl
    | true => rw [List.any_eq_true.2 ⟨r, hr, hb⟩] at h3; cases h3
  refine ⟨by omega, by omega, fun r hr e he => ?_, fun i => ?_⟩
  · have h5 := h4 r hr
    unfold bigRow at h5
    simp only [Bool.or_eq_false_iff] at h5
    cases hb : e.big with
    | false => exact Nat.le_trans (E4.big_line hb) (by decide)
    | true => rw [List.any_eq_true.2 ⟨e, he, hb⟩] at h5; cases h5.2
  · have h6 : ∀ r ∈ rows, r.length ≤ 60 := fun r hr => by
      have h5 := h4 r hr
      unfold bigRow at h5
      simp only [Bool.or_eq_false_iff, decide_eq_false_iff_not] at h5
      omega
    clear h1 h2 h3 h4
    induction rows generalizing i with
    | nil => simp
    | cons r rows ih =>
      cases i with
      | zero => simp
      | succ i =>
        have h7 := h6 r (by simp)
        have h8 := ih i fun r hr => h6 r (List.mem_cons_of_mem _ hr)
        rw [List.take_succ_cons, List.flatten_cons, List.length_append]
        omega

theorem bigIn_flat {l : List Int} {rows : List (List Ent)} (h : bigIn l rows = false) : rows.flatten.length ≤ 360 := by
  obtain ⟨_, h2, _, h4⟩ := bigIn_no h
  have h5 := h4 rows.length
  rw [List.take_of_length_le (Nat.le_refl _)] at h5
  omega

set_option maxHeartbeats 4000000 in
set_option maxRecDepth 100000 in
theorem greatIn_any (l : List Int) (u : Value) (rows : List (List Ent)) (rv : Value) (w : World) (hu : IntsAt w u l) (hr : RowsAt w rv rows) :
    Calls Try.prog 5 #[u, rv] w fun e w' => e = .returned (.bool (bigIn l rows)) ∧ Below w.heap.size w w' := by
  have hmx : Try.prog.follows .mixedOrders = true := by kernel_rfl
  obtain ⟨a, cap, rfl, hl63, _⟩ := id hu
  obtain ⟨ar, cr, rfl, hr63, hrc⟩ := id hr
  unfold bigIn
  by_cases h1 : 300 < l.length
  · have d1 : decide (300 < (l.length : Int)) = true := by simp; omega
    have e1 : decide (300 < l.length) = true := decide_eq_true h1
    rw [e1, Bool.true_or, Bool.true_or]
    clear h1 e1
    go_enter Try.func5, Try.ntmps5
    go_wp2_with fail
    go_ret
    exact ⟨rfl, Below.refl _ _⟩
  have d1 : decide (300 < (l.length : Int)) = false := by simp; omega
  rw [decide_eq_false h1, Bool.false_or]
  clear h1
  by_cases h2 : 6 < rows.length
  · have d2 : decide (6 < (rows.length : Int)) = true := by simp; omega
    have e1 : decide (6 < rows.length) = true := decide_eq_true h2
    rw [e1, Bool.true_or]
    clear h2 e1
    go_enter Try.func5, Try.ntmps5
    go_wp2_with fail
    go_ret
    exact ⟨rfl, Below.refl _ _⟩
  have d2 : decide (6 < (rows.length : Int)) = false := by simp; omega
  rw [decide_eq_false h2, Bool.false_or]
  clear h2
  have HRC := Lib.hid hrc
  clear hrc hr
  go_enter Try.func5, Try.ntmps5
  go_wp2_with fail
  go_loopw [17] (fun vi wr => ∃ k : Nat, vi = .int .i64 k ∧ k ≤ rows.length ∧ (rows.take k).any bigRow = false ∧ Below w.heap.size w wr) (fun vi _ => rows.length - (intOf vi).toNat)
  case atStart => exact ⟨0, rfl, Nat.zero_le _, by simp, Below.refl _ _⟩
  case round =>
    obtain ⟨k, rfl, hk, hany, hb⟩ := hrel
    have HB := Lib.hid hb
    by_cases hlt : k < rows.length
    · rcases HRC.out with h0 | ⟨br, off, rfl, hbr, hcells⟩
      · exact absurd hlt (by rw [h0]; simp)
      obtain ⟨rv', hc, hes⟩ := hcells k hlt
      have hc' : wr.cell? ⟨br, off + k, none⟩ = some rv' := (hb.cell hbr).trans hc
      have hmem : rows[k] ∈ rows := List.getElem_mem hlt
      have htk : (rows.take (k + 1)).any bigRow = bigRow rows[k] := by
        rw [← List.take_append_getElem hlt, List.any_append, hany]
        simp
      generalize rows[k] = es at hes hmem htk
      have HMA := Lib.hid (many_any (hes.below1 hb) 60 (by omega))
      have hbr' : (decide (60 < es.length) || es.any Ent.big) = bigRow es := rfl
      rw [hbr'] at HMA
      have HTK := Lib.hid htk
      have HMEM := Lib.hid hmem
      clear hb hc hes hcells hany hmem htk hbr'
      cases hbig : bigRow es with
      | true =>
        have hans : rows.any bigRow = true := List.any_eq_true.2 ⟨es, HMEM.out, hbig⟩
        have HANS := Lib.hid hans
        rw [hbig] at HMA
        clear hans hbig
        go_wp2_with (go_at_call 11; refine HMA.out.mono ?_; rintro e w2 ⟨rfl, hl2⟩)
        go_ret
        exact ⟨by rw [HANS.out]; rfl, HB.out.trans ((lay_below hl2).mono HB.out.size)⟩
      | false =>
        rw [hbig] at HMA HTK
        clear hbig
        go_wp2_with (go_at_call 11; refine HMA.out.mono ?_; rintro e w2 ⟨rfl, hl2⟩)
        go_roundw
        case rel => exact ⟨k + 1, by go_num, by omega, HTK.out, HB.out.trans ((lay_below hl2).mono HB.out.size)⟩
        case measure => simp [intOf]; omega
    · obtain rfl : k = rows.length := by omega
      rw [List.take_of_length_le (Nat.le_refl _)] at hany
      have HANY := Lib.hid hany
      clear hb hany
      go_wp2_with fail
      go_ret
      exact ⟨by rw [HANY.out]; rfl, HB.out⟩

end Go.Proofs.Ytidjodplimkmgaa.E4
