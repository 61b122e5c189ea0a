/-
  NormPlain: THE LAW'S WALK.
-/
import Derived.Test.YtkckgjanfiiieaaAl10
import Derived.Test.YtkckgjanfiiieaaSd10
import Derived.Test.YtkckgjanfiiieaaFl10
import Derived.Test.YtkckgjanfiiieaaFlA
import Derived.Deep.RegionWith
namespace Go.Proofs.Ytkckgjanfiiieaa
open Go.RowKit Go

theorem rows_in {f : Ft} (h : Nr.In f) : ∀ d, ∀ r ∈ Ft.rows d f, 2 < r.op := by
  have hL : ∀ (k : List Ft), (∀ x ∈ k, ∀ d, ∀ r ∈ Ft.rows d x, 2 < r.op) → ∀ d, ∀ r ∈ Ft.rowsOf d k, 2 < r.op := by
    intro k
    induction k with
    | nil => intro _ d r hr; rw [Ft.rowsOf] at hr; cases hr
    | cons x l ih =>
      intro h d r hr
      rw [Ft.rowsOf, List.mem_append] at hr
      rcases hr with hr | hr
      · exact h x (by simp) d r hr
      · exact ih (fun y hy => h y (by simp [hy])) d r hr
  induction h with
  | leaf o n t h =>
    intro d r hr
    rw [Ft.rows, Ft.rowsOf, List.mem_singleton] at hr
    subst hr
    show 2 < o
    omega
  | not o n t h =>
    intro d r hr
    rw [Ft.rows, Ft.rowsOf, Ft.rowsOf, Ft.rows, Ft.rowsOf] at hr
    simp only [List.append_nil, List.mem_cons, List.not_mem_nil, or_false] at hr
    rcases hr with rfl | rfl
    · show (2 : Int) < 6
      decide
    · show 2 < o
      omega
  | row o k h h2 hk ho ih =>
    intro d r hr
    rw [Ft.rows, List.mem_cons] at hr
    rcases hr with rfl | hr
    · show 2 < o
      omega
    · exact hL k ih _ r hr

theorem rows_pl {f : Ft} (h : Nr.Pl f) (i : Nat) (hi : i < (Ft.rows 0 f).length) (h0 : 0 < i) : ¬ (Ft.rows 0 f)[i].op ≤ 2 := by
  rcases h with rfl | rfl | h
  · rw [Ft.rows_length, Ft.count, Ft.counts] at hi
    omega
  · rw [Ft.rows_length, Ft.count, Ft.counts] at hi
    omega
  · have := rows_in h 0 _ (List.getElem_mem hi)
    omega

set_option maxHeartbeats 8000000 in
set_option maxRecDepth 100000 in
theorem plain_walk (l : List Int) (v : Value) (w : World) (h : IntsAt w v l) : Calls Try.prog 3 #[v] w fun e w' => e = .returned (.bool true) ∧ Below w.heap.size w w' := by
  have hgd := Nr.make_gd l 4 0
  have hcnt : (Ft.make l 4 0).1.count ≤ 256 := Ft.make_count l 4 0
  have HAL := Lib.hid (alive_any w)
  have HFI := Lib.hid (fun W (hb : Lay w W) => law_filter l W v (h.lay hb))
  obtain ⟨a, cap, rfl, hl63, hint⟩ := id h
  clear h hint
  unfold FilterP at HFI
  generalize (Ft.make l 4 0).1 = f at hgd hcnt HFI
  have hpl := Nr.norm_pl hgd
  have hcn : (Nr.norm f).count ≤ 512 := Nat.le_trans (Nr.norm_count hgd) (by omega)
  have HOW := Lib.hid (fun W kv hk => ownNorm_any hgd (by omega) W kv hk)
  have hox := fun W kv hk => ownNorm_any hpl.gd (by omega) W kv hk
  rw [Nr.norm_norm hgd] at hox
  have HOX := Lib.hid hox
  clear hox
  generalize Nr.norm f = F at hpl hcn HOW HOX
  go_enter Try.func3, Try.ntmps3
  go_wp2_with fail
  refine HAL.out.mono ?_
  rintro e w1 ⟨rfl, hl1⟩
  have HL1 := Lib.hid hl1
  clear hl1 HAL
  by_cases hbig : 300 < l.length
  · have hb1 : decide ((300 : Int) < (l.length : Int)) = true := decide_eq_true (by omega)
    go_wp2_with fail
    go_ret
    exact ⟨rfl, HL1.out.below⟩
  have hb1 : decide ((300 : Int) < (l.length : Int)) = false := decide_eq_false (by omega)
  go_wp2_with fail
  refine (HFI.out w1 HL1.out).mono ?_
  rintro e w2 ⟨kv, rfl, hkb, hl2⟩
  have HK2 := Lib.hid (KsB.at _ _ hkb)
  have HL2 := Lib.hid (HL1.out.trans hl2)
  clear hkb hl2 HFI
  go_wp2_with fail
  refine (HOW.out w2 kv HK2.out).mono ?_
  rintro e w3 ⟨kv3, rfl, hkb3, hl3⟩
  obtain ⟨ak, ck, rfl⟩ := (KsB.at _ _ hkb3).shape
  have HK3 := Lib.hid (KsB.at _ _ hkb3)
  have HL3 := Lib.hid (HL2.out.trans hl3)
  clear hkb3 hl3 HOW HK2
  simp only [Ft.val]
  go_wp2_with fail
  have hl4 : Lay w3 (w3.alloc (.cells #[.int .i64 F.op, .string F.name, .string F.text, .slice ak F.kids.length ck] 26)) := (Keep.refl _ _).alloc _
  have hcell : ∀ W, Lay (w3.alloc (.cells #[.int .i64 F.op, .string F.name, .string F.text, .slice ak F.kids.length ck] 26)) W → W.cell? ⟨w3.heap.size, 0, none⟩ = some (.int .i64 F.op) ∧ W.cell? ⟨w3.heap.size, 1, none⟩ = some (.string F.name) ∧ W.cell? ⟨w3.heap.size, 2, none⟩ = some (.string F.text) ∧ W.cell? ⟨w3.heap.size, 3, none⟩ = some (.slice ak F.kids.length ck) := fun W h =>
    ⟨(h.cell (by simp)).trans (by go_simp), (h.cell (by simp)).trans (by go_simp), (h.cell (by simp)).trans (by go_simp), (h.cell (by simp)).trans (by go_simp)⟩
  have HCELL := Lib.hid hcell
  have HK4 := Lib.hid (KsAt.below hl4.below _ _ HK3.out)
  have HL4 := Lib.hid (HL3.out.trans hl4)
  clear hl4 hcell HK3
  have hrows := rows_any 512 F 0 _ (F.val (.slice ak F.kids.length ck)) hcn (by omega) (by omega) ⟨_, rfl, HK4.out⟩
  have hrp := Lib.hid (rows_pl hpl)
  simp only [Ft.val] at hrows
  obtain ⟨R, hR⟩ : ∃ R, R = Ft.rows 0 F := ⟨_, rfl⟩
  rw [← hR] at hrows hrp
  have hRl : R.length ≤ 512 := by rw [hR, Ft.rows_length]; exact hcn
  clear hR
  refine hrows.mono ?_
  rintro e w5 ⟨rv, rfl, hrk, hl5⟩
  obtain ⟨ra, rc, rfl, hrow⟩ := hrk.rowAt
  have HL5 := Lib.hid hl5
  have HROW := Lib.hid hrow
  have hs5 : w3.heap.size < w5.heap.size := Nat.lt_of_lt_of_le (by simp) hl5.size
  clear hrk hrow hl5 hrows
  go_wp2_with fail
  go_loopw [17] (fun vi wr => ∃ (i : Nat), vi = .int .i64 i ∧ i ≤ R.length ∧ Lay w5 wr) (fun vi _ => R.length - (intOf vi).toNat)
  case atStart => exact ⟨0, rfl, Nat.zero_le _, Keep.refl _ _⟩
  case round =>
    obtain ⟨i, rfl, hi, hlay⟩ := hrel
    by_cases hlt : i < R.length
    · rcases HROW.out with h0 | ⟨b, rfl, _, hb5, hcs⟩
      · exact absurd hlt (by rw [h0]; simp)
      obtain ⟨x0, x1, x2, x3, x4⟩ := hcs i hlt
      have hop := hrp.out i hlt
      generalize R[i] = r at x0 x1 x2 x3 x4 hop
      have y0 := (hlay.cell hb5).trans x0
      have y1 := (hlay.cell hb5).trans x1
      have y2 := (hlay.cell hb5).trans x2
      have y3 := (hlay.cell hb5).trans x3
      have y4 := (hlay.cell hb5).trans x4
      clear hcs x0 x1 x2 x3 x4
      by_cases h0 : 0 < i
      · have hi0 : decide ((0 : Int) < (i : Int)) = true := decide_eq_true (by omega)
        have hr2 : decide (r.op ≤ 2) = false := decide_eq_false (by have := hop h0; omega)
        go_wp2_with fail
        go_roundw
        case rel => exact ⟨i + 1, by go_num, by omega, hlay.alloc _⟩
        case measure => simp [intOf] <;> omega
      · have hi0 : decide ((0 : Int) < (i : Int)) = false := decide_eq_false (by omega)
        go_wp2_with fail
        go_roundw
        case rel => exact ⟨i + 1, by go_num, by omega, hlay.alloc _⟩
        case measure => simp [intOf] <;> omega
    · obtain rfl : i = R.length := by omega
      have HL6 := Lib.hid (HL5.out.trans hlay)
      have HSD := Lib.hid (fun W (h : Lay wr W) => shaped_pl hpl (by omega) W (.slice ak F.kids.length ck) (KsAt.below (Lay.below (HL6.out.trans h)) _ _ HK4.out))
      have HOX2 := Lib.hid (fun W (h : Lay wr W) => HOX.out W (.slice ak F.kids.length ck) (KsAt.below (Lay.below (HL6.out.trans h)) _ _ HK4.out))
      have HSM := Lib.hid (fun W kv' (h : Lay wr W) (hk : KsAt W kv' F) => filter_any F F W (F.val kv') (F.val (.slice ak F.kids.length ck)) ⟨_, rfl, hk⟩ ⟨_, rfl, KsAt.below (Lay.below (HL6.out.trans h)) _ _ HK4.out⟩ (by omega) (by omega))
      have HE := Lib.hid (Keep.trans HL4.out HL6.out)
      simp only [Ft.val] at HSD HOX2 HSM
      obtain ⟨c0, c1, c2, c3⟩ := HCELL.out _ HL6.out
      clear hlay HK4 HOX hrp HROW HL5 HL4 HL3 HL2 HL1
      go_wp2_with fail
      go_region_with (first
        | (go_at_call 8; refine (HSD.out _ (by first | exact Keep.refl _ _ | exact Keep.drew (Keep.refl _ _) | exact Keep.drew (Keep.drew (Keep.refl _ _)))).mono ?_; rintro e8 w8 ⟨rfl, hl8⟩; have hL8 : Lay wr w8 := Keep.trans (by first | exact Keep.refl _ _ | exact Keep.drew (Keep.refl _ _) | exact Keep.drew (Keep.drew (Keep.refl _ _))) hl8; obtain ⟨d0, d1, d2, d3⟩ := HCELL.out w8 (HL6.out.trans hL8))
        | (go_at_call 5; refine (HOX2.out _ (by first | exact hL8 | exact Keep.drew (hL8) | exact Keep.drew (Keep.drew (hL8)))).mono ?_; rintro e5 w5' ⟨kv5, rfl, hkb5, hl5⟩; obtain ⟨a5, c5, rfl⟩ := (KsB.at _ _ hkb5).shape; simp only [Ft.val]; have hL5 : Lay wr w5' := Keep.trans (by first | exact hL8 | exact Keep.drew (hL8) | exact Keep.drew (Keep.drew (hL8))) hl5; obtain ⟨g0, g1, g2, g3⟩ := HCELL.out w5' (HL6.out.trans hL5))
        | (go_at_call 9; refine (HSM.out _ _ (by first | exact hL5 | exact Keep.drew (hL5) | exact Keep.drew (Keep.drew (hL5))) (by first | exact KsB.at _ _ hkb5 | exact KsAt.below (Lay.below (Keep.drew (Keep.refl _ _))) _ _ (KsB.at _ _ hkb5))).mono ?_; rintro e9 w9 ⟨b9, rfl, hb9, hl9⟩; obtain rfl : b9 = true := (by first | exact hb9.2 trivial | exact hb9.2 rfl); have hL9 : Lay wr w9 := Keep.trans (by first | exact hL5 | exact Keep.drew (hL5) | exact Keep.drew (Keep.drew (hL5))) hl9))
      all_goals go_wp2_with fail
      all_goals go_ret
      all_goals exact ⟨rfl, Lay.below (HE.out.trans (by assumption))⟩

end Go.Proofs.Ytkckgjanfiiieaa
