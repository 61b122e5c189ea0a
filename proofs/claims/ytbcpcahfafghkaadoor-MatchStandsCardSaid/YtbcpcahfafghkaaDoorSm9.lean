/-
  A LINE HAS EVERY PART OF IT, and every piece between its blanks that is told as a field is one: the law's walk.
-/
import Derived.Test.YtbcpcahfafghkaaDoorAl9
import Derived.Test.YtbcpcahfafghkaaDoorRq9
import Derived.Lib.QuietBelow
import Derived.Laws.Concat
namespace Go.Proofs.YtbcpcahfafghkaaDoor
open Go.RowKit Go
open Go.Sort (grow)

theorem pcs_any (P : List UInt8 → Bool) (b : List UInt8) : ∀ (a cur : List UInt8), (pcs cur (a ++ 32 :: b)).any P = ((pcs cur a).any P || (pcs [] b).any P)
  | [], cur => by rw [List.nil_append, pcs_blank, pcs, List.any_cons, List.any_cons, List.any_nil, Bool.or_false]
  | c :: a, cur => by
    rw [List.cons_append]
    by_cases hc : c = 32
    · rw [hc, pcs_blank, pcs_blank, List.any_cons, List.any_cons, pcs_any P b a [], Bool.or_assoc]
    · rw [pcs_other _ _ hc, pcs_other _ _ hc, pcs_any P b a]

def keyB : ByteArray := ⟨#[107, 101, 121]⟩
def someB : ByteArray := ⟨#[115, 111, 109, 101]⟩
def keyF : Ft := .mk 5 keyB someB []
theorem keyF_at (w : World) : KsAt w (.slice none 0 0) keyF := by unfold keyF; rw [KsAt]; exact ⟨none, 0, rfl, by simp, .inl rfl⟩
theorem keyF_fit : Fit keyF := fit_leaf _ _ _ (by decide) (by decide) (by decide)
theorem keyF_whole : Whole keyF := whole_leaf _ _ _ (by decide)
theorem key_want : (keyB ++ ⟨#[61]⟩ ++ someB).data.toList = [107, 101, 121, 61, 115, 111, 109, 101] := by decide

theorem append_list (a b : ByteArray) : (a ++ b).data.toList = a.data.toList ++ b.data.toList := by
  rw [ByteArray.data_append, Array.toList_append]

/-- The field at a line's end; at its beginning. -/
theorem field_end (s : ByteArray) : keeps (s ++ ⟨#[32, 107, 101, 121, 61, 115, 111, 109, 101]⟩) keyF = true := by
  unfold keyF
  rw [keeps_field]
  unfold hasPiece
  rw [key_want, append_list, show (⟨#[32, 107, 101, 121, 61, 115, 111, 109, 101]⟩ : ByteArray).data.toList = 32 :: [107, 101, 121, 61, 115, 111, 109, 101] from rfl, pcs_any]
  rw [Bool.or_eq_true]
  exact .inr (by decide)
theorem field_begin (s : ByteArray) : keeps (⟨#[107, 101, 121, 61, 115, 111, 109, 101, 32]⟩ ++ s) keyF = true := by
  unfold keyF
  rw [keeps_field]
  unfold hasPiece
  rw [key_want, append_list, show (⟨#[107, 101, 121, 61, 115, 111, 109, 101, 32]⟩ : ByteArray).data.toList ++ s.data.toList = [107, 101, 121, 61, 115, 111, 109, 101] ++ 32 :: s.data.toList from rfl, pcs_any]
  rw [Bool.or_eq_true]
  exact .inl (by decide)

/-- A part of a line stands in it. -/
theorem part_stands (s : ByteArray) (i j : Nat) (hij : i ≤ j) (hj : j ≤ s.size) : Lib.contains s.data.toList (s.extract i j).data.toList = true := by
  have hls : s.data.toList.length = s.size := Array.length_toList
  refine contains_hit (i := i) (by omega) ?_
  have hsz : (s.extract i j).size = j - i := by rw [ByteArray.size_extract]; omega
  rw [occ_extract, hsz, show i + (j - i) = j by omega]
  exact decide_eq_true rfl

def hasF (t : ByteArray) : Ft := .mk 4 ⟨#[]⟩ t []
theorem hasF_at (t : ByteArray) (w : World) : KsAt w (.slice none 0 0) (hasF t) := by unfold hasF; rw [KsAt]; exact ⟨none, 0, rfl, by simp, .inl rfl⟩
theorem hasF_fit {t : ByteArray} (h : t.size ≤ 10000) : Fit (hasF t) := fit_leaf _ _ _ (by decide) fit_nil h

attribute [local irreducible] wpQuiet

set_option maxHeartbeats 8000000 in
set_option maxRecDepth 100000 in
theorem stands_walk (s : ByteArray) (x y : Int) (w : World) (hT : Lib.Utf8Tabs 1 2 w) (hSh : w.ShapedOpen Tryd.prog) :
    Calls Tryd.prog 4 #[.string s, .int .i64 x, .int .i64 y] w fun e w' => e = .returned (.bool true) ∧ Below w.heap.size w w' := by
  have hmx : Tryd.prog.follows .mixedOrders = true := by kernel_rfl
  have HA := Lib.hid (alive_any w hSh)
  by_cases hg : 300 < s.size ∨ x < 0 ∨ y < x ∨ (s.size : Int) < y
  · have hg' : decide (300 < (s.size : Int)) = true ∨ (decide (300 < (s.size : Int)) = false ∧ decide (x < 0) = true) ∨ (decide (300 < (s.size : Int)) = false ∧ decide (x < 0) = false ∧ decide (y < x) = true) ∨ (decide (300 < (s.size : Int)) = false ∧ decide (x < 0) = false ∧ decide (y < x) = false ∧ decide ((s.size : Int) < y) = true) := by
      simp
      omega
    rcases hg' with hd | ⟨hd, hd1⟩ | ⟨hd, hd1, hd2⟩ | ⟨hd, hd1, hd2, hd3⟩
    all_goals
      clear hg hT hSh
      go_enter Tryd.func4, Tryd.ntmps4
      go_wp2_with (go_at_call 5; refine HA.out.mono ?_; rintro e w1 ⟨rfl, hb1⟩)
      go_ret
      exact ⟨rfl, hb1⟩
  obtain ⟨i, rfl⟩ : ∃ i : Nat, x = i := Int.eq_ofNat_of_zero_le (by omega)
  obtain ⟨j, rfl⟩ : ∃ j : Nat, y = j := Int.eq_ofNat_of_zero_le (by omega)
  have d0 : decide (300 < (s.size : Int)) = false := by simp; omega
  have d1 : decide ((i : Int) < 0) = false := by simp
  have d2 : decide ((j : Int) < (i : Int)) = false := by simp; omega
  have d3 : decide ((s.size : Int) < (j : Int)) = false := by simp; omega
  have hij : i ≤ j := by omega
  have hj : j ≤ s.size := by omega
  have hs : s.size ≤ 300 := by omega
  have HT := Lib.hid hT
  have HS := Lib.hid hSh
  clear hg hT hSh
  obtain ⟨t, ht⟩ : ∃ t, t = s.extract i j := ⟨_, rfl⟩
  have hts : t.size ≤ 300 := by rw [ht, ByteArray.size_extract]; omega
  have HTE := Lib.hid ht.symm
  have HH := Lib.hid fun W (hW : Below w.heap.size w W) => line_any s (by omega) (hasF t) (hasF_fit (by omega)) W ((hasF t).val (.slice none 0 0)) ⟨_, rfl, hasF_at t W⟩ (shaped_below HS.out hW)
  rw [show keeps s (hasF t) = true by unfold hasF; rw [keeps_has, ht]; exact part_stands s i j hij hj] at HH
  simp only [hasF, Ft.val, Ft.op, Ft.name, Ft.text] at HH
  clear ht
  go_enter Tryd.func4, Tryd.ntmps4
  go_wp2_with fail
  refine HA.out.mono ?_
  rintro r w1 ⟨rfl, hb1⟩
  have HB1 := Lib.hid hb1
  have HH1 := Lib.hid (HH.out w1 hb1)
  clear hb1 HA HH
  have hte := HTE.out
  go_wp2_with fail
  refine HH1.out.mono ?_
  rintro r w2 ⟨rfl, hb2⟩
  have HB2 := Lib.hid (HB1.out.trans (hb2.mono HB1.out.size))
  clear hb2 HH1 HB1 hte
  go_wp2_with fail
  obtain ⟨w3, hw3⟩ : ∃ w3, w3 = w2.alloc (.cells #[.int .i64 5, .string ⟨#[107, 101, 121]⟩, .string ⟨#[115, 111, 109, 101]⟩, .slice none 0 0] 30) := ⟨_, rfl⟩
  have hb3 : Below w2.heap.size w2 w3 := by rw [hw3]; exact (Below.refl _ w2).alloc (Nat.le_refl _) _
  have hf3 : CB w3 w2.heap.size 30 #[.int .i64 5, .string ⟨#[107, 101, 121]⟩, .string ⟨#[115, 111, 109, 101]⟩, .slice none 0 0] := by rw [hw3]; exact CB.new w2 30 _
  rw [← hw3]
  have HB3 := Lib.hid (HB2.out.trans (hb3.mono HB2.out.size))
  have HF3 := Lib.hid hf3
  clear hw3 hb3 hf3 HB2
  generalize w2.heap.size = A at HF3 ⊢
  have hsh : ∀ W, Below w3.heap.size w3 W → W.ShapedOpen Tryd.prog := fun W hW => shaped_below (shaped_below HS.out HB3.out) hW
  have htb : ∀ W, Below w3.heap.size w3 W → Lib.Utf8Tabs 1 2 W := fun W hW => tabs_below (tabs_below HT.out HB3.out) hW
  have hz1 : (s ++ ⟨#[32, 107, 101, 121, 61, 115, 111, 109, 101]⟩).size ≤ 100000 := by rw [ByteArray.size_append]; show s.size + 9 ≤ _; omega
  have hz2 : (⟨#[107, 101, 121, 61, 115, 111, 109, 101, 32]⟩ ++ s : ByteArray).size ≤ 100000 := by rw [ByteArray.size_append]; show 9 + s.size ≤ _; omega
  have hz3 : (⟨#[107, 101, 121, 61, 115, 111, 109, 101, 45]⟩ ++ s : ByteArray).size ≤ 100000 := by rw [ByteArray.size_append]; show 9 + s.size ≤ _; omega
  have K1 := quiet_bool (w := w3) (b := true) (fun W hW => by have := line_any _ hz1 keyF keyF_fit W (keyF.val (.slice none 0 0)) ⟨_, rfl, keyF_at W⟩ (hsh W hW); rwa [field_end] at this)
  have K2 := quiet_bool (w := w3) (b := true) (fun W hW => by have := line_any _ hz2 keyF keyF_fit W (keyF.val (.slice none 0 0)) ⟨_, rfl, keyF_at W⟩ (hsh W hW); rwa [field_begin] at this)
  have K3 := quiet_bool (w := w3) (fun W hW => line_any _ hz3 keyF keyF_fit W (keyF.val (.slice none 0 0)) ⟨_, rfl, keyF_at W⟩ (hsh W hW))
  have K4 := quiet_bool (w := w3) (fun W hW => refLine_any _ hz3 keyF keyF_fit keyF_whole W (keyF.val (.slice none 0 0)) ⟨_, rfl, keyF_at W⟩ (htb W hW))
  generalize keeps (⟨#[107, 101, 121, 61, 115, 111, 109, 101, 45]⟩ ++ s) keyF = k at K3 K4
  have hkk : ((!k) == (!k)) = true := by cases k <;> rfl
  have p1 : ∀ W, (Op.stringOp .add s ⟨#[32, 107, 101, 121, 61, 115, 111, 109, 101]⟩).run Tryd.prog W = .ok (.string (s ++ ⟨#[32, 107, 101, 121, 61, 115, 111, 109, 101]⟩)) W := fun W => run_string_add_sum W _ _ (by show s.size + 9 ≤ _; omega)
  have p2 : ∀ W, (Op.stringOp .add ⟨#[107, 101, 121, 61, 115, 111, 109, 101, 32]⟩ s).run Tryd.prog W = .ok (.string (⟨#[107, 101, 121, 61, 115, 111, 109, 101, 32]⟩ ++ s)) W := fun W => run_string_add_sum W _ _ (by show 9 + s.size ≤ _; omega)
  have p3 : ∀ W, (Op.stringOp .add ⟨#[107, 101, 121, 61, 115, 111, 109, 101, 45]⟩ s).run Tryd.prog W = .ok (.string (⟨#[107, 101, 121, 61, 115, 111, 109, 101, 45]⟩ ++ s)) W := fun W => run_string_add_sum W _ _ (by show 9 + s.size ≤ _; omega)
  have f0 := fun d os => cell_regrown (CB.cell HF3.out 0) d os
  have f1 := fun d os => cell_regrown (CB.cell HF3.out 1) d os
  have f2 := fun d os => cell_regrown (CB.cell HF3.out 2) d os
  have f3 := fun d os => cell_regrown (CB.cell HF3.out 3) d os
  simp only [keyF, keyB, someB, Ft.val, Ft.op, Ft.name, Ft.text] at K1 K2 K3 K4
  clear hsh htb hz1 hz2 hz3 HT HS HTE
  refine wp_region_quiet_below (by assumption) (by kernel_rfl) ?_
  repeat (quiet_step (with_reducible first | exact K1 _ _ | exact K2 _ _ | exact K3 _ _ | exact K4 _ _))
  refine wpQuiet_nil ?_
  intro _ hw'
  obtain ⟨⟨dq, osq⟩, hw''⟩ := hw'
  subst hw''
  have HB7 := Lib.hid (HB3.out.trans ((below_regrown w3 dq osq).mono HB3.out.size))
  clear f0 f1 f2 f3 K1 K2 K3 K4
  go_wp2_with fail
  go_ret
  exact ⟨by first | rfl | simp, HB7.out⟩

end Go.Proofs.YtbcpcahfafghkaaDoor
