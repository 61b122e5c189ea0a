/-
  PACKAGE lex: IsText, Quote.
-/
import Derived.Test.YtaghogfkkmphoaaDoorOwA
import Derived.Test.YtaghogfkkmphoaaDoorLxA
import Derived.Shelf.SlSortCmp.QuietGrown
import Derived.Test.YtaghogfkkmphoaaDoorShelf
import Derived.Lib.FrozenHead2
import Derived.Laws.OwnMore
import Derived.Laws.IdiomStrings
namespace Go.Proofs.YtaghogfkkmphoaaDoor
open Go.RowKit Go

set_option maxHeartbeats 2000000 in
set_option maxRecDepth 100000 in
/-- lex.IsText. -/
theorem own_isText_any (s : ByteArray) (hlen : s.size ≤ 1048576) (w : World) (hT : Lib.Utf8Tabs 0 1 w) :
    Calls Tryd.prog 61 #[.string s] w fun e w' => e = .returned (.bool (LX.isText s.data.toList)) ∧ Below w.heap.size w w' := by
  have hsz : s.data.toList.length = s.size := (Lib.size_eq s).symm
  have HBR := Lib.hid (broken_any s hlen w hT)
  clear hT
  obtain ⟨v, hv⟩ : ∃ v, LX.valid s.data.toList = v := ⟨_, rfl⟩
  have hte : LX.isText s.data.toList = (!s.data.toList.contains 10 && decide (v = s.size)) := by
    unfold LX.isText
    rw [hv, hsz]
  rw [hv] at HBR
  have HTE := Lib.hid hte
  clear hte hv hsz
  have HCO := Lib.hid (fun w => Tryd.strings_Contains_one s 10 w)
  rw [index_contains] at HCO
  by_cases h : v = s.size
  · subst h
    go_enter Tryd.func61, Tryd.ntmps61
    go_wp2_with fail
    refine HBR.out.mono ?_
    rintro e w1 ⟨rfl, hb1⟩
    go_wp2_with fail
    refine (HCO.out w1).mono ?_
    rintro e w2 ⟨rfl, rfl⟩
    go_wp2_with fail
    go_ret
    refine ⟨ret_bool ?_, hb1⟩
    rw [HTE.out]
    simp
  · have h' : ((v : Int) == (s.size : Int)) = false := by simp; omega
    go_enter Tryd.func61, Tryd.ntmps61
    go_wp2_with fail
    refine HBR.out.mono ?_
    rintro e w1 ⟨rfl, hb1⟩
    go_wp2_with fail
    go_ret
    refine ⟨ret_bool ?_, hb1⟩
    rw [HTE.out, decide_eq_false h, Bool.and_false]

end Go.Proofs.YtaghogfkkmphoaaDoor
