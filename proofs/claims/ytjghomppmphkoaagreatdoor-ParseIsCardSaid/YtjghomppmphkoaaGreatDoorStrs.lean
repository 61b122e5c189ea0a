/-
  STRINGS, BYTE BY BYTE: what a walk asks of them.
-/
import Derived.Test.YtjghomppmphkoaaGreatDoorRow
import Derived.Test.YtjghomppmphkoaaGreatDoorWords
import Derived.WalkKit
import Derived.WalkSpells
import Derived.WalkLawsBesides
import Derived.Deep.QuietTactic
import Derived.BigQuiet
import Derived.Lib.OthersKept
import Derived.Lib.Walk
import Derived.Outline
namespace Go.Proofs.YtjghomppmphkoaaGreatDoor
open Go.RowKit Go

theorem toList_inj (x y : ByteArray) (h : x.toList = y.toList) : x = y := by
  rw [Lib.toList_data, Lib.toList_data] at h
  obtain ⟨a⟩ := x
  obtain ⟨b⟩ := y
  have : a.toList = b.toList := h
  rw [Array.toList_inj.1 this]

theorem ret_bool {a b : Bool} (h : a = b) : Ending.returned (.bool a) = .returned (.bool b) := by rw [h]

theorem idx_run (S : ByteArray) (ix bv : Nat) (hx : ix < S.size) (hb : S[ix].toNat = bv) (w : World) : (Instr.index 9 (.string S) (.int .i64 (ix : Int))).run Tryz.prog w = .ok (.int .u8 (bv : Int)) w := by
  have h : 0 ≤ (ix : Int) ∧ (ix : Int) < S.size := ⟨by omega, by omega⟩
  have e := run_index_string (P := Tryz.prog) (w := w) 9 S .i64 ix Tryz.underlying9
  rw [dif_pos h] at e
  subst hb
  exact e

theorem byte_drop (s : ByteArray) (k : Nat) (h : k < s.size) : s.data.toList.drop k = s[k] :: s.data.toList.drop (k + 1) := by
  have hl : k < s.data.toList.length := by rw [← Lib.size_eq]; exact h
  rw [List.drop_eq_getElem_cons hl]
  rfl


end Go.Proofs.YtjghomppmphkoaaGreatDoor
