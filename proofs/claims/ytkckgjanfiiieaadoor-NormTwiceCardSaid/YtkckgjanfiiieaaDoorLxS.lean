/-
  THE DOCUMENT'S OWN: letter, Words, IsWord.
  THE DOCUMENT'S OWN: Valid, IsText, Quote.
-/
import Derived.Test.YtkckgjanfiiieaaDoorWdA
import Derived.Test.YtkckgjanfiiieaaDoorLxA
import Derived.Test.YtkckgjanfiiieaaDoorShelf
namespace Go.Proofs.YtkckgjanfiiieaaDoor
open Go.RowKit Go

end Go.Proofs.YtkckgjanfiiieaaDoor

namespace Go.Proofs.YtkckgjanfiiieaaDoor
open Go.RowKit Go

theorem decodeGo_at (s : ByteArray) (pos : Nat) (h : pos < s.size) : Lib.decodeGo (s.extract pos s.size) = MW.dec (s.data.toList.drop pos) := by
  have hsz : (s.extract pos s.size).size = s.size - pos := by simp [ByteArray.size_extract]
  unfold Lib.decodeGo
  rw [if_neg (by omega), MW.dec_at, List.drop_zero]
  congr 1
  rw [ByteArray.data_extract]
  have e : s.data.toList.length = s.size := Array.length_toList
  simp [List.extract_eq_take_drop]
  rw [List.take_of_length_le]
  rw [List.length_drop, e]
  exact Nat.le_refl _

theorem decode_call (s : ByteArray) (pos : Nat) (h : pos < s.size) (c n : Nat) (hd : MW.dec (s.data.toList.drop pos) = (c, n)) (w : World) (hT : Lib.Utf8Tabs 0 1 w) :
    Calls Tryd.prog 56 #[.string (s.extract pos s.size)] w fun e w' => e = .returned (.tuple #[.int .i32 c, .int .i64 n]) ∧ Below w.heap.size w w' := by
  have := Tryd.utf8_DecodeRuneInString (s.extract pos s.size) w hT
  rw [decodeGo_at s pos h, hd] at this
  exact this

end Go.Proofs.YtkckgjanfiiieaaDoor
