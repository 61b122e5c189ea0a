/-
  THE WORDS OF A TEXT, as texts: how many, what they are, and of two texts parted by a blank.
-/
import Derived.Test.YtgjlbcmejanfaaaDoorAlive
namespace Go.Proofs.YtgjlbcmejanfaaaDoor
open Go.RowKit Go

theorem wordsB_blank (a b : ByteArray) : wordsB (a ++ ⟨#[32]⟩ ++ b) = wordsB a ++ wordsB b := by
  rw [wordsB_eq, wordsB_eq, wordsB_eq, ← List.map_append, ← M.words_blank]
  congr 2
  simp [ByteArray.data_append]

theorem wordsB_word {s x : ByteArray} (h : x ∈ wordsB s) : M.is x.data.toList = true ∧ wordsB x = [x] := by
  rw [wordsB_eq] at h
  obtain ⟨l, hl, rfl⟩ := List.mem_map.1 h
  rw [wordsB_eq, bs_data]
  exact ⟨M.word_is hl, by rw [M.words_word hl]; rfl⟩

theorem wordsB_size {s x : ByteArray} (h : x ∈ wordsB s) : x.size ≤ s.size := by
  unfold wordsB at h
  obtain ⟨p, hp, rfl⟩ := List.mem_map.1 h
  have e : (pc s p).size = (M.piece s.data.toList p).length := by
    unfold pc bs
    exact List.size_toArray
  have e2 : s.data.toList.length = s.size := Array.length_toList
  rw [e]
  unfold M.piece
  rw [List.length_drop, List.length_take]
  omega

theorem takeAll {s : ByteArray} {m : Int} (h : (s.size : Int) ≤ m) : (wordsB s).take m.toNat = wordsB s :=
  List.take_of_length_le (by have := wordsB_length s; omega)

/-- All words of a short text. -/
theorem gone_all (s : ByteArray) (w : World) (m : Int) (hs : s.size ≤ 1048576) (h : (s.size : Int) ≤ m) :
    Calls Tryd.prog 9 #[.func (.func 18) #[] #[.pointer (some ⟨w.heap.size, 0, none⟩)], .int .i64 m] (w.alloc (.cells #[.string s] 9)) fun e w' => ∃ v, e = .returned v ∧ Rs (From w.heap.size) w' v (strs (wordsB s)) ∧ Below w.heap.size w w' := by
  have := gone_words s hs w m
  rwa [takeAll h] at this

/-- A word's words are it alone. -/
theorem gone_word {s x : ByteArray} (hx : x ∈ wordsB s) (hs : s.size ≤ 1048576) (w : World) :
    Calls Tryd.prog 9 #[.func (.func 18) #[] #[.pointer (some ⟨w.heap.size, 0, none⟩)], .int .i64 9] (w.alloc (.cells #[.string x] 9)) fun e w' => ∃ v, e = .returned v ∧ Rs (From w.heap.size) w' v (strs [x]) ∧ Below w.heap.size w w' := by
  have hsz := wordsB_size hx
  have := gone_words x (by omega) w 9
  rwa [(wordsB_word hx).2] at this

end Go.Proofs.YtgjlbcmejanfaaaDoor
