/-
  sum.Seal, sum.Open.
-/
import Derived.Test.YtacekhjmfjcppaaSum
import Derived.BigQuiet
import Derived.WalkSmall
namespace Go.Proofs.Ytacekhjmfjcppaa
open Go.RowKit Go

theorem bs_string_of {G : Nat → Prop} {w : World} {v : Value} {l : List UInt8} (h : Bs G w v l) (s : ByteArray) (hs : s.data.toList = l) : (convert 27 9 v).run Try.prog w = .ok (.string s) w := by
  have := bs_string h
  rw [← hs, Lib.mk_data] at this
  exact this

theorem text_of (l : List UInt8) : ∃ s : ByteArray, s.data.toList = l := ⟨⟨l.toArray⟩, rfl⟩

set_option maxHeartbeats 400000 in
/-- sum.Seal. -/
theorem shut_any (G : Nat → Prop) (sv : Value) (l : List UInt8) (w : World) (hown : Bs G w sv l) (hG : ∀ k, w.heap.size ≤ k → G k) (hlim : l.length ≤ 1000000) :
    Calls Try.prog 12 #[sv] w fun e w' => ∃ v', e = .returned v' ∧ Bs G w' v' (M.shut l) ∧ Keep G w w' := by
  obtain ⟨s, hs⟩ := text_of l
  have hc := bs_string_of hown s hs
  have hsz : s.size = l.length := by rw [Lib.size_eq, hs]
  have hO := of_any s (by omega) w
  rw [hs] at hO
  have hP := put_any G (M.of l) sv l w hown hG (by omega)
  have HO := Lib.hid hO
  have HP := Lib.hid hP
  clear hO hP hs hsz
  go_enter Try.func12, Try.ntmps12
  go_wp2_with (first | (go_at_call 10; refine HO.out.mono ?_; rintro e w' ⟨rfl, rfl⟩) | (go_at_call 17; refine HP.out.mono ?_; rintro e w1 ⟨v', rfl, ho, hb⟩))
  go_ret
  exact ⟨v', rfl, ho, hb⟩

/-- What Open answers of s. -/
def OpenR (s t : ByteArray) (b : Bool) : Prop :=
  (b = true ∧ s.data.toList = M.shut t.data.toList) ∨ (b = false ∧ t = ⟨#[]⟩ ∧ ∀ l, s.data.toList ≠ M.shut l)

theorem bytes_ext {s t : ByteArray} (h : s.data.toList = t.data.toList) : s = t := by
  have := congrArg List.toArray h
  simpa [ByteArray.ext_iff] using this

theorem OpenR.det {s t t' : ByteArray} {b b' : Bool} (h : OpenR s t b) (k : OpenR s t' b') : t' = t ∧ b' = b := by
  rcases h with ⟨rfl, h⟩ | ⟨rfl, rfl, h⟩
  · rcases k with ⟨rfl, k⟩ | ⟨rfl, _, k⟩
    · exact ⟨(bytes_ext (M.shut_inj (h.symm.trans k))).symm, rfl⟩
    · exact absurd h (k _)
  · rcases k with ⟨rfl, k⟩ | ⟨rfl, rfl, _⟩
    · exact absurd k (h _)
    · exact ⟨rfl, rfl⟩

theorem openR_short {s : ByteArray} (h : s.size < 4) : OpenR s ⟨#[]⟩ false := by
  refine .inr ⟨rfl, rfl, fun l e => ?_⟩
  have := congrArg List.length e
  rw [M.shut_length, ← Lib.size_eq] at this
  omega

theorem openR_yes {s : ByteArray} {m : Nat} (he : M.le 4 (M.of (s.data.toList.take m)) = s.data.toList.drop m) : OpenR s (s.extract 0 m) true := by
  refine .inl ⟨rfl, ?_⟩
  have e : (s.extract 0 m).data.toList = s.data.toList.take m := by
    rw [Lib.extract_data]; simp
  rw [e]
  unfold M.shut
  rw [he, List.take_append_drop]

theorem openR_no {s : ByteArray} {m : Nat} (h : s.size = m + 4) (he : M.le 4 (M.of (s.data.toList.take m)) ≠ s.data.toList.drop m) : OpenR s ⟨#[]⟩ false := by
  refine .inr ⟨rfl, rfl, fun l e => ?_⟩
  have hl : l.length = m := by
    have := congrArg List.length e
    rw [M.shut_length, ← Lib.size_eq] at this
    omega
  apply he
  rw [e]
  unfold M.shut
  rw [← hl, List.take_left, List.drop_left]

set_option maxHeartbeats 400000 in
theorem open_short (s : ByteArray) (h : s.size < 4) (w : World) :
    Calls Try.prog 8 #[.string s] w fun e w' => e = .returned (.tuple #[.string ⟨#[]⟩, .bool false]) ∧ w = w' := by
  go_enter Try.func8, Try.ntmps8
  go_wp2
  go_ret2
  exact ⟨rfl, rfl⟩

theorem neq_yes {a b : List UInt8} (h : (!a == b) = true) : a ≠ b := by
  intro e
  subst e
  simp at h
theorem neq_no {a b : List UInt8} (h : (!a == b) = false) : a = b := by
  simpa using h

set_option maxHeartbeats 1000000 in
theorem open_long (s : ByteArray) (m : Nat) (h : s.size = m + 4) (hm : m ≤ 1000000) (w : World) :
    Calls Try.prog 8 #[.string s] w fun e w' => (∃ (t : ByteArray) (b : Bool), e = .returned (.tuple #[.string t, .bool b]) ∧ OpenR s t b) ∧ Below w.heap.size w w' := by
  have H := Lib.hid h
  go_enter Try.func8, Try.ntmps8
  go_wp2
  go_quiet (fail)
  go_wp2_with fail
  refine (of_any _ (by simp; omega) _).mono ?_
  rintro e w' ⟨rfl, rfl⟩
  go_wp2_with fail
  refine (put_any (From w.heap.size) (M.of _) _ [] _ (Bs.nil _ _) (fun k hk => by simpa [From] using hk) (by simp)).mono ?_
  rintro e w1 ⟨v', rfl, ho, hb⟩
  obtain ⟨p, hp⟩ := text_of ([] ++ M.le 4 (M.of (s.data.toList.take m)))
  have hc := bs_string_of ho p hp
  have HP : Hid (p.toList = M.le 4 (M.of (s.data.toList.take m))) := by
    show p.toList = M.le 4 (M.of (s.data.toList.take m))
    rw [Lib.toList_data, hp, List.nil_append]
  have HE : Hid ((s.extract m (m + 4)).toList = s.data.toList.drop m) := by
    show (s.extract m (m + 4)).toList = s.data.toList.drop m
    rw [Lib.toList_data, Lib.extract_data, List.take_of_length_le (by rw [List.length_drop, ← Lib.size_eq]; omega)]
  have HB : Hid (Below w.heap.size w w1) := (below_drewN (Below.refl _ w) nq).trans (hb.from (by simp))
  clear hp ho hb
  go_wp2_with fail
  · rename_i hne
    have HN := Lib.hid (neq_yes hne)
    clear hne
    go_ret2
    refine ⟨⟨_, _, rfl, openR_no H.out ?_⟩, HB.out⟩
    rw [← HP.out, ← HE.out]
    exact HN.out
  · rename_i hne
    have HN := Lib.hid (neq_no hne)
    clear hne
    go_ret2
    refine ⟨⟨_, _, rfl, openR_yes ?_⟩, HB.out⟩
    rw [← HP.out, ← HE.out]
    exact HN.out

/-- sum.Open. -/
theorem open_any (s : ByteArray) (hs : s.size ≤ 1000000) (w : World) :
    Calls Try.prog 8 #[.string s] w fun e w' => (∃ (t : ByteArray) (b : Bool), e = .returned (.tuple #[.string t, .bool b]) ∧ OpenR s t b) ∧ Below w.heap.size w w' := by
  by_cases h : s.size < 4
  · refine (open_short s h w).mono ?_
    rintro e w' ⟨rfl, rfl⟩
    exact ⟨⟨_, _, rfl, openR_short h⟩, Below.refl _ _⟩
  · exact open_long s (s.size - 4) (by omega) (by omega) w

end Go.Proofs.Ytacekhjmfjcppaa
