/-
  magpielaw06.TreeTurned: the walk; what tree's calls do, and the reference's Query, stand ahead of it.
-/
import Derived.Test.YtgmahdeaggjjgaaTurnedM6
namespace Go.Proofs.Ytgmahdeaggjjgaa
open Go.RowKit Go

theorem turned_walk (H : TreeCalls) (HQ : QueryCall) (HS : SameCall) (la : List Int) (kind : Int) (w : World) (va : Value) (ha : IntsAt w va la) : Calls Try.prog 5 #[va, .int .i64 kind] w fun e w' => e = .returned (.bool true) ∧ Lay w w' := by
  obtain ⟨k, hk⟩ : ∃ k, wrap64 ((IntKind.u64.wrap kind).tmod 8) = k := ⟨_, rfl⟩
  have h0 : 0 ≤ IntKind.u64.wrap kind := by
    have : IntKind.u64.wrap kind = kind % 18446744073709551616 := rfl
    omega
  have h1 : (IntKind.u64.wrap kind).tmod 8 = IntKind.u64.wrap kind % 8 := Int.tmod_eq_emod_of_nonneg h0
  have h2 : 0 ≤ IntKind.u64.wrap kind % 8 ∧ IntKind.u64.wrap kind % 8 < 8 := by omega
  have h3 : wrap64 ((IntKind.u64.wrap kind).tmod 8) = IntKind.u64.wrap kind % 8 := by
    rw [h1]
    unfold wrap64; omega
  have hr : k = 0 ∨ k = 1 ∨ k = 2 ∨ k = 3 ∨ k = 4 ∨ k = 5 ∨ k = 6 ∨ k = 7 := by
    rw [h3] at hk
    omega
  rcases hr with e | e | e | e | e | e | e | e
  · exact turned_simple H HQ HS la kind k hk (by omega) w va ha
  · exact turned_simple H HQ HS la kind k hk (by omega) w va ha
  · exact turned_match H HQ HS la kind k hk e w va ha
  · exact turned_simple H HQ HS la kind k hk (by omega) w va ha
  · exact turned_simple H HQ HS la kind k hk (by omega) w va ha
  · exact turned_simple H HQ HS la kind k hk (by omega) w va ha
  · exact turned_not H HQ HS la kind k hk e w va ha
  · exact turned_simple H HQ HS la kind k hk (by omega) w va ha

end Go.Proofs.Ytgmahdeaggjjgaa
