/-
  A TOLD QUERY'S TEXT: it is parsed as it, or stands too deep; how long it is. No program in it.
-/
import Derived.Test.YtkckgjanfiiieaaGreatDoorKs8
import Derived.Test.YtkckgjanfiiieaaGreatDoorLxA
namespace Go.Proofs.YtkckgjanfiiieaaGreatDoor.PX
open Go LX MW

/-- Two queries of one text are the same, however long it is. -/
theorem text_inj {q p : Qy} (hq : CanQ q) (tq : TOkQ q) (hp : CanQ p) (tp : TOkQ p) (q1 : Num Lib.itoa q.src) (q2 : Num Lib.itoa q.til) (q3 : Num Lib.itoa q.lim) (p1 : Num Lib.itoa p.src) (p2 : Num Lib.itoa p.til) (p3 : Num Lib.itoa p.lim) (h : spell (qsp Lib.itoa q) = spell (qsp Lib.itoa p)) : q = p := by
  obtain ⟨ts, h1, h2⟩ := toks_spell _ 0 (sp_spaced (qsp_sp hq tq q1 q2 q3))
  obtain ⟨us, h3, h4⟩ := toks_spell _ 0 (sp_spaced (qsp_sp hp tp p1 p2 p3))
  rw [h] at h1
  rw [h1] at h3
  cases h3
  have run : ∀ {r : Qy}, (ts.map Tok.bare = (qsp Lib.itoa r).map (·.2)) → Runs (ts ++ [⟨0, [], 0, 0⟩]) 0 (qtk Lib.itoa r) ∧ (tk (ts ++ [⟨0, [], 0, 0⟩]) (qtk Lib.itoa r).length).kind = 0 := fun {r} hb => by
    rw [qsp_map] at hb
    have hn : (qtk Lib.itoa r).length = ts.length := by rw [← hb, List.length_map]
    refine ⟨⟨by rw [List.length_append]; omega, fun j hj => ?_⟩, ?_⟩
    · have hj' : j < ts.length := by omega
      have e : tk (ts ++ [⟨0, [], 0, 0⟩]) (0 + j) = ts[j] := by
        rw [Nat.zero_add, tk_get (by simp; omega), List.getElem_append_left hj']
      have hb' : (ts.map Tok.bare)[j]'(by simpa using hj') = (qtk Lib.itoa r)[j] := by simp only [hb]
      rw [List.getElem_map] at hb'
      rw [e, ← hb']
      exact ⟨rfl, rfl, rfl⟩
    · rw [hn, tk_get (by simp), List.getElem_append_right (Nat.le_refl _)]
      simp
  have a := run h2
  have b := run h4
  have c := query_reads hq a.1 a.2
  have d := query_reads hp b.1 b.2
  rw [c] at d
  cases d
  rfl
end Go.Proofs.YtkckgjanfiiieaaGreatDoor.PX
