/-
  HOW LONG A TOLD QUERY'S TEXT IS. No program in it.
-/
import Derived.Test.YtkckgjanfiiieaaGreatDoorTxB
import Derived.Test.YtkckgjanfiiieaaGreatDoorKd8
namespace Go.Proofs.YtkckgjanfiiieaaGreatDoor
open Go.RowKit Go
open PX (tl tls)

theorem quote_two (l : List UInt8) : (LX.quote l).length ≤ 2 * l.length + 2 := by
  unfold LX.quote
  split
  · have := (LX.esc_len l).2
    simp only [List.length_cons, List.length_append, List.length_nil]
    omega
  · exact Nat.zero_le _

theorem leaf_cost {op : Int} {n t : ByteArray} (h : op ≤ 5) : (fText (.mk op n t [])).length + 7 ≤ tl (.mk op n t []) := by
  have h1 := quote_two t.data.toList
  have h2 : t.data.toList.length = t.size := (Lib.size_eq t).symm
  have h3 : n.data.toList.length = n.size := (Lib.size_eq n).symm
  have l4 : (PX.lts (PX.kT t.data.toList)) = LX.quote t.data.toList := by unfold PX.lts; rw [if_pos (show (PX.kT t.data.toList).1 = 4 from rfl)]; rfl
  have lN : (PX.lts (PX.kN n.data.toList)) = n.data.toList := by unfold PX.lts; rw [if_neg (by show ¬ 1 = 4; decide)]; rfl
  have lW : ∀ s, PX.lts (PX.kW s) = s := fun s => by unfold PX.lts; rw [if_neg (by show ¬ 2 = 4; decide)]; rfl
  have lS : ∀ s, PX.lts (PX.kS s) = s := fun s => by unfold PX.lts; rw [if_neg (by show ¬ 5 = 4; decide)]; rfl
  rw [PX.tl_leaf]
  unfold fText
  rw [PX.fsp]
  split
  · rw [PX.spell, PX.spell, lW]; simp [PX.wTrue]; omega
  split
  · rw [PX.spell, PX.spell, lW]; simp [PX.wFalse]; omega
  split
  · rw [PX.spell, PX.spell, PX.spell, lW, l4]
    simp [PX.wWord]
    omega
  split
  · rw [PX.spell, PX.spell, PX.spell, lW, l4]
    simp [PX.wHas]
    omega
  split
  · rw [PX.spell, PX.spell, PX.spell, PX.spell, PX.spell, lW, lN, lS, l4]
    simp [PX.wField, PX.wEq]
    omega
  split
  · omega
  split
  · omega
  · rw [PX.rsp]; simp [PX.spell]; omega

theorem kText_two (k : Ft) : (kText k).length ≤ (fText k).length + 2 := by
  unfold kText
  split
  · simp
  · omega
theorem sText_cost {w : List UInt8} (hw : w.length ≤ 3) : ∀ {l : List Ft}, (∀ k ∈ l, (fText k).length + 7 ≤ tl k) → (sText w l).length ≤ tls l
  | [], _ => by simp [sText]
  | k :: r, h => by
    have h1 := sText_cost hw (l := r) fun x hx => h x (by simp [hx])
    have h2 := h k (by simp)
    have h3 := kText_two k
    rw [sText, tls]
    simp only [List.length_append, List.length_cons]
    omega
theorem rText_cost {w : List UInt8} (hw : w.length ≤ 3) {l : List Ft} (h : ∀ k ∈ l, (fText k).length + 7 ≤ tl k) : (rText w l).length ≤ tls l := by
  cases l with
  | nil => simp [rText]
  | cons k r =>
    have h1 := sText_cost hw (l := r) fun x hx => h x (by simp [hx])
    have h2 := h k (by simp)
    have h3 := kText_two k
    rw [rText, tls, List.length_append]
    omega

theorem filter_cost : ∀ (m : Nat) (f : Ft), f.count ≤ m → PX.Can f → (fText f).length + 7 ≤ tl f
  | 0, .mk _ _ _ _, hn, _ => by rw [Ft.count] at hn; omega
  | m + 1, .mk op n t l, hn, hc => by
    rw [Ft.count] at hn
    by_cases h6 : 6 ≤ op
    · have h8 : op ≤ 8 := by
        rw [PX.Can] at hc
        rcases hc with ⟨h | h, _⟩ | ⟨h | h, _⟩ | ⟨h, _⟩ | ⟨h, _⟩ | ⟨h | h, _⟩ <;> omega
      obtain ⟨hne, hcs, _, htx⟩ := fText_of ⟨h6, h8⟩ hc
      have h1 : (rText (if op = 8 then PX.wOr else PX.wAnd) l).length ≤ tls l := rText_cost (by split <;> decide) fun k hk => filter_cost m k (by have := PX.count_mem hk; omega) (PX.Cans.mem hcs hk)
      rw [htx, List.length_append, tl]
      split <;> simp only [List.length_cons, List.length_nil] <;> omega
    · have hl : l = [] := by
        rw [PX.Can] at hc
        rcases hc with ⟨_, _, _, h⟩ | ⟨_, _, h⟩ | ⟨_, h⟩ | ⟨h, _⟩ | ⟨h | h, _⟩
        · exact h
        · exact h
        · exact h
        · omega
        · omega
        · omega
      subst hl
      exact leaf_cost (by omega)

mutual
theorem sm_cost (b : Nat) : ∀ f : Ft, tl f ≤ b → Sm b f
  | .mk op n t kids, h => by
    rw [tl] at h
    rw [Sm]
    exact ⟨by omega, by omega, sms_cost b kids (by omega)⟩
theorem sms_cost (b : Nat) : ∀ l : List Ft, tls l ≤ b → Sms b l
  | [], _ => by rw [Sms]; trivial
  | k :: r, h => by
    rw [tls] at h
    rw [Sms]
    exact ⟨sm_cost b k (by omega), sms_cost b r (by omega)⟩
end

end Go.Proofs.YtkckgjanfiiieaaGreatDoor
