/-
  Small things of blocks and rows.
-/
import Derived.Test.YtmodiemmcdocdaaDoorBs7
import Derived.Test.YtmodiemmcdocdaaDoorQryA6
namespace Go.Proofs.YtmodiemmcdocdaaDoor
open Go.RowKit Go
open PX (tk isT)

theorem app_mat {B : Nat} {W : World} {a : Option Addr} {c : Nat} {ms : List Mt} (h : Rk 3 (fun b => B ≤ b) W (.slice a ms.length c) ms.length (flatM ms)) (hB : B ≤ W.heap.size) (hn : ms.length ≤ 1000) (m : Mt) :
    ∃ a7 c7 w7, (Builtin.append_ #[24, 24] 24 #[.slice a ms.length c, .slice (some ⟨W.heap.size, 0, none⟩) 1 1]).run Tryd.prog (W.alloc (.cells #[.string m.name, .bool m.not, .string m.value] 47)) = .ok (.slice a7 (ms.length + 1) c7) w7 ∧
      Rk 3 (fun b => B ≤ b ∧ (At (.slice a ms.length c) b ∨ W.heap.size ≤ b)) w7 (.slice a7 (ms.length + 1) c7) (ms ++ [m]).length (flatM (ms ++ [m])) ∧ Keep (At (.slice a ms.length c)) (W.alloc (.cells #[.string m.name, .bool m.not, .string m.value] 47)) w7 := by
  obtain ⟨i43, z43, E43⟩ := elem43
  have hs := Rk.src (P := Tryd.prog) Tryd.underlying24 (rk_new 3 W 1 (flatM [m]) 47 rfl (by omega)) (flatM_one [m])
  obtain ⟨v7, w7, hrun, hrk, hk⟩ := run_append_rk E43 (h.alloc (.cells #[.string m.name, .bool m.not, .string m.value] 47)) (fun k hk => by simp at hk; omega) 24 24 _ 1 (flatM [m]) hs (by omega) (by omega)
  obtain ⟨a7, c7, rfl⟩ := hrk.shape
  refine ⟨a7, c7, w7, hrun, ?_, hk⟩
  rw [flatM_append, List.length_append]
  exact hrk.mono fun b hb _ => ⟨hb.1, hb.2.imp id fun h => by simp at h; omega⟩

/-- No query. -/
def zeroQ : Value := .agg #[.int .i64 0, .int .i64 0, .slice none 0 0, .int .i64 0, .string ⟨#[]⟩, .string ⟨#[]⟩, .slice none 0 0, .bool false, .int .i64 0, .string ⟨#[]⟩]

/-- A query that was stored there. -/
def stored10 (W : World) (k : Nat) (u0 u1 u2 u3 u4 u5 u6 u7 u8 u9 : Value) : World :=
  (((((((((W.setCell ⟨k, 0, none⟩ u0).setCell ⟨k, 1, none⟩ u1).setCell ⟨k, 2, none⟩ u2).setCell ⟨k, 3, none⟩ u3).setCell ⟨k, 4, none⟩ u4).setCell ⟨k, 5, none⟩ u5).setCell ⟨k, 6, none⟩ u6).setCell ⟨k, 7, none⟩ u7).setCell ⟨k, 8, none⟩ u8).setCell ⟨k, 9, none⟩ u9

theorem keep_stored10 {G : Nat → Prop} {a W : World} (h : Keep G a W) {k : Nat} (hk : a.heap.size ≤ k ∨ G k) (u0 u1 u2 u3 u4 u5 u6 u7 u8 u9 : Value) : Keep G a (stored10 W k u0 u1 u2 u3 u4 u5 u6 u7 u8 u9) :=
  (((((((((h.setCell (p := ⟨k, 0, none⟩) hk u0).setCell (p := ⟨k, 1, none⟩) hk u1).setCell (p := ⟨k, 2, none⟩) hk u2).setCell (p := ⟨k, 3, none⟩) hk u3).setCell (p := ⟨k, 4, none⟩) hk u4).setCell (p := ⟨k, 5, none⟩) hk u5).setCell (p := ⟨k, 6, none⟩) hk u6).setCell (p := ⟨k, 7, none⟩) hk u7).setCell (p := ⟨k, 8, none⟩) hk u8).setCell (p := ⟨k, 9, none⟩) hk u9

theorem CB.all10 {W : World} {B : Nat} {t : TypeId} {u0 u1 u2 u3 u4 u5 u6 u7 u8 u9 : Value} (h : CB W B t #[u0, u1, u2, u3, u4, u5, u6, u7, u8, u9]) (v0 v1 v2 v3 v4 v5 v6 v7 v8 v9 : Value) : CB (stored10 W B v0 v1 v2 v3 v4 v5 v6 v7 v8 v9) B t #[v0, v1, v2, v3, v4, v5, v6, v7, v8, v9] := by
  have h0 : CB _ B t #[v0, u1, u2, u3, u4, u5, u6, u7, u8, u9] := h.set 0 v0
  have h1 : CB _ B t #[v0, v1, u2, u3, u4, u5, u6, u7, u8, u9] := h0.set 1 v1
  have h2 : CB _ B t #[v0, v1, v2, u3, u4, u5, u6, u7, u8, u9] := h1.set 2 v2
  have h3 : CB _ B t #[v0, v1, v2, v3, u4, u5, u6, u7, u8, u9] := h2.set 3 v3
  have h4 : CB _ B t #[v0, v1, v2, v3, v4, u5, u6, u7, u8, u9] := h3.set 4 v4
  have h5 : CB _ B t #[v0, v1, v2, v3, v4, v5, u6, u7, u8, u9] := h4.set 5 v5
  have h6 : CB _ B t #[v0, v1, v2, v3, v4, v5, v6, u7, u8, u9] := h5.set 6 v6
  have h7 : CB _ B t #[v0, v1, v2, v3, v4, v5, v6, v7, u8, u9] := h6.set 7 v7
  have h8 : CB _ B t #[v0, v1, v2, v3, v4, v5, v6, v7, v8, u9] := h7.set 8 v8
  have h9 : CB _ B t #[v0, v1, v2, v3, v4, v5, v6, v7, v8, v9] := h8.set 9 v9
  exact h9

theorem below_drew {n : Nat} {w W : World} (h : Below n w W) (hn : n ≤ W.heap.size) : Below n w W.drew := h.trans ((Lay.below (Keep.drew (Keep.refl _ W))).mono hn)

theorem CB.below {n : Nat} {W W' : World} {B : Nat} {t : TypeId} {arr : Array Value} (h : CB W B t arr) (hk : Below n W W') (hn : B < n) : CB W' B t arr := (hk.block B hn).trans h

theorem lex_err {l : List UInt8} {p : Nat × Nat} (h : LX.lex l = .error p) : p.1 = 6 ∨ p.1 = 4 := by
  unfold LX.lex at h
  split at h
  · cases h; exact .inl rfl
  split at h
  · cases h; exact .inr rfl
  split at h
  · cases h; exact .inr rfl
  · cases h

end Go.Proofs.YtmodiemmcdocdaaDoor
