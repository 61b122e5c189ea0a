/-
  THE DOCUMENT'S OWN Query: A QUERY'S PLAIN FORM.
-/
import Derived.Test.YtkckgjanfiiieaaGreatDoorQryA6
import Derived.Test.YtkckgjanfiiieaaGreatDoorNq10
import Derived.Test.YtkckgjanfiiieaaGreatDoorQyA
import Derived.Test.YtkckgjanfiiieaaGreatDoorRk10
import Derived.Test.YtkckgjanfiiieaaGreatDoorRh10
import Derived.BigQuiet
namespace Go.Proofs.YtkckgjanfiiieaaGreatDoor
open Go.RowKit Go

/-- What an operation leaves: a value that is known, or (of those in S) one of which something is known. -/
def GV (cs : List (Option Value)) (S : List Nat) (sp : Nat → Value → World → Prop) (j : Nat) (ys : Nat → Value) (w : World) : Prop :=
  if j ∈ S then sp j (ys j) w else ∀ v, cs.getD j none = some v → ys j = v

theorem GV.keep {cs : List (Option Value)} {S : List Nat} {sp : Nat → Value → World → Prop} (hsp : ∀ j v w w', sp j v w → Below w.heap.size w w' → sp j v w') {i j : Nat} {ys : Nat → Value} {v : Value} {w w' : World} (hij : i ≠ j) (h : GV cs S sp j ys w) (hb : Below w.heap.size w w') : GV cs S sp j (upd ys i v) w' := by
  unfold GV at h ⊢
  by_cases hS : j ∈ S
  · rw [if_pos hS] at h ⊢
    rw [upd_other ys v (Ne.symm hij)]
    exact hsp _ _ _ _ h hb
  · rw [if_neg hS] at h ⊢
    intro u hu
    rw [upd_other ys v (Ne.symm hij)]
    exact h u hu

theorem GV.val {cs : List (Option Value)} {S : List Nat} {sp : Nat → Value → World → Prop} {j : Nat} {ys : Nat → Value} {w : World} {v : Value} (h : GV cs S sp j ys w) (hj : j ∉ S) (hv : cs.getD j none = some v) : ys j = v := by
  unfold GV at h
  rw [if_neg hj] at h
  exact h v hv

theorem GV.of {cs : List (Option Value)} {S : List Nat} {sp : Nat → Value → World → Prop} {j : Nat} {ys : Nat → Value} {w : World} {v : Value} (hj : j ∉ S) (hv : ∀ u, cs.getD j none = some u → u = v) : GV cs S sp j (upd ys j v) w := by
  unfold GV
  rw [if_neg hj]
  intro u hu
  rw [upd_same, hv u hu]

theorem GV.sp {cs : List (Option Value)} {S : List Nat} {sp : Nat → Value → World → Prop} {j : Nat} {ys : Nat → Value} {w : World} (h : GV cs S sp j ys w) (hj : j ∈ S) : sp j (ys j) w := by
  unfold GV at h
  rwa [if_pos hj] at h

theorem GV.ofsp {cs : List (Option Value)} {S : List Nat} {sp : Nat → Value → World → Prop} {j : Nat} {ys : Nat → Value} {w : World} {v : Value} (hj : j ∈ S) (h : sp j v w) : GV cs S sp j (upd ys j v) w := by
  unfold GV
  rw [if_pos hj, upd_same]
  exact h

theorem puts_defers {ys : Nat → Value} : ∀ (l : List Oper) (k : Nat) (a : Act), (putsFrom ys l k a).defers = a.defers
  | [], _, _ => rfl
  | o :: r, k, a => by
    rw [putsFrom, puts_defers r (k + 1)]
    cases o.dst <;> rfl

/-- Behind a region of which one slot alone is read. -/
theorem fin_of (d : Nat) {ops : List Oper} {ys : Nat → Value} {a0 : Act} {K : Act → World → Prop} {Q : Exit → Act → World → Prop} {w : World} {v : Value} (h : ∀ P : Act, P.tmps.getD d undef = v → P.defers = a0.defers → K P w) (hs : d < a0.tmps.size) (hv : slotFrom ys d ops 0 (a0.tmps.getD d undef) = v) : Exit.then K Q .normal (putsFrom ys ops 0 a0) w :=
  h _ ((getD_puts ops 0 a0 hs).trans hv) (puts_defers ops 0 a0)

/-- A structure's value, as a variable. -/
theorem IntsAt.belowN {w w' : World} {v : Value} {l : List Int} (h : IntsAt w v l) (hb : Below w.heap.size w w') : IntsAt w' v l := by
  obtain ⟨a, cap, hv, h1, h | ⟨b, off, ha, hlt, hc⟩⟩ := h
  · exact ⟨a, cap, hv, h1, .inl h⟩
  · exact ⟨a, cap, hv, h1, .inr ⟨b, off, ha, Nat.lt_of_lt_of_le hlt hb.size, fun i hi => (hb.cell hlt).trans (hc i hi)⟩⟩

end Go.Proofs.YtkckgjanfiiieaaGreatDoor

namespace Go.Proofs.YtkckgjanfiiieaaGreatDoor
open Go.RowKit Go

/-- Of two matchers: by the name, the Not, the value. -/
def mlt (a b : Mt) : Bool := if a.name = b.name then (if a.not = b.not then Op.bytesLess a.value.toList b.value.toList else b.not) else Op.bytesLess a.name.toList b.name.toList

theorem bl_irr : ∀ x : List UInt8, Op.bytesLess x x = false
  | [] => by simp [Op.bytesLess]
  | a :: x => by simp [Op.bytesLess, bl_irr x]
theorem bl_tr : ∀ x y z : List UInt8, Op.bytesLess x y = true → Op.bytesLess y z = true → Op.bytesLess x z = true
  | [], _, [], _, h => by cases ‹List UInt8› <;> simp [Op.bytesLess] at h
  | [], _, _ :: _, _, _ => by simp [Op.bytesLess]
  | _ :: _, [], _, h, _ => by simp [Op.bytesLess] at h
  | _ :: _, _ :: _, [], _, h => by simp [Op.bytesLess] at h
  | a :: x, b :: y, c :: z, h1, h2 => by
    have ih := bl_tr x y z
    simp only [Op.bytesLess, Bool.or_eq_true, Bool.and_eq_true, decide_eq_true_iff, beq_iff_eq] at h1 h2 ⊢
    rcases h1 with h1 | ⟨rfl, h1⟩
    · rcases h2 with h2 | ⟨rfl, h2⟩
      · exact .inl (UInt8.lt_trans h1 h2)
      · exact .inl h1
    · rcases h2 with h2 | ⟨rfl, h2⟩
      · exact .inl h2
      · exact .inr ⟨rfl, ih h1 h2⟩
theorem bl_tri : ∀ x y : List UInt8, Op.bytesLess x y = false → x ≠ y → Op.bytesLess y x = true
  | [], [], _, h => absurd rfl h
  | [], _ :: _, h, _ => by simp [Op.bytesLess] at h
  | _ :: _, [], _, _ => by simp [Op.bytesLess]
  | a :: x, b :: y, h1, h2 => by
    have ih := bl_tri x y
    simp only [Op.bytesLess, Bool.or_eq_true, Bool.and_eq_true, decide_eq_true_iff, beq_iff_eq]
    simp only [Op.bytesLess, Bool.or_eq_false_iff, decide_eq_false_iff_not, Bool.and_eq_false_iff, beq_eq_false_iff_ne] at h1
    by_cases hab : a = b
    · subst hab
      refine .inr ⟨rfl, ih ?_ fun e => h2 (by rw [e])⟩
      rcases h1.2 with h | h
      · exact absurd rfl h
      · exact h
    · refine .inl ?_
      have h3 := h1.1
      rw [UInt8.lt_iff_toNat_lt] at h3 ⊢
      have : a.toNat ≠ b.toNat := fun e => hab (UInt8.toNat_inj.1 e)
      omega

theorem mOrd : Nr.Ord Mt mlt where
  irr a := by unfold mlt; rw [if_pos rfl, if_pos rfl, bl_irr]
  tr a b c h1 h2 := by
    unfold mlt at h1 h2 ⊢
    by_cases e1 : a.name = b.name
    · rw [if_pos e1] at h1
      rw [e1]
      by_cases e2 : b.name = c.name
      · rw [if_pos e2] at h2 ⊢
        by_cases e3 : a.not = b.not
        · rw [if_pos e3] at h1
          rw [e3]
          by_cases e4 : b.not = c.not
          · rw [if_pos e4] at h2 ⊢
            exact bl_tr _ _ _ h1 h2
          · rw [if_neg e4] at h2 ⊢; exact h2
        · rw [if_neg e3] at h1
          by_cases e4 : b.not = c.not
          · rw [if_pos e4] at h2
            rw [← e4, if_neg e3]; exact h1
          · rw [if_neg e4] at h2
            rw [h1, h2] at e4; exact absurd rfl e4
      · rw [if_neg e2] at h2 ⊢; exact h2
    · rw [if_neg e1] at h1
      by_cases e2 : b.name = c.name
      · rw [if_neg (by rw [← e2]; exact e1), ← e2]; exact h1
      · rw [if_neg e2] at h2
        have h3 := bl_tr _ _ _ h1 h2
        rw [if_neg (fun e => by rw [e, bl_irr] at h3; cases h3)]
        exact h3
  tri a b h1 h2 := by
    unfold mlt at h1 ⊢
    by_cases e1 : a.name = b.name
    · rw [if_pos e1] at h1
      rw [if_pos e1.symm]
      by_cases e3 : a.not = b.not
      · rw [if_pos e3] at h1
        rw [if_pos e3.symm]
        refine bl_tri _ _ h1 fun e => h2 ?_
        have := toList_inj _ _ e
        cases a; cases b; simp_all
      · rw [if_neg e3] at h1
        rw [if_neg (fun e => e3 e.symm)]
        rw [h1] at e3
        simpa using e3
    · rw [if_neg e1] at h1
      rw [if_neg (fun e => e1 e.symm)]
      exact bl_tri _ _ h1 fun e => e1 (toList_inj _ _ e)

set_option maxHeartbeats 4000000 in
set_option maxRecDepth 100000 in
theorem before_any (a b : Mt) (w : World) : Calls Tryz.prog 22 #[a.val, b.val] w fun e w' => e = .returned (.bool (mlt a b)) ∧ Lay w w' := by
  obtain ⟨an, ab, av⟩ := a
  obtain ⟨bn, bb, bv⟩ := b
  have hl : Lay w ((w.alloc (.cells #[.string an, .bool ab, .string av] 45)).alloc (.cells #[.string bn, .bool bb, .string bv] 45)) := ((Keep.refl _ _).alloc _).alloc _
  have hn : (!an.toList == bn.toList) = !decide (an = bn) := by
    congr 1
    rw [Bool.eq_iff_iff, beq_iff_eq, decide_eq_true_iff]
    exact ⟨toList_inj _ _, fun h => by rw [h]⟩
  have hb : (!ab == bb) = !decide (ab = bb) := by cases ab <;> cases bb <;> rfl
  unfold mlt Mt.val
  simp only
  by_cases h1 : an = bn
  · have h1' : (!an.toList == bn.toList) = false := by rw [hn, decide_eq_true h1]; rfl
    rw [if_pos h1]
    by_cases h2 : ab = bb
    · have h2' : (!ab == bb) = false := by rw [hb, decide_eq_true h2]; rfl
      rw [if_pos h2]
      clear hn hb h1 h2
      go_enter Tryz.func22, Tryz.ntmps22
      go_wp2_with fail
      go_ret
      exact ⟨rfl, hl⟩
    · have h2' : (!ab == bb) = true := by rw [hb, decide_eq_false h2]; rfl
      rw [if_neg h2]
      clear hn hb h1 h2
      go_enter Tryz.func22, Tryz.ntmps22
      go_wp2_with fail
      go_ret
      exact ⟨rfl, hl⟩
  · have h1' : (!an.toList == bn.toList) = true := by rw [hn, decide_eq_false h1]; rfl
    rw [if_neg h1]
    clear hn hb h1
    go_enter Tryz.func22, Tryz.ntmps22
    go_wp2_with fail
    go_ret
    exact ⟨rfl, hl⟩
end Go.Proofs.YtkckgjanfiiieaaGreatDoor

namespace Go.Proofs.YtkckgjanfiiieaaGreatDoor
open Go.RowKit Go

/-- A query's plain form. -/
def nq (q : Qy) : Qy := ⟨q.src, q.til, Nr.nub mlt q.mat, Nr.norm q.fil, q.desc, q.lim, ⟨#[]⟩⟩

theorem ins_at {lt : Mt → Mt → Bool} (m : Mt) : ∀ (l : List Mt) (at' : Nat), at' ≤ l.length → (∀ x ∈ l.take at', lt x m = true) → (∀ h : at' < l.length, lt l[at'] m = false) →
    Nr.ins lt m l = if l[at']? = some m then l else l.take at' ++ [m] ++ l.drop at'
  | [], n, h0, _, _ => by
    obtain rfl : n = 0 := by simpa using h0
    simp [Nr.ins]
  | x :: r, 0, _, _, h2 => by
    have := h2 (by simp)
    rw [Nr.ins]
    simp only [List.getElem_cons_zero] at this
    rw [if_neg (by rw [this]; decide)]
    simp
  | x :: r, n + 1, h0, h1, h2 => by
    have hx := h1 x (by simp)
    rw [Nr.ins, if_pos hx, ins_at m r n (by simpa using h0) (fun y hy => h1 y (by simp [hy])) (fun h => by have := h2 (by simpa using h); simpa using this)]
    simp only [List.getElem?_cons_succ, List.take_succ_cons, List.drop_succ_cons]
    split <;> simp

/-- What comes behind, of a row of matchers. -/
theorem rk_drop {G : Nat → Prop} {w : World} {g cap : Nat} {l : List Mt} (h : Rk 3 G w (.slice (some ⟨g, 0, none⟩) l.length cap) l.length (flatM l)) (n : Nat) (c : Nat) (hn : n ≤ l.length) (hl : l.length ≤ 1000) : MsAt w (.slice (some ⟨g, n * 3, none⟩) (l.length - n) c) (l.drop n) := by
  obtain ⟨_, ⟨he, _⟩ | ⟨g', cap', he, _, hlt, _, _, hc, _⟩⟩ := h
  · simp at he
  · obtain ⟨rfl, rfl⟩ : g = g' ∧ cap = cap' := by simpa using he
    refine ⟨_, c, by rw [List.length_drop], by rw [List.length_drop]; omega, .inr ⟨g, n * 3, rfl, hlt, fun i hi => ?_⟩⟩
    rw [List.length_drop] at hi
    have get : ∀ c, c < 3 → w.cell? ⟨g, (n + i) * 3 + c, none⟩ = (matC l[n + i])[c]? := fun c hc' => by
      rw [← flatM_get l (n + i) (by omega) c hc']
      exact hc _ (by rw [flatM_length]; omega)
    rw [show n * 3 + i * 3 = (n + i) * 3 by omega, List.getElem_drop]
    exact ⟨get 0 (by omega), get 1 (by omega), get 2 (by omega)⟩

/-- What comes ahead. -/
theorem rk_take {G : Nat → Prop} {w : World} {g cap : Nat} {l : List Mt} (h : Rk 3 G w (.slice (some ⟨g, 0, none⟩) l.length cap) l.length (flatM l)) (n : Nat) (hn : n ≤ l.length) : Rk 3 G w (.slice (some ⟨g, 0, none⟩) n n) n (flatM (l.take n)) := by
  obtain ⟨h0, ⟨he, _⟩ | ⟨g', cap', he, hg, hlt, hlc, hm, hc, hf⟩⟩ := h
  · simp at he
  · obtain ⟨rfl, rfl⟩ : g = g' ∧ cap = cap' := by simpa using he
    have hlen : (flatM (l.take n)).length = n * 3 := by rw [flatM_length, List.length_take, Nat.min_eq_left hn]
    refine ⟨hlen, .inr ⟨g, n, rfl, hg, hlt, Nat.le_refl _, by omega, fun j hj => ?_, fun j hj => hf j (by omega)⟩⟩
    have hj2 : j < (flatM l).length := by rw [flatM_length]; omega
    rw [hc j hj2]
    conv => lhs; rw [← List.take_append_drop n l, flatM_append]
    rw [List.getElem?_append_left hj]

end Go.Proofs.YtkckgjanfiiieaaGreatDoor

namespace Go.Proofs.YtkckgjanfiiieaaGreatDoor
open Go.RowKit Go

attribute [local go_sem high] eql_mt
attribute [local go_sem] Oper.semAt_some wide_fn wide_depth

/-- How the operations of putting a matcher in turn the world. -/
def UR (H0 B2 : Nat) (i : Nat) (u1 u2 : World) : Prop := if i ∈ [6, 11] then Keep (fun b => H0 ≤ b) u1 u2 else if i = 12 then Keep (fun b => B2 ≤ b) u1 u2 else if i = 14 then True else Lay u1 u2
theorem UR.same {H0 B2 i : Nat} {u : World} (hi : i ∉ [6, 11]) : UR H0 B2 i u u := by
  unfold UR
  rw [if_neg hi]
  split
  · exact Keep.refl _ _
  · split
    · trivial
    · exact Keep.refl _ _
theorem UR.turn {H0 B2 i : Nat} {u u' : World} (hi : i ∈ [6, 11]) (h : Keep (fun b => H0 ≤ b) u u') : UR H0 B2 i u u' := by
  unfold UR
  rwa [if_pos hi]
theorem UR.turn2 {H0 B2 : Nat} {u u' : World} (h : Keep (fun b => B2 ≤ b) u u') : UR H0 B2 12 u u' := by
  unfold UR
  rwa [if_neg (by decide), if_pos rfl]
theorem UR.lay {H0 B2 i : Nat} {u u' : World} (h : UR H0 B2 i u u') (hi : ¬ i ∈ [6, 11, 12, 14]) : Lay u u' := by
  unfold UR at h
  simp only [List.mem_cons, List.not_mem_nil, or_false, not_or] at hi
  rwa [if_neg (by simp; omega), if_neg (by omega), if_neg (by omega)] at h

/-- What stays while a matcher is put in. -/
structure UI (w9 : World) (F B2 : Nat) (t : TypeId) (arr : Array Value) (listed : Array Bool) (W : World) : Prop where
  k0 : listed.getD 12 false = false → Keep (fun b => w9.heap.size ≤ b) w9 W
  k : Keep (fun b => B2 ≤ b ∨ b = F) w9 W
  cb : listed.getD 14 false = false → CB W F t arr

theorem UI.same {w9 : World} {F B2 : Nat} {t : TypeId} {arr : Array Value} {listed : Array Bool} {W : World} (h : UI w9 F B2 t arr listed W) {i : Nat} (hi : i ≠ 12 ∧ i ≠ 14) : UI w9 F B2 t arr (listed.setIfInBounds i true) W := by
  refine ⟨?_, h.k, ?_⟩
  · rw [getD_set_ne false hi.1]; exact h.k0
  · rw [getD_set_ne false hi.2]; exact h.cb
theorem UI.turn {w9 : World} {F B2 : Nat} {t : TypeId} {arr : Array Value} {listed : Array Bool} {W W' : World} (h : UI w9 F B2 t arr listed W) {i : Nat} (hi : i ≠ 12) (hi2 : i ≠ 14) (hb : B2 ≤ w9.heap.size) (hk : Keep (fun b => w9.heap.size ≤ b) W W') (hc : CB W F t arr → CB W' F t arr) : UI w9 F B2 t arr (listed.setIfInBounds i true) W' := by
  refine ⟨?_, h.k.trans (hk.into fun b _ hb' => .inl (Nat.le_trans hb hb')), ?_⟩
  · rw [getD_set_ne false hi]; exact fun a => (h.k0 a).trans hk
  · rw [getD_set_ne false hi2]; exact fun a => hc (h.cb a)
theorem UI.last {w9 : World} {F B2 : Nat} {t : TypeId} {arr : Array Value} {listed : Array Bool} {W W' : World} (h : UI w9 F B2 t arr listed W) (hsz : 12 < listed.size) (hk : Keep (fun b => B2 ≤ b ∨ b = F) W W') (hc : CB W F t arr → CB W' F t arr) : UI w9 F B2 t arr (listed.setIfInBounds 12 true) W' := by
  refine ⟨?_, h.k.trans hk, ?_⟩
  · rw [getD_set_eq hsz]; exact fun a => by cases a
  · rw [getD_set_ne false (by decide)]; exact fun a => hc (h.cb a)
theorem UI.store {w9 : World} {F B2 : Nat} {t : TypeId} {arr : Array Value} {listed : Array Bool} {W W' : World} (h : UI w9 F B2 t arr listed W) (hsz : 14 < listed.size) (hl : listed.getD 12 false = true) (hk : Keep (fun b => B2 ≤ b ∨ b = F) W W') : UI w9 F B2 t arr (listed.setIfInBounds 14 true) W' := by
  refine ⟨?_, h.k.trans hk, ?_⟩
  · rw [getD_set_ne false (by decide), hl]; exact fun a => by cases a
  · rw [getD_set_eq hsz]; exact fun a => by cases a

theorem GV.keep' {cs : List (Option Value)} {S : List Nat} {sp : Nat → Value → World → Prop} {i j : Nat} {ys : Nat → Value} {v : Value} {w w' : World} (hij : i ≠ j) (h : GV cs S sp j ys w) (hsp : j ∈ S → sp j (ys j) w → sp j (ys j) w') : GV cs S sp j (upd ys i v) w' := by
  unfold GV at h ⊢
  by_cases hS : j ∈ S
  · rw [if_pos hS] at h ⊢
    rw [upd_other ys v (Ne.symm hij)]
    exact hsp hS h
  · rw [if_neg hS] at h ⊢
    intro u hu
    rw [upd_other ys v (Ne.symm hij)]
    exact h u hu

/-- What the operations of putting a matcher in leave. -/
def USp (H0 B2 F : Nat) (t : TypeId) (au : Option Addr) (n : Nat) (m : Mt) (R : List Mt) (arr : Value → Array Value) : Nat → Value → World → Prop
  | 6, v, w => Rk 3 (fun b => H0 ≤ b) w v 1 (flatM [m])
  | 10, v, _ => ∃ a1 c1, v = .slice a1 (R.length - n) c1 ∧ (R.length = n ∨ ∀ b off, au = some ⟨b, off, none⟩ → a1 = some ⟨b, off + n * 3, none⟩)
  | 11, v, w => Rk 3 (fun b => H0 ≤ b) w v (1 + (R.length - n)) (flatM ([m] ++ R.drop n))
  | 12, v, w => Rk 3 (fun b => B2 ≤ b) w v (n + (1 + (R.length - n))) (flatM (R.take n ++ ([m] ++ R.drop n)))
  | 14, _, w => ∃ v' k, CB w F t (arr v') ∧ Rk 3 (fun b => B2 ≤ b) w v' k (flatM (R.take n ++ ([m] ++ R.drop n)))
  | _, _, _ => True
theorem USp.lay {H0 B2 F : Nat} {t : TypeId} {au : Option Addr} {n : Nat} {m : Mt} {R : List Mt} {arr : Value → Array Value} : ∀ {j : Nat} {v : Value} {w w' : World}, USp H0 B2 F t au n m R arr j v w → Lay w w' → USp H0 B2 F t au n m R arr j v w' := by
  intro j v w w' h hl
  unfold USp at h ⊢
  split at h
  · exact h.lay hl
  · exact h
  · exact h.lay hl
  · exact h.lay hl
  · obtain ⟨v', k, h1, h2⟩ := h
    exact ⟨v', k, h1.keep hl (fun e => e), h2.lay hl⟩
  · trivial

theorem rk_take' {G : Nat → Prop} {w : World} {a : Option Addr} {cap : Nat} {l : List Mt} (h : Rk 3 G w (.slice a l.length cap) l.length (flatM l)) {n : Nat} (hn : n ≤ l.length) : Rk 3 G w (.slice a n n) n (flatM (l.take n)) := by
  obtain ⟨_, ⟨he, h0⟩ | ⟨g, c, he, _⟩⟩ := id h
  · obtain rfl : n = 0 := by omega
    simp only [Value.slice.injEq] at he
    rw [he.1]
    exact Rk.nil _ _ _
  · obtain ⟨rfl, rfl⟩ : a = some ⟨g, 0, none⟩ ∧ cap = c := by simpa using he
    exact rk_take h n hn

theorem MsAt.dropN {w : World} {a a1 : Option Addr} {c : Nat} {l : List Mt} (h : MsAt w (.slice a l.length c) l) {n : Nat} (hn : n ≤ l.length) (ha1 : l.length = n ∨ ∀ b off, a = some ⟨b, off, none⟩ → a1 = some ⟨b, off + n * 3, none⟩) (c' : Nat) : MsAt w (.slice a1 (l.length - n) c') (l.drop n) := by
  obtain ⟨a', cap, hv, h1, h⟩ := h
  obtain ⟨rfl, rfl⟩ : a = a' ∧ c = cap := by simpa using hv
  have hl : (l.drop n).length = l.length - n := List.length_drop
  refine ⟨a1, c', by rw [hl], by omega, ?_⟩
  rcases ha1 with e | ha1
  · exact .inl (by rw [← e]; simp)
  · rcases h with h | ⟨b, off, ha, hlt, hc⟩
    · exact .inl (by rw [h]; simp)
    · refine .inr ⟨b, off + n * 3, ha1 b off ha, hlt, fun i hi => ?_⟩
      rw [hl] at hi
      rw [List.getElem_drop]
      have := hc (n + i) (by omega)
      rw [show off + (n + i) * 3 = off + n * 3 + i * 3 by omega] at this
      exact this

set_option maxHeartbeats 32000000 in
set_option maxRecDepth 100000 in
theorem refQuery_any (q : Qy) (hg : Nr.Gd q.fil) (hc : q.fil.count ≤ 400) (hm : q.mat.length ≤ 900) (w : World) (v : Value) (hq : QAt w v q) :
    Calls Tryz.prog 12 #[v] w fun e w' => ∃ vq, e = .returned vq ∧ QAt w' vq (nq q) ∧ Lay w w' := by
  obtain ⟨mv, kv, rfl, hmat, hks⟩ := hq
  obtain ⟨am, cm, rfl, hm63, hmc⟩ := hmat
  obtain ⟨ak, ck, rfl⟩ := hks.shape
  obtain ⟨W0, hW0⟩ : ∃ W0, W0 = ((w.alloc (.cells #[.int .i64 q.src, .int .i64 q.til, .slice am q.mat.length cm, .int .i64 q.fil.op, .string q.fil.name, .string q.fil.text, .slice ak q.fil.kids.length ck, .bool q.desc, .int .i64 q.lim, .string q.page] 30)).alloc (.cells #[.int .i64 0, .int .i64 0, .slice none 0 0, .int .i64 0, .string ⟨#[]⟩, .string ⟨#[]⟩, .slice none 0 0, .bool false, .int .i64 0, .string ⟨#[]⟩] 30)).alloc (.cells #[.int .i64 q.src, .int .i64 q.til, .slice am q.mat.length cm, .int .i64 q.fil.op, .string q.fil.name, .string q.fil.text, .slice ak q.fil.kids.length ck, .bool q.desc, .int .i64 q.lim, .string q.page] 30) := ⟨_, rfl⟩
  have hl0 : Lay w W0 := by rw [hW0]; exact (((Keep.refl _ _).alloc _).alloc _).alloc _
  have hs0 : W0.heap.size = w.heap.size + 3 := by rw [hW0]; simp
  have hcq : CB W0 w.heap.size 30 #[.int .i64 q.src, .int .i64 q.til, .slice am q.mat.length cm, .int .i64 q.fil.op, .string q.fil.name, .string q.fil.text, .slice ak q.fil.kids.length ck, .bool q.desc, .int .i64 q.lim, .string q.page] := by
    rw [hW0]
    exact (Below.heap_alloc _ _ _ (by simp; omega)).trans ((Below.heap_alloc _ _ _ (by simp)).trans (CB.new w 30 _))
  have hcr : CB W0 (w.heap.size + 1) 30 #[.int .i64 0, .int .i64 0, .slice none 0 0, .int .i64 0, .string ⟨#[]⟩, .string ⟨#[]⟩, .slice none 0 0, .bool false, .int .i64 0, .string ⟨#[]⟩] := by
    rw [hW0]
    have h := CB.new (w.alloc (.cells #[.int .i64 q.src, .int .i64 q.til, .slice am q.mat.length cm, .int .i64 q.fil.op, .string q.fil.name, .string q.fil.text, .slice ak q.fil.kids.length ck, .bool q.desc, .int .i64 q.lim, .string q.page] 30)) 30 #[.int .i64 0, .int .i64 0, .slice none 0 0, .int .i64 0, .string ⟨#[]⟩, .string ⟨#[]⟩, .slice none 0 0, .bool false, .int .i64 0, .string ⟨#[]⟩]
    rw [World.size_alloc] at h
    exact (Below.heap_alloc _ _ _ (by simp)).trans h
  have hco : CB W0 (w.heap.size + 1 + 1) 30 #[.int .i64 q.src, .int .i64 q.til, .slice am q.mat.length cm, .int .i64 q.fil.op, .string q.fil.name, .string q.fil.text, .slice ak q.fil.kids.length ck, .bool q.desc, .int .i64 q.lim, .string q.page] := by
    rw [hW0]
    have h := CB.new ((w.alloc (.cells #[.int .i64 q.src, .int .i64 q.til, .slice am q.mat.length cm, .int .i64 q.fil.op, .string q.fil.name, .string q.fil.text, .slice ak q.fil.kids.length ck, .bool q.desc, .int .i64 q.lim, .string q.page] 30)).alloc (.cells #[.int .i64 0, .int .i64 0, .slice none 0 0, .int .i64 0, .string ⟨#[]⟩, .string ⟨#[]⟩, .slice none 0 0, .bool false, .int .i64 0, .string ⟨#[]⟩] 30)) 30 #[.int .i64 q.src, .int .i64 q.til, .slice am q.mat.length cm, .int .i64 q.fil.op, .string q.fil.name, .string q.fil.text, .slice ak q.fil.kids.length ck, .bool q.desc, .int .i64 q.lim, .string q.page]
    rw [World.size_alloc, World.size_alloc] at h
    exact h
  have HF := Lib.hid (refFilter_any hg hc W0 _ (KsAt.below hl0.below _ _ hks))
  have HW0 := Lib.hid hW0
  have HL0 := Lib.hid hl0
  have HS0 := Lib.hid hs0
  have HCQ := Lib.hid hcq
  have HCR0 := Lib.hid hcr
  have HCO0 := Lib.hid hco
  clear hks hW0 hl0 hcq hcr hco
  simp only [Ft.val] at HF
  unfold Qy.val
  go_enter Tryz.func12, Tryz.ntmps12
  go_wp2_with (go_at_call 9; rw [← HW0.out]; refine HF.out.mono ?_; rintro e w1 ⟨kv1, rfl, hkb1, hl1⟩; obtain ⟨ak1, ck1, rfl⟩ := hkb1.shape; have hco1 := HCO0.out.keep hl1 (fun h => h); have hcq1 := HCQ.out.keep hl1 (fun h => h); have d2 := hcq1.cell 2; simp at d2; have c0 := hco1.cell 0; have g0 := hco1.frozen 0; have c1 := hco1.cell 1; have g1 := hco1.frozen 1; have c2 := hco1.cell 2; have g2 := hco1.frozen 2; have c3 := hco1.cell 3; have g3 := hco1.frozen 3; have c4 := hco1.cell 4; have g4 := hco1.frozen 4; have c5 := hco1.cell 5; have g5 := hco1.frozen 5; have c6 := hco1.cell 6; have g6 := hco1.frozen 6; have c7 := hco1.cell 7; have g7 := hco1.frozen 7; have c8 := hco1.cell 8; have g8 := hco1.frozen 8; have c9 := hco1.cell 9; have g9 := hco1.frozen 9; simp at c0 c1 c2 c3 c4 c5 c6 c7 c8 c9)
  obtain ⟨F, hF⟩ : ∃ F, F = w.heap.size + 1 + 1 := ⟨_, rfl⟩
  have hF1 : w.heap.size + 2 ≤ F := by omega
  have hF2 : F ≤ w.heap.size + 2 := by omega
  have hw1 : F + 1 ≤ w1.heap.size := by have h1 := hl1.size; have h2 := HS0.out; omega
  have hco2 := ((((((hco1.set 3 (.int .i64 (Nr.norm q.fil).op)).set 4 (.string (Nr.norm q.fil).name)).set 5 (.string (Nr.norm q.fil).text)).set 6 (.slice ak1 (Nr.norm q.fil).kids.length ck1)).set 9 (.string ⟨#[]⟩)).set 2 (.slice none 0 0))
  simp only [List.setIfInBounds_toArray, List.set_cons_succ, List.set_cons_zero] at hco2
  have hkp2 := (((((((Keep.refl (fun j => j = F) w1).setCell (p := ⟨F, 3, none⟩) (.inr rfl) (.int .i64 (Nr.norm q.fil).op)).setCell (p := ⟨F, 4, none⟩) (.inr rfl) (.string (Nr.norm q.fil).name)).setCell (p := ⟨F, 5, none⟩) (.inr rfl) (.string (Nr.norm q.fil).text)).setCell (p := ⟨F, 6, none⟩) (.inr rfl) (.slice ak1 (Nr.norm q.fil).kids.length ck1)).setCell (p := ⟨F, 9, none⟩) (.inr rfl) (.string ⟨#[]⟩)).setCell (p := ⟨F, 2, none⟩) (.inr rfl) (.slice none 0 0))
  simp only [← hF] at hco2 ⊢
  obtain ⟨W2, hW2⟩ : ∃ W2, W2 = ((((((w1.setCell ⟨F, 3, none⟩ (.int .i64 (Nr.norm q.fil).op)).setCell ⟨F, 4, none⟩ (.string (Nr.norm q.fil).name)).setCell ⟨F, 5, none⟩ (.string (Nr.norm q.fil).text)).setCell ⟨F, 6, none⟩ (.slice ak1 (Nr.norm q.fil).kids.length ck1)).setCell ⟨F, 9, none⟩ (.string ⟨#[]⟩)).setCell ⟨F, 2, none⟩ (.slice none 0 0)) := ⟨_, rfl⟩
  rw [← hW2] at hco2 hkp2
  simp only [← hW2]
  have hlay2 : Lay w W2 := (HL0.out.trans hl1).over hkp2 (fun j hj => by omega)
  have hcr2 : CB W2 (w.heap.size + 1) 30 #[.int .i64 0, .int .i64 0, .slice none 0 0, .int .i64 0, .string ⟨#[]⟩, .string ⟨#[]⟩, .slice none 0 0, .bool false, .int .i64 0, .string ⟨#[]⟩] := (HCR0.out.keep hl1 (fun h => h)).keep hkp2 (by omega)
  have hkb2 : KsB (fun j => F + 1 ≤ j) W2 (.slice ak1 (Nr.norm q.fil).kids.length ck1) (Nr.norm q.fil) := KsB.keep hkp2.size (fun j hj hlt => hkp2.block j hlt (by have hj1 : F + 1 ≤ j := hj; omega)) _ _ (KsB.mono (fun j _ hj => by have h2 := HS0.out; have hj1 : W0.heap.size ≤ j := hj; omega) _ _ hkb1)
  have hw2 : F + 1 ≤ W2.heap.size := Nat.le_trans hw1 hkp2.size
  obtain ⟨B2, hB2⟩ : ∃ B2, B2 = W2.heap.size := ⟨_, rfl⟩
  have hkb2 := KsB.mono (G' := fun j => F + 1 ≤ j ∧ j < B2) (fun j hj h => ⟨h, by rw [hB2]; exact hj⟩) _ _ hkb2
  have hBF : F + 1 ≤ B2 := by rw [hB2]; exact hw2
  have hBW : B2 ≤ W2.heap.size := Nat.le_of_eq hB2
  have HCO2 := Lib.hid hco2
  have HLAY2 := Lib.hid hlay2
  have HCR2 := Lib.hid hcr2
  have HKB2 := Lib.hid hkb2
  have HMC := Lib.hid hmc
  obtain ⟨il, hil⟩ : ∃ il : Nat → List Mt, il = fun i => (q.mat.take i).foldl (fun acc m => Nr.ins mlt m acc) [] := ⟨_, rfl⟩
  have hi0 : il 0 = [] := by rw [hil]; rfl
  have his : ∀ i (h : i < q.mat.length), il (i + 1) = Nr.ins mlt q.mat[i] (il i) := fun i h => by rw [hil]; simp only; rw [List.take_succ_eq_append_getElem h, List.foldl_append]; rfl
  have hie : il q.mat.length = Nr.nub mlt q.mat := by rw [hil]; simp only; rw [List.take_length]; rfl
  have hilen : ∀ i, (il i).length ≤ i := fun i => by
    have := Nr.nub_length (lt := mlt) (q.mat.take i)
    rw [List.length_take] at this
    unfold Nr.nub at this
    rw [hil]; simp only; omega
  have HI0 := Lib.hid hi0
  have HIS := Lib.hid his
  have HIE := Lib.hid hie
  have HIL := Lib.hid hilen
  clear hF hB2 hw2 hco1 hcq1 c0 c1 c2 c3 c4 c5 c6 c7 c8 c9 g0 g1 g2 g3 g4 g5 g6 g7 g8 g9 d2 hkb1 hl1 hW2 hco2 hkp2 hlay2 hcr2 hkb2 hw1 hmc hil hi0 his hie hilen
  go_loopw [17] (fun vi wr => ∃ (i : Nat) (R : List Mt) (mv : Value), vi = .int .i64 (i : Nat) ∧ i ≤ q.mat.length ∧ R = il i ∧ Rk 3 (fun j => B2 ≤ j) wr mv R.length (flatM R) ∧ Lay w wr ∧ CB wr F 30 #[.int .i64 q.src, .int .i64 q.til, mv, .int .i64 (Nr.norm q.fil).op, .string (Nr.norm q.fil).name, .string (Nr.norm q.fil).text, .slice ak1 (Nr.norm q.fil).kids.length ck1, .bool q.desc, .int .i64 q.lim, .string ⟨#[]⟩] ∧ CB wr (w.heap.size + 1) 30 #[.int .i64 0, .int .i64 0, .slice none 0 0, .int .i64 0, .string ⟨#[]⟩, .string ⟨#[]⟩, .slice none 0 0, .bool false, .int .i64 0, .string ⟨#[]⟩] ∧ KsB (fun j => F + 1 ≤ j ∧ j < B2) wr (.slice ak1 (Nr.norm q.fil).kids.length ck1) (Nr.norm q.fil) ∧ B2 ≤ wr.heap.size) (fun vi _ => q.mat.length - (intOf vi).toNat)
  case atStart => exact ⟨0, [], .slice none 0 0, rfl, Nat.zero_le _, HI0.out.symm, Rk.nil 3 _ _, HLAY2.out, HCO2.out, HCR2.out, HKB2.out, hBW⟩
  case round =>
    obtain ⟨i, R, mv, rfl, hi, hR, hrk, hlay, hco, hcr, hkb, hwr⟩ := hrel
    obtain ⟨au, cu, rfl⟩ := hrk.shape
    have hrl : R.length ≤ 900 := by have := HIL.out i; rw [← hR] at this; omega
    have HRR := Lib.hid hR
    have HRK := Lib.hid hrk
    have HLAY := Lib.hid hlay
    have HCO := Lib.hid hco
    have HCR := Lib.hid hcr
    have HKB := Lib.hid hkb
    clear hR hrk hlay hcr hkb
    by_cases hlt : i < q.mat.length
    · have hms : MsAt wr (.slice am q.mat.length cm) q.mat := MsAt.lay ⟨am, cm, rfl, hm63, HMC.out⟩ HLAY.out
      obtain ⟨_, _, he, _, h0 | ⟨bm, om, rfl, hbm, hcells⟩⟩ := hms
      · exact absurd hlt (by rw [h0]; simp)
      obtain ⟨rfl, rfl⟩ : am = some ⟨bm, om, none⟩ ∧ cm = _ := by simpa using he
      obtain ⟨x0, x1, x2⟩ := hcells i hlt
      have HIS1 := Lib.hid (HIS.out i hlt)
      rw [← HRR.out] at HIS1
      generalize q.mat[i] = m at x0 x1 x2 HIS1
      obtain ⟨V, hV⟩ : ∃ V, V = wr.alloc (.cells #[.string m.name, .bool m.not, .string m.value] 45) := ⟨_, rfl⟩
      have hlV : Lay wr V := by rw [hV]; exact (Keep.refl _ _).alloc _
      have hm5 : CB V wr.heap.size 45 #[.string m.name, .bool m.not, .string m.value] := by rw [hV]; exact CB.new _ _ _
      have HV := Lib.hid hV
      have HLV := Lib.hid hlV
      have HM5 := Lib.hid hm5
      clear hcells he hV hlV hm5 hco
      go_wp2_with fail
      rw [← HV.out]
      obtain ⟨wo, hwo⟩ : ∃ wo, wo = wr := ⟨_, rfl⟩
      subst hwo
      go_loopw [6] (fun va w4 => ∃ n : Nat, va = .int .i64 n ∧ n ≤ R.length ∧ (∀ x ∈ R.take n, mlt x m = true) ∧ Lay V w4) (fun va _ => R.length - (intOf va).toNat)
      case atStart => exact ⟨0, rfl, Nat.zero_le _, fun x hx => by simp at hx, Keep.refl _ _⟩
      case round =>
        obtain ⟨n, rfl, hn, hal, hl4⟩ := hrel
        have HAL := Lib.hid hal
        have HL4 := Lib.hid hl4
        have hco4 := (HCO.out.keep HLV.out (fun h => h)).keep hl4 (fun h => h)
        have hm4 := HM5.out.keep hl4 (fun h => h)
        have hrk4 := Rk.lay (Rk.lay HRK.out HLV.out) hl4
        have k2 := hco4.cell 2
        have j0 := hm4.cell 0
        have j1 := hm4.cell 1
        have j2 := hm4.cell 2
        simp at k2 j0 j1 j2
        have HBF : Hid (∀ (a b : Mt) (w : World), Calls Tryz.prog 22 #[a.val, b.val] w fun e w' => e = .returned (.bool (mlt a b)) ∧ Lay w w') := Lib.hid before_any
        clear hal hl4 hm4
        by_cases hnl : n < R.length
        · have hd : decide ((n : Int) < (R.length : Int)) = true := decide_eq_true (by omega)
          obtain ⟨_, ⟨_, h0⟩ | ⟨g, cap, he, _, hgl, _, _, hcell, _⟩⟩ := hrk4
          · omega
          obtain ⟨rfl, rfl⟩ : au = some ⟨g, 0, none⟩ ∧ cu = cap := by simpa using he
          have HGL := Lib.hid hgl
          have get : ∀ c, c < 3 → wr.cell? ⟨g, n * 3 + c, none⟩ = (matC R[n])[c]? := fun c hc' => by
            rw [← flatM_get R n hnl c hc']
            exact hcell _ (by rw [flatM_length]; omega)
          have y0 := get 0 (by omega)
          have y1 := get 1 (by omega)
          have y2 := get 2 (by omega)
          have HX : Hid (R.take (n + 1) = R.take n ++ [R[n]]) := Lib.hid (List.take_succ_eq_append_getElem hnl)
          have HRE : Hid (R[n]? = some R[n]) := Lib.hid (List.getElem?_eq_getElem hnl)
          obtain ⟨x, hx⟩ : ∃ x, x = R[n]'hnl := ⟨_, rfl⟩
          rw [← hx] at y0 y1 y2 HX HRE
          have HGE : Hid (∀ h : n < R.length, R[n]'h = x) := Lib.hid (fun h => hx.symm)
          clear hx
          have HC := Lib.hid (fun w => HBF.out x m w)
          simp only [Mt.val] at HC
          simp only [matC, List.getElem?_cons_zero, List.getElem?_cons_succ, Nat.add_zero] at y0 y1 y2
          clear get hcell he HBF
          cases hb : mlt x m with
          | true =>
            simp only [hb] at HC
            go_wp2_with fail
            go_region_law (go_simp; go_at_call 22; refine (HC.out _).mono ?_; rintro e w5 ⟨rfl, hl5⟩)
            all_goals
              have hl6 := (HL4.out.drew).trans hl5
              go_wp2_with fail
              go_roundw
              case rel =>
                refine ⟨n + 1, by go_num, by omega, fun y hy => ?_, hl6⟩
                rw [HX.out, List.mem_append, List.mem_singleton] at hy
                rcases hy with hy | rfl
                · exact HAL.out y hy
                · exact hb
              case measure => simp [intOf] <;> omega
          | false =>
            simp only [hb] at HC
            go_wp2_with fail
            go_region_law (go_simp; go_at_call 22; refine (HC.out _).mono ?_; rintro e w5 ⟨rfl, hl5⟩)
            all_goals
              have hl6 := (HL4.out.drew).trans hl5
              have HL6 := Lib.hid hl6
              have hco6 := (HCO.out.keep HLV.out (fun h => h)).keep hl6 (fun h => h)
              have hm6 := HM5.out.keep hl6 (fun h => h)
              have HCO6 := Lib.hid hco6
              have hgl : g < wr.heap.size := HGL.out
              have y0 := (World.cell?_of_block (a := ⟨g, n * 3, none⟩) (hl5.block (by show g < wr.heap.size; omega))).trans y0
              have y1 := (World.cell?_of_block (a := ⟨g, n * 3 + 1, none⟩) (hl5.block (by show g < wr.heap.size; omega))).trans y1
              have y2 := (World.cell?_of_block (a := ⟨g, n * 3 + 2, none⟩) (hl5.block (by show g < wr.heap.size; omega))).trans y2
              have k2 := hco6.cell 2
              have j0 := hm6.cell 0
              have j1 := hm6.cell 1
              have j2 := hm6.cell 2
              simp at k2 j0 j1 j2
              clear hl6 hm6 hco6 hl5
              by_cases hxm : x = m
              · have hd2 : decide (x = m) = true := decide_eq_true hxm
                have HIN : Hid (Nr.ins mlt m R = R) := Lib.hid (by
                  rw [ins_at m R n (by omega) HAL.out (fun h => by have := HGE.out h; rw [this]; exact hb), HRE.out, hxm, if_pos rfl])
                clear hxm
                go_wp2_with fail
                go_quiet (fail)
                go_wp2_with fail
                go_roundw
                case rel => exact ⟨i + 1, R, .slice (some ⟨g, 0, none⟩) R.length cu, by go_num, by omega, by rw [HIS1.out, HIN.out], Rk.lay (Rk.lay HRK.out HLV.out) (HL6.out.drewN _), (HLAY.out.trans HLV.out).trans (HL6.out.drewN _), HCO6.out.keep ((Keep.refl (fun _ => False) _).drewN _) (fun h => h), (HCR.out.keep HLV.out (fun h => h)).keep (HL6.out.drewN _) (fun h => h), KsB.keep (HLV.out.trans (HL6.out.drewN _)).size (fun j _ hj => Lay.block (HLV.out.trans (HL6.out.drewN _)) hj) _ _ HKB.out, Nat.le_trans hwr (HLV.out.trans (HL6.out.drewN _)).size⟩
                case measure => simp [intOf] <;> omega
              · have hd2 : decide (x = m) = false := decide_eq_false hxm
                have HIN : Hid (Nr.ins mlt m R = R.take n ++ [m] ++ R.drop n) := Lib.hid (by
                  rw [ins_at m R n (by omega) HAL.out (fun h => by have := HGE.out h; rw [this]; exact hb), HRE.out, if_neg (fun e => hxm (by injection e))])
                clear hxm
                go_wp2_with fail
                go_quiet (fail)
                go_wp2_with fail
                generalize hau : (some ⟨g, 0, none⟩ : Option Addr) = au at HRK HCO ⊢
                clear hau y0 y1 y2 k2 j0 j1 j2 HCO6 hgl HX HRE HGE HGL hco4 hd hd2 hb
                obtain ⟨w9, hw9⟩ : ∃ w9, w9 = w5.drewN nq := ⟨_, rfl⟩
                have hl9a : Lay w5 w9 := by rw [hw9]; exact (Keep.refl _ _).drewN _
                rw [← hw9]
                clear hw9
                have hl9 : Lay wo w9 := (HLV.out.trans HL6.out).trans hl9a
                have HRK9 := Lib.hid (Rk.lay HRK.out hl9)
                have HCO9 := Lib.hid (HCO.out.keep hl9 (fun h => h))
                have HM9 : Hid (CB w9 wo.heap.size 45 #[.string m.name, .bool m.not, .string m.value]) := Lib.hid ((HM5.out.keep HL6.out (fun h => h)).keep hl9a (fun h => h))
                have HLAY9 := Lib.hid (HLAY.out.trans hl9)
                have HCR9 := Lib.hid (HCR.out.keep hl9 (fun h => h))
                have HKB9 := Lib.hid (KsB.keep hl9.size (fun j _ hj => hl9.block hj) _ _ HKB.out)
                have HB9 : Hid (B2 ≤ w9.heap.size) := Lib.hid (Nat.le_trans hwr hl9.size)
                have HSH9 : Hid ((au = none ∧ R.length = 0) ∨ ∃ g, au = some ⟨g, 0, none⟩ ∧ R.length ≤ cu) := Lib.hid (by
                  obtain ⟨_, ⟨h1, h2⟩ | ⟨g, c, h1, _, _, h2, _⟩⟩ := HRK.out
                  · exact .inl ⟨by simp at h1; exact h1.1, h2⟩
                  · obtain ⟨rfl, rfl⟩ : au = some ⟨g, 0, none⟩ ∧ cu = c := by simpa using h1
                    exact .inr ⟨g, rfl, h2⟩)
                have hb9 := HB9.out
                have hf9 : F < w9.heap.size := HCO9.out.lt
                obtain ⟨i43, z43, E43⟩ := elem43
                have hn9 : n ≤ R.length := by omega
                clear hl9
                refine (wpIn_wide (n := 9)).1 ?_
                refine wpIn_region_flow (fun _ => trivial) (by kernel_rfl) (fun listed _ W => UI w9 F B2 30 (#[.int .i64 q.src, .int .i64 q.til, .slice au R.length cu, .int .i64 (Nr.norm q.fil).op, .string (Nr.norm q.fil).name, .string (Nr.norm q.fil).text, .slice ak1 (Nr.norm q.fil).kids.length ck1, .bool q.desc, .int .i64 q.lim, .string ⟨#[]⟩]) listed W) (fun i _ u1 u2 => UR w9.heap.size B2 i u1 u2) (GV [some (.pointer (some ⟨F, 2, none⟩)), some (.slice au R.length cu), some (.int .i64 n), some (.int .i64 n), some (.slice au n n), some (.agg #[.string m.name, .bool m.not, .string m.value]), none, some (.pointer (some ⟨F, 2, none⟩)), some (.slice au R.length cu), some (.int .i64 n), none, none, none, some (.pointer (some ⟨F, 2, none⟩)), none] [6, 10, 11, 12, 14] (USp w9.heap.size B2 F 30 au n m R (fun v' => #[.int .i64 q.src, .int .i64 q.til, v', .int .i64 (Nr.norm q.fil).op, .string (Nr.norm q.fil).name, .string (Nr.norm q.fil).text, .slice ak1 (Nr.norm q.fil).kids.length ck1, .bool q.desc, .int .i64 q.lim, .string ⟨#[]⟩]))) (fun j => j == 14) (by kernel_rfl) (by kernel_rfl) ?hst ⟨fun _ => (Keep.refl _ w9).drew, (Keep.refl _ w9).drew, fun _ => HCO9.out⟩ ?step ?fin
                case hst =>
                  intro i j ys v u1 u2 hij hanc hned hV hR
                  refine GV.keep' hij hV fun hS h => ?_
                  by_cases hi : i ∈ [6, 11, 12, 14]
                  · simp only [List.mem_cons, List.not_mem_nil, or_false] at hi hS
                    rcases hS with rfl | rfl | rfl | rfl | rfl
                    · rcases hi with rfl | rfl | rfl | rfl
                      · exact absurd rfl hij
                      · cases (Eq.symm hned).trans (by kernel_rfl : _ = false)
                      · cases (Eq.symm hned).trans (by kernel_rfl : _ = false)
                      · cases (Eq.symm hned).trans (by kernel_rfl : _ = false)
                    · exact h
                    · rcases hi with rfl | rfl | rfl | rfl
                      · cases hanc.symm.trans (by kernel_rfl : _ = true)
                      · exact absurd rfl hij
                      · cases (Eq.symm hned).trans (by kernel_rfl : _ = false)
                      · cases (Eq.symm hned).trans (by kernel_rfl : _ = false)
                    · rcases hi with rfl | rfl | rfl | rfl
                      · cases hanc.symm.trans (by kernel_rfl : _ = true)
                      · cases hanc.symm.trans (by kernel_rfl : _ = true)
                      · exact absurd rfl hij
                      · cases (Eq.symm hned).trans (by kernel_rfl : _ = false)
                    · rcases hi with rfl | rfl | rfl | rfl
                      · cases hanc.symm.trans (by kernel_rfl : _ = true)
                      · cases hanc.symm.trans (by kernel_rfl : _ = true)
                      · cases hanc.symm.trans (by kernel_rfl : _ = true)
                      · exact absurd rfl hij
                  · exact USp.lay h (UR.lay hR hi)
                case step =>
                  refine ⟨?_, ?_, ?_, ?_, ?_, ?_, ?_, ?_, ?_, ?_, ?_, ?_, ?_, ?_, ?_, trivial⟩
                  · intro listed ys X W hsz hsd hi2 hall hX hI hd K hK
                    have e3 : X.tmps.getD 3 undef = .pointer (some ⟨F, 0, none⟩) := hX 3 (Nat.le_of_ble_eq_true rfl)
                    have HI := Lib.hid hI
                    refine step_run (.inl rfl) ?_
                    clear hX hd hI
                    go_simp
                    exact hK _ _ (HI.out.same (by decide)) (UR.same (by decide)) (GV.of (by decide) (fun u h => by cases h; rfl))
                  · intro listed ys X W hsz hsd hi2 hall hX hI hd K hK
                    have e51 : X.tmps.getD 51 undef = .pointer (some ⟨F, 2, none⟩) := (hX 51 (Nat.le_of_ble_eq_true rfl)).trans (GV.val (hd ⟨0, .data⟩ (by simp) rfl) (by decide) rfl)
                    have h14 := not_yet (c := 14) hsd hi2 (by kernel_rfl)
                    have c2 := CB.cell (hI.cb h14) 2
                    simp only [List.getElem?_toArray, List.getElem?_cons_succ, List.getElem?_cons_zero] at c2
                    have HI := Lib.hid hI
                    refine step_run (.inl rfl) ?_
                    clear hX hd hI
                    go_simp
                    exact hK _ _ (HI.out.same (by decide)) (UR.same (by decide)) (GV.of (by decide) (fun u h => by cases h; rfl))
                  · intro listed ys X W hsz hsd hi2 hall hX hI hd K hK
                    have e6 : X.tmps.getD 6 undef = .int .i64 n := hX 6 (Nat.le_of_ble_eq_true rfl)
                    have HI := Lib.hid hI
                    refine step_run (.inl rfl) ?_
                    clear hX hd hI
                    go_simp
                    exact hK _ _ (HI.out.same (by decide)) (UR.same (by decide)) (GV.of (by decide) (fun u h => by cases h; rfl))
                  · intro listed ys X W hsz hsd hi2 hall hX hI hd K hK
                    have e6 : X.tmps.getD 6 undef = .int .i64 n := hX 6 (Nat.le_of_ble_eq_true rfl)
                    have HI := Lib.hid hI
                    refine step_run (.inl rfl) ?_
                    clear hX hd hI
                    go_simp
                    exact hK _ _ (HI.out.same (by decide)) (UR.same (by decide)) (GV.of (by decide) (fun u h => by cases h; rfl))
                  · intro listed ys X W hsz hsd hi2 hall hX hI hd K hK
                    have e52 : X.tmps.getD 52 undef = .slice au R.length cu := (hX 52 (Nat.le_of_ble_eq_true rfl)).trans (GV.val (hd ⟨1, .data⟩ (by simp) rfl) (by decide) rfl)
                    have e53 : X.tmps.getD 53 undef = .int .i64 n := (hX 53 (Nat.le_of_ble_eq_true rfl)).trans (GV.val (hd ⟨2, .data⟩ (by simp) rfl) (by decide) rfl)
                    have e54 : X.tmps.getD 54 undef = .int .i64 n := (hX 54 (Nat.le_of_ble_eq_true rfl)).trans (GV.val (hd ⟨3, .data⟩ (by simp) rfl) (by decide) rfl)
                    have HI := Lib.hid hI
                    rcases HSH9.out with ⟨hs1, hs2⟩ | ⟨g9, hs1, hs2⟩
                    · have hn0 : n = 0 := by omega
                      subst hn0
                      refine step_run (.inl rfl) ?_
                      clear hX hd hI
                      go_simp
                      exact hK _ _ (HI.out.same (by decide)) (UR.same (by decide)) (GV.of (by decide) (fun u h => by cases h; simp [hs1]))
                    · have hic : n ≤ cu := by omega
                      have hin : n ≤ R.length := by omega
                      refine step_run (.inl rfl) ?_
                      clear hX hd hI
                      go_simp
                      exact hK _ _ (HI.out.same (by decide)) (UR.same (by decide)) (GV.of (by decide) (fun u h => by cases h; simp [hs1]))
                  · intro listed ys X W hsz hsd hi2 hall hX hI hd K hK
                    have e5 : X.tmps.getD 5 undef = .pointer (some ⟨wo.heap.size, 0, none⟩) := hX 5 (Nat.le_of_ble_eq_true rfl)
                    have h12 := not_yet (c := 12) hsd hi2 (by kernel_rfl)
                    have hcm := HM9.out.keep (hI.k0 h12) (by have := HM9.out.lt; intro h; have h2 : _ ≤ wo.heap.size := h; omega)
                    have c0 := CB.cell hcm 0
                    have c1 := CB.cell hcm 1
                    have c2 := CB.cell hcm 2
                    simp only [List.getElem?_toArray, List.getElem?_cons_succ, List.getElem?_cons_zero] at c0 c1 c2
                    have HI := Lib.hid hI
                    refine step_run (.inl rfl) ?_
                    clear hX hd hI
                    go_simp
                    exact hK _ _ (HI.out.same (by decide)) (UR.same (by decide)) (GV.of (by decide) (fun u h => by cases h; rfl))
                  · intro listed ys X W hsz hsd hi2 hall hX hI hd K hK
                    have e56 : X.tmps.getD 56 undef = .agg #[.string m.name, .bool m.not, .string m.value] := (hX 56 (Nat.le_of_ble_eq_true rfl)).trans (GV.val (hd ⟨5, .data⟩ (by simp) rfl) (by decide) rfl)
                    have x56 : X.tmps[56]?.getD undef = .agg #[.string m.name, .bool m.not, .string m.value] := by rw [← Array.getD_eq_getD_getElem?]; exact e56
                    have h12 := not_yet (c := 12) hsd hi2 (by kernel_rfl)
                    have hz9 := (hI.k0 h12).size
                    have HI := Lib.hid hI
                    refine step_run (.inl rfl) ?_
                    clear hX hd hI
                    go_simp
                    refine hK _ (W.alloc (.cells #[.string m.name, .bool m.not, .string m.value] 45)) (HI.out.turn (by decide) (by decide) hb9 ((Keep.refl _ _).alloc _) (fun h => h.keep ((Keep.refl (fun _ => False) W).alloc _) (fun e => e))) (UR.turn (by decide) ((Keep.refl _ _).alloc _)) (GV.ofsp (by decide) ?_)
                    exact (rk_new 3 W 1 (flatM [m]) 45 rfl (by omega)).mono (G' := fun b => w9.heap.size ≤ b) fun b hb _ => by have h2 : b = W.heap.size := hb; omega
                  · intro listed ys X W hsz hsd hi2 hall hX hI hd K hK
                    have e3 : X.tmps.getD 3 undef = .pointer (some ⟨F, 0, none⟩) := hX 3 (Nat.le_of_ble_eq_true rfl)
                    have HI := Lib.hid hI
                    refine step_run (.inl rfl) ?_
                    clear hX hd hI
                    go_simp
                    exact hK _ _ (HI.out.same (by decide)) (UR.same (by decide)) (GV.of (by decide) (fun u h => by cases h; rfl))
                  · intro listed ys X W hsz hsd hi2 hall hX hI hd K hK
                    have e58 : X.tmps.getD 58 undef = .pointer (some ⟨F, 2, none⟩) := (hX 58 (Nat.le_of_ble_eq_true rfl)).trans (GV.val (hd ⟨7, .data⟩ (by simp) rfl) (by decide) rfl)
                    have h14 := not_yet (c := 14) hsd hi2 (by kernel_rfl)
                    have c2 := CB.cell (hI.cb h14) 2
                    simp only [List.getElem?_toArray, List.getElem?_cons_succ, List.getElem?_cons_zero] at c2
                    have HI := Lib.hid hI
                    refine step_run (.inl rfl) ?_
                    clear hX hd hI
                    go_simp
                    exact hK _ _ (HI.out.same (by decide)) (UR.same (by decide)) (GV.of (by decide) (fun u h => by cases h; rfl))
                  · intro listed ys X W hsz hsd hi2 hall hX hI hd K hK
                    have e6 : X.tmps.getD 6 undef = .int .i64 n := hX 6 (Nat.le_of_ble_eq_true rfl)
                    have HI := Lib.hid hI
                    refine step_run (.inl rfl) ?_
                    clear hX hd hI
                    go_simp
                    exact hK _ _ (HI.out.same (by decide)) (UR.same (by decide)) (GV.of (by decide) (fun u h => by cases h; rfl))
                  · intro listed ys X W hsz hsd hi2 hall hX hI hd K hK
                    have e59 : X.tmps.getD 59 undef = .slice au R.length cu := (hX 59 (Nat.le_of_ble_eq_true rfl)).trans (GV.val (hd ⟨8, .data⟩ (by simp) rfl) (by decide) rfl)
                    have e60 : X.tmps.getD 60 undef = .int .i64 n := (hX 60 (Nat.le_of_ble_eq_true rfl)).trans (GV.val (hd ⟨9, .data⟩ (by simp) rfl) (by decide) rfl)
                    have HI := Lib.hid hI
                    rcases HSH9.out with ⟨hs1, hs2⟩ | ⟨g9, hs1, hs2⟩
                    · have hn0 : n = 0 := by omega
                      subst hn0
                      refine step_run (.inl rfl) ?_
                      clear hX hd hI
                      go_simp
                      exact hK _ _ (HI.out.same (by decide)) (UR.same (by decide)) (GV.ofsp (by decide) ⟨au, cu, by simp [hs1, hs2], .inl hs2⟩)
                    · have hic : n ≤ cu := by omega
                      have hin : n ≤ R.length := by omega
                      refine step_run (.inl rfl) ?_
                      clear hX hd hI
                      go_simp
                      refine hK _ _ (HI.out.same (by decide)) (UR.same (by decide)) (GV.ofsp (by decide) ⟨_, _, rfl, ?_⟩)
                      by_cases hcn : cu = n
                      · exact .inl (by omega)
                      · refine .inr fun b off hab => ?_
                        rw [if_neg hcn]
                        have h := hs1.symm.trans hab
                        simp only [Option.some.injEq, Addr.mk.injEq, and_true] at h
                        obtain ⟨rfl, rfl⟩ := h
                        simp
                  · intro listed ys X W hsz hsd hi2 hall hX hI hd K hK
                    have e57 : X.tmps.getD 57 undef = ys 6 := hX 57 (Nat.le_of_ble_eq_true rfl)
                    have HY6 := GV.sp (hd ⟨6, .data⟩ (by simp) rfl) (by decide)
                    have e61 : X.tmps.getD 61 undef = ys 10 := hX 61 (Nat.le_of_ble_eq_true rfl)
                    have HY10 := GV.sp (hd ⟨10, .data⟩ (by simp) rfl) (by decide)
                    have h12 := not_yet (c := 12) hsd hi2 (by kernel_rfl)
                    have hk0 := hI.k0 h12
                    have hz9 := hk0.size
                    have hrk : Rk 3 (fun b => w9.heap.size ≤ b) W (ys 6) 1 (flatM [m]) := HY6
                    have hmat := MsAt.of_rk (HRK9.out.keep hk0 (fun b hb hlt _ e => by have h : w9.heap.size ≤ b := e; omega)) (by omega)
                    obtain ⟨a1, c1, hy10, hcond⟩ := HY10
                    rw [hy10] at e61
                    have hsrc := (MsAt.dropN hmat hn9 hcond c1).src
                    rw [List.length_drop] at hsrc
                    obtain ⟨v', w', hrun, hr', hk'⟩ := run_append_rk E43 hrk (fun b hb => by omega) 28 28 _ (R.length - n) _ hsrc (by omega) (by omega)
                    have hat : ∀ b, At (ys 6) b → w9.heap.size ≤ b := fun b hb => (hrk.at hb).1
                    refine step_run (.inl rfl) ?_
                    refine operIn_append _ _ 28 rfl e57 e61 hrun ?_
                    refine hK _ _ (hI.turn (by decide) (by decide) hb9 (hk'.into fun b _ hb => hat b hb) (fun h => h.keep hk' (fun hb => by have := hat F hb; omega))) (UR.turn (by decide) (hk'.into fun b _ hb => hat b hb)) (GV.ofsp (by decide) ?_)
                    have h := hr'.mono (G' := fun b => w9.heap.size ≤ b) (fun b hb _ => hb.1)
                    rw [← flatM_append] at h
                    exact h
                  · intro listed ys X W hsz hsd hi2 hall hX hI hd K hK
                    have e55 : X.tmps.getD 55 undef = .slice au n n := (hX 55 (Nat.le_of_ble_eq_true rfl)).trans (GV.val (hd ⟨4, .data⟩ (by simp) rfl) (by decide) rfl)
                    have e62 : X.tmps.getD 62 undef = ys 11 := hX 62 (Nat.le_of_ble_eq_true rfl)
                    have HY11 := GV.sp (hd ⟨11, .data⟩ (by simp) rfl) (by decide)
                    have hk0 := hI.k0 hi2
                    have hz9 := hk0.size
                    have h14 := not_yet (c := 14) hsd hi2 (by kernel_rfl)
                    have hrk11 : Rk 3 (fun b => w9.heap.size ≤ b) W (ys 11) (1 + (R.length - n)) (flatM ([m] ++ R.drop n)) := HY11
                    have hrk9 := HRK9.out.keep hk0 (fun b hb hlt _ e => by have h : w9.heap.size ≤ b := e; omega)
                    have hrow : Rk 3 (fun b => B2 ≤ b) W (.slice au n n) n (flatM (R.take n)) := rk_take' hrk9 hn9
                    obtain ⟨v', w', hrun, hr', hk'⟩ := run_append_rk E43 hrow (fun b hb => by omega) 28 28 _ (1 + (R.length - n)) _ (hrk11.src Tryz.underlying28 (flatM_one _)) (by omega) (by omega)
                    have hat : ∀ b, At (.slice au n n) b → B2 ≤ b := fun b hb => (hrow.at hb).1
                    refine step_run (.inl rfl) ?_
                    refine operIn_append _ _ 28 rfl e55 e62 hrun ?_
                    refine hK _ _ (hI.last (by rw [hsz]; decide) (hk'.into fun b _ hb => .inl (hat b hb)) (fun h => h.keep hk' (fun hb => by have := hat F hb; omega))) (UR.turn2 (hk'.into fun b _ hb => hat b hb)) (GV.ofsp (by decide) ?_)
                    have h := hr'.mono (G' := fun b => B2 ≤ b) (fun b hb _ => hb.1)
                    rw [← flatM_append] at h
                    exact h
                  · intro listed ys X W hsz hsd hi2 hall hX hI hd K hK
                    have e3 : X.tmps.getD 3 undef = .pointer (some ⟨F, 0, none⟩) := hX 3 (Nat.le_of_ble_eq_true rfl)
                    have HI := Lib.hid hI
                    refine step_run (.inl rfl) ?_
                    clear hX hd hI
                    go_simp
                    exact hK _ _ (HI.out.same (by decide)) (UR.same (by decide)) (GV.of (by decide) (fun u h => by cases h; rfl))
                  · intro listed ys X W hsz hsd hi2 hall hX hI hd K hK
                    have e64 : X.tmps.getD 64 undef = .pointer (some ⟨F, 2, none⟩) := (hX 64 (Nat.le_of_ble_eq_true rfl)).trans (GV.val (hd ⟨13, .data⟩ (by simp) rfl) (by decide) rfl)
                    have e63 : X.tmps.getD 63 undef = ys 12 := hX 63 (Nat.le_of_ble_eq_true rfl)
                    have HY12 := GV.sp (hd ⟨12, .data⟩ (by simp) rfl) (by decide)
                    have hrk : Rk 3 (fun b => B2 ≤ b) W (ys 12) (n + (1 + (R.length - n))) (flatM (R.take n ++ ([m] ++ R.drop n))) := HY12
                    obtain ⟨a12, c12, hy12⟩ := hrk.shape
                    rw [hy12] at e63 hrk
                    have hl12 := hall ⟨12, .data⟩ (by simp) rfl
                    have hcb := hI.cb hi2
                    have c2 := hcb.cell 2
                    have cf2 := hcb.frozen 2
                    simp only [List.getElem?_toArray, List.getElem?_cons_succ, List.getElem?_cons_zero] at c2
                    have HRK := Lib.hid hrk
                    have HCB := Lib.hid hcb
                    have HI := Lib.hid hI
                    refine step_run (.inl rfl) ?_
                    clear hX hd hI hrk hcb
                    go_simp
                    have hcb2 := CB.set HCB.out 2 (.slice a12 (n + (1 + (R.length - n))) c12)
                    simp only [List.setIfInBounds_toArray, List.set_cons_zero, List.set_cons_succ] at hcb2
                    refine hK (.bool true) _ (HI.out.store (by rw [hsz]; decide) hl12 (Keep.setCell (p := ⟨F, 2, none⟩) (Keep.refl _ _) (.inr (.inr rfl)) _)) trivial (GV.ofsp (by decide) ⟨_, n + (1 + (R.length - n)), hcb2, ?_⟩)
                    exact HRK.out.carry (Nat.le_of_eq (by simp [World.setCell])) fun j hj _ _ => Below.heap_setCell _ ⟨F, 2, none⟩ _ j (by have h : B2 ≤ j := hj; show j ≠ F; omega)
                case fin =>
                  intro listed ys w10 hall hI hV
                  obtain ⟨v10, n10, hc10, hr10⟩ : USp w9.heap.size B2 F 30 au n m R (fun v' => #[.int .i64 q.src, .int .i64 q.til, v', .int .i64 (Nr.norm q.fil).op, .string (Nr.norm q.fil).name, .string (Nr.norm q.fil).text, .slice ak1 (Nr.norm q.fil).kids.length ck1, .bool q.desc, .int .i64 q.lim, .string ⟨#[]⟩]) 14 (ys 14) w10 := GV.sp (hV 14 (by decide) rfl) (by decide)
                  have HK10 := Lib.hid hI.k
                  have HC10 := Lib.hid hc10
                  have HR10 := Lib.hid hr10
                  clear hall hI hV hc10 hr10
                  simp only [putsFrom]
                  simp only [Act.put, List.setIfInBounds_toArray, List.set_cons_succ, List.set_cons_zero]
                  go_wp2_with fail
                  go_roundw
                  case rel =>
                    have hwz := HB9.out
                    have hfin : Nr.ins mlt m R = R.take n ++ ([m] ++ R.drop n) := by rw [HIN.out, List.append_assoc]
                    have hll : n10 = (R.take n ++ ([m] ++ R.drop n)).length := by have := HR10.out.1; rw [flatM_length] at this; omega
                    refine ⟨i + 1, _, v10, by go_num, by omega, by rw [HIS1.out, hfin], by rw [← hll]; exact HR10.out, ?_, HC10.out, ?_, ?_, Nat.le_trans hwz HK10.out.size⟩
                    · exact (HLAY9.out).over HK10.out (fun j hj => by rcases hj with hj | hj <;> omega)
                    · exact HCR9.out.keep HK10.out (fun hj => by rcases hj with hj | hj <;> omega)
                    · exact KsB.keep HK10.out.size (fun j hj hlt => HK10.out.block j hlt (fun h => by rcases h with h | h <;> omega)) _ _ HKB9.out
                  case measure => simp [intOf] <;> omega
        · obtain ⟨hnR⟩ : Nonempty (n = R.length) := ⟨by omega⟩
          have hd : decide ((n : Int) < (R.length : Int)) = false := decide_eq_false (by omega)
          have HIN : Hid (Nr.ins mlt m R = R.take n ++ [m] ++ R.drop n) := Lib.hid (by
            rw [ins_at m R n (by omega) HAL.out (fun h => by omega), List.getElem?_eq_none (by omega)]
            rfl)
          clear HBF hnR
          go_wp2_with fail
          go_quiet (fail)
          go_wp2_with fail
          go_quiet (fail)
          go_wp2_with fail
          rename_i nq1
          obtain ⟨w9, hw9⟩ : ∃ w9, w9 = (wr.drewN nq1).drewN nq := ⟨_, rfl⟩
          have hl9a : Lay wr w9 := by rw [hw9]; exact ((Keep.refl _ _).drewN _).drewN _
          rw [← hw9]
          clear hw9
          have hl9 : Lay wo w9 := (HLV.out.trans HL4.out).trans hl9a
          have HRK9 := Lib.hid (Rk.lay HRK.out hl9)
          have HCO9 := Lib.hid (HCO.out.keep hl9 (fun h => h))
          have HM9 : Hid (CB w9 wo.heap.size 45 #[.string m.name, .bool m.not, .string m.value]) := Lib.hid ((HM5.out.keep HL4.out (fun h => h)).keep hl9a (fun h => h))
          have HLAY9 := Lib.hid (HLAY.out.trans hl9)
          have HCR9 := Lib.hid (HCR.out.keep hl9 (fun h => h))
          have HKB9 := Lib.hid (KsB.keep hl9.size (fun j _ hj => hl9.block hj) _ _ HKB.out)
          have HB9 : Hid (B2 ≤ w9.heap.size) := Lib.hid (Nat.le_trans hwr hl9.size)
          have HSH9 : Hid ((au = none ∧ R.length = 0) ∨ ∃ g, au = some ⟨g, 0, none⟩ ∧ R.length ≤ cu) := Lib.hid (by
            obtain ⟨_, ⟨h1, h2⟩ | ⟨g, c, h1, _, _, h2, _⟩⟩ := HRK.out
            · exact .inl ⟨by simp at h1; exact h1.1, h2⟩
            · obtain ⟨rfl, rfl⟩ : au = some ⟨g, 0, none⟩ ∧ cu = c := by simpa using h1
              exact .inr ⟨g, rfl, h2⟩)
          have hb9 := HB9.out
          have hf9 : F < w9.heap.size := HCO9.out.lt
          obtain ⟨i43, z43, E43⟩ := elem43
          have hn9 : n ≤ R.length := by omega
          clear hl9
          refine (wpIn_wide (n := 9)).1 ?_
          refine wpIn_region_flow (fun _ => trivial) (by kernel_rfl) (fun listed _ W => UI w9 F B2 30 (#[.int .i64 q.src, .int .i64 q.til, .slice au R.length cu, .int .i64 (Nr.norm q.fil).op, .string (Nr.norm q.fil).name, .string (Nr.norm q.fil).text, .slice ak1 (Nr.norm q.fil).kids.length ck1, .bool q.desc, .int .i64 q.lim, .string ⟨#[]⟩]) listed W) (fun i _ u1 u2 => UR w9.heap.size B2 i u1 u2) (GV [some (.pointer (some ⟨F, 2, none⟩)), some (.slice au R.length cu), some (.int .i64 n), some (.int .i64 n), some (.slice au n n), some (.agg #[.string m.name, .bool m.not, .string m.value]), none, some (.pointer (some ⟨F, 2, none⟩)), some (.slice au R.length cu), some (.int .i64 n), none, none, none, some (.pointer (some ⟨F, 2, none⟩)), none] [6, 10, 11, 12, 14] (USp w9.heap.size B2 F 30 au n m R (fun v' => #[.int .i64 q.src, .int .i64 q.til, v', .int .i64 (Nr.norm q.fil).op, .string (Nr.norm q.fil).name, .string (Nr.norm q.fil).text, .slice ak1 (Nr.norm q.fil).kids.length ck1, .bool q.desc, .int .i64 q.lim, .string ⟨#[]⟩]))) (fun j => j == 14) (by kernel_rfl) (by kernel_rfl) ?hst ⟨fun _ => (Keep.refl _ w9).drew, (Keep.refl _ w9).drew, fun _ => HCO9.out⟩ ?step ?fin
          case hst =>
            intro i j ys v u1 u2 hij hanc hned hV hR
            refine GV.keep' hij hV fun hS h => ?_
            by_cases hi : i ∈ [6, 11, 12, 14]
            · simp only [List.mem_cons, List.not_mem_nil, or_false] at hi hS
              rcases hS with rfl | rfl | rfl | rfl | rfl
              · rcases hi with rfl | rfl | rfl | rfl
                · exact absurd rfl hij
                · cases (Eq.symm hned).trans (by kernel_rfl : _ = false)
                · cases (Eq.symm hned).trans (by kernel_rfl : _ = false)
                · cases (Eq.symm hned).trans (by kernel_rfl : _ = false)
              · exact h
              · rcases hi with rfl | rfl | rfl | rfl
                · cases hanc.symm.trans (by kernel_rfl : _ = true)
                · exact absurd rfl hij
                · cases (Eq.symm hned).trans (by kernel_rfl : _ = false)
                · cases (Eq.symm hned).trans (by kernel_rfl : _ = false)
              · rcases hi with rfl | rfl | rfl | rfl
                · cases hanc.symm.trans (by kernel_rfl : _ = true)
                · cases hanc.symm.trans (by kernel_rfl : _ = true)
                · exact absurd rfl hij
                · cases (Eq.symm hned).trans (by kernel_rfl : _ = false)
              · rcases hi with rfl | rfl | rfl | rfl
                · cases hanc.symm.trans (by kernel_rfl : _ = true)
                · cases hanc.symm.trans (by kernel_rfl : _ = true)
                · cases hanc.symm.trans (by kernel_rfl : _ = true)
                · exact absurd rfl hij
            · exact USp.lay h (UR.lay hR hi)
          case step =>
            refine ⟨?_, ?_, ?_, ?_, ?_, ?_, ?_, ?_, ?_, ?_, ?_, ?_, ?_, ?_, ?_, trivial⟩
            · intro listed ys X W hsz hsd hi2 hall hX hI hd K hK
              have e3 : X.tmps.getD 3 undef = .pointer (some ⟨F, 0, none⟩) := hX 3 (Nat.le_of_ble_eq_true rfl)
              have HI := Lib.hid hI
              refine step_run (.inl rfl) ?_
              clear hX hd hI
              go_simp
              exact hK _ _ (HI.out.same (by decide)) (UR.same (by decide)) (GV.of (by decide) (fun u h => by cases h; rfl))
            · intro listed ys X W hsz hsd hi2 hall hX hI hd K hK
              have e51 : X.tmps.getD 51 undef = .pointer (some ⟨F, 2, none⟩) := (hX 51 (Nat.le_of_ble_eq_true rfl)).trans (GV.val (hd ⟨0, .data⟩ (by simp) rfl) (by decide) rfl)
              have h14 := not_yet (c := 14) hsd hi2 (by kernel_rfl)
              have c2 := CB.cell (hI.cb h14) 2
              simp only [List.getElem?_toArray, List.getElem?_cons_succ, List.getElem?_cons_zero] at c2
              have HI := Lib.hid hI
              refine step_run (.inl rfl) ?_
              clear hX hd hI
              go_simp
              exact hK _ _ (HI.out.same (by decide)) (UR.same (by decide)) (GV.of (by decide) (fun u h => by cases h; rfl))
            · intro listed ys X W hsz hsd hi2 hall hX hI hd K hK
              have e6 : X.tmps.getD 6 undef = .int .i64 n := hX 6 (Nat.le_of_ble_eq_true rfl)
              have HI := Lib.hid hI
              refine step_run (.inl rfl) ?_
              clear hX hd hI
              go_simp
              exact hK _ _ (HI.out.same (by decide)) (UR.same (by decide)) (GV.of (by decide) (fun u h => by cases h; rfl))
            · intro listed ys X W hsz hsd hi2 hall hX hI hd K hK
              have e6 : X.tmps.getD 6 undef = .int .i64 n := hX 6 (Nat.le_of_ble_eq_true rfl)
              have HI := Lib.hid hI
              refine step_run (.inl rfl) ?_
              clear hX hd hI
              go_simp
              exact hK _ _ (HI.out.same (by decide)) (UR.same (by decide)) (GV.of (by decide) (fun u h => by cases h; rfl))
            · intro listed ys X W hsz hsd hi2 hall hX hI hd K hK
              have e52 : X.tmps.getD 52 undef = .slice au R.length cu := (hX 52 (Nat.le_of_ble_eq_true rfl)).trans (GV.val (hd ⟨1, .data⟩ (by simp) rfl) (by decide) rfl)
              have e53 : X.tmps.getD 53 undef = .int .i64 n := (hX 53 (Nat.le_of_ble_eq_true rfl)).trans (GV.val (hd ⟨2, .data⟩ (by simp) rfl) (by decide) rfl)
              have e54 : X.tmps.getD 54 undef = .int .i64 n := (hX 54 (Nat.le_of_ble_eq_true rfl)).trans (GV.val (hd ⟨3, .data⟩ (by simp) rfl) (by decide) rfl)
              have HI := Lib.hid hI
              rcases HSH9.out with ⟨hs1, hs2⟩ | ⟨g9, hs1, hs2⟩
              · have hn0 : n = 0 := by omega
                subst hn0
                refine step_run (.inl rfl) ?_
                clear hX hd hI
                go_simp
                exact hK _ _ (HI.out.same (by decide)) (UR.same (by decide)) (GV.of (by decide) (fun u h => by cases h; simp [hs1]))
              · have hic : n ≤ cu := by omega
                have hin : n ≤ R.length := by omega
                refine step_run (.inl rfl) ?_
                clear hX hd hI
                go_simp
                exact hK _ _ (HI.out.same (by decide)) (UR.same (by decide)) (GV.of (by decide) (fun u h => by cases h; simp [hs1]))
            · intro listed ys X W hsz hsd hi2 hall hX hI hd K hK
              have e5 : X.tmps.getD 5 undef = .pointer (some ⟨wo.heap.size, 0, none⟩) := hX 5 (Nat.le_of_ble_eq_true rfl)
              have h12 := not_yet (c := 12) hsd hi2 (by kernel_rfl)
              have hcm := HM9.out.keep (hI.k0 h12) (by have := HM9.out.lt; intro h; have h2 : _ ≤ wo.heap.size := h; omega)
              have c0 := CB.cell hcm 0
              have c1 := CB.cell hcm 1
              have c2 := CB.cell hcm 2
              simp only [List.getElem?_toArray, List.getElem?_cons_succ, List.getElem?_cons_zero] at c0 c1 c2
              have HI := Lib.hid hI
              refine step_run (.inl rfl) ?_
              clear hX hd hI
              go_simp
              exact hK _ _ (HI.out.same (by decide)) (UR.same (by decide)) (GV.of (by decide) (fun u h => by cases h; rfl))
            · intro listed ys X W hsz hsd hi2 hall hX hI hd K hK
              have e56 : X.tmps.getD 56 undef = .agg #[.string m.name, .bool m.not, .string m.value] := (hX 56 (Nat.le_of_ble_eq_true rfl)).trans (GV.val (hd ⟨5, .data⟩ (by simp) rfl) (by decide) rfl)
              have x56 : X.tmps[56]?.getD undef = .agg #[.string m.name, .bool m.not, .string m.value] := by rw [← Array.getD_eq_getD_getElem?]; exact e56
              have h12 := not_yet (c := 12) hsd hi2 (by kernel_rfl)
              have hz9 := (hI.k0 h12).size
              have HI := Lib.hid hI
              refine step_run (.inl rfl) ?_
              clear hX hd hI
              go_simp
              refine hK _ (W.alloc (.cells #[.string m.name, .bool m.not, .string m.value] 45)) (HI.out.turn (by decide) (by decide) hb9 ((Keep.refl _ _).alloc _) (fun h => h.keep ((Keep.refl (fun _ => False) W).alloc _) (fun e => e))) (UR.turn (by decide) ((Keep.refl _ _).alloc _)) (GV.ofsp (by decide) ?_)
              exact (rk_new 3 W 1 (flatM [m]) 45 rfl (by omega)).mono (G' := fun b => w9.heap.size ≤ b) fun b hb _ => by have h2 : b = W.heap.size := hb; omega
            · intro listed ys X W hsz hsd hi2 hall hX hI hd K hK
              have e3 : X.tmps.getD 3 undef = .pointer (some ⟨F, 0, none⟩) := hX 3 (Nat.le_of_ble_eq_true rfl)
              have HI := Lib.hid hI
              refine step_run (.inl rfl) ?_
              clear hX hd hI
              go_simp
              exact hK _ _ (HI.out.same (by decide)) (UR.same (by decide)) (GV.of (by decide) (fun u h => by cases h; rfl))
            · intro listed ys X W hsz hsd hi2 hall hX hI hd K hK
              have e58 : X.tmps.getD 58 undef = .pointer (some ⟨F, 2, none⟩) := (hX 58 (Nat.le_of_ble_eq_true rfl)).trans (GV.val (hd ⟨7, .data⟩ (by simp) rfl) (by decide) rfl)
              have h14 := not_yet (c := 14) hsd hi2 (by kernel_rfl)
              have c2 := CB.cell (hI.cb h14) 2
              simp only [List.getElem?_toArray, List.getElem?_cons_succ, List.getElem?_cons_zero] at c2
              have HI := Lib.hid hI
              refine step_run (.inl rfl) ?_
              clear hX hd hI
              go_simp
              exact hK _ _ (HI.out.same (by decide)) (UR.same (by decide)) (GV.of (by decide) (fun u h => by cases h; rfl))
            · intro listed ys X W hsz hsd hi2 hall hX hI hd K hK
              have e6 : X.tmps.getD 6 undef = .int .i64 n := hX 6 (Nat.le_of_ble_eq_true rfl)
              have HI := Lib.hid hI
              refine step_run (.inl rfl) ?_
              clear hX hd hI
              go_simp
              exact hK _ _ (HI.out.same (by decide)) (UR.same (by decide)) (GV.of (by decide) (fun u h => by cases h; rfl))
            · intro listed ys X W hsz hsd hi2 hall hX hI hd K hK
              have e59 : X.tmps.getD 59 undef = .slice au R.length cu := (hX 59 (Nat.le_of_ble_eq_true rfl)).trans (GV.val (hd ⟨8, .data⟩ (by simp) rfl) (by decide) rfl)
              have e60 : X.tmps.getD 60 undef = .int .i64 n := (hX 60 (Nat.le_of_ble_eq_true rfl)).trans (GV.val (hd ⟨9, .data⟩ (by simp) rfl) (by decide) rfl)
              have HI := Lib.hid hI
              rcases HSH9.out with ⟨hs1, hs2⟩ | ⟨g9, hs1, hs2⟩
              · have hn0 : n = 0 := by omega
                subst hn0
                refine step_run (.inl rfl) ?_
                clear hX hd hI
                go_simp
                exact hK _ _ (HI.out.same (by decide)) (UR.same (by decide)) (GV.ofsp (by decide) ⟨au, cu, by simp [hs1, hs2], .inl hs2⟩)
              · have hic : n ≤ cu := by omega
                have hin : n ≤ R.length := by omega
                refine step_run (.inl rfl) ?_
                clear hX hd hI
                go_simp
                refine hK _ _ (HI.out.same (by decide)) (UR.same (by decide)) (GV.ofsp (by decide) ⟨_, _, rfl, ?_⟩)
                by_cases hcn : cu = n
                · exact .inl (by omega)
                · refine .inr fun b off hab => ?_
                  rw [if_neg hcn]
                  have h := hs1.symm.trans hab
                  simp only [Option.some.injEq, Addr.mk.injEq, and_true] at h
                  obtain ⟨rfl, rfl⟩ := h
                  simp
            · intro listed ys X W hsz hsd hi2 hall hX hI hd K hK
              have e57 : X.tmps.getD 57 undef = ys 6 := hX 57 (Nat.le_of_ble_eq_true rfl)
              have HY6 := GV.sp (hd ⟨6, .data⟩ (by simp) rfl) (by decide)
              have e61 : X.tmps.getD 61 undef = ys 10 := hX 61 (Nat.le_of_ble_eq_true rfl)
              have HY10 := GV.sp (hd ⟨10, .data⟩ (by simp) rfl) (by decide)
              have h12 := not_yet (c := 12) hsd hi2 (by kernel_rfl)
              have hk0 := hI.k0 h12
              have hz9 := hk0.size
              have hrk : Rk 3 (fun b => w9.heap.size ≤ b) W (ys 6) 1 (flatM [m]) := HY6
              have hmat := MsAt.of_rk (HRK9.out.keep hk0 (fun b hb hlt _ e => by have h : w9.heap.size ≤ b := e; omega)) (by omega)
              obtain ⟨a1, c1, hy10, hcond⟩ := HY10
              rw [hy10] at e61
              have hsrc := (MsAt.dropN hmat hn9 hcond c1).src
              rw [List.length_drop] at hsrc
              obtain ⟨v', w', hrun, hr', hk'⟩ := run_append_rk E43 hrk (fun b hb => by omega) 28 28 _ (R.length - n) _ hsrc (by omega) (by omega)
              have hat : ∀ b, At (ys 6) b → w9.heap.size ≤ b := fun b hb => (hrk.at hb).1
              refine step_run (.inl rfl) ?_
              refine operIn_append _ _ 28 rfl e57 e61 hrun ?_
              refine hK _ _ (hI.turn (by decide) (by decide) hb9 (hk'.into fun b _ hb => hat b hb) (fun h => h.keep hk' (fun hb => by have := hat F hb; omega))) (UR.turn (by decide) (hk'.into fun b _ hb => hat b hb)) (GV.ofsp (by decide) ?_)
              have h := hr'.mono (G' := fun b => w9.heap.size ≤ b) (fun b hb _ => hb.1)
              rw [← flatM_append] at h
              exact h
            · intro listed ys X W hsz hsd hi2 hall hX hI hd K hK
              have e55 : X.tmps.getD 55 undef = .slice au n n := (hX 55 (Nat.le_of_ble_eq_true rfl)).trans (GV.val (hd ⟨4, .data⟩ (by simp) rfl) (by decide) rfl)
              have e62 : X.tmps.getD 62 undef = ys 11 := hX 62 (Nat.le_of_ble_eq_true rfl)
              have HY11 := GV.sp (hd ⟨11, .data⟩ (by simp) rfl) (by decide)
              have hk0 := hI.k0 hi2
              have hz9 := hk0.size
              have h14 := not_yet (c := 14) hsd hi2 (by kernel_rfl)
              have hrk11 : Rk 3 (fun b => w9.heap.size ≤ b) W (ys 11) (1 + (R.length - n)) (flatM ([m] ++ R.drop n)) := HY11
              have hrk9 := HRK9.out.keep hk0 (fun b hb hlt _ e => by have h : w9.heap.size ≤ b := e; omega)
              have hrow : Rk 3 (fun b => B2 ≤ b) W (.slice au n n) n (flatM (R.take n)) := rk_take' hrk9 hn9
              obtain ⟨v', w', hrun, hr', hk'⟩ := run_append_rk E43 hrow (fun b hb => by omega) 28 28 _ (1 + (R.length - n)) _ (hrk11.src Tryz.underlying28 (flatM_one _)) (by omega) (by omega)
              have hat : ∀ b, At (.slice au n n) b → B2 ≤ b := fun b hb => (hrow.at hb).1
              refine step_run (.inl rfl) ?_
              refine operIn_append _ _ 28 rfl e55 e62 hrun ?_
              refine hK _ _ (hI.last (by rw [hsz]; decide) (hk'.into fun b _ hb => .inl (hat b hb)) (fun h => h.keep hk' (fun hb => by have := hat F hb; omega))) (UR.turn2 (hk'.into fun b _ hb => hat b hb)) (GV.ofsp (by decide) ?_)
              have h := hr'.mono (G' := fun b => B2 ≤ b) (fun b hb _ => hb.1)
              rw [← flatM_append] at h
              exact h
            · intro listed ys X W hsz hsd hi2 hall hX hI hd K hK
              have e3 : X.tmps.getD 3 undef = .pointer (some ⟨F, 0, none⟩) := hX 3 (Nat.le_of_ble_eq_true rfl)
              have HI := Lib.hid hI
              refine step_run (.inl rfl) ?_
              clear hX hd hI
              go_simp
              exact hK _ _ (HI.out.same (by decide)) (UR.same (by decide)) (GV.of (by decide) (fun u h => by cases h; rfl))
            · intro listed ys X W hsz hsd hi2 hall hX hI hd K hK
              have e64 : X.tmps.getD 64 undef = .pointer (some ⟨F, 2, none⟩) := (hX 64 (Nat.le_of_ble_eq_true rfl)).trans (GV.val (hd ⟨13, .data⟩ (by simp) rfl) (by decide) rfl)
              have e63 : X.tmps.getD 63 undef = ys 12 := hX 63 (Nat.le_of_ble_eq_true rfl)
              have HY12 := GV.sp (hd ⟨12, .data⟩ (by simp) rfl) (by decide)
              have hrk : Rk 3 (fun b => B2 ≤ b) W (ys 12) (n + (1 + (R.length - n))) (flatM (R.take n ++ ([m] ++ R.drop n))) := HY12
              obtain ⟨a12, c12, hy12⟩ := hrk.shape
              rw [hy12] at e63 hrk
              have hl12 := hall ⟨12, .data⟩ (by simp) rfl
              have hcb := hI.cb hi2
              have c2 := hcb.cell 2
              have cf2 := hcb.frozen 2
              simp only [List.getElem?_toArray, List.getElem?_cons_succ, List.getElem?_cons_zero] at c2
              have HRK := Lib.hid hrk
              have HCB := Lib.hid hcb
              have HI := Lib.hid hI
              refine step_run (.inl rfl) ?_
              clear hX hd hI hrk hcb
              go_simp
              have hcb2 := CB.set HCB.out 2 (.slice a12 (n + (1 + (R.length - n))) c12)
              simp only [List.setIfInBounds_toArray, List.set_cons_zero, List.set_cons_succ] at hcb2
              refine hK (.bool true) _ (HI.out.store (by rw [hsz]; decide) hl12 (Keep.setCell (p := ⟨F, 2, none⟩) (Keep.refl _ _) (.inr (.inr rfl)) _)) trivial (GV.ofsp (by decide) ⟨_, n + (1 + (R.length - n)), hcb2, ?_⟩)
              exact HRK.out.carry (Nat.le_of_eq (by simp [World.setCell])) fun j hj _ _ => Below.heap_setCell _ ⟨F, 2, none⟩ _ j (by have h : B2 ≤ j := hj; show j ≠ F; omega)
          case fin =>
            intro listed ys w10 hall hI hV
            obtain ⟨v10, n10, hc10, hr10⟩ : USp w9.heap.size B2 F 30 au n m R (fun v' => #[.int .i64 q.src, .int .i64 q.til, v', .int .i64 (Nr.norm q.fil).op, .string (Nr.norm q.fil).name, .string (Nr.norm q.fil).text, .slice ak1 (Nr.norm q.fil).kids.length ck1, .bool q.desc, .int .i64 q.lim, .string ⟨#[]⟩]) 14 (ys 14) w10 := GV.sp (hV 14 (by decide) rfl) (by decide)
            have HK10 := Lib.hid hI.k
            have HC10 := Lib.hid hc10
            have HR10 := Lib.hid hr10
            clear hall hI hV hc10 hr10
            simp only [putsFrom]
            simp only [Act.put, List.setIfInBounds_toArray, List.set_cons_succ, List.set_cons_zero]
            go_wp2_with fail
            go_roundw
            case rel =>
              have hwz := HB9.out
              have hfin : Nr.ins mlt m R = R.take n ++ ([m] ++ R.drop n) := by rw [HIN.out, List.append_assoc]
              have hll : n10 = (R.take n ++ ([m] ++ R.drop n)).length := by have := HR10.out.1; rw [flatM_length] at this; omega
              refine ⟨i + 1, _, v10, by go_num, by omega, by rw [HIS1.out, hfin], by rw [← hll]; exact HR10.out, ?_, HC10.out, ?_, ?_, Nat.le_trans hwz HK10.out.size⟩
              · exact (HLAY9.out).over HK10.out (fun j hj => by rcases hj with hj | hj <;> omega)
              · exact HCR9.out.keep HK10.out (fun hj => by rcases hj with hj | hj <;> omega)
              · exact KsB.keep HK10.out.size (fun j hj hlt => HK10.out.block j hlt (fun h => by rcases h with h | h <;> omega)) _ _ HKB9.out
            case measure => simp [intOf] <;> omega

    · have HNU : Hid (R = Nr.nub mlt q.mat) := Lib.hid (by rw [HRR.out, ← HIE.out, show i = q.mat.length by omega])
      have hne : F ≠ w.heap.size + 1 := by omega
      have c0 := CB.cell HCO.out 0
      have c1 := CB.cell HCO.out 1
      have c2 := CB.cell HCO.out 2
      have c3 := CB.cell HCO.out 3
      have c4 := CB.cell HCO.out 4
      have c5 := CB.cell HCO.out 5
      have c6 := CB.cell HCO.out 6
      have c7 := CB.cell HCO.out 7
      have c8 := CB.cell HCO.out 8
      have c9 := CB.cell HCO.out 9
      have d0 := CB.cell HCR.out 0
      have d1 := CB.cell HCR.out 1
      have d2 := CB.cell HCR.out 2
      have d3 := CB.cell HCR.out 3
      have d4 := CB.cell HCR.out 4
      have d5 := CB.cell HCR.out 5
      have d6 := CB.cell HCR.out 6
      have d7 := CB.cell HCR.out 7
      have d8 := CB.cell HCR.out 8
      have d9 := CB.cell HCR.out 9
      have df0 := CB.frozen HCR.out 0
      have df1 := CB.frozen HCR.out 1
      have df2 := CB.frozen HCR.out 2
      have df3 := CB.frozen HCR.out 3
      have df4 := CB.frozen HCR.out 4
      have df5 := CB.frozen HCR.out 5
      have df6 := CB.frozen HCR.out 6
      have df7 := CB.frozen HCR.out 7
      have df8 := CB.frozen HCR.out 8
      have df9 := CB.frozen HCR.out 9
      simp only [List.getElem?_toArray, List.getElem?_cons_succ, List.getElem?_cons_zero] at c0 d0 c1 d1 c2 d2 c3 d3 c4 d4 c5 d5 c6 d6 c7 d7 c8 d8 c9 d9
      clear hco
      go_wp2_with fail
      clear c0 d0 df0 c1 d1 df1 c2 d2 df2 c3 d3 df3 c4 d4 df4 c5 d5 df5 c6 d6 df6 c7 d7 df7 c8 d8 df8 c9 d9 df9
      obtain ⟨w4, hw4⟩ : ∃ w4, w4 = ((((((((((wr.setCell ⟨w.heap.size + 1, 0, none⟩ (.int .i64 q.src)).setCell ⟨w.heap.size + 1, 1, none⟩ (.int .i64 q.til)).setCell ⟨w.heap.size + 1, 2, none⟩ (.slice au R.length cu)).setCell ⟨w.heap.size + 1, 3, none⟩ (.int .i64 (Nr.norm q.fil).op)).setCell ⟨w.heap.size + 1, 4, none⟩ (.string (Nr.norm q.fil).name)).setCell ⟨w.heap.size + 1, 5, none⟩ (.string (Nr.norm q.fil).text)).setCell ⟨w.heap.size + 1, 6, none⟩ (.slice ak1 (Nr.norm q.fil).kids.length ck1)).setCell ⟨w.heap.size + 1, 7, none⟩ (.bool q.desc)).setCell ⟨w.heap.size + 1, 8, none⟩ (.int .i64 q.lim)).setCell ⟨w.heap.size + 1, 9, none⟩ (.string ⟨#[]⟩)) := ⟨_, rfl⟩
      have hoth4 : ∀ j, j ≠ w.heap.size + 1 → w4.heap[j]? = wr.heap[j]? := fun j h1 => by
        rw [hw4]
        refine (Below.heap_setCell _ ⟨w.heap.size + 1, 9, none⟩ _ j h1).trans ?_
        refine (Below.heap_setCell _ ⟨w.heap.size + 1, 8, none⟩ _ j h1).trans ?_
        refine (Below.heap_setCell _ ⟨w.heap.size + 1, 7, none⟩ _ j h1).trans ?_
        refine (Below.heap_setCell _ ⟨w.heap.size + 1, 6, none⟩ _ j h1).trans ?_
        refine (Below.heap_setCell _ ⟨w.heap.size + 1, 5, none⟩ _ j h1).trans ?_
        refine (Below.heap_setCell _ ⟨w.heap.size + 1, 4, none⟩ _ j h1).trans ?_
        refine (Below.heap_setCell _ ⟨w.heap.size + 1, 3, none⟩ _ j h1).trans ?_
        refine (Below.heap_setCell _ ⟨w.heap.size + 1, 2, none⟩ _ j h1).trans ?_
        refine (Below.heap_setCell _ ⟨w.heap.size + 1, 1, none⟩ _ j h1).trans ?_
        exact Below.heap_setCell _ ⟨w.heap.size + 1, 0, none⟩ _ j h1
      have hz4 : w4.heap.size = wr.heap.size := by rw [hw4]; simp [World.setCell]
      have HL4 : Hid (Lay w w4) := Lib.hid (HLAY.out.over (by rw [hw4]; exact (((((((((((Keep.refl (fun j => j = w.heap.size + 1) wr).setCell (p := ⟨w.heap.size + 1, 0, none⟩) (.inr rfl) (.int .i64 q.src)).setCell (p := ⟨w.heap.size + 1, 1, none⟩) (.inr rfl) (.int .i64 q.til)).setCell (p := ⟨w.heap.size + 1, 2, none⟩) (.inr rfl) (.slice au R.length cu)).setCell (p := ⟨w.heap.size + 1, 3, none⟩) (.inr rfl) (.int .i64 (Nr.norm q.fil).op)).setCell (p := ⟨w.heap.size + 1, 4, none⟩) (.inr rfl) (.string (Nr.norm q.fil).name)).setCell (p := ⟨w.heap.size + 1, 5, none⟩) (.inr rfl) (.string (Nr.norm q.fil).text)).setCell (p := ⟨w.heap.size + 1, 6, none⟩) (.inr rfl) (.slice ak1 (Nr.norm q.fil).kids.length ck1)).setCell (p := ⟨w.heap.size + 1, 7, none⟩) (.inr rfl) (.bool q.desc)).setCell (p := ⟨w.heap.size + 1, 8, none⟩) (.inr rfl) (.int .i64 q.lim)).setCell (p := ⟨w.heap.size + 1, 9, none⟩) (.inr rfl) (.string ⟨#[]⟩))) (fun j hj => by omega))
      have r0 := CB.set HCR.out 0 (.int .i64 q.src)
      simp only [List.setIfInBounds_toArray, List.set_cons_zero] at r0
      have r1 := CB.set r0 1 (.int .i64 q.til)
      simp only [List.setIfInBounds_toArray, List.set_cons_zero, List.set_cons_succ] at r1
      have r2 := CB.set r1 2 (.slice au R.length cu)
      simp only [List.setIfInBounds_toArray, List.set_cons_zero, List.set_cons_succ] at r2
      have r3 := CB.set r2 3 (.int .i64 (Nr.norm q.fil).op)
      simp only [List.setIfInBounds_toArray, List.set_cons_zero, List.set_cons_succ] at r3
      have r4 := CB.set r3 4 (.string (Nr.norm q.fil).name)
      simp only [List.setIfInBounds_toArray, List.set_cons_zero, List.set_cons_succ] at r4
      have r5 := CB.set r4 5 (.string (Nr.norm q.fil).text)
      simp only [List.setIfInBounds_toArray, List.set_cons_zero, List.set_cons_succ] at r5
      have r6 := CB.set r5 6 (.slice ak1 (Nr.norm q.fil).kids.length ck1)
      simp only [List.setIfInBounds_toArray, List.set_cons_zero, List.set_cons_succ] at r6
      have r7 := CB.set r6 7 (.bool q.desc)
      simp only [List.setIfInBounds_toArray, List.set_cons_zero, List.set_cons_succ] at r7
      have r8 := CB.set r7 8 (.int .i64 q.lim)
      simp only [List.setIfInBounds_toArray, List.set_cons_zero, List.set_cons_succ] at r8
      have r9 := CB.set r8 9 (.string ⟨#[]⟩)
      simp only [List.setIfInBounds_toArray, List.set_cons_zero, List.set_cons_succ] at r9
      have HR4 : Hid (CB w4 (w.heap.size + 1) 30 #[.int .i64 q.src, .int .i64 q.til, .slice au R.length cu, .int .i64 (Nr.norm q.fil).op, .string (Nr.norm q.fil).name, .string (Nr.norm q.fil).text, .slice ak1 (Nr.norm q.fil).kids.length ck1, .bool q.desc, .int .i64 q.lim, .string ⟨#[]⟩]) := Lib.hid (by rw [hw4]; exact r9)
      have HK4 : Hid (KsB (fun j => F + 1 ≤ j ∧ j < B2) w4 (.slice ak1 (Nr.norm q.fil).kids.length ck1) (Nr.norm q.fil)) := Lib.hid (KsB.keep (Nat.le_of_eq hz4.symm) (fun j hj _ => hoth4 j (by omega)) _ _ HKB.out)
      have HM4 : Hid (MsAt w4 (.slice au R.length cu) R) := Lib.hid (MsAt.of_rk (HRK.out.carry (Nat.le_of_eq hz4.symm) fun j hj _ _ => hoth4 j (by have h : B2 ≤ j := hj; omega)) (by omega))
      rw [← hw4]
      clear hw4 hoth4 hz4 r0 r1 r2 r3 r4 r5 r6 r7 r8 r9
      have e0 := CB.cell HR4.out 0
      have e1 := CB.cell HR4.out 1
      have e2 := CB.cell HR4.out 2
      have e3 := CB.cell HR4.out 3
      have e4 := CB.cell HR4.out 4
      have e5 := CB.cell HR4.out 5
      have e6 := CB.cell HR4.out 6
      have e7 := CB.cell HR4.out 7
      have e8 := CB.cell HR4.out 8
      have e9 := CB.cell HR4.out 9
      simp only [List.getElem?_toArray, List.getElem?_cons_succ, List.getElem?_cons_zero] at e0 e1 e2 e3 e4 e5 e6 e7 e8 e9
      refine bodyPost_ret (v := .agg #[.int .i64 q.src, .int .i64 q.til, .slice au R.length cu, .int .i64 (Nr.norm q.fil).op, .string (Nr.norm q.fil).name, .string (Nr.norm q.fil).text, .slice ak1 (Nr.norm q.fil).kids.length ck1, .bool q.desc, .int .i64 q.lim, .string ⟨#[]⟩]) (by simp [results, Tryz.results12, go_sem, e0, e1, e2, e3, e4, e5, e6, e7, e8, e9]) rfl ?_
      refine ⟨_, rfl, ⟨.slice au R.length cu, .slice ak1 (Nr.norm q.fil).kids.length ck1, ?_, ?_, ?_⟩, HL4.out⟩
      · rfl
      · have h := HM4.out
        show MsAt w4 _ (Nr.nub mlt q.mat)
        rw [← HNU.out]
        exact h
      · exact KsB.at _ _ HK4.out

end Go.Proofs.YtkckgjanfiiieaaGreatDoor
