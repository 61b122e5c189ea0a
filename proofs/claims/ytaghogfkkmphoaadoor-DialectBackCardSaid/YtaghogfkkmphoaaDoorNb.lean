/-
  NUMBERS AND TEXTS AS BYTES, written and read by package num (the texts of stage 4, joined).
-/
import Derived.Orders
import Derived.WalkKit
import Derived.Test.YtaghogfkkmphoaaDoorEt
import Derived.Shelf.Small.Wraps
import Derived.Test.YtaghogfkkmphoaaDoorProg
import Derived.Laws.Cover1
import Derived.Deep.QuietTactic
import Derived.BigQuiet
import Derived.Deep.RegionWith
import Derived.Outline
import Derived.Test.YtaghogfkkmphoaaDoorNa
import Derived.Lib.BitFns
import Derived.Deep.Slices
import Derived.Deep.Strs
import Derived.Lib.SmallJoins
import Derived.ProofKit
namespace Go.Proofs.YtaghogfkkmphoaaDoor.E4
open Go

/-- All slots that the operations write, filled with ys. -/
def putsFrom (ys : Nat → Value) : List Oper → Nat → Act → Act
  | [], _, a => a
  | o :: r, k, a => putsFrom ys r (k + 1) (a.put o.dst (ys k))

def upd (ys : Nat → Value) (i : Nat) (v : Value) : Nat → Value := fun j => if j = i then v else ys j
theorem upd_same (ys : Nat → Value) (i : Nat) (v : Value) : upd ys i v i = v := by unfold upd; rw [if_pos rfl]
theorem upd_other (ys : Nat → Value) {i j : Nat} (v : Value) (h : j ≠ i) : upd ys i v j = ys j := by unfold upd; rw [if_neg h]

/-- No two operations write one slot. -/
def dstsApart : List Oper → Bool
  | [] => true
  | o :: r => (match o.dst with | some d => r.all (fun p => p.dst != some d) | none => true) && dstsApart r

theorem puts_congr {ys zs : Nat → Value} : ∀ (l : List Oper) (k : Nat) (a : Act), (∀ j, k ≤ j → ys j = zs j) → putsFrom ys l k a = putsFrom zs l k a
  | [], _, _, _ => rfl
  | o :: r, k, a, h => by
    rw [putsFrom, putsFrom, h k (Nat.le_refl _)]
    exact puts_congr r (k + 1) _ (fun j hj => h j (by omega))

theorem put_put (a : Act) (d : Option Tmp) (u v : Value) : (a.put d u).put d v = a.put d v := by
  cases d with
  | none => rfl
  | some d => simp [Act.put]

theorem puts_comm {ys : Nat → Value} {d : Option Tmp} {v : Value} : ∀ (l : List Oper) (k : Nat) (a : Act), (∀ x, d = some x → ∀ p ∈ l, p.dst ≠ some x) → (putsFrom ys l k a).put d v = putsFrom ys l k (a.put d v)
  | [], _, _, _ => rfl
  | o :: r, k, a, h => by
    rw [putsFrom, putsFrom, puts_comm r (k + 1) _ (fun x hx p hp => h x hx p (by simp [hp]))]
    congr 1
    exact Act.put_comm a (ys k) v (fun x hx hd => h x hd o (by simp) hx)

theorem puts_set {ys : Nat → Value} {i : Nat} {v : Value} : ∀ (l : List Oper) (k : Nat) (a : Act) (o : Oper), dstsApart l = true → k ≤ i → l[i - k]? = some o → (putsFrom ys l k a).put o.dst v = putsFrom (upd ys i v) l k a
  | [], _, _, _, _, _, h => by simp at h
  | p :: r, k, a, o, hd, hk, h => by
    simp only [dstsApart, Bool.and_eq_true] at hd
    rcases Nat.lt_or_ge k i with hlt | hge
    · have e : i - k = (i - (k + 1)) + 1 := by omega
      rw [e, List.getElem?_cons_succ] at h
      rw [putsFrom, putsFrom, puts_set r (k + 1) _ o hd.2 (by omega) h, upd_other ys v (by omega)]
    · obtain rfl : k = i := by omega
      rw [Nat.sub_self, List.getElem?_cons_zero] at h
      obtain rfl : p = o := by simpa using h
      rw [putsFrom, putsFrom, upd_same, puts_comm, put_put]
      · exact puts_congr r (k + 1) _ (fun j hj => (upd_other ys v (by omega)).symm)
      · intro x hx q hq
        have h1 := hd.1
        rw [hx] at h1
        have := List.all_eq_true.1 h1 q hq
        simpa using this

theorem put_own (a : Act) (d : Tmp) : a.put (some d) (a.tmps.getD d undef) = a := by
  obtain ⟨t, ds⟩ := a
  simp only [Act.put, Act.mk.injEq, and_true]
  apply Array.ext
  · simp
  · intro i h1 h2
    rw [Array.getElem_setIfInBounds]
    split
    · rename_i h; subst h; simp [Array.getD, h2]
    · rfl

/-- What the slots hold, as ys. -/
def nowOf (ops : Array Oper) (a : Act) : Nat → Value := fun j => match (ops[j]?).bind (·.dst) with | some d => a.tmps.getD d undef | none => undef

theorem puts_now (a : Act) {ys : Nat → Value} : ∀ (l : List Oper) (k : Nat), (∀ i o d, l[i]? = some o → o.dst = some d → ys (k + i) = a.tmps.getD d undef) → putsFrom ys l k a = a
  | [], _, _ => rfl
  | o :: r, k, h => by
    have e : a.put o.dst (ys k) = a := by
      cases hd : o.dst with
      | none => rfl
      | some d =>
        have := h 0 o d rfl hd
        rw [Nat.add_zero] at this
        rw [this]
        exact put_own a d
    rw [putsFrom, e]
    exact puts_now a r (k + 1) (fun i o d hi hd => by
      have := h (i + 1) o d (by simpa using hi) hd
      rw [← this]; congr 1; omega)

/-- How many of the first n are still to come. -/
def unl : Nat → Array Bool → Nat
  | 0, _ => 0
  | n + 1, l => unl n l + (if l.getD n true = true then 0 else 1)

theorem unl_zero {l : Array Bool} : ∀ (n : Nat), unl n l = 0 → ∀ j, j < n → l.getD j true = true
  | 0, _, j, h => by omega
  | n + 1, h, j, hj => by
    simp only [unl] at h
    by_cases e : j = n
    · subst e
      by_cases hb : l.getD j true = true
      · exact hb
      · rw [if_neg hb] at h; omega
    · exact unl_zero n (by omega) j (by omega)

theorem unl_le {l : Array Bool} {i : Nat} : ∀ (n : Nat), unl n (l.setIfInBounds i true) ≤ unl n l
  | 0 => Nat.le_refl _
  | n + 1 => by
    have := unl_le (l := l) (i := i) n
    simp only [unl]
    by_cases hb : l.getD n true = true
    · have hb' : (l.setIfInBounds i true).getD n true = true := by
        by_cases e : i = n
        · subst e
          simp [Array.getD]
        · rw [getD_set_ne true e]; exact hb
      rw [if_pos hb, if_pos hb']
      omega
    · rw [if_neg hb]
      split <;> omega

theorem unl_lt {l : Array Bool} {i : Nat} (hi : i < l.size) (hf : l.getD i true = false) : ∀ (n : Nat), i < n → unl n (l.setIfInBounds i true) < unl n l
  | 0, h => by omega
  | n + 1, h => by
    simp only [unl]
    by_cases e : i = n
    · subst e
      have h1 : (l.setIfInBounds i true).getD i true = true := by simp [Array.getD]
      have := unl_le (l := l) (i := i) i
      rw [if_pos h1, hf]
      simp
      omega
    · have := unl_lt hi hf n (by omega)
      rw [getD_set_ne true e]
      omega

/-- Each operation waits for earlier ones alone. -/
def backEdges (ops : Array Oper) : Bool := (List.range ops.size).all fun i => match ops[i]? with | some o => o.after.all fun e => decide (e.on < i) | none => true

section
variable {P : Program} {ops : Array Oper} {Q : Exit → Act → World → Prop}

theorem least_unlisted (listed : Array Bool) : ∀ n, (∀ j, j < n → listed.getD j true = true) ∨ ∃ i, i < n ∧ listed.getD i true = false ∧ ∀ j, j < i → listed.getD j true = true
  | 0 => .inl (fun j h => by omega)
  | n + 1 => by
    rcases least_unlisted listed n with h | ⟨i, hi, hf, hj⟩
    · by_cases hb : listed.getD n true = true
      · refine .inl fun j hj => ?_
        by_cases e : j = n
        · subst e; exact hb
        · exact h j (by omega)
      · exact .inr ⟨n, by omega, by simpa using hb, h⟩
    · exact .inr ⟨i, by omega, hf, hj⟩

theorem getD_true_false {listed : Array Bool} {j : Nat} (hj : j < listed.size) (h : listed.getD j true = true) : listed.getD j false = true := by
  simp [Array.getD, hj] at h ⊢
  exact h

theorem ready_none {listed : Array Bool} (hsz : listed.size = ops.size) (hb : backEdges ops = true) (h : Region.ready .any ops listed = []) : ∀ j, j < ops.size → listed.getD j true = true := by
  rcases least_unlisted listed ops.size with h1 | ⟨i, hi, hf, hj⟩
  · exact h1
  · exfalso
    have hm : i ∈ Region.ready .any ops listed := by
      rw [mem_ready]
      refine ⟨hf, ops[i], Array.getElem?_eq_getElem hi, fun e he _ => ?_⟩
      have h1 := List.all_eq_true.1 hb i (List.mem_range.2 hi)
      rw [Array.getElem?_eq_getElem hi] at h1
      have h2 : e.on < i := by
        have := Array.all_eq_true_iff_forall_mem.1 h1 e he
        simpa using this
      exact getD_true_false (by omega) (hj _ h2)
    rw [h] at hm
    cases hm

/-- An edge by which a value is handed on. -/
def asked (e : Edge) : Bool := match e.ground with | .data => true | .guard => true | _ => false
theorem asked_binds {e : Edge} (h : asked e = true) : Region.binds .any e = true := by
  unfold asked at h
  unfold Region.binds
  split at h <;> simp_all

/-- Does j wait for i, be it by others? -/
def anc (ops : Array Oper) : Nat → Nat → Nat → Bool
  | 0, _, _ => false
  | f + 1, i, j => match ops[j]? with
    | some o => o.after.toList.any fun e => Region.binds .any e && (e.on == i || anc ops f i e.on)
    | none => false

/-- Behind i, is what j left still asked for: in the end (F), or by an operation that i doesn't wait for? -/
def needed (ops : Array Oper) (F : Nat → Bool) (i j : Nat) : Bool :=
  F j || (List.range ops.size).any fun c => c != i && !anc ops ops.size c i && ((ops[c]?).map fun o => o.after.toList.any fun e => asked e && e.on == j).getD false

/-- Whatever is listed, what it waits for is, too. -/
def ShutDown (ops : Array Oper) (listed : Array Bool) : Prop := ∀ j o, ops[j]? = some o → listed.getD j false = true → ∀ e ∈ o.after, Region.binds .any e = true → listed.getD e.on false = true

theorem anc_listed {listed : Array Bool} (hc : ShutDown ops listed) : ∀ (f i j : Nat), listed.getD j false = true → anc ops f i j = true → listed.getD i false = true
  | 0, _, _, _, h => by cases h
  | f + 1, i, j, hj, h => by
    unfold anc at h
    cases ho : ops[j]? with
    | none => rw [ho] at h; cases h
    | some o =>
      rw [ho] at h
      obtain ⟨e, he, h⟩ := List.any_eq_true.1 h
      rw [Array.mem_toList_iff] at he
      simp only [Bool.and_eq_true, Bool.or_eq_true, beq_iff_eq] at h
      have hl := hc j o ho hj e he h.1
      rcases h.2 with h2 | h2
      · rw [← h2]; exact hl
      · exact anc_listed hc f i e.on hl h2

theorem anc_ready {listed : Array Bool} (hc : ShutDown ops listed) {i : Nat} {o : Oper} (ho : ops[i]? = some o) (hall : ∀ e ∈ o.after, Region.binds .any e = true → listed.getD e.on false = true) {f c : Nat} (h : anc ops f c i = true) : listed.getD c false = true := by
  cases f with
  | zero => cases h
  | succ f =>
    unfold anc at h
    rw [ho] at h
    obtain ⟨e, he, h⟩ := List.any_eq_true.1 h
    rw [Array.mem_toList_iff] at he
    simp only [Bool.and_eq_true, Bool.or_eq_true, beq_iff_eq] at h
    have hl := hall e he h.1
    rcases h.2 with h2 | h2
    · rw [← h2]; exact hl
    · exact anc_listed hc f c e.on hl h2

/-- What slot d holds. -/
def slotFrom (ys : Nat → Value) (d : Nat) : List Oper → Nat → Value → Value
  | [], _, v => v
  | o :: r, k, v => slotFrom ys d r (k + 1) (if o.dst == some d then ys k else v)

theorem getD_puts {ys : Nat → Value} {d : Nat} : ∀ (l : List Oper) (k : Nat) (a : Act), d < a.tmps.size → (putsFrom ys l k a).tmps.getD d undef = slotFrom ys d l k (a.tmps.getD d undef)
  | [], _, _, _ => rfl
  | o :: r, k, a, h => by
    rw [putsFrom, slotFrom]
    cases hd : o.dst with
    | none => exact getD_puts r (k + 1) _ h
    | some x =>
      have hsz : d < (a.put (some x) (ys k)).tmps.size := by simpa [Act.put] using h
      rw [getD_puts r (k + 1) _ hsz]
      congr 1
      by_cases e : x = d
      · subst e
        simp [Act.put, Array.getD, h]
      · have e2 : (some x == some d) = false := by simpa using e
        rw [e2]
        simp [Act.put, Array.getD, h, e]

/-- What must be shown of operation i. -/
def StepOK (P : Program) (ops : Array Oper) (Q : Exit → Act → World → Prop) (a0 : Act) (I : World → Prop) (R : Nat → World → World → Prop) (V : Nat → Value → World → Prop) (i : Nat) (o : Oper) : Prop :=
  ∀ (ys : Nat → Value) (A : Act) (w : World), (∀ d, d < a0.tmps.size → A.tmps.getD d undef = slotFrom ys d ops.toList 0 (a0.tmps.getD d undef)) → I w → (∀ e ∈ o.after, asked e = true → V e.on (ys e.on) w) →
    ∀ K : Act → World → Prop, (∀ v w', I w' → R i w w' → V i v w' → K (A.put o.dst v) w') →
      if Region.wanted o (yielded ops A.tmps) = true then o.wp P A w K Q else K (A.put o.dst undef) w

/-- An operation that is wanted. -/
theorem step_run {o : Oper} {A : Act} {w : World} {K : Act → World → Prop} (h : o.guard = none ∨ ∃ j d b, o.guard = some (j, b) ∧ (ops[j]?).bind (·.dst) = some d ∧ A.tmps.getD d undef = .bool b) (hw : o.wp P A w K Q) :
    if Region.wanted o (yielded ops A.tmps) = true then o.wp P A w K Q else K (A.put o.dst undef) w := by
  have hwt : Region.wanted o (yielded ops A.tmps) = true := by
    rcases h with h | ⟨j, d, b, h, hd, hv⟩
    · unfold Region.wanted; rw [h]
    · unfold Region.wanted
      rw [h]
      unfold yielded
      simp only [hd, Option.bind_some]
      have e : A.tmps[d]? = some (.bool b) := by
        cases hx : A.tmps[d]? with
        | none => rw [Array.getD_eq_getD_getElem?, hx] at hv; cases hv
        | some y => rw [Array.getD_eq_getD_getElem?, hx] at hv; simpa using hv
      rw [e]
      simp
  rw [if_pos hwt]
  exact hw

/-- An operation that is not wanted. -/
theorem step_skip {o : Oper} {A : Act} {w : World} {K : Act → World → Prop} (h : ∃ j d b, o.guard = some (j, !b) ∧ (ops[j]?).bind (·.dst) = some d ∧ A.tmps.getD d undef = .bool b) (hk : K (A.put o.dst undef) w) :
    if Region.wanted o (yielded ops A.tmps) = true then o.wp P A w K Q else K (A.put o.dst undef) w := by
  have hwt : ¬ Region.wanted o (yielded ops A.tmps) = true := by
    obtain ⟨j, d, b, h, hd, hv⟩ := h
    unfold Region.wanted
    rw [h]
    unfold yielded
    simp only [hd, Option.bind_some]
    have e : A.tmps[d]? = some (.bool b) := by
      cases hx : A.tmps[d]? with
      | none => rw [Array.getD_eq_getD_getElem?, hx] at hv; cases hv
      | some y => rw [Array.getD_eq_getD_getElem?, hx] at hv; simpa using hv
    rw [e]
    cases b <;> simp
  rw [if_neg hwt]
  exact hk

/-- Still asked for, in the state 'listed'. -/
def Wants (ops : Array Oper) (F : Nat → Bool) (listed : Array Bool) (j : Nat) : Prop :=
  F j = true ∨ ∃ c o, ops[c]? = some o ∧ listed.getD c false = false ∧ ∃ e ∈ o.after, asked e = true ∧ e.on = j

theorem flow_any {a0 : Act} {I : World → Prop} {R : Nat → World → World → Prop} {V : Nat → Value → World → Prop} {F : Nat → Bool} (hb : backEdges ops = true) (hd : dstsApart ops.toList = true)
    (hst : ∀ i j v w w', i ≠ j → anc ops ops.size i j = false → needed ops F i j = true → V j v w → I w → R i w w' → V j v w')
    (step : ∀ i o, ops[i]? = some o → StepOK P ops Q a0 I R V i o)
    (fin : ∀ ys w, I w → (∀ j, j < ops.size → F j = true → V j (ys j) w) → Q .normal (putsFrom ys ops.toList 0 a0) w) :
    ∀ (fuel : Nat) (listed : Array Bool) (ys : Nat → Value) (w : World), listed.size = ops.size → unl ops.size listed ≤ fuel → ShutDown ops listed → I w → (∀ j, listed.getD j false = true → Wants ops F listed j → V j (ys j) w) →
      wpAny P .any ops Q fuel listed (putsFrom ys ops.toList 0 a0) w := by
  have done : ∀ (listed : Array Bool) (ys : Nat → Value) (w : World), listed.size = ops.size → I w → (∀ j, listed.getD j false = true → Wants ops F listed j → V j (ys j) w) → (∀ j, j < ops.size → listed.getD j true = true) → Q .normal (putsFrom ys ops.toList 0 a0) w :=
    fun listed ys w hsz hI hV hall => fin ys w hI (fun j hj hF => hV j (getD_true_false (by omega) (hall j hj)) (.inl hF))
  intro fuel
  induction fuel with
  | zero =>
    intro listed ys w hsz hu _ hI hV
    have hall := unl_zero ops.size (by omega : unl ops.size listed = 0)
    refine ⟨?_, done listed ys w hsz hI hV hall⟩
    cases hr : Region.ready .any ops listed with
    | nil => rfl
    | cons i r =>
      have hm : i ∈ Region.ready .any ops listed := by rw [hr]; simp
      obtain ⟨h0, o, ho, _⟩ := mem_ready.1 hm
      have := hall i (Array.getElem?_eq_some_iff.1 ho).1
      rw [h0] at this
      cases this
  | succ fuel ih =>
    intro listed ys w hsz hu hsd hI hV
    refine ⟨fun hr => done listed ys w hsz hI hV (ready_none hsz hb hr), fun i hi => ?_⟩
    obtain ⟨h0, o, ho, hall⟩ := mem_ready.1 hi
    have hlt : i < ops.size := (Array.getElem?_eq_some_iff.1 ho).1
    have h0f : listed.getD i false = false := by
      simp [Array.getD, hsz, hlt] at h0 ⊢
      exact h0
    have hdeps : ∀ e ∈ o.after, asked e = true → V e.on (ys e.on) w := fun e he hbe => hV _ (hall e he (asked_binds hbe)) (.inr ⟨i, o, ho, h0f, e, he, hbe, rfl⟩)
    have hsd' : ShutDown ops (listed.setIfInBounds i true) := by
      intro j oj hoj hj e he hbe
      by_cases hij : i = j
      · subst hij
        rw [ho] at hoj
        obtain rfl : o = oj := by simpa using hoj
        exact getD_set_true (hall e he hbe)
      · rw [getD_set_ne false hij] at hj
        exact getD_set_true (hsd j oj hoj hj e he hbe)
    have next : ∀ v w', I w' → R i w w' → V i v w' → wpAny P .any ops Q fuel (listed.setIfInBounds i true) ((putsFrom ys ops.toList 0 a0).put o.dst v) w' := by
      intro v w' hI' hR hv
      rw [puts_set (i := i) ops.toList 0 a0 o hd (Nat.zero_le _) (by rw [Nat.sub_zero, Array.getElem?_toList]; exact ho)]
      refine ih _ _ w' (by simpa using hsz) (by have := unl_lt (l := listed) (i := i) (by omega) h0 ops.size hlt; omega) hsd' hI' (fun j hj hw => ?_)
      by_cases e : j = i
      · subst e; rw [upd_same]; exact hv
      · rw [upd_other ys v e]
        rw [getD_set_ne false (Ne.symm e)] at hj
        -- an unlisted consumer behind i is one ahead of it, and i doesn't wait for it
        have hneed : needed ops F i j = true ∧ Wants ops F listed j := by
          rcases hw with hF | ⟨c, oc, hoc, hcf, e1, he1, hbe1, hon⟩
          · exact ⟨by unfold needed; rw [hF]; rfl, .inl hF⟩
          · have hclt : c < ops.size := (Array.getElem?_eq_some_iff.1 hoc).1
            have hci : c ≠ i := by
              intro h
              subst h
              simp [Array.getD, hsz, hclt] at hcf
            rw [getD_set_ne false (Ne.symm hci)] at hcf
            refine ⟨?_, .inr ⟨c, oc, hoc, hcf, e1, he1, hbe1, hon⟩⟩
            have hna : anc ops ops.size c i = false := by
              cases ha : anc ops ops.size c i with
              | false => rfl
              | true =>
                have := anc_ready hsd ho hall ha
                rw [hcf] at this
                cases this
            unfold needed
            rw [Bool.or_eq_true]
            refine .inr (List.any_eq_true.2 ⟨c, List.mem_range.2 hclt, ?_⟩)
            rw [hoc, hna]
            simp only [Option.map_some, Option.getD_some, Bool.not_false, Bool.and_true, Bool.and_eq_true, bne_iff_ne, ne_eq]
            exact ⟨hci, List.any_eq_true.2 ⟨e1, Array.mem_toList_iff.2 he1, by rw [hbe1]; simpa using hon⟩⟩
        have hanc : anc ops ops.size i j = false := by
          cases ha : anc ops ops.size i j with
          | false => rfl
          | true =>
            have := anc_listed hsd _ _ _ hj ha
            rw [h0f] at this
            cases this
        exact hst i j _ w w' (Ne.symm e) hanc hneed.1 (hV j hj hneed.2) hI hR
    have hs := step i o ho ys (putsFrom ys ops.toList 0 a0) w (fun d hd => getD_puts ops.toList 0 a0 hd) hI hdeps _ next
    unfold wpOp
    rw [ho]
    simp only []
    split
    · rename_i hw
      rw [if_pos hw] at hs
      exact .inl hs
    · rename_i hw
      rw [if_neg hw] at hs
      exact hs

/-- The steps, listed. -/
def StepsFrom (P : Program) (ops : Array Oper) (Q : Exit → Act → World → Prop) (a0 : Act) (I : World → Prop) (R : Nat → World → World → Prop) (V : Nat → Value → World → Prop) : List Oper → Nat → Prop
  | [], _ => True
  | o :: r, k => StepOK P ops Q a0 I R V k o ∧ StepsFrom P ops Q a0 I R V r (k + 1)

theorem steps_of {a0 : Act} {I : World → Prop} {R : Nat → World → World → Prop} {V : Nat → Value → World → Prop} : ∀ (l : List Oper) (k : Nat), StepsFrom P ops Q a0 I R V l k → ∀ i o, l[i]? = some o → StepOK P ops Q a0 I R V (k + i) o
  | [], _, _, _, _, h => by simp at h
  | p :: r, k, hs, i, o, h => by
    cases i with
    | zero =>
      obtain rfl : p = o := by simpa using h
      exact hs.1
    | succ i =>
      have := steps_of r (k + 1) hs.2 i o (by simpa using h)
      rw [show k + (i + 1) = k + 1 + i by omega]
      exact this

/-- THE THEOREM. I: what holds of the world all the time; R i: what operation i does to it; V i: what it leaves in its slot; F: whose are asked for in the end. -/
theorem wp_region_flow {id : Nat} {a0 : Act} {w0 : World} (hm : P.follows .mixedOrders = true) (I : World → Prop) (R : Nat → World → World → Prop) (V : Nat → Value → World → Prop) (F : Nat → Bool) (hb : backEdges ops = true) (hd : dstsApart ops.toList = true)
    (hst : ∀ i j v w w', i ≠ j → anc ops ops.size i j = false → needed ops F i j = true → V j v w → I w → R i w w' → V j v w') (hI : I w0.drew)
    (step : StepsFrom P ops Q a0 I R V ops.toList 0)
    (fin : ∀ ys w, I w → (∀ j, j < ops.size → F j = true → V j (ys j) w) → Q .normal (putsFrom ys ops.toList 0 a0) w) : (Code.region id ops true).wp P Q a0 w0 := by
  refine wp_region_any hm ?_
  have h0 : putsFrom (nowOf ops a0) ops.toList 0 a0 = a0 := puts_now a0 ops.toList 0 (fun i o d hi hdo => by
    rw [Array.getElem?_toList] at hi
    simp only [nowOf, Nat.zero_add, hi, Option.bind_some, hdo])
  have hno : ∀ j, (Array.replicate ops.size false).getD j false = false := fun j => by
    by_cases e : j < ops.size <;> simp [Array.getD, e]
  have h := flow_any (P := P) (Q := Q) (F := F) hb hd hst (fun i o ho => by
    have := steps_of ops.toList 0 step i o (by rw [Array.getElem?_toList]; exact ho)
    rwa [Nat.zero_add] at this) fin ops.size (Array.replicate ops.size false) (nowOf ops a0) w0.drew (by simp) ?_ (fun j o _ hj => by rw [hno] at hj; cases hj) hI (fun j hj => by rw [hno] at hj; cases hj)
  · rw [h0] at h
    exact h
  · have : ∀ (n : Nat) (l : Array Bool), unl n l ≤ n := fun n l => by
      induction n with
      | zero => exact Nat.le_refl _
      | succ n ih => simp only [unl]; split <;> omega
    exact this _ _

end
end Go.Proofs.YtaghogfkkmphoaaDoor.E4

namespace Go.Proofs.YtaghogfkkmphoaaDoor.E4
open Go.RowKit Go

/-- An entry's cells. -/
def rawC (x : Value × Ent) : List Value := [.int .i64 x.2.tm, x.1, .string x.2.line]
def flatR : List (Value × Ent) → List Value
  | [] => []
  | x :: r => rawC x ++ flatR r

theorem flatR_length : ∀ R : List (Value × Ent), (flatR R).length = R.length * 3
  | [] => rfl
  | x :: r => by simp only [flatR, List.length_append, flatR_length r, rawC, List.length_cons, List.length_nil]; omega

theorem flatR_get : ∀ (R : List (Value × Ent)) (i : Nat) (h : i < R.length) (c : Nat), c < 3 → (flatR R)[i * 3 + c]? = (rawC R[i])[c]?
  | [], i, h, _, _ => by simp at h
  | x :: r, 0, _, c, hc => by
    simp only [flatR, Nat.zero_mul, Nat.zero_add, List.getElem_cons_zero]
    rw [List.getElem?_append_left (by simp [rawC]; omega)]
  | x :: r, i + 1, h, c, hc => by
    simp only [flatR, List.getElem_cons_succ]
    rw [List.getElem?_append_right (by simp [rawC]; omega), ← flatR_get r i (by simpa using h) c hc]
    congr 1
    simp [rawC]
    omega

/-- Each one's labels lie so. -/
def RawL (L : Nat → Prop) (w : World) (R : List (Value × Ent)) : Prop := ∀ x ∈ R, LabsAt L w x.1 x.2.labs

theorem RawL.mono {L M : Nat → Prop} {w : World} {R : List (Value × Ent)} (h : RawL L w R) (hM : ∀ b, L b → b < w.heap.size → M b) : RawL M w R := fun x hx => (h x hx).mono hM

theorem list_of {α : Type} (d : α) (p : Nat → α → Prop) : ∀ (n : Nat), (∀ i, i < n → ∃ x, p i x) → ∃ l : List α, l.length = n ∧ ∀ i, i < n → p i (l.getD i d)
  | 0, _ => ⟨[], rfl, fun i h => by omega⟩
  | n + 1, h => by
    obtain ⟨l, hl, hp⟩ := list_of d p n (fun i hi => h i (by omega))
    obtain ⟨x, hx⟩ := h n (by omega)
    refine ⟨l ++ [x], by simp [hl], fun i hi => ?_⟩
    rcases Nat.lt_or_ge i n with hlt | hge
    · have := hp i hlt
      simp only [List.getD, List.getElem?_append_left (hl ▸ hlt)] at this ⊢
      exact this
    · obtain rfl : i = n := by omega
      simp only [List.getD, List.getElem?_append_right (Nat.le_of_eq hl), hl, Nat.sub_self, List.getElem?_cons_zero, Option.getD_some]
      exact hx

/-- The cells of entries, from a place on. -/
def RawAt (w : World) (b off : Nat) (R : List (Value × Ent)) : Prop :=
  ∀ i (h : i < R.length), w.cell? ⟨b, off + i * 3, none⟩ = some (.int .i64 R[i].2.tm) ∧ w.cell? ⟨b, off + i * 3 + 1, none⟩ = some R[i].1 ∧ w.cell? ⟨b, off + i * 3 + 2, none⟩ = some (.string R[i].2.line)

theorem RawAt.cells {w : World} {b off : Nat} {R : List (Value × Ent)} (h : RawAt w b off R) (j : Nat) (u : Value) (hu : (flatR R)[j]? = some u) : w.cell? ⟨b, off + j, none⟩ = some u := by
  have hj : j < (flatR R).length := (List.getElem?_eq_some_iff.1 hu).1
  rw [flatR_length] at hj
  have hi : j / 3 < R.length := by omega
  have hjd : j = j / 3 * 3 + j % 3 := by omega
  have hg := flatR_get R (j / 3) hi (j % 3) (by omega)
  rw [← hjd, hu] at hg
  obtain ⟨h0, h1, h2⟩ := h (j / 3) hi
  have hm : j % 3 = 0 ∨ j % 3 = 1 ∨ j % 3 = 2 := by omega
  rcases hm with hm | hm | hm
  · rw [hm] at hg hjd
    rw [show off + j = off + j / 3 * 3 by omega, h0]
    simpa [rawC] using hg.symm
  · rw [hm] at hg hjd
    rw [show off + j = off + j / 3 * 3 + 1 by omega, h1]
    simpa [rawC] using hg.symm
  · rw [hm] at hg hjd
    rw [show off + j = off + j / 3 * 3 + 2 by omega, h2]
    simpa [rawC] using hg.symm

end Go.Proofs.YtaghogfkkmphoaaDoor.E4

namespace Go.Proofs.YtaghogfkkmphoaaDoor.E4
open Go.RowKit Go

theorem elem5 : ∃ i, Elem Tryd.prog 37 5 i (.int .u8 0) 1 1 := by
  obtain ⟨i, hi, hz, hs, hb⟩ := info_parts info5
  exact ⟨i, Tryd.underlying37, hi, hz, hs, hb, by kernel_rfl⟩

theorem cellsOf_append (l m : List UInt8) : cellsOf (l ++ m) = cellsOf l ++ cellsOf m := by simp [cellsOf]

/-- A slice of bytes. -/
abbrev By (G : Nat → Prop) (w : World) (v : Value) (l : List UInt8) : Prop := Rk 1 G w v l.length (cellsOf l)

theorem By.bs {G : Nat → Prop} {w : World} {v : Value} {l : List UInt8} (h : By G w v l) : Bs 0 w v l := by
  obtain ⟨_, ⟨h1, h2⟩ | ⟨g, cap, h1, _, h2, h3, h4, h5, h6⟩⟩ := h
  · exact .inl ⟨h1, List.eq_nil_of_length_eq_zero h2⟩
  · exact .inr ⟨g, cap, h1, Nat.zero_le _, h2, h3, h4, fun j hj => h5 j (by rw [cellsOf_length]; exact hj), fun j hj => h6 j (by omega)⟩

theorem Bs.by {B : Nat} {w : World} {v : Value} {l : List UInt8} (h : Bs B w v l) : By (fun b => B ≤ b) w v l := by
  refine ⟨by rw [cellsOf_length]; omega, ?_⟩
  rcases h with ⟨h1, h2⟩ | ⟨g, cap, h1, h2, h3, h4, h5, h6, h7⟩
  · exact .inl ⟨h1, by rw [h2]; rfl⟩
  · exact .inr ⟨g, cap, h1, h2, h3, h4, h5, fun j hj => h6 j (by rw [cellsOf_length] at hj; exact hj), fun j hj => h7 j (by omega)⟩

theorem By.of {G : Nat → Prop} {w : World} {v : Value} {n : Nat} {m : List UInt8} (h : Rk 1 G w v n (cellsOf m)) : By G w v m := by
  have hn := h.1
  rw [cellsOf_length] at hn
  obtain rfl : n = m.length := by omega
  exact h

/-- What a call that puts leaves: the bytes, in the old block or a new one; of the old blocks only the slice's own has turned. -/
def PutPost (sv : Value) (l : List UInt8) (w : World) (e : Ending) (w' : World) : Prop :=
  ∃ v', e = .returned v' ∧ By (fun b => At sv b ∨ w.heap.size ≤ b) w' v' l ∧ Keep (At sv) w w'

theorem Keep.step {sv vb : Value} {w wr w1 : World} (h : Keep (At sv) w wr) (k : Keep (At vb) wr w1) (ha : ∀ b, At vb b → At sv b ∨ w.heap.size ≤ b) : Keep (At sv) w w1 :=
  ⟨k.os.trans h.os, k.tape.trans h.tape, k.output.trans h.output, Nat.le_trans h.size k.size, Nat.le_trans h.drawn k.drawn, fun b hb hn =>
    (k.block b (Nat.lt_of_lt_of_le hb h.size) (fun hv => (ha b hv).elim hn (fun hle => by omega))).trans (h.block b hb hn)⟩

theorem PutPost.then {sv v1 : Value} {l l2 : List UInt8} {w w1 w2 : World} {e : Ending} (h1 : By (fun b => At sv b ∨ w.heap.size ≤ b) w1 v1 l) (k1 : Keep (At sv) w w1) {wx : World} (kx : Keep (At v1) w1 wx) (h2 : PutPost v1 l2 wx e w2) : PutPost sv l2 w e w2 := by
  obtain ⟨v', he, hb, hk⟩ := h2
  have hat : ∀ b, At v1 b → At sv b ∨ w.heap.size ≤ b := fun b hb => (h1.at hb).1
  refine ⟨v', he, hb.mono fun b hb _ => ?_, k1.step (kx.trans hk) hat⟩
  rcases hb with hb | hb
  · exact hat b hb
  · exact .inr (Nat.le_trans (Nat.le_trans k1.size kx.size) hb)

set_option maxHeartbeats 2000000 in
set_option maxRecDepth 100000 in
/-- num.Uint. -/
theorem uint_put {G : Nat → Prop} (x : Nat) (hx : x < 18446744073709551616) (sv : Value) (l : List UInt8) (w : World) (hown : By G w sv l) (hlim : l.length ≤ 70368744177664) :
    Calls Tryd.prog 37 #[sv, .int .u64 x] w (PutPost sv (l ++ Lib.uvarint x) w) := by
  obtain ⟨i5, E5⟩ := elem5
  have hlen := Lib.uvarint_length64 hx
  have hown0 : By (fun b => At sv b ∨ w.heap.size ≤ b) w sv l := hown.mono fun b _ ha => .inl ha
  clear hown
  go_enter Tryd.func37, Tryd.ntmps37
  go_wp2
  go_loopw [0, 1] (fun vb vx wr => ∃ (y : Nat) (pre : List UInt8), vx = .int .u64 y ∧ y ≤ x ∧ Lib.uvarint x = pre ++ Lib.uvarint y ∧ By (fun b => At sv b ∨ w.heap.size ≤ b) wr vb (l ++ pre) ∧ Keep (At sv) w wr)
    (fun _ vx _ => (intOf vx).toNat)
  case atStart => exact ⟨x, [], rfl, Nat.le_refl _, rfl, by simpa using hown0, Keep.refl _ _⟩
  case round =>
    obtain ⟨y, pre, rfl, hy, hsplit, hown1, hnx⟩ := hrel
    have hpl : pre.length + (Lib.uvarint y).length ≤ 10 := by
      have h2 := congrArg List.length hsplit
      rw [List.length_append] at h2
      omega
    have hyp := Lib.uvarint_pos y
    have hsz := hnx.size
    have HAT := Lib.hid (fun b hb => (hown1.at (b := b) hb).1)
    have HO := Lib.hid hown1
    have HK := Lib.hid hnx
    clear hown1 hnx hown0
    by_cases h128 : 128 ≤ y
    · have hor : bits .or .u8 ((y : Int) % 256) 128 = (y : Int) % 128 + 128 := by
        rw [Lib.u8_or128_any _ (by omega) (by omega)]
        omega
      have hc : ((y : Int) % 128 + 128) = (((y % 128 + 128).toUInt8.toNat : Nat) : Int) := by
        rw [Lib.toUInt8_toNat (by omega)]
        omega
      have HC := Lib.hid hc
      clear hc
      go_wp2_with (at_builtin; refine wpList_append_rk E5 _ rfl _ _ 37 rfl (G := fun b => At sv b ∨ w.heap.size ≤ b) rfl (HO.out.alloc _) ?c1 (.slice (some ⟨wr.heap.size, 0, none⟩) 1 1) 1 (cellsOf [(y % 128 + 128).toUInt8]) rfl (src_one wr _ _ ?c2) ?c3 ?c4 ?_)
      case c1 => intro b hb; simp at hb; right; omega
      case c2 => exact HC.out
      case c3 => simp; omega
      case c4 => simp; omega
      intro v' w1 hown' hbel
      have hk1 := HK.out.step (((Keep.refl _ wr).alloc _).trans hbel) HAT.out
      have HK1 := Lib.hid hk1
      have ho' : By (fun b => At sv b ∨ w.heap.size ≤ b) w1 v' (l ++ (pre ++ [(y % 128 + 128).toUInt8])) := by
        have := hown'.mono (G' := fun b => At sv b ∨ w.heap.size ≤ b) fun b hb _ => hb.1
        rw [← cellsOf_append, List.append_assoc] at this
        have h2 : Rk 1 (fun b => At sv b ∨ w.heap.size ≤ b) w1 v' (l.length + pre.length + 1) (cellsOf (l ++ (pre ++ [(y % 128 + 128).toUInt8]))) := by simpa using this
        exact By.of h2
      have HO' := Lib.hid ho'
      clear hown' hbel hk1 ho'
      go_wp2
      go_roundw
      case rel => exact ⟨y / 128, pre ++ [(y % 128 + 128).toUInt8], by go_num, by omega, by rw [hsplit, Lib.uvarint_big h128]; simp, HO'.out, HK1.out⟩
      case measure => simp [intOf]; omega
    · have hsm : Lib.uvarint y = [y.toUInt8] := Lib.uvarint_small (by omega)
      have hc : (y : Int) = ((y.toUInt8.toNat : Nat) : Int) := by
        rw [Lib.toUInt8_toNat (by omega)]
      have HC := Lib.hid hc
      clear hc
      have HS := Lib.hid hsm
      clear hsm
      go_wp2_with (at_builtin; refine wpList_append_rk E5 _ rfl _ _ 37 rfl (G := fun b => At sv b ∨ w.heap.size ≤ b) rfl (HO.out.alloc _) ?c1 (.slice (some ⟨wr.heap.size, 0, none⟩) 1 1) 1 (cellsOf [y.toUInt8]) rfl (src_one wr _ _ ?c2) ?c3 ?c4 ?_)
      case c1 => intro b hb; simp at hb; right; omega
      case c2 => exact HC.out
      case c3 => simp; omega
      case c4 => simp; omega
      intro v' w1 hown' hbel
      have HK1 := Lib.hid (HK.out.step (((Keep.refl _ wr).alloc _).trans hbel) HAT.out)
      have ho' : By (fun b => At sv b ∨ w.heap.size ≤ b) w1 v' (l ++ (pre ++ [y.toUInt8])) := by
        have := hown'.mono (G' := fun b => At sv b ∨ w.heap.size ≤ b) fun b hb _ => hb.1
        rw [← cellsOf_append, List.append_assoc] at this
        have h2 : Rk 1 (fun b => At sv b ∨ w.heap.size ≤ b) w1 v' (l.length + pre.length + 1) (cellsOf (l ++ (pre ++ [y.toUInt8]))) := by simpa using this
        exact By.of h2
      have HO' := Lib.hid ho'
      clear hown' hbel ho'
      go_wp2
      go_ret
      refine ⟨v', rfl, ?_, HK1.out⟩
      rw [hsplit, HS.out]
      exact HO'.out

set_option maxHeartbeats 1000000 in
/-- num.Int. -/
theorem int_put {G : Nat → Prop} (x : Int) (h0 : -9223372036854775808 ≤ x) (h1 : x ≤ 9223372036854775807) (sv : Value) (l : List UInt8) (w : World) (hown : By G w sv l) (hlim : l.length ≤ 70368744177664) :
    Calls Tryd.prog 38 #[sv, .int .i64 x] w (PutPost sv (l ++ Lib.uvarint (Lib.zigzag x)) w) := by
  have hU := uint_put (Lib.zigzag x) (Lib.zigzag_lt h0 h1) sv l w hown hlim
  by_cases hneg : x < 0
  · rw [← Lib.zigzag_neg h0 hneg] at hU
    have HU := Lib.hid hU
    clear hU hown
    go_enter Tryd.func38, Tryd.ntmps38
    go_wp2_with (go_at_call 37; refine HU.out.mono ?_; rintro e w1 ⟨v', rfl, ho, hb⟩)
    go_ret
    exact ⟨v', rfl, ho, hb⟩
  · rw [Lib.zigzag_nonneg (by omega)] at hU
    have HU := Lib.hid hU
    clear hU hown
    go_enter Tryd.func38, Tryd.ntmps38
    go_wp2_with (go_at_call 37; refine HU.out.mono ?_; rintro e w1 ⟨v', rfl, ho, hb⟩)
    go_ret
    exact ⟨v', rfl, ho, hb⟩

set_option maxHeartbeats 1000000 in
/-- num.Text. -/
theorem text_put {G : Nat → Prop} (s : ByteArray) (hs : s.size ≤ 35184372088832) (sv : Value) (l : List UInt8) (w : World) (hown : By G w sv l) (hlim : l.length ≤ 35184372088832) :
    Calls Tryd.prog 71 #[sv, .string s] w (PutPost sv (l ++ textB s.data.toList) w) := by
  obtain ⟨i5, E5⟩ := elem5
  have hU := uint_put s.size (by omega) sv l w hown (by omega)
  have hul := Lib.uvarint_length64 (x := s.size) (by omega)
  have hsl : s.data.toList.length = s.size := Array.length_toList
  have HU := Lib.hid hU
  have HL := Lib.hid hsl
  clear hU hsl hown
  go_enter Tryd.func71, Tryd.ntmps71
  go_wp2_with fail
  refine HU.out.mono ?_
  rintro e w1 ⟨v', rfl, ho, hb⟩
  have HAT := Lib.hid (fun b hb => (ho.at hb).1 : ∀ b, At v' b → At sv b ∨ w.heap.size ≤ b)
  have HO := Lib.hid ho
  have HB := Lib.hid hb
  have hsz := hb.size
  clear ho hb HU
  go_wp2_with (at_builtin; refine wpList_append_rk E5 _ rfl _ _ 9 rfl (G := fun b => At sv b ∨ w.heap.size ≤ b) rfl HO.out ?c1 (.string s) s.data.toList.length (cellsOf s.data.toList) rfl (src_string _ s) ?c3 ?c4 ?_)
  case c1 => intro b hb; right; omega
  case c3 => have := HL.out; simp only [List.length_append]; omega
  case c4 => have := HL.out; simp only [List.length_append]; omega
  intro v2 w2 ho2 hb2
  have HK1 := Lib.hid (HB.out.step hb2 HAT.out)
  have ho' : By (fun b => At sv b ∨ w.heap.size ≤ b) w2 v2 (l ++ textB s.data.toList) := by
    have := ho2.mono (G' := fun b => At sv b ∨ w.heap.size ≤ b) fun b hb _ => hb.1
    rw [← cellsOf_append, List.append_assoc] at this
    unfold textB
    rw [HL.out]
    exact By.of this
  have HO' := Lib.hid ho'
  clear ho2 hb2 ho'
  go_wp2
  go_ret
  exact ⟨v2, rfl, HO'.out, HK1.out⟩

end Go.Proofs.YtaghogfkkmphoaaDoor.E4

namespace Go.Proofs.YtaghogfkkmphoaaDoor.E4
open Go.RowKit Go

/-- A label's bytes, labels', an entry's. -/
def labB (x : Lab) : List UInt8 := textB x.n.data.toList ++ textB x.v.data.toList
def labsF : List Lab → List UInt8
  | [] => []
  | x :: r => labB x ++ labsF r
def labsB (ls : List Lab) : List UInt8 := Lib.uvarint ls.length ++ labsF ls
def Ent.bytes (e : Ent) : List UInt8 := Lib.uvarint (Lib.zigzag e.tm) ++ labsB e.labs ++ textB e.line.data.toList

end Go.Proofs.YtaghogfkkmphoaaDoor.E4

namespace Go.Proofs.YtaghogfkkmphoaaDoor.E4
open Go.RowKit Go

theorem uv_inj {x y : Nat} (hx : x < 18446744073709551616) (hy : y < 18446744073709551616) {r s : List UInt8} (h : Lib.uvarint x ++ r = Lib.uvarint y ++ s) : x = y ∧ r = s := by
  obtain ⟨l0, c, e, hl, hlow⟩ := M.isNum_of x hx
  obtain ⟨m0, d, f, hm, hmow⟩ := M.isNum_of y hy
  rw [e, f, List.append_assoc, List.append_assoc] at h
  simp only [List.singleton_append] at h
  obtain ⟨rfl, rfl, rfl⟩ := M.parts_unique hl.cont hl.last hm.cont hm.last h
  exact ⟨hlow.symm.trans hmow, rfl⟩

theorem textB_inj {a b : List UInt8} (ha : a.length < 18446744073709551616) (hb : b.length < 18446744073709551616) {r s : List UInt8} (h : textB a ++ r = textB b ++ s) : a = b ∧ r = s := by
  unfold textB at h
  rw [List.append_assoc, List.append_assoc] at h
  obtain ⟨h1, h2⟩ := uv_inj ha hb h
  exact List.append_inj h2 h1

theorem data_inj {a b : ByteArray} (h : a.data.toList = b.data.toList) : a = b := toList_inj a b (by rw [Lib.toList_data, Lib.toList_data]; exact h)

end Go.Proofs.YtaghogfkkmphoaaDoor.E4

namespace Go.Proofs.YtaghogfkkmphoaaDoor.E4
open Go.RowKit Go

def noLab : Lab := ⟨⟨#[]⟩, ⟨#[]⟩⟩

def timeOK (n : Int) : Bool := decide (-1099511627776 ≤ n) && decide (n ≤ 1099511627776)
set_option maxHeartbeats 1000000 in
theorem time_any (n : Int) (w : World) : Calls Tryd.prog 28 #[.int .i64 n] w fun e w' => e = .returned (.bool (timeOK n)) ∧ w' = w := by
  unfold timeOK
  by_cases h1 : -1099511627776 ≤ n
  · by_cases h2 : n ≤ 1099511627776
    · have d1 : decide (-1099511627776 ≤ n) = true := by simpa using h1
      have d2 : decide (n ≤ 1099511627776) = true := by simpa using h2
      go_enter Tryd.func28, Tryd.ntmps28
      go_wp2
      go_ret
      exact ⟨by simp [h1, h2], rfl⟩
    · have d1 : decide (-1099511627776 ≤ n) = true := by simpa using h1
      have d2 : decide (n ≤ 1099511627776) = false := by simpa using h2
      go_enter Tryd.func28, Tryd.ntmps28
      go_wp2
      go_ret
      exact ⟨by first | (simp; done) | (simp; omega), rfl⟩
  · have d1 : decide (-1099511627776 ≤ n) = false := by simpa using h1
    go_enter Tryd.func28, Tryd.ntmps28
    go_wp2
    go_ret
    exact ⟨by first | (simp; done) | (simp; omega), rfl⟩

end Go.Proofs.YtaghogfkkmphoaaDoor.E4

namespace Go.Proofs.YtaghogfkkmphoaaDoor.E4
open Go.RowKit Go

theorem add_lit (b off k : Nat) : (⟨b, off, none⟩ : Addr).add k = ⟨b, off + k, none⟩ := by
  unfold Addr.add
  split
  · rename_i h; subst h; rfl
  · rfl

theorem cells55 : Tryd.prog.cellsOf 64 = 2 := by kernel_rfl
theorem cells24 : Tryd.prog.cellsOf 28 = 3 := by kernel_rfl

variable {H : Type} {enc : TypeId × Value → H}

set_option maxRecDepth 100000 in
/-- One label's cells. -/
theorem lab_at {w : World} {a : Addr} {k fuel : Nat} {spare : Nat → Bool} {held : Bool} {cs : List Value} {x : DataW H × List MemPlace}
    (h : w.cells? 0 (a.add (k * 2)) 2 = some cs) (ht : DataW.trod enc Tryd.prog w 0 spare held fuel 64 cs = some x) :
    (a.add (k * 2)).spot = none ∧ (a.add (k * 2)).block < w.heap.size ∧ ∃ y : Lab, w.cell? (a.add (k * 2)) = some (.string y.n) ∧ w.cell? ((a.add (k * 2)).add 1) = some (.string y.v) := by
  obtain ⟨_, hl, hc⟩ := World.cells?_some h
  obtain ⟨y0, y1, n, _, _, h0, h1⟩ := Go.ChangeShapes.trod_struct2 Tryd.underlying64 ht
  match cs, hl with
  | [c0, c1], _ =>
    have e9 : Tryd.prog.cellsOf 9 = 1 := by kernel_rfl
    simp only [e9, List.drop_zero, List.drop_succ_cons, List.take_succ_cons, List.take_zero] at h0 h1
    obtain ⟨s, hs, _, _⟩ := DataW.trod_string Tryd.underlying9 h0
    obtain ⟨t, htt, _, _⟩ := DataW.trod_string Tryd.underlying9 h1
    simp only [List.cons.injEq, and_true] at hs htt
    subst hs htt
    have g0 := hc 0 (by omega)
    have g1 := hc 1 (by omega)
    have e : (a.add (k * 2)).add 0 = a.add (k * 2) := by simp [Addr.add]
    rw [e] at g0
    simp only [List.getElem?_cons_zero, List.getElem?_cons_succ] at g0 g1
    exact ⟨World.cell?_spot g0, World.block_lt_of_cell? w _ g0, ⟨s, t⟩, g0, g1⟩

/-- A slice of labels that came in. -/
theorem labs_open {w : World} {spare : Nat → Bool} {held : Bool} {fuel : Nat} {lv : Value} {x : DataW H × List MemPlace}
    (h : DataW.trod enc Tryd.prog w 0 spare held fuel 26 [lv] = some x) : ∃ ls, LabsAt (fun _ => True) w lv ls := by
  rcases Go.Deep.open_slice Tryd.underlying26 h with ⟨hcs, _⟩ | ⟨a, len, cap, m, n, D, Pl, hcs, _, hl, hcap, hm, _, hel⟩
  · simp only [List.cons.injEq, and_true] at hcs
    exact ⟨[], none, 0, hcs, by simp, .inl rfl⟩
  · simp only [List.cons.injEq, and_true] at hcs
    subst hcs
    have hlm : len ≤ m := by rw [hm]; split <;> omega
    rw [cells55] at hel
    have h63 : len ≤ 9223372036854775807 := by unfold maxLen at hcap; omega
    by_cases h0 : len = 0
    · subst h0
      exact ⟨[], some a, cap, rfl, by simp, .inl rfl⟩
    obtain ⟨cs0, hc0, ht0⟩ := hel 0 (by omega)
    obtain ⟨hsp, hblt, _⟩ := lab_at hc0 ht0
    have ea : a.add (0 * 2) = a := by simp [Addr.add]
    rw [ea] at hsp hblt
    obtain ⟨b, off, spot⟩ := a
    simp only [] at hsp hblt
    subst hsp
    obtain ⟨ls, hlen, hits⟩ := list_of noLab (fun i y => w.cell? ⟨b, off + i * 2, none⟩ = some (.string y.n) ∧ w.cell? ⟨b, off + i * 2 + 1, none⟩ = some (.string y.v)) len (fun i hi => by
        obtain ⟨cs, hc, ht⟩ := hel i (by omega)
        obtain ⟨_, _, y, g0, g1⟩ := lab_at hc ht
        rw [add_lit] at g0 g1
        rw [add_lit] at g1
        exact ⟨y, g0, g1⟩)
    refine ⟨ls, _, cap, by rw [hlen], by omega, .inr ⟨b, off, rfl, trivial, hblt, fun i hi => ?_⟩⟩
    have := hits i (by omega)
    simp only [List.getD, List.getElem?_eq_getElem hi, Option.getD_some] at this
    exact this

/-- An entry's numbers fit. -/
structure Ent.Wf (e : Ent) : Prop where
  lo : -9223372036854775808 ≤ e.tm
  hi : e.tm ≤ 9223372036854775807

set_option maxRecDepth 100000 in
theorem ent_open {w : World} {spare : Nat → Bool} {held : Bool} {fuel : Nat} {cs : List Value} (hl : cs.length = 3) {x : DataW H × List MemPlace}
    (ht : DataW.trod enc Tryd.prog w 0 spare held fuel 28 cs = some x) : ∃ (e : Ent) (lv : Value), cs = [.int .i64 e.tm, lv, .string e.line] ∧ LabsAt (fun _ => True) w lv e.labs ∧ e.Wf := by
  obtain ⟨y0, y1, y2, n, _, _, h0, h1, h2⟩ := Go.Deep.trod_struct3 Tryd.underlying28 ht
  match cs, hl with
  | [c0, c1, c2], _ =>
    have e3 : Tryd.prog.cellsOf 3 = 1 := by kernel_rfl
    have e22 : Tryd.prog.cellsOf 26 = 1 := by kernel_rfl
    have e9 : Tryd.prog.cellsOf 9 = 1 := by kernel_rfl
    simp only [e3, e22, e9, List.drop_zero, List.drop_succ_cons, List.take_succ_cons, List.take_zero] at h0 h1 h2
    obtain ⟨kd, hk, _, wk⟩ := DataW.trod_int Tryd.underlying3 h0
    obtain ⟨s, hs, _, ws⟩ := DataW.trod_string Tryd.underlying9 h2
    obtain ⟨ls, hls⟩ := labs_open h1
    simp only [List.cons.injEq, and_true] at hk hs
    subst hk hs
    have bk := bounds_i64 wk
    exact ⟨⟨kd, ls, s⟩, c1, rfl, hls, ⟨by show -9223372036854775808 ≤ kd; omega, by show kd ≤ 9223372036854775807; omega⟩⟩

/-- An entry that came in. -/
theorem entV_open {w : World} {spare : Nat → Bool} {held : Bool} {fuel : Nat} {v : Value} (hv : ∃ cs : Array Value, v = .agg cs ∧ cs.size = Tryd.prog.cellsOf 28) {x : DataW H × List MemPlace}
    (ht : DataW.trod enc Tryd.prog w 0 spare held fuel 28 v.cells.toList = some x) : ∃ (e : Ent) (lv : Value), v = e.val lv ∧ LabsAt (fun _ => True) w lv e.labs ∧ e.Wf := by
  obtain ⟨cs, rfl, hs⟩ := hv
  rw [cells24] at hs
  obtain ⟨e, lv, hcs, h1, h2⟩ := ent_open (cs := cs.toList) (by simpa using hs) ht
  refine ⟨e, lv, ?_, h1, h2⟩
  have : cs = #[.int .i64 e.tm, lv, .string e.line] := Array.toList_inj.1 hcs
  rw [this]
  rfl

theorem ent_at {w : World} {a : Addr} {k fuel : Nat} {spare : Nat → Bool} {held : Bool} {cs : List Value} {x : DataW H × List MemPlace}
    (h : w.cells? 0 (a.add (k * 3)) 3 = some cs) (ht : DataW.trod enc Tryd.prog w 0 spare held fuel 28 cs = some x) :
    (a.add (k * 3)).spot = none ∧ (a.add (k * 3)).block < w.heap.size ∧ ∃ (e : Ent) (lv : Value), w.cell? (a.add (k * 3)) = some (.int .i64 e.tm) ∧ w.cell? ((a.add (k * 3)).add 1) = some lv ∧ w.cell? ((a.add (k * 3)).add 2) = some (.string e.line) ∧ LabsAt (fun _ => True) w lv e.labs ∧ e.Wf := by
  obtain ⟨_, hl, hc⟩ := World.cells?_some h
  obtain ⟨e, lv, rfl, h1, h2⟩ := ent_open hl ht
  have g0 := hc 0 (by omega)
  have g1 := hc 1 (by omega)
  have g2 := hc 2 (by omega)
  have e0 : (a.add (k * 3)).add 0 = a.add (k * 3) := by simp [Addr.add]
  rw [e0] at g0
  simp only [List.getElem?_cons_zero, List.getElem?_cons_succ] at g0 g1 g2
  exact ⟨World.cell?_spot g0, World.block_lt_of_cell? w _ g0, e, lv, g0, g1, g2, h1, h2⟩

end Go.Proofs.YtaghogfkkmphoaaDoor.E4

namespace Go.Proofs.YtaghogfkkmphoaaDoor.E4
open Go.RowKit Go

theorem ch_yes {c : UInt8} {n : Nat} (h : c.toNat = n) (hn : n = 95 ∨ (48 ≤ n ∧ n ≤ 57) ∨ (97 ≤ n ∧ n ≤ 122) ∨ (65 ≤ n ∧ n ≤ 90)) : MW.ch c = true := by
  unfold MW.ch
  have h95 : (c == 95) = decide (n = 95) := by
    rw [Bool.eq_iff_iff]
    simp only [beq_iff_eq, decide_eq_true_eq]
    exact ⟨fun e => by rw [← h, e]; rfl, fun e => UInt8.toNat_inj.1 (by rw [h, e]; rfl)⟩
  rw [h95, h]
  simp
  omega
theorem ch_no {c : UInt8} {n : Nat} (h : c.toNat = n) (hn : n < 48 ∨ (57 < n ∧ n < 65) ∨ (90 < n ∧ n < 95) ∨ n = 96 ∨ 122 < n) : MW.ch c = false := by
  unfold MW.ch
  have h95 : (c == 95) = decide (n = 95) := by
    rw [Bool.eq_iff_iff]
    simp only [beq_iff_eq, decide_eq_true_eq]
    exact ⟨fun e => by rw [← h, e]; rfl, fun e => UInt8.toNat_inj.1 (by rw [h, e]; rfl)⟩
  rw [h95, h, Bool.eq_false_iff]
  simp
  omega

theorem name_ch (l : List UInt8) (h0 : l ≠ []) (h : l.length ≤ 20) (hd : MW.dig (l.headD 0) = false) : MW.name l = l.all MW.ch := by
  unfold MW.name
  rw [hd]
  cases l with
  | nil => exact absurd rfl h0
  | cons a r =>
    have : (a :: r).isEmpty = false := rfl
    rw [this, decide_eq_true h]
    rfl

set_option maxHeartbeats 4000000 in
set_option maxRecDepth 100000 in
/-- The document's Name. -/
theorem refName_any (s : ByteArray) (w : World) : Calls Tryd.prog 33 #[.string s] w fun e w' => e = .returned (.bool (MW.name s.data.toList)) ∧ w' = w := by
  have hsz : s.data.toList.length = s.size := (Lib.size_eq s).symm
  by_cases h0 : s.size = 0
  · obtain rfl : s = ⟨#[]⟩ := toList_inj _ _ (by rw [Lib.toList_data, Lib.toList_data]; exact List.eq_nil_of_length_eq_zero (by omega))
    go_enter Tryd.func33, Tryd.ntmps33
    go_wp2_with fail
    go_ret
    exact ⟨rfl, rfl⟩
  have hne : s ≠ ⟨#[]⟩ := fun e => h0 (by rw [e]; rfl)
  have hne' : s.toList.isEmpty = false := by
    rw [Bool.eq_false_iff]
    intro e
    refine hne (toList_inj _ _ ?_)
    rw [List.isEmpty_iff.1 e, Lib.toList_data]
  by_cases h20 : s.size ≤ 20
  · have hp : 0 < s.size := by omega
    obtain ⟨n, hn⟩ : ∃ n, s[0].toNat = n := ⟨_, rfl⟩
    have hix0 : ∀ w, (Instr.index 9 (.string s) (.int .i64 0)).run Tryd.prog w = .ok (.int .u8 (n : Int)) w := fun w => idx_run s 0 n hp hn w
    have hd : s.data.toList.headD 0 = s[0] := by
      have := byte_drop s 0 hp
      rw [List.drop_zero] at this
      rw [this]
      rfl
    have hdd : MW.dig (s.data.toList.headD 0) = (decide (48 ≤ n) && decide (n ≤ 57)) := by rw [hd]; unfold MW.dig; rw [hn]
    have HDD := Lib.hid hdd
    have HSZ := Lib.hid hsz
    clear hd hn hdd hsz h0 hne
    have d20 : decide (20 < (s.size : Int)) = false := by simp; omega
    by_cases hdg : 48 ≤ n ∧ n ≤ 57
    · obtain ⟨h1, h2⟩ := hdg
      have d48 : decide (48 ≤ (n : Int)) = true := by simp; omega
      have d57 : decide ((n : Int) ≤ 57) = true := by simp; omega
      have hr : MW.name s.data.toList = false := by
        unfold MW.name
        rw [HDD.out]
        simp [h1, h2]
      have HR := Lib.hid hr
      clear hr
      go_enter Tryd.func33, Tryd.ntmps33
      go_wp2_with fail
      go_ret
      exact ⟨by rw [HR.out]; rfl, rfl⟩
    · have hr := name_ch s.data.toList (by intro e; have := HSZ.out; rw [e] at this; simp at this; omega) (by rw [HSZ.out]; exact h20) (by rw [HDD.out]; simp; omega)
      have HR := Lib.hid hr
      have hdg' : decide (48 ≤ (n : Int)) = false ∨ (decide (48 ≤ (n : Int)) = true ∧ decide ((n : Int) ≤ 57) = false) := by simp; omega
      clear hr hdg
      rcases hdg' with hdg | ⟨hdg1, hdg⟩
      all_goals
        go_enter Tryd.func33, Tryd.ntmps33
        go_wp2_with fail
        go_loopw [3] (fun vi wr => ∃ k : Nat, vi = .int .i64 k ∧ k ≤ s.size ∧ wr = w ∧ s.data.toList.all MW.ch = (s.data.toList.drop k).all MW.ch) (fun vi _ => s.size - (intOf vi).toNat)
        case atStart => exact ⟨0, rfl, Nat.zero_le _, rfl, by simp⟩
        case round =>
          clear hix0 hne'
          try clear hdg1
          obtain ⟨k, rfl, hk, rfl, hz⟩ := hrel
          have HZ := Lib.hid hz
          clear hz
          by_cases hlt : k < s.size
          · have HD := Lib.hid (byte_drop s k hlt)
            obtain ⟨c, hc⟩ : ∃ c, c = s[k] := ⟨_, rfl⟩
            obtain ⟨m, hm⟩ : ∃ m, s[k].toNat = m := ⟨_, rfl⟩
            have hix := fun w => idx_run s k m hlt hm w
            rw [← hc] at HD hm
            have HC := Lib.hid hm
            clear hc hm hdg d20
            have hcase : (m < 48) ∨ (48 ≤ m ∧ m ≤ 57) ∨ (57 < m ∧ m < 65) ∨ (65 ≤ m ∧ m ≤ 90) ∨ (90 < m ∧ m < 95) ∨ (m = 95) ∨ (m = 96) ∨ (97 ≤ m ∧ m ≤ 122) ∨ (122 < m) := by omega
            rcases hcase with hm | hm | hm | hm | hm | hm | hm | hm | hm
            · have HY := Lib.hid (ch_no HC.out (by omega))
              have fa : ((m : Int) != 95) = true := by simp; omega
              have fb : decide (48 ≤ (m : Int)) = false := by simp; omega
              have fc : decide ((m : Int) ≤ 57) = true := by simp; omega
              have fd : decide (97 ≤ (m : Int)) = false := by simp; omega
              have fe : decide ((m : Int) ≤ 122) = true := by simp; omega
              have ff : decide (65 ≤ (m : Int)) = false := by simp; omega
              have fg : decide ((m : Int) ≤ 90) = true := by simp; omega
              clear hm
              go_wp2_with fail
              go_ret
              refine ⟨ret_bool ?_, rfl⟩
              rw [HR.out, HZ.out, HD.out, List.all_cons, HY.out]
              rfl
            · have HY := Lib.hid (ch_yes HC.out (by omega))
              have fa : ((m : Int) != 95) = true := by simp; omega
              have fb : decide (48 ≤ (m : Int)) = true := by simp; omega
              have fc : decide ((m : Int) ≤ 57) = true := by simp; omega
              have fd : decide (97 ≤ (m : Int)) = false := by simp; omega
              have fe : decide ((m : Int) ≤ 122) = true := by simp; omega
              have ff : decide (65 ≤ (m : Int)) = false := by simp; omega
              have fg : decide ((m : Int) ≤ 90) = true := by simp; omega
              clear hm
              go_wp2_with fail
              go_roundw
              case rel => exact ⟨k + 1, by go_num, by omega, by trivial, by rw [HZ.out, HD.out, List.all_cons, HY.out, Bool.true_and]⟩
              case measure => simp [intOf]; omega
            · have HY := Lib.hid (ch_no HC.out (by omega))
              have fa : ((m : Int) != 95) = true := by simp; omega
              have fb : decide (48 ≤ (m : Int)) = true := by simp; omega
              have fc : decide ((m : Int) ≤ 57) = false := by simp; omega
              have fd : decide (97 ≤ (m : Int)) = false := by simp; omega
              have fe : decide ((m : Int) ≤ 122) = true := by simp; omega
              have ff : decide (65 ≤ (m : Int)) = false := by simp; omega
              have fg : decide ((m : Int) ≤ 90) = true := by simp; omega
              clear hm
              go_wp2_with fail
              go_ret
              refine ⟨ret_bool ?_, rfl⟩
              rw [HR.out, HZ.out, HD.out, List.all_cons, HY.out]
              rfl
            · have HY := Lib.hid (ch_yes HC.out (by omega))
              have fa : ((m : Int) != 95) = true := by simp; omega
              have fb : decide (48 ≤ (m : Int)) = true := by simp; omega
              have fc : decide ((m : Int) ≤ 57) = false := by simp; omega
              have fd : decide (97 ≤ (m : Int)) = false := by simp; omega
              have fe : decide ((m : Int) ≤ 122) = true := by simp; omega
              have ff : decide (65 ≤ (m : Int)) = true := by simp; omega
              have fg : decide ((m : Int) ≤ 90) = true := by simp; omega
              clear hm
              go_wp2_with fail
              go_roundw
              case rel => exact ⟨k + 1, by go_num, by omega, by trivial, by rw [HZ.out, HD.out, List.all_cons, HY.out, Bool.true_and]⟩
              case measure => simp [intOf]; omega
            · have HY := Lib.hid (ch_no HC.out (by omega))
              have fa : ((m : Int) != 95) = true := by simp; omega
              have fb : decide (48 ≤ (m : Int)) = true := by simp; omega
              have fc : decide ((m : Int) ≤ 57) = false := by simp; omega
              have fd : decide (97 ≤ (m : Int)) = false := by simp; omega
              have fe : decide ((m : Int) ≤ 122) = true := by simp; omega
              have ff : decide (65 ≤ (m : Int)) = true := by simp; omega
              have fg : decide ((m : Int) ≤ 90) = false := by simp; omega
              clear hm
              go_wp2_with fail
              go_ret
              refine ⟨ret_bool ?_, rfl⟩
              rw [HR.out, HZ.out, HD.out, List.all_cons, HY.out]
              rfl
            · have HY := Lib.hid (ch_yes HC.out (by omega))
              have fa : ((m : Int) != 95) = false := by simp; omega
              have fb : decide (48 ≤ (m : Int)) = true := by simp; omega
              have fc : decide ((m : Int) ≤ 57) = false := by simp; omega
              have fd : decide (97 ≤ (m : Int)) = false := by simp; omega
              have fe : decide ((m : Int) ≤ 122) = true := by simp; omega
              have ff : decide (65 ≤ (m : Int)) = true := by simp; omega
              have fg : decide ((m : Int) ≤ 90) = false := by simp; omega
              clear hm
              go_wp2_with fail
              go_roundw
              case rel => exact ⟨k + 1, by go_num, by omega, by trivial, by rw [HZ.out, HD.out, List.all_cons, HY.out, Bool.true_and]⟩
              case measure => simp [intOf]; omega
            · have HY := Lib.hid (ch_no HC.out (by omega))
              have fa : ((m : Int) != 95) = true := by simp; omega
              have fb : decide (48 ≤ (m : Int)) = true := by simp; omega
              have fc : decide ((m : Int) ≤ 57) = false := by simp; omega
              have fd : decide (97 ≤ (m : Int)) = false := by simp; omega
              have fe : decide ((m : Int) ≤ 122) = true := by simp; omega
              have ff : decide (65 ≤ (m : Int)) = true := by simp; omega
              have fg : decide ((m : Int) ≤ 90) = false := by simp; omega
              clear hm
              go_wp2_with fail
              go_ret
              refine ⟨ret_bool ?_, rfl⟩
              rw [HR.out, HZ.out, HD.out, List.all_cons, HY.out]
              rfl
            · have HY := Lib.hid (ch_yes HC.out (by omega))
              have fa : ((m : Int) != 95) = true := by simp; omega
              have fb : decide (48 ≤ (m : Int)) = true := by simp; omega
              have fc : decide ((m : Int) ≤ 57) = false := by simp; omega
              have fd : decide (97 ≤ (m : Int)) = true := by simp; omega
              have fe : decide ((m : Int) ≤ 122) = true := by simp; omega
              have ff : decide (65 ≤ (m : Int)) = true := by simp; omega
              have fg : decide ((m : Int) ≤ 90) = false := by simp; omega
              clear hm
              go_wp2_with fail
              go_roundw
              case rel => exact ⟨k + 1, by go_num, by omega, by trivial, by rw [HZ.out, HD.out, List.all_cons, HY.out, Bool.true_and]⟩
              case measure => simp [intOf]; omega
            · have HY := Lib.hid (ch_no HC.out (by omega))
              have fa : ((m : Int) != 95) = true := by simp; omega
              have fb : decide (48 ≤ (m : Int)) = true := by simp; omega
              have fc : decide ((m : Int) ≤ 57) = false := by simp; omega
              have fd : decide (97 ≤ (m : Int)) = true := by simp; omega
              have fe : decide ((m : Int) ≤ 122) = false := by simp; omega
              have ff : decide (65 ≤ (m : Int)) = true := by simp; omega
              have fg : decide ((m : Int) ≤ 90) = false := by simp; omega
              clear hm
              go_wp2_with fail
              go_ret
              refine ⟨ret_bool ?_, rfl⟩
              rw [HR.out, HZ.out, HD.out, List.all_cons, HY.out]
              rfl
          · obtain rfl : k = s.size := by omega
            go_wp2_with fail
            go_ret
            refine ⟨ret_bool ?_, rfl⟩
            rw [HR.out, HZ.out, List.drop_of_length_le (by rw [HSZ.out]; exact Nat.le_refl _)]
            rfl
  · have hr := MW.name_long s.data.toList (by omega)
    have HR := Lib.hid hr
    clear hr hsz hne h0
    have d20 : decide (20 < (s.size : Int)) = true := by simp; omega
    go_enter Tryd.func33, Tryd.ntmps33
    go_wp2_with fail
    go_ret
    exact ⟨by rw [HR.out]; rfl, rfl⟩

end Go.Proofs.YtaghogfkkmphoaaDoor.E4
