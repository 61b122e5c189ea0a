/-
  NUMBERS AND TEXTS AS BYTES, written and read by package num (the texts of stage 4, joined).
-/
import Derived.Orders
import Derived.WalkKit
import Derived.Test.YtaghogfkkmphoaaEt
import Derived.Shelf.Small.Wraps
import Derived.Test.YtaghogfkkmphoaaProg
import Derived.Laws.Cover1
import Derived.Deep.QuietTactic
import Derived.BigQuiet
import Derived.Deep.RegionWith
import Derived.Outline
import Derived.Deep.Slices
import Derived.Deep.Strs
import Derived.Lib.SmallJoins
import Derived.ProofKit
namespace Go.Proofs.Ytaghogfkkmphoaa.E4
open Go

/-- All slots that the operations write, filled with ys. -/
def putsFrom (ys : Nat → Value) : List Oper → Nat → Act → Act
  | [], _, a => a
  | o :: r, k, a => putsFrom ys r (k + 1) (a.put o.dst (ys k))

def upd (ys : Nat → Value) (i : Nat) (v : Value) : Nat → Value := fun j => if j = i then v else ys j
theorem upd_same (ys : Nat → Value) (i : Nat) (v : Value) : upd ys i v i = v := by unfold upd; rw [if_pos rfl]
theorem upd_other (ys : Nat → Value) {i j : Nat} (v : Value) (h : j ≠ i) : upd ys i v j = ys j := by unfold upd; rw [if_neg h]

/-- No two operations write one slot. -/
def dstsApart : List Oper → Bool
  | [] => true
  | o :: r => (match o.dst with | some d => r.all (fun p => p.dst != some d) | none => true) && dstsApart r

theorem puts_congr {ys zs : Nat → Value} : ∀ (l : List Oper) (k : Nat) (a : Act), (∀ j, k ≤ j → ys j = zs j) → putsFrom ys l k a = putsFrom zs l k a
  | [], _, _, _ => rfl
  | o :: r, k, a, h => by
    rw [putsFrom, putsFrom, h k (Nat.le_refl _)]
    exact puts_congr r (k + 1) _ (fun j hj => h j (by omega))

theorem put_put (a : Act) (d : Option Tmp) (u v : Value) : (a.put d u).put d v = a.put d v := by
  cases d with
  | none => rfl
  | some d => simp [Act.put]

theorem puts_comm {ys : Nat → Value} {d : Option Tmp} {v : Value} : ∀ (l : List Oper) (k : Nat) (a : Act), (∀ x, d = some x → ∀ p ∈ l, p.dst ≠ some x) → (putsFrom ys l k a).put d v = putsFrom ys l k (a.put d v)
  | [], _, _, _ => rfl
  | o :: r, k, a, h => by
    rw [putsFrom, putsFrom, puts_comm r (k + 1) _ (fun x hx p hp => h x hx p (by simp [hp]))]
    congr 1
    exact Act.put_comm a (ys k) v (fun x hx hd => h x hd o (by simp) hx)

theorem puts_set {ys : Nat → Value} {i : Nat} {v : Value} : ∀ (l : List Oper) (k : Nat) (a : Act) (o : Oper), dstsApart l = true → k ≤ i → l[i - k]? = some o → (putsFrom ys l k a).put o.dst v = putsFrom (upd ys i v) l k a
  | [], _, _, _, _, _, h => by simp at h
  | p :: r, k, a, o, hd, hk, h => by
    simp only [dstsApart, Bool.and_eq_true] at hd
    rcases Nat.lt_or_ge k i with hlt | hge
    · have e : i - k = (i - (k + 1)) + 1 := by omega
      rw [e, List.getElem?_cons_succ] at h
      rw [putsFrom, putsFrom, puts_set r (k + 1) _ o hd.2 (by omega) h, upd_other ys v (by omega)]
    · obtain rfl : k = i := by omega
      rw [Nat.sub_self, List.getElem?_cons_zero] at h
      obtain rfl : p = o := by simpa using h
      rw [putsFrom, putsFrom, upd_same, puts_comm, put_put]
      · exact puts_congr r (k + 1) _ (fun j hj => (upd_other ys v (by omega)).symm)
      · intro x hx q hq
        have h1 := hd.1
        rw [hx] at h1
        have := List.all_eq_true.1 h1 q hq
        simpa using this

theorem put_own (a : Act) (d : Tmp) : a.put (some d) (a.tmps.getD d undef) = a := by
  obtain ⟨t, ds⟩ := a
  simp only [Act.put, Act.mk.injEq, and_true]
  apply Array.ext
  · simp
  · intro i h1 h2
    rw [Array.getElem_setIfInBounds]
    split
    · rename_i h; subst h; simp [Array.getD, h2]
    · rfl

/-- What the slots hold, as ys. -/
def nowOf (ops : Array Oper) (a : Act) : Nat → Value := fun j => match (ops[j]?).bind (·.dst) with | some d => a.tmps.getD d undef | none => undef

theorem puts_now (a : Act) {ys : Nat → Value} : ∀ (l : List Oper) (k : Nat), (∀ i o d, l[i]? = some o → o.dst = some d → ys (k + i) = a.tmps.getD d undef) → putsFrom ys l k a = a
  | [], _, _ => rfl
  | o :: r, k, h => by
    have e : a.put o.dst (ys k) = a := by
      cases hd : o.dst with
      | none => rfl
      | some d =>
        have := h 0 o d rfl hd
        rw [Nat.add_zero] at this
        rw [this]
        exact put_own a d
    rw [putsFrom, e]
    exact puts_now a r (k + 1) (fun i o d hi hd => by
      have := h (i + 1) o d (by simpa using hi) hd
      rw [← this]; congr 1; omega)

/-- How many of the first n are still to come. -/
def unl : Nat → Array Bool → Nat
  | 0, _ => 0
  | n + 1, l => unl n l + (if l.getD n true = true then 0 else 1)

theorem unl_zero {l : Array Bool} : ∀ (n : Nat), unl n l = 0 → ∀ j, j < n → l.getD j true = true
  | 0, _, j, h => by omega
  | n + 1, h, j, hj => by
    simp only [unl] at h
    by_cases e : j = n
    · subst e
      by_cases hb : l.getD j true = true
      · exact hb
      · rw [if_neg hb] at h; omega
    · exact unl_zero n (by omega) j (by omega)

theorem unl_le {l : Array Bool} {i : Nat} : ∀ (n : Nat), unl n (l.setIfInBounds i true) ≤ unl n l
  | 0 => Nat.le_refl _
  | n + 1 => by
    have := unl_le (l := l) (i := i) n
    simp only [unl]
    by_cases hb : l.getD n true = true
    · have hb' : (l.setIfInBounds i true).getD n true = true := by
        by_cases e : i = n
        · subst e
          simp [Array.getD]
        · rw [getD_set_ne true e]; exact hb
      rw [if_pos hb, if_pos hb']
      omega
    · rw [if_neg hb]
      split <;> omega

theorem unl_lt {l : Array Bool} {i : Nat} (hi : i < l.size) (hf : l.getD i true = false) : ∀ (n : Nat), i < n → unl n (l.setIfInBounds i true) < unl n l
  | 0, h => by omega
  | n + 1, h => by
    simp only [unl]
    by_cases e : i = n
    · subst e
      have h1 : (l.setIfInBounds i true).getD i true = true := by simp [Array.getD]
      have := unl_le (l := l) (i := i) i
      rw [if_pos h1, hf]
      simp
      omega
    · have := unl_lt hi hf n (by omega)
      rw [getD_set_ne true e]
      omega

/-- Each operation waits for earlier ones alone. -/
def backEdges (ops : Array Oper) : Bool := (List.range ops.size).all fun i => match ops[i]? with | some o => o.after.all fun e => decide (e.on < i) | none => true

section
variable {P : Program} {ops : Array Oper} {Q : Exit → Act → World → Prop}

theorem least_unlisted (listed : Array Bool) : ∀ n, (∀ j, j < n → listed.getD j true = true) ∨ ∃ i, i < n ∧ listed.getD i true = false ∧ ∀ j, j < i → listed.getD j true = true
  | 0 => .inl (fun j h => by omega)
  | n + 1 => by
    rcases least_unlisted listed n with h | ⟨i, hi, hf, hj⟩
    · by_cases hb : listed.getD n true = true
      · refine .inl fun j hj => ?_
        by_cases e : j = n
        · subst e; exact hb
        · exact h j (by omega)
      · exact .inr ⟨n, by omega, by simpa using hb, h⟩
    · exact .inr ⟨i, by omega, hf, hj⟩

theorem getD_true_false {listed : Array Bool} {j : Nat} (hj : j < listed.size) (h : listed.getD j true = true) : listed.getD j false = true := by
  simp [Array.getD, hj] at h ⊢
  exact h

theorem ready_none {listed : Array Bool} (hsz : listed.size = ops.size) (hb : backEdges ops = true) (h : Region.ready .any ops listed = []) : ∀ j, j < ops.size → listed.getD j true = true := by
  rcases least_unlisted listed ops.size with h1 | ⟨i, hi, hf, hj⟩
  · exact h1
  · exfalso
    have hm : i ∈ Region.ready .any ops listed := by
      rw [mem_ready]
      refine ⟨hf, ops[i], Array.getElem?_eq_getElem hi, fun e he _ => ?_⟩
      have h1 := List.all_eq_true.1 hb i (List.mem_range.2 hi)
      rw [Array.getElem?_eq_getElem hi] at h1
      have h2 : e.on < i := by
        have := Array.all_eq_true_iff_forall_mem.1 h1 e he
        simpa using this
      exact getD_true_false (by omega) (hj _ h2)
    rw [h] at hm
    cases hm

/-- An edge by which a value is handed on. -/
def asked (e : Edge) : Bool := match e.ground with | .data => true | .guard => true | _ => false
theorem asked_binds {e : Edge} (h : asked e = true) : Region.binds .any e = true := by
  unfold asked at h
  unfold Region.binds
  split at h <;> simp_all

/-- Does j wait for i, be it by others? -/
def anc (ops : Array Oper) : Nat → Nat → Nat → Bool
  | 0, _, _ => false
  | f + 1, i, j => match ops[j]? with
    | some o => o.after.toList.any fun e => Region.binds .any e && (e.on == i || anc ops f i e.on)
    | none => false

/-- Behind i, is what j left still asked for: in the end (F), or by an operation that i doesn't wait for? -/
def needed (ops : Array Oper) (F : Nat → Bool) (i j : Nat) : Bool :=
  F j || (List.range ops.size).any fun c => c != i && !anc ops ops.size c i && ((ops[c]?).map fun o => o.after.toList.any fun e => asked e && e.on == j).getD false

/-- Whatever is listed, what it waits for is, too. -/
def ShutDown (ops : Array Oper) (listed : Array Bool) : Prop := ∀ j o, ops[j]? = some o → listed.getD j false = true → ∀ e ∈ o.after, Region.binds .any e = true → listed.getD e.on false = true

theorem anc_listed {listed : Array Bool} (hc : ShutDown ops listed) : ∀ (f i j : Nat), listed.getD j false = true → anc ops f i j = true → listed.getD i false = true
  | 0, _, _, _, h => by cases h
  | f + 1, i, j, hj, h => by
    unfold anc at h
    cases ho : ops[j]? with
    | none => rw [ho] at h; cases h
    | some o =>
      rw [ho] at h
      obtain ⟨e, he, h⟩ := List.any_eq_true.1 h
      rw [Array.mem_toList_iff] at he
      simp only [Bool.and_eq_true, Bool.or_eq_true, beq_iff_eq] at h
      have hl := hc j o ho hj e he h.1
      rcases h.2 with h2 | h2
      · rw [← h2]; exact hl
      · exact anc_listed hc f i e.on hl h2

theorem anc_ready {listed : Array Bool} (hc : ShutDown ops listed) {i : Nat} {o : Oper} (ho : ops[i]? = some o) (hall : ∀ e ∈ o.after, Region.binds .any e = true → listed.getD e.on false = true) {f c : Nat} (h : anc ops f c i = true) : listed.getD c false = true := by
  cases f with
  | zero => cases h
  | succ f =>
    unfold anc at h
    rw [ho] at h
    obtain ⟨e, he, h⟩ := List.any_eq_true.1 h
    rw [Array.mem_toList_iff] at he
    simp only [Bool.and_eq_true, Bool.or_eq_true, beq_iff_eq] at h
    have hl := hall e he h.1
    rcases h.2 with h2 | h2
    · rw [← h2]; exact hl
    · exact anc_listed hc f c e.on hl h2

/-- What slot d holds. -/
def slotFrom (ys : Nat → Value) (d : Nat) : List Oper → Nat → Value → Value
  | [], _, v => v
  | o :: r, k, v => slotFrom ys d r (k + 1) (if o.dst == some d then ys k else v)

theorem getD_puts {ys : Nat → Value} {d : Nat} : ∀ (l : List Oper) (k : Nat) (a : Act), d < a.tmps.size → (putsFrom ys l k a).tmps.getD d undef = slotFrom ys d l k (a.tmps.getD d undef)
  | [], _, _, _ => rfl
  | o :: r, k, a, h => by
    rw [putsFrom, slotFrom]
    cases hd : o.dst with
    | none => exact getD_puts r (k + 1) _ h
    | some x =>
      have hsz : d < (a.put (some x) (ys k)).tmps.size := by simpa [Act.put] using h
      rw [getD_puts r (k + 1) _ hsz]
      congr 1
      by_cases e : x = d
      · subst e
        simp [Act.put, Array.getD, h]
      · have e2 : (some x == some d) = false := by simpa using e
        rw [e2]
        simp [Act.put, Array.getD, h, e]

/-- What must be shown of operation i. -/
def StepOK (P : Program) (ops : Array Oper) (Q : Exit → Act → World → Prop) (a0 : Act) (I : World → Prop) (R : Nat → World → World → Prop) (V : Nat → Value → World → Prop) (i : Nat) (o : Oper) : Prop :=
  ∀ (ys : Nat → Value) (A : Act) (w : World), (∀ d, d < a0.tmps.size → A.tmps.getD d undef = slotFrom ys d ops.toList 0 (a0.tmps.getD d undef)) → I w → (∀ e ∈ o.after, asked e = true → V e.on (ys e.on) w) →
    ∀ K : Act → World → Prop, (∀ v w', I w' → R i w w' → V i v w' → K (A.put o.dst v) w') →
      if Region.wanted o (yielded ops A.tmps) = true then o.wp P A w K Q else K (A.put o.dst undef) w

/-- An operation that is wanted. -/
theorem step_run {o : Oper} {A : Act} {w : World} {K : Act → World → Prop} (h : o.guard = none ∨ ∃ j d b, o.guard = some (j, b) ∧ (ops[j]?).bind (·.dst) = some d ∧ A.tmps.getD d undef = .bool b) (hw : o.wp P A w K Q) :
    if Region.wanted o (yielded ops A.tmps) = true then o.wp P A w K Q else K (A.put o.dst undef) w := by
  have hwt : Region.wanted o (yielded ops A.tmps) = true := by
    rcases h with h | ⟨j, d, b, h, hd, hv⟩
    · unfold Region.wanted; rw [h]
    · unfold Region.wanted
      rw [h]
      unfold yielded
      simp only [hd, Option.bind_some]
      have e : A.tmps[d]? = some (.bool b) := by
        cases hx : A.tmps[d]? with
        | none => rw [Array.getD_eq_getD_getElem?, hx] at hv; cases hv
        | some y => rw [Array.getD_eq_getD_getElem?, hx] at hv; simpa using hv
      rw [e]
      simp
  rw [if_pos hwt]
  exact hw

/-- Still asked for, in the state 'listed'. -/
def Wants (ops : Array Oper) (F : Nat → Bool) (listed : Array Bool) (j : Nat) : Prop :=
  F j = true ∨ ∃ c o, ops[c]? = some o ∧ listed.getD c false = false ∧ ∃ e ∈ o.after, asked e = true ∧ e.on = j

theorem flow_any {a0 : Act} {I : World → Prop} {R : Nat → World → World → Prop} {V : Nat → Value → World → Prop} {F : Nat → Bool} (hb : backEdges ops = true) (hd : dstsApart ops.toList = true)
    (hst : ∀ i j v w w', i ≠ j → anc ops ops.size i j = false → needed ops F i j = true → V j v w → I w → R i w w' → V j v w')
    (step : ∀ i o, ops[i]? = some o → StepOK P ops Q a0 I R V i o)
    (fin : ∀ ys w, I w → (∀ j, j < ops.size → F j = true → V j (ys j) w) → Q .normal (putsFrom ys ops.toList 0 a0) w) :
    ∀ (fuel : Nat) (listed : Array Bool) (ys : Nat → Value) (w : World), listed.size = ops.size → unl ops.size listed ≤ fuel → ShutDown ops listed → I w → (∀ j, listed.getD j false = true → Wants ops F listed j → V j (ys j) w) →
      wpAny P .any ops Q fuel listed (putsFrom ys ops.toList 0 a0) w := by
  have done : ∀ (listed : Array Bool) (ys : Nat → Value) (w : World), listed.size = ops.size → I w → (∀ j, listed.getD j false = true → Wants ops F listed j → V j (ys j) w) → (∀ j, j < ops.size → listed.getD j true = true) → Q .normal (putsFrom ys ops.toList 0 a0) w :=
    fun listed ys w hsz hI hV hall => fin ys w hI (fun j hj hF => hV j (getD_true_false (by omega) (hall j hj)) (.inl hF))
  intro fuel
  induction fuel with
  | zero =>
    intro listed ys w hsz hu _ hI hV
    have hall := unl_zero ops.size (by omega : unl ops.size listed = 0)
    refine ⟨?_, done listed ys w hsz hI hV hall⟩
    cases hr : Region.ready .any ops listed with
    | nil => rfl
    | cons i r =>
      have hm : i ∈ Region.ready .any ops listed := by rw [hr]; simp
      obtain ⟨h0, o, ho, _⟩ := mem_ready.1 hm
      have := hall i (Array.getElem?_eq_some_iff.1 ho).1
      rw [h0] at this
      cases this
  | succ fuel ih =>
    intro listed ys w hsz hu hsd hI hV
    refine ⟨fun hr => done listed ys w hsz hI hV (ready_none hsz hb hr), fun i hi => ?_⟩
    obtain ⟨h0, o, ho, hall⟩ := mem_ready.1 hi
    have hlt : i < ops.size := (Array.getElem?_eq_some_iff.1 ho).1
    have h0f : listed.getD i false = false := by
      simp [Array.getD, hsz, hlt] at h0 ⊢
      exact h0
    have hdeps : ∀ e ∈ o.after, asked e = true → V e.on (ys e.on) w := fun e he hbe => hV _ (hall e he (asked_binds hbe)) (.inr ⟨i, o, ho, h0f, e, he, hbe, rfl⟩)
    have hsd' : ShutDown ops (listed.setIfInBounds i true) := by
      intro j oj hoj hj e he hbe
      by_cases hij : i = j
      · subst hij
        rw [ho] at hoj
        obtain rfl : o = oj := by simpa using hoj
        exact getD_set_true (hall e he hbe)
      · rw [getD_set_ne false hij] at hj
        exact getD_set_true (hsd j oj hoj hj e he hbe)
    have next : ∀ v w', I w' → R i w w' → V i v w' → wpAny P .any ops Q fuel (listed.setIfInBounds i true) ((putsFrom ys ops.toList 0 a0).put o.dst v) w' := by
      intro v w' hI' hR hv
      rw [puts_set (i := i) ops.toList 0 a0 o hd (Nat.zero_le _) (by rw [Nat.sub_zero, Array.getElem?_toList]; exact ho)]
      refine ih _ _ w' (by simpa using hsz) (by have := unl_lt (l := listed) (i := i) (by omega) h0 ops.size hlt; omega) hsd' hI' (fun j hj hw => ?_)
      by_cases e : j = i
      · subst e; rw [upd_same]; exact hv
      · rw [upd_other ys v e]
        rw [getD_set_ne false (Ne.symm e)] at hj
        -- an unlisted consumer behind i is one ahead of it, and i doesn't wait for it
        have hneed : needed ops F i j = true ∧ Wants ops F listed j := by
          rcases hw with hF | ⟨c, oc, hoc, hcf, e1, he1, hbe1, hon⟩
          · exact ⟨by unfold needed; rw [hF]; rfl, .inl hF⟩
          · have hclt : c < ops.size := (Array.getElem?_eq_some_iff.1 hoc).1
            have hci : c ≠ i := by
              intro h
              subst h
              simp [Array.getD, hsz, hclt] at hcf
            rw [getD_set_ne false (Ne.symm hci)] at hcf
            refine ⟨?_, .inr ⟨c, oc, hoc, hcf, e1, he1, hbe1, hon⟩⟩
            have hna : anc ops ops.size c i = false := by
              cases ha : anc ops ops.size c i with
              | false => rfl
              | true =>
                have := anc_ready hsd ho hall ha
                rw [hcf] at this
                cases this
            unfold needed
            rw [Bool.or_eq_true]
            refine .inr (List.any_eq_true.2 ⟨c, List.mem_range.2 hclt, ?_⟩)
            rw [hoc, hna]
            simp only [Option.map_some, Option.getD_some, Bool.not_false, Bool.and_true, Bool.and_eq_true, bne_iff_ne, ne_eq]
            exact ⟨hci, List.any_eq_true.2 ⟨e1, Array.mem_toList_iff.2 he1, by rw [hbe1]; simpa using hon⟩⟩
        have hanc : anc ops ops.size i j = false := by
          cases ha : anc ops ops.size i j with
          | false => rfl
          | true =>
            have := anc_listed hsd _ _ _ hj ha
            rw [h0f] at this
            cases this
        exact hst i j _ w w' (Ne.symm e) hanc hneed.1 (hV j hj hneed.2) hI hR
    have hs := step i o ho ys (putsFrom ys ops.toList 0 a0) w (fun d hd => getD_puts ops.toList 0 a0 hd) hI hdeps _ next
    unfold wpOp
    rw [ho]
    simp only []
    split
    · rename_i hw
      rw [if_pos hw] at hs
      exact .inl hs
    · rename_i hw
      rw [if_neg hw] at hs
      exact hs

/-- The steps, listed. -/
def StepsFrom (P : Program) (ops : Array Oper) (Q : Exit → Act → World → Prop) (a0 : Act) (I : World → Prop) (R : Nat → World → World → Prop) (V : Nat → Value → World → Prop) : List Oper → Nat → Prop
  | [], _ => True
  | o :: r, k => StepOK P ops Q a0 I R V k o ∧ StepsFrom P ops Q a0 I R V r (k + 1)

theorem steps_of {a0 : Act} {I : World → Prop} {R : Nat → World → World → Prop} {V : Nat → Value → World → Prop} : ∀ (l : List Oper) (k : Nat), StepsFrom P ops Q a0 I R V l k → ∀ i o, l[i]? = some o → StepOK P ops Q a0 I R V (k + i) o
  | [], _, _, _, _, h => by simp at h
  | p :: r, k, hs, i, o, h => by
    cases i with
    | zero =>
      obtain rfl : p = o := by simpa using h
      exact hs.1
    | succ i =>
      have := steps_of r (k + 1) hs.2 i o (by simpa using h)
      rw [show k + (i + 1) = k + 1 + i by omega]
      exact this

/-- THE THEOREM. I: what holds of the world all the time; R i: what operation i does to it; V i: what it leaves in its slot; F: whose are asked for in the end. -/
theorem wp_region_flow {id : Nat} {a0 : Act} {w0 : World} (hm : P.follows .mixedOrders = true) (I : World → Prop) (R : Nat → World → World → Prop) (V : Nat → Value → World → Prop) (F : Nat → Bool) (hb : backEdges ops = true) (hd : dstsApart ops.toList = true)
    (hst : ∀ i j v w w', i ≠ j → anc ops ops.size i j = false → needed ops F i j = true → V j v w → I w → R i w w' → V j v w') (hI : I w0.drew)
    (step : StepsFrom P ops Q a0 I R V ops.toList 0)
    (fin : ∀ ys w, I w → (∀ j, j < ops.size → F j = true → V j (ys j) w) → Q .normal (putsFrom ys ops.toList 0 a0) w) : (Code.region id ops true).wp P Q a0 w0 := by
  refine wp_region_any hm ?_
  have h0 : putsFrom (nowOf ops a0) ops.toList 0 a0 = a0 := puts_now a0 ops.toList 0 (fun i o d hi hdo => by
    rw [Array.getElem?_toList] at hi
    simp only [nowOf, Nat.zero_add, hi, Option.bind_some, hdo])
  have hno : ∀ j, (Array.replicate ops.size false).getD j false = false := fun j => by
    by_cases e : j < ops.size <;> simp [Array.getD, e]
  have h := flow_any (P := P) (Q := Q) (F := F) hb hd hst (fun i o ho => by
    have := steps_of ops.toList 0 step i o (by rw [Array.getElem?_toList]; exact ho)
    rwa [Nat.zero_add] at this) fin ops.size (Array.replicate ops.size false) (nowOf ops a0) w0.drew (by simp) ?_ (fun j o _ hj => by rw [hno] at hj; cases hj) hI (fun j hj => by rw [hno] at hj; cases hj)
  · rw [h0] at h
    exact h
  · have : ∀ (n : Nat) (l : Array Bool), unl n l ≤ n := fun n l => by
      induction n with
      | zero => exact Nat.le_refl _
      | succ n ih => simp only [unl]; split <;> omega
    exact this _ _

end
end Go.Proofs.Ytaghogfkkmphoaa.E4

namespace Go.Proofs.Ytaghogfkkmphoaa.E4
open Go.RowKit Go

def noLab : Lab := ⟨⟨#[]⟩, ⟨#[]⟩⟩

end Go.Proofs.Ytaghogfkkmphoaa.E4

namespace Go.Proofs.Ytaghogfkkmphoaa.E4
open Go.RowKit Go

/-! ### Great, Many -/

def Lab.big (x : Lab) : Bool := decide (200 < x.n.size) || decide (200 < x.v.size)
def Ent.big (e : Ent) : Bool := decide (20 < e.labs.length) || decide (1000 < e.line.size) || e.labs.any Lab.big

set_option maxHeartbeats 4000000 in
set_option maxRecDepth 100000 in
/-- The document's Great. -/
theorem great_any {G : Nat → Prop} {w : World} {e : Ent} {lv : Value} (h : LabsAt G w lv e.labs) :
    Calls Try.prog 15 #[e.val lv] w fun x w' => x = .returned (.bool e.big) ∧ Lay w w' := by
  obtain ⟨a, ca, rfl, hl63, ha⟩ := h
  obtain ⟨tm, labs, line⟩ := e
  have HA := Lib.hid ha
  have HL0 : Hid (Lay w (w.alloc (.cells #[.int .i64 tm, .slice a labs.length ca, .string line] 47))) := Lib.hid ((Keep.refl _ _).alloc _)
  have HOK : Hid (Ent.big ⟨tm, labs, line⟩ = (decide (20 < labs.length) || decide (1000 < line.size) || labs.any Lab.big)) := Lib.hid rfl
  unfold Ent.val
  clear ha
  simp only [] at hl63 HA ⊢
  by_cases h20 : 20 < labs.length
  · have d20 : decide (20 < (labs.length : Int)) = true := by simp; omega
    have HR : Hid (Ent.big ⟨tm, labs, line⟩ = true) := Lib.hid (by rw [HOK.out, decide_eq_true h20]; rfl)
    clear h20
    go_enter Try.func15, Try.ntmps15
    go_wp2_with fail
    go_ret
    exact ⟨by rw [HR.out]; rfl, HL0.out⟩
  · have d20 : decide (20 < (labs.length : Int)) = false := by simp; omega
    by_cases h1000 : 1000 < line.size
    · have d1 : decide (1000 < (line.size : Int)) = true := by simp; omega
      have HR : Hid (Ent.big ⟨tm, labs, line⟩ = true) := Lib.hid (by rw [HOK.out, decide_eq_true h1000]; simp)
      clear h20 h1000
      go_enter Try.func15, Try.ntmps15
      go_wp2_with fail
      go_ret
      exact ⟨by rw [HR.out]; rfl, HL0.out⟩
    · have d1 : decide (1000 < (line.size : Int)) = false := by simp; omega
      have HO := HOK.out
      rw [decide_eq_false h20, decide_eq_false h1000, Bool.false_or, Bool.false_or] at HO
      have HR := Lib.hid HO
      clear HO HOK h1000
      go_enter Try.func15, Try.ntmps15
      go_wp2_with fail
      clear d20 d1
      go_loopw [18] (fun vi wr => ∃ k : Nat, vi = .int .i64 k ∧ k ≤ labs.length ∧ Lay w wr ∧ labs.any Lab.big = (labs.drop k).any Lab.big) (fun vi _ => labs.length - (intOf vi).toNat)
      case atStart => exact ⟨0, rfl, Nat.zero_le _, HL0.out, by simp⟩
      case round =>
        obtain ⟨k, rfl, hk, hl, hz⟩ := hrel
        have HZ := Lib.hid hz
        have HL := Lib.hid hl
        clear hz
        by_cases hlt : k < labs.length
        · rcases HA.out with h0 | ⟨bx, ox, rfl, hgx, hbx, hcx⟩
          · exact absurd hlt (by rw [h0]; simp)
          obtain ⟨x0, x1⟩ := hcx k hlt
          have g0 := (hl.cell hbx).trans x0
          have g1 := (hl.cell hbx).trans x1
          have hdx := Lib.hid (List.drop_eq_getElem_cons hlt)
          generalize labs[k] = x at g0 g1 hdx x0 x1
          clear x0 x1 hcx hl
          by_cases hn : 200 < x.n.size
          · have dn : decide (200 < (x.n.size : Int)) = true := by simp; omega
            have HB : Hid (Lab.big x = true) := Lib.hid (by unfold Lab.big; rw [decide_eq_true hn]; rfl)
            clear hn
            go_wp2_with fail
            go_ret
            refine ⟨ret_bool ?_, HL.out.alloc _⟩
            rw [HR.out, HZ.out, hdx.out, List.any_cons, HB.out, Bool.true_or]
          · have dn : decide (200 < (x.n.size : Int)) = false := by simp; omega
            by_cases hv : 200 < x.v.size
            · have dv : decide (200 < (x.v.size : Int)) = true := by simp; omega
              have HB : Hid (Lab.big x = true) := Lib.hid (by unfold Lab.big; rw [decide_eq_true hv]; simp)
              clear hn hv
              go_wp2_with fail
              go_ret
              refine ⟨ret_bool ?_, HL.out.alloc _⟩
              rw [HR.out, HZ.out, hdx.out, List.any_cons, HB.out, Bool.true_or]
            · have dv : decide (200 < (x.v.size : Int)) = false := by simp; omega
              have HB : Hid (Lab.big x = false) := Lib.hid (by unfold Lab.big; rw [decide_eq_false hn, decide_eq_false hv]; rfl)
              clear hn hv
              go_wp2_with fail
              go_roundw
              case rel => exact ⟨k + 1, by go_num, by omega, HL.out.alloc _, by rw [HZ.out, hdx.out, List.any_cons, HB.out, Bool.false_or]⟩
              case measure => simp [intOf]; omega
        · obtain rfl : k = labs.length := by omega
          go_wp2_with fail
          go_ret
          refine ⟨ret_bool ?_, HL.out⟩
          rw [HR.out, HZ.out, List.drop_length]
          rfl

end Go.Proofs.Ytaghogfkkmphoaa.E4

namespace Go.Proofs.Ytaghogfkkmphoaa.E4
open Go.RowKit Go

/-- An entry's cells. -/
def rawC (x : Value × Ent) : List Value := [.int .i64 x.2.tm, x.1, .string x.2.line]
def flatR : List (Value × Ent) → List Value
  | [] => []
  | x :: r => rawC x ++ flatR r

theorem flatR_length : ∀ R : List (Value × Ent), (flatR R).length = R.length * 3
  | [] => rfl
  | x :: r => by simp only [flatR, List.length_append, flatR_length r, rawC, List.length_cons, List.length_nil]; omega

theorem flatR_get : ∀ (R : List (Value × Ent)) (i : Nat) (h : i < R.length) (c : Nat), c < 3 → (flatR R)[i * 3 + c]? = (rawC R[i])[c]?
  | [], i, h, _, _ => by simp at h
  | x :: r, 0, _, c, hc => by
    simp only [flatR, Nat.zero_mul, Nat.zero_add, List.getElem_cons_zero]
    rw [List.getElem?_append_left (by simp [rawC]; omega)]
  | x :: r, i + 1, h, c, hc => by
    simp only [flatR, List.getElem_cons_succ]
    rw [List.getElem?_append_right (by simp [rawC]; omega), ← flatR_get r i (by simpa using h) c hc]
    congr 1
    simp [rawC]
    omega

theorem list_of {α : Type} (d : α) (p : Nat → α → Prop) : ∀ (n : Nat), (∀ i, i < n → ∃ x, p i x) → ∃ l : List α, l.length = n ∧ ∀ i, i < n → p i (l.getD i d)
  | 0, _ => ⟨[], rfl, fun i h => by omega⟩
  | n + 1, h => by
    obtain ⟨l, hl, hp⟩ := list_of d p n (fun i hi => h i (by omega))
    obtain ⟨x, hx⟩ := h n (by omega)
    refine ⟨l ++ [x], by simp [hl], fun i hi => ?_⟩
    rcases Nat.lt_or_ge i n with hlt | hge
    · have := hp i hlt
      simp only [List.getD, List.getElem?_append_left (hl ▸ hlt)] at this ⊢
      exact this
    · obtain rfl : i = n := by omega
      simp only [List.getD, List.getElem?_append_right (Nat.le_of_eq hl), hl, Nat.sub_self, List.getElem?_cons_zero, Option.getD_some]
      exact hx

/-- The cells of entries, from a place on. -/
def RawAt (w : World) (b off : Nat) (R : List (Value × Ent)) : Prop :=
  ∀ i (h : i < R.length), w.cell? ⟨b, off + i * 3, none⟩ = some (.int .i64 R[i].2.tm) ∧ w.cell? ⟨b, off + i * 3 + 1, none⟩ = some R[i].1 ∧ w.cell? ⟨b, off + i * 3 + 2, none⟩ = some (.string R[i].2.line)

theorem RawAt.cells {w : World} {b off : Nat} {R : List (Value × Ent)} (h : RawAt w b off R) (j : Nat) (u : Value) (hu : (flatR R)[j]? = some u) : w.cell? ⟨b, off + j, none⟩ = some u := by
  have hj : j < (flatR R).length := (List.getElem?_eq_some_iff.1 hu).1
  rw [flatR_length] at hj
  have hi : j / 3 < R.length := by omega
  have hjd : j = j / 3 * 3 + j % 3 := by omega
  have hg := flatR_get R (j / 3) hi (j % 3) (by omega)
  rw [← hjd, hu] at hg
  obtain ⟨h0, h1, h2⟩ := h (j / 3) hi
  have hm : j % 3 = 0 ∨ j % 3 = 1 ∨ j % 3 = 2 := by omega
  rcases hm with hm | hm | hm
  · rw [hm] at hg hjd
    rw [show off + j = off + j / 3 * 3 by omega, h0]
    simpa [rawC] using hg.symm
  · rw [hm] at hg hjd
    rw [show off + j = off + j / 3 * 3 + 1 by omega, h1]
    simpa [rawC] using hg.symm
  · rw [hm] at hg hjd
    rw [show off + j = off + j / 3 * 3 + 2 by omega, h2]
    simpa [rawC] using hg.symm

end Go.Proofs.Ytaghogfkkmphoaa.E4

namespace Go.Proofs.Ytaghogfkkmphoaa.E4
open Go.RowKit Go

theorem add_lit (b off k : Nat) : (⟨b, off, none⟩ : Addr).add k = ⟨b, off + k, none⟩ := by
  unfold Addr.add
  split
  · rename_i h; subst h; rfl
  · rfl

theorem cells55 : Try.prog.cellsOf 59 = 2 := by kernel_rfl
theorem cells24 : Try.prog.cellsOf 47 = 3 := by kernel_rfl

variable {H : Type} {enc : TypeId × Value → H}

set_option maxRecDepth 100000 in
/-- One label's cells. -/
theorem lab_at {w : World} {a : Addr} {k fuel : Nat} {spare : Nat → Bool} {held : Bool} {cs : List Value} {x : DataW H × List MemPlace}
    (h : w.cells? 0 (a.add (k * 2)) 2 = some cs) (ht : DataW.trod enc Try.prog w 0 spare held fuel 59 cs = some x) :
    (a.add (k * 2)).spot = none ∧ (a.add (k * 2)).block < w.heap.size ∧ ∃ y : Lab, w.cell? (a.add (k * 2)) = some (.string y.n) ∧ w.cell? ((a.add (k * 2)).add 1) = some (.string y.v) := by
  obtain ⟨_, hl, hc⟩ := World.cells?_some h
  obtain ⟨y0, y1, n, _, _, h0, h1⟩ := Go.ChangeShapes.trod_struct2 Try.underlying59 ht
  match cs, hl with
  | [c0, c1], _ =>
    have e9 : Try.prog.cellsOf 9 = 1 := by kernel_rfl
    simp only [e9, List.drop_zero, List.drop_succ_cons, List.take_succ_cons, List.take_zero] at h0 h1
    obtain ⟨s, hs, _, _⟩ := DataW.trod_string Try.underlying9 h0
    obtain ⟨t, htt, _, _⟩ := DataW.trod_string Try.underlying9 h1
    simp only [List.cons.injEq, and_true] at hs htt
    subst hs htt
    have g0 := hc 0 (by omega)
    have g1 := hc 1 (by omega)
    have e : (a.add (k * 2)).add 0 = a.add (k * 2) := by simp [Addr.add]
    rw [e] at g0
    simp only [List.getElem?_cons_zero, List.getElem?_cons_succ] at g0 g1
    exact ⟨World.cell?_spot g0, World.block_lt_of_cell? w _ g0, ⟨s, t⟩, g0, g1⟩

/-- A slice of labels that came in. -/
theorem labs_open {w : World} {spare : Nat → Bool} {held : Bool} {fuel : Nat} {lv : Value} {x : DataW H × List MemPlace}
    (h : DataW.trod enc Try.prog w 0 spare held fuel 45 [lv] = some x) : ∃ ls, LabsAt (fun _ => True) w lv ls := by
  rcases Go.Deep.open_slice Try.underlying45 h with ⟨hcs, _⟩ | ⟨a, len, cap, m, n, D, Pl, hcs, _, hl, hcap, hm, _, hel⟩
  · simp only [List.cons.injEq, and_true] at hcs
    exact ⟨[], none, 0, hcs, by simp, .inl rfl⟩
  · simp only [List.cons.injEq, and_true] at hcs
    subst hcs
    have hlm : len ≤ m := by rw [hm]; split <;> omega
    rw [cells55] at hel
    have h63 : len ≤ 9223372036854775807 := by unfold maxLen at hcap; omega
    by_cases h0 : len = 0
    · subst h0
      exact ⟨[], some a, cap, rfl, by simp, .inl rfl⟩
    obtain ⟨cs0, hc0, ht0⟩ := hel 0 (by omega)
    obtain ⟨hsp, hblt, _⟩ := lab_at hc0 ht0
    have ea : a.add (0 * 2) = a := by simp [Addr.add]
    rw [ea] at hsp hblt
    obtain ⟨b, off, spot⟩ := a
    simp only [] at hsp hblt
    subst hsp
    obtain ⟨ls, hlen, hits⟩ := list_of noLab (fun i y => w.cell? ⟨b, off + i * 2, none⟩ = some (.string y.n) ∧ w.cell? ⟨b, off + i * 2 + 1, none⟩ = some (.string y.v)) len (fun i hi => by
        obtain ⟨cs, hc, ht⟩ := hel i (by omega)
        obtain ⟨_, _, y, g0, g1⟩ := lab_at hc ht
        rw [add_lit] at g0 g1
        rw [add_lit] at g1
        exact ⟨y, g0, g1⟩)
    refine ⟨ls, _, cap, by rw [hlen], by omega, .inr ⟨b, off, rfl, trivial, hblt, fun i hi => ?_⟩⟩
    have := hits i (by omega)
    simp only [List.getD, List.getElem?_eq_getElem hi, Option.getD_some] at this
    exact this

/-- An entry's numbers fit. -/
structure Ent.Wf (e : Ent) : Prop where
  lo : -9223372036854775808 ≤ e.tm
  hi : e.tm ≤ 9223372036854775807

set_option maxRecDepth 100000 in
theorem ent_open {w : World} {spare : Nat → Bool} {held : Bool} {fuel : Nat} {cs : List Value} (hl : cs.length = 3) {x : DataW H × List MemPlace}
    (ht : DataW.trod enc Try.prog w 0 spare held fuel 47 cs = some x) : ∃ (e : Ent) (lv : Value), cs = [.int .i64 e.tm, lv, .string e.line] ∧ LabsAt (fun _ => True) w lv e.labs ∧ e.Wf := by
  obtain ⟨y0, y1, y2, n, _, _, h0, h1, h2⟩ := Go.Deep.trod_struct3 Try.underlying47 ht
  match cs, hl with
  | [c0, c1, c2], _ =>
    have e3 : Try.prog.cellsOf 3 = 1 := by kernel_rfl
    have e22 : Try.prog.cellsOf 45 = 1 := by kernel_rfl
    have e9 : Try.prog.cellsOf 9 = 1 := by kernel_rfl
    simp only [e3, e22, e9, List.drop_zero, List.drop_succ_cons, List.take_succ_cons, List.take_zero] at h0 h1 h2
    obtain ⟨kd, hk, _, wk⟩ := DataW.trod_int Try.underlying3 h0
    obtain ⟨s, hs, _, ws⟩ := DataW.trod_string Try.underlying9 h2
    obtain ⟨ls, hls⟩ := labs_open h1
    simp only [List.cons.injEq, and_true] at hk hs
    subst hk hs
    have bk := bounds_i64 wk
    exact ⟨⟨kd, ls, s⟩, c1, rfl, hls, ⟨by show -9223372036854775808 ≤ kd; omega, by show kd ≤ 9223372036854775807; omega⟩⟩

/-- An entry that came in. -/
theorem entV_open {w : World} {spare : Nat → Bool} {held : Bool} {fuel : Nat} {v : Value} (hv : ∃ cs : Array Value, v = .agg cs ∧ cs.size = Try.prog.cellsOf 47) {x : DataW H × List MemPlace}
    (ht : DataW.trod enc Try.prog w 0 spare held fuel 47 v.cells.toList = some x) : ∃ (e : Ent) (lv : Value), v = e.val lv ∧ LabsAt (fun _ => True) w lv e.labs ∧ e.Wf := by
  obtain ⟨cs, rfl, hs⟩ := hv
  rw [cells24] at hs
  obtain ⟨e, lv, hcs, h1, h2⟩ := ent_open (cs := cs.toList) (by simpa using hs) ht
  refine ⟨e, lv, ?_, h1, h2⟩
  have : cs = #[.int .i64 e.tm, lv, .string e.line] := Array.toList_inj.1 hcs
  rw [this]
  rfl

theorem ent_at {w : World} {a : Addr} {k fuel : Nat} {spare : Nat → Bool} {held : Bool} {cs : List Value} {x : DataW H × List MemPlace}
    (h : w.cells? 0 (a.add (k * 3)) 3 = some cs) (ht : DataW.trod enc Try.prog w 0 spare held fuel 47 cs = some x) :
    (a.add (k * 3)).spot = none ∧ (a.add (k * 3)).block < w.heap.size ∧ ∃ (e : Ent) (lv : Value), w.cell? (a.add (k * 3)) = some (.int .i64 e.tm) ∧ w.cell? ((a.add (k * 3)).add 1) = some lv ∧ w.cell? ((a.add (k * 3)).add 2) = some (.string e.line) ∧ LabsAt (fun _ => True) w lv e.labs ∧ e.Wf := by
  obtain ⟨_, hl, hc⟩ := World.cells?_some h
  obtain ⟨e, lv, rfl, h1, h2⟩ := ent_open hl ht
  have g0 := hc 0 (by omega)
  have g1 := hc 1 (by omega)
  have g2 := hc 2 (by omega)
  have e0 : (a.add (k * 3)).add 0 = a.add (k * 3) := by simp [Addr.add]
  rw [e0] at g0
  simp only [List.getElem?_cons_zero, List.getElem?_cons_succ] at g0 g1 g2
  exact ⟨World.cell?_spot g0, World.block_lt_of_cell? w _ g0, e, lv, g0, g1, g2, h1, h2⟩

end Go.Proofs.Ytaghogfkkmphoaa.E4
