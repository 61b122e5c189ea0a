/-
  Eb.
-/
import Derived.Test.YtoobjjpheegmdaaGreatJ01
import Derived.Test.YtoobjjpheegmdaaGreatJ02
import Derived.Orders
import Derived.WalkKit
import Derived.Laws.Cover1
import Derived.Deep.QuietTactic
import Derived.BigQuiet
import Derived.Deep.RegionWith
import Derived.Outline
import Derived.Deep.Slices
import Derived.Deep.Strs
import Derived.Lib.SmallJoins
import Derived.ProofKit
namespace Go.Proofs.YtoobjjpheegmdaaGreat.E4
open Go
def putsFrom (ys : Nat → Value) : List Oper → Nat → Act → Act
  | [], _, a => a
  | o :: r, k, a => putsFrom ys r (k + 1) (a.put o.dst (ys k))
def upd (ys : Nat → Value) (i : Nat) (v : Value) : Nat → Value := fun j => if j = i then v else ys j
theorem upd_same (ys : Nat → Value) (i : Nat) (v : Value) : upd ys i v i = v := by unfold upd; rw [if_pos rfl]
theorem upd_other (ys : Nat → Value) {i j : Nat} (v : Value) (h : j ≠ i) : upd ys i v j = ys j := by unfold upd; rw [if_neg h]
def dstsApart : List Oper → Bool
  | [] => true
  | o :: r => (match o.dst with | some d => r.all (fun p => p.dst != some d) | none => true) && dstsApart r
theorem puts_congr {ys zs : Nat → Value} : ∀ (l : List Oper) (k : Nat) (a : Act), (∀ j, k ≤ j → ys j = zs j) → putsFrom ys l k a = putsFrom zs l k a
  | [], _, _, _ => rfl
  | o :: r, k, a, h => by
    rw [putsFrom, putsFrom, h k (Nat.le_refl _)]
    exact puts_congr r (k + 1) _ (fun j hj => h j (by omega))
theorem put_put (a : Act) (d : Option Tmp) (u v : Value) : (a.put d u).put d v = a.put d v := by
  cases d with
  | none => rfl
  | some d => simp [Act.put]
theorem puts_comm {ys : Nat → Value} {d : Option Tmp} {v : Value} : ∀ (l : List Oper) (k : Nat) (a : Act), (∀ x, d = some x → ∀ p ∈ l, p.dst ≠ some x) → (putsFrom ys l k a).put d v = putsFrom ys l k (a.put d v)
  | [], _, _, _ => rfl
  | o :: r, k, a, h => by
    rw [putsFrom, putsFrom, puts_comm r (k + 1) _ (fun x hx p hp => h x hx p (by simp [hp]))]
    congr 1
    exact Act.put_comm a (ys k) v (fun x hx hd => h x hd o (by simp) hx)
theorem puts_set {ys : Nat → Value} {i : Nat} {v : Value} : ∀ (l : List Oper) (k : Nat) (a : Act) (o : Oper), dstsApart l = true → k ≤ i → l[i - k]? = some o → (putsFrom ys l k a).put o.dst v = putsFrom (upd ys i v) l k a
  | [], _, _, _, _, _, h => by simp at h
  | p :: r, k, a, o, hd, hk, h => by
    simp only [dstsApart, Bool.and_eq_true] at hd
    rcases Nat.lt_or_ge k i with hlt | hge
    · have e : i - k = (i - (k + 1)) + 1 := by omega
      rw [e, List.getElem?_cons_succ] at h
      rw [putsFrom, putsFrom, puts_set r (k + 1) _ o hd.2 (by omega) h, upd_other ys v (by omega)]
    · obtain rfl : k = i := by omega
      rw [Nat.sub_self, List.getElem?_cons_zero] at h
      obtain rfl : p = o := by simpa using h
      rw [putsFrom, putsFrom, upd_same, puts_comm, put_put]
      · exact puts_congr r (k + 1) _ (fun j hj => (upd_other ys v (by omega)).symm)
      · intro x hx q hq
        have h1 := hd.1
        rw [hx] at h1
        have := List.all_eq_true.1 h1 q hq
        simpa using this
theorem put_own (a : Act) (d : Tmp) : a.put (some d) (a.tmps.getD d undef) = a := by
  obtain ⟨t, ds⟩ := a
  simp only [Act.put, Act.mk.injEq, and_true]
  apply Array.ext
  · simp
  · intro i h1 h2
    rw [Array.getElem_setIfInBounds]
    split
    · rename_i h; subst h; simp [Array.getD, h2]
    · rfl
def nowOf (ops : Array Oper) (a : Act) : Nat → Value := fun j => match (ops[j]?).bind (·.dst) with | some d => a.tmps.getD d undef | none => undef
theorem puts_now (a : Act) {ys : Nat → Value} : ∀ (l : List Oper) (k : Nat), (∀ i o d, l[i]? = some o → o.dst = some d → ys (k + i) = a.tmps.getD d undef) → putsFrom ys l k a = a
  | [], _, _ => rfl
  | o :: r, k, h => by
    have e : a.put o.dst (ys k) = a := by
      cases hd : o.dst with
      | none => rfl
      | some d =>
        have := h 0 o d rfl hd
        rw [Nat.add_zero] at this
        rw [this]
        exact put_own a d
    rw [putsFrom, e]
    exact puts_now a r (k + 1) (fun i o d hi hd => by
      have := h (i + 1) o d (by simpa using hi) hd
      rw [← this]; congr 1; omega)
def unl : Nat → Array Bool → Nat
  | 0, _ => 0
  | n + 1, l => unl n l + (if l.getD n true = true then 0 else 1)
theorem unl_zero {l : Array Bool} : ∀ (n : Nat), unl n l = 0 → ∀ j, j < n → l.getD j true = true
  | 0, _, j, h => by omega
  | n + 1, h, j, hj => by
    simp only [unl] at h
    by_cases e : j = n
    · subst e
      by_cases hb : l.getD j true = true
      · exact hb
      · rw [if_neg hb] at h; omega
    · exact unl_zero n (by omega) j (by omega)
theorem unl_le {l : Array Bool} {i : Nat} : ∀ (n : Nat), unl n (l.setIfInBounds i true) ≤ unl n l
  | 0 => Nat.le_refl _
  | n + 1 => by
    have := unl_le (l := l) (i := i) n
    simp only [unl]
    by_cases hb : l.getD n true = true
    · have hb' : (l.setIfInBounds i true).getD n true = true := by
        by_cases e : i = n
        · subst e
          simp [Array.getD]
        · rw [getD_set_ne true e]; exact hb
      rw [if_pos hb, if_pos hb']
      omega
    · rw [if_neg hb]
      split <;> omega
theorem unl_lt {l : Array Bool} {i : Nat} (hi : i < l.size) (hf : l.getD i true = false) : ∀ (n : Nat), i < n → unl n (l.setIfInBounds i true) < unl n l
  | 0, h => by omega
  | n + 1, h => by
    simp only [unl]
    by_cases e : i = n
    · subst e
      have h1 : (l.setIfInBounds i true).getD i true = true := by simp [Array.getD]
      have := unl_le (l := l) (i := i) i
      rw [if_pos h1, hf]
      simp
      omega
    · have := unl_lt hi hf n (by omega)
      rw [getD_set_ne true e]
      omega
def backEdges (ops : Array Oper) : Bool := (List.range ops.size).all fun i => match ops[i]? with | some o => o.after.all fun e => decide (e.on < i) | none => true
section
variable {P : Program} {ops : Array Oper} {Q : Exit → Act → World → Prop}
theorem least_unlisted (listed : Array Bool) : ∀ n, (∀ j, j < n → listed.getD j true = true) ∨ ∃ i, i < n ∧ listed.getD i true = false ∧ ∀ j, j < i → listed.getD j true = true
  | 0 => .inl (fun j h => by omega)
  | n + 1 => by
    rcases least_unlisted listed n with h | ⟨i, hi, hf, hj⟩
    · by_cases hb : listed.getD n true = true
      · refine .inl fun j hj => ?_
        by_cases e : j = n
        · subst e; exact hb
        · exact h j (by omega)
      · exact .inr ⟨n, by omega, by simpa using hb, h⟩
    · exact .inr ⟨i, by omega, hf, hj⟩
theorem getD_true_false {listed : Array Bool} {j : Nat} (hj : j < listed.size) (h : listed.getD j true = true) : listed.getD j false = true := by
  simp [Array.getD, hj] at h ⊢
  exact h
theorem ready_none {listed : Array Bool} (hsz : listed.size = ops.size) (hb : backEdges ops = true) (h : Region.ready .any ops listed = []) : ∀ j, j < ops.size → listed.getD j true = true := by
  rcases least_unlisted listed ops.size with h1 | ⟨i, hi, hf, hj⟩
  · exact h1
  · exfalso
    have hm : i ∈ Region.ready .any ops listed := by
      rw [mem_ready]
      refine ⟨hf, ops[i], Array.getElem?_eq_getElem hi, fun e he _ => ?_⟩
      have h1 := List.all_eq_true.1 hb i (List.mem_range.2 hi)
      rw [Array.getElem?_eq_getElem hi] at h1
      have h2 : e.on < i := by
        have := Array.all_eq_true_iff_forall_mem.1 h1 e he
        simpa using this
      exact getD_true_false (by omega) (hj _ h2)
    rw [h] at hm
    cases hm
def asked (e : Edge) : Bool := match e.ground with | .data => true | .guard => true | _ => false
theorem asked_binds {e : Edge} (h : asked e = true) : Region.binds .any e = true := by
  unfold asked at h
  unfold Region.binds
  split at h <;> simp_all
def anc (ops : Array Oper) : Nat → Nat → Nat → Bool
  | 0, _, _ => false
  | f + 1, i, j => match ops[j]? with
    | some o => o.after.toList.any fun e => Region.binds .any e && (e.on == i || anc ops f i e.on)
    | none => false
def needed (ops : Array Oper) (F : Nat → Bool) (i j : Nat) : Bool :=
  F j || (List.range ops.size).any fun c => c != i && !anc ops ops.size c i && ((ops[c]?).map fun o => o.after.toList.any fun e => asked e && e.on == j).getD false
def ShutDown (ops : Array Oper) (listed : Array Bool) : Prop := ∀ j o, ops[j]? = some o → listed.getD j false = true → ∀ e ∈ o.after, Region.binds .any e = true → listed.getD e.on false = true
theorem anc_listed {listed : Array Bool} (hc : ShutDown ops listed) : ∀ (f i j : Nat), listed.getD j false = true → anc ops f i j = true → listed.getD i false = true
  | 0, _, _, _, h => by cases h
  | f + 1, i, j, hj, h => by
    unfold anc at h
    cases ho : ops[j]? with
    | none => rw [ho] at h; cases h
    | some o =>
      rw [ho] at h
      obtain ⟨e, he, h⟩ := List.any_eq_true.1 h
      rw [Array.mem_toList_iff] at he
      simp only [Bool.and_eq_true, Bool.or_eq_true, beq_iff_eq] at h
      have hl := hc j o ho hj e he h.1
      rcases h.2 with h2 | h2
      · rw [← h2]; exact hl
      · exact anc_listed hc f i e.on hl h2
theorem anc_ready {listed : Array Bool} (hc : ShutDown ops listed) {i : Nat} {o : Oper} (ho : ops[i]? = some o) (hall : ∀ e ∈ o.after, Region.binds .any e = true → listed.getD e.on false = true) {f c : Nat} (h : anc ops f c i = true) : listed.getD c false = true := by
  cases f with
  | zero => cases h
  | succ f =>
    unfold anc at h
    rw [ho] at h
    obtain ⟨e, he, h⟩ := List.any_eq_true.1 h
    rw [Array.mem_toList_iff] at he
    simp only [Bool.and_eq_true, Bool.or_eq_true, beq_iff_eq] at h
    have hl := hall e he h.1
    rcases h.2 with h2 | h2
    · rw [← h2]; exact hl
    · exact anc_listed hc f c e.on hl h2
def slotFrom (ys : Nat → Value) (d : Nat) : List Oper → Nat → Value → Value
  | [], _, v => v
  | o :: r, k, v => slotFrom ys d r (k + 1) (if o.dst == some d then ys k else v)
theorem getD_puts {ys : Nat → Value} {d : Nat} : ∀ (l : List Oper) (k : Nat) (a : Act), d < a.tmps.size → (putsFrom ys l k a).tmps.getD d undef = slotFrom ys d l k (a.tmps.getD d undef)
  | [], _, _, _ => rfl
  | o :: r, k, a, h => by
    rw [putsFrom, slotFrom]
    cases hd : o.dst with
    | none => exact getD_puts r (k + 1) _ h
    | some x =>
      have hsz : d < (a.put (some x) (ys k)).tmps.size := by simpa [Act.put] using h
      rw [getD_puts r (k + 1) _ hsz]
      congr 1
      by_cases e : x = d
      · subst e
        simp [Act.put, Array.getD, h]
      · have e2 : (some x == some d) = false := by simpa using e
        rw [e2]
        simp [Act.put, Array.getD, h, e]
def StepOK (P : Program) (ops : Array Oper) (Q : Exit → Act → World → Prop) (a0 : Act) (I : World → Prop) (R : Nat → World → World → Prop) (V : Nat → Value → World → Prop) (i : Nat) (o : Oper) : Prop :=
  ∀ (ys : Nat → Value) (A : Act) (w : World), (∀ d, d < a0.tmps.size → A.tmps.getD d undef = slotFrom ys d ops.toList 0 (a0.tmps.getD d undef)) → I w → (∀ e ∈ o.after, asked e = true → V e.on (ys e.on) w) →
    ∀ K : Act → World → Prop, (∀ v w', I w' → R i w w' → V i v w' → K (A.put o.dst v) w') →
      if Region.wanted o (yielded ops A.tmps) = true then o.wp P A w K Q else K (A.put o.dst undef) w
theorem step_run {o : Oper} {A : Act} {w : World} {K : Act → World → Prop} (h : o.guard = none ∨ ∃ j d b, o.guard = some (j, b) ∧ (ops[j]?).bind (·.dst) = some d ∧ A.tmps.getD d undef = .bool b) (hw : o.wp P A w K Q) :
    if Region.wanted o (yielded ops A.tmps) = true then o.wp P A w K Q else K (A.put o.dst undef) w := by
  have hwt : Region.wanted o (yielded ops A.tmps) = true := by
    rcases h with h | ⟨j, d, b, h, hd, hv⟩
    · unfold Region.wanted; rw [h]
    · unfold Region.wanted
      rw [h]
      unfold yielded
      simp only [hd, Option.bind_some]
      have e : A.tmps[d]? = some (.bool b) := by
        cases hx : A.tmps[d]? with
        | none => rw [Array.getD_eq_getD_getElem?, hx] at hv; cases hv
        | some y => rw [Array.getD_eq_getD_getElem?, hx] at hv; simpa using hv
      rw [e]
      simp
  rw [if_pos hwt]
  exact hw
def Wants (ops : Array Oper) (F : Nat → Bool) (listed : Array Bool) (j : Nat) : Prop :=
  F j = true ∨ ∃ c o, ops[c]? = some o ∧ listed.getD c false = false ∧ ∃ e ∈ o.after, asked e = true ∧ e.on = j
theorem flow_any {a0 : Act} {I : World → Prop} {R : Nat → World → World → Prop} {V : Nat → Value → World → Prop} {F : Nat → Bool} (hb : backEdges ops = true) (hd : dstsApart ops.toList = true)
    (hst : ∀ i j v w w', i ≠ j → anc ops ops.size i j = false → needed ops F i j = true → V j v w → I w → R i w w' → V j v w')
    (step : ∀ i o, ops[i]? = some o → StepOK P ops Q a0 I R V i o)
    (fin : ∀ ys w, I w → (∀ j, j < ops.size → F j = true → V j (ys j) w) → Q .normal (putsFrom ys ops.toList 0 a0) w) :
    ∀ (fuel : Nat) (listed : Array Bool) (ys : Nat → Value) (w : World), listed.size = ops.size → unl ops.size listed ≤ fuel → ShutDown ops listed → I w → (∀ j, listed.getD j false = true → Wants ops F listed j → V j (ys j) w) →
      wpAny P .any ops Q fuel listed (putsFrom ys ops.toList 0 a0) w := by
  have done : ∀ (listed : Array Bool) (ys : Nat → Value) (w : World), listed.size = ops.size → I w → (∀ j, listed.getD j false = true → Wants ops F listed j → V j (ys j) w) → (∀ j, j < ops.size → listed.getD j true = true) → Q .normal (putsFrom ys ops.toList 0 a0) w :=
    fun listed ys w hsz hI hV hall => fin ys w hI (fun j hj hF => hV j (getD_true_false (by omega) (hall j hj)) (.inl hF))
  intro fuel
  induction fuel with
  | zero =>
    intro listed ys w hsz hu _ hI hV
    have hall := unl_zero ops.size (by omega : unl ops.size listed = 0)
    refine ⟨?_, done listed ys w hsz hI hV hall⟩
    cases hr : Region.ready .any ops listed with
    | nil => rfl
    | cons i r =>
      have hm : i ∈ Region.ready .any ops listed := by rw [hr]; simp
      obtain ⟨h0, o, ho, _⟩ := mem_ready.1 hm
      have := hall i (Array.getElem?_eq_some_iff.1 ho).1
      rw [h0] at this
      cases this
  | succ fuel ih =>
    intro listed ys w hsz hu hsd hI hV
    refine ⟨fun hr => done listed ys w hsz hI hV (ready_none hsz hb hr), fun i hi => ?_⟩
    obtain ⟨h0, o, ho, hall⟩ := mem_ready.1 hi
    have hlt : i < ops.size := (Array.getElem?_eq_some_iff.1 ho).1
    have h0f : listed.getD i false = false := by
      simp [Array.getD, hsz, hlt] at h0 ⊢
      exact h0
    have hdeps : ∀ e ∈ o.after, asked e = true → V e.on (ys e.on) w := fun e he hbe => hV _ (hall e he (asked_binds hbe)) (.inr ⟨i, o, ho, h0f, e, he, hbe, rfl⟩)
    have hsd' : ShutDown ops (listed.setIfInBounds i true) := by
      intro j oj hoj hj e he hbe
      by_cases hij : i = j
      · subst hij
        rw [ho] at hoj
        obtain rfl : o = oj := by simpa using hoj
        exact getD_set_true (hall e he hbe)
      · rw [getD_set_ne false hij] at hj
        exact getD_set_true (hsd j oj hoj hj e he hbe)
    have next : ∀ v w', I w' → R i w w' → V i v w' → wpAny P .any ops Q fuel (listed.setIfInBounds i true) ((putsFrom ys ops.toList 0 a0).put o.dst v) w' := by
      intro v w' hI' hR hv
      rw [puts_set (i := i) ops.toList 0 a0 o hd (Nat.zero_le _) (by rw [Nat.sub_zero, Array.getElem?_toList]; exact ho)]
      refine ih _ _ w' (by simpa using hsz) (by have := unl_lt (l := listed) (i := i) (by omega) h0 ops.size hlt; omega) hsd' hI' (fun j hj hw => ?_)
      by_cases e : j = i
      · subst e; rw [upd_same]; exact hv
      · rw [upd_other ys v e]
        rw [getD_set_ne false (Ne.symm e)] at hj
        have hneed : needed ops F i j = true ∧ Wants ops F listed j := by
          rcases hw with hF | ⟨c, oc, hoc, hcf, e1, he1, hbe1, hon⟩
          · exact ⟨by unfold needed; rw [hF]; rfl, .inl hF⟩
          · have hclt : c < ops.size := (Array.getElem?_eq_some_iff.1 hoc).1
            have hci : c ≠ i := by
              intro h
              subst h
              simp [Array.getD, hsz, hclt] at hcf
            rw [getD_set_ne false (Ne.symm hci)] at hcf
            refine ⟨?_, .inr ⟨c, oc, hoc, hcf, e1, he1, hbe1, hon⟩⟩
            have hna : anc ops ops.size c i = false := by
              cases ha : anc ops ops.size c i with
              | false => rfl
              | true =>
                have := anc_ready hsd ho hall ha
                rw [hcf] at this
                cases this
            unfold needed
            rw [Bool.or_eq_true]
            refine .inr (List.any_eq_true.2 ⟨c, List.mem_range.2 hclt, ?_⟩)
            rw [hoc, hna]
            simp only [Option.map_some, Option.getD_some, Bool.not_false, Bool.and_true, Bool.and_eq_true, bne_iff_ne, ne_eq]
            exact ⟨hci, List.any_eq_true.2 ⟨e1, Array.mem_toList_iff.2 he1, by rw [hbe1]; simpa using hon⟩⟩
        have hanc : anc ops ops.size i j = false := by
          cases ha : anc ops ops.size i j with
          | false => rfl
          | true =>
            have := anc_listed hsd _ _ _ hj ha
            rw [h0f] at this
            cases this
        exact hst i j _ w w' (Ne.symm e) hanc hneed.1 (hV j hj hneed.2) hI hR
    have hs := step i o ho ys (putsFrom ys ops.toList 0 a0) w (fun d hd => getD_puts ops.toList 0 a0 hd) hI hdeps _ next
    unfold wpOp
    rw [ho]
    simp only []
    split
    · rename_i hw
      rw [if_pos hw] at hs
      exact .inl hs
    · rename_i hw
      rw [if_neg hw] at hs
      exact hs
def StepsFrom (P : Program) (ops : Array Oper) (Q : Exit → Act → World → Prop) (a0 : Act) (I : World → Prop) (R : Nat → World → World → Prop) (V : Nat → Value → World → Prop) : List Oper → Nat → Prop
  | [], _ => True
  | o :: r, k => StepOK P ops Q a0 I R V k o ∧ StepsFrom P ops Q a0 I R V r (k + 1)
theorem steps_of {a0 : Act} {I : World → Prop} {R : Nat → World → World → Prop} {V : Nat → Value → World → Prop} : ∀ (l : List Oper) (k : Nat), StepsFrom P ops Q a0 I R V l k → ∀ i o, l[i]? = some o → StepOK P ops Q a0 I R V (k + i) o
  | [], _, _, _, _, h => by simp at h
  | p :: r, k, hs, i, o, h => by
    cases i with
    | zero =>
      obtain rfl : p = o := by simpa using h
      exact hs.1
    | succ i =>
      have := steps_of r (k + 1) hs.2 i o (by simpa using h)
      rw [show k + (i + 1) = k + 1 + i by omega]
      exact this
theorem wp_region_flow {id : Nat} {a0 : Act} {w0 : World} (hm : P.follows .mixedOrders = true) (I : World → Prop) (R : Nat → World → World → Prop) (V : Nat → Value → World → Prop) (F : Nat → Bool) (hb : backEdges ops = true) (hd : dstsApart ops.toList = true)
    (hst : ∀ i j v w w', i ≠ j → anc ops ops.size i j = false → needed ops F i j = true → V j v w → I w → R i w w' → V j v w') (hI : I w0.drew)
    (step : StepsFrom P ops Q a0 I R V ops.toList 0)
    (fin : ∀ ys w, I w → (∀ j, j < ops.size → F j = true → V j (ys j) w) → Q .normal (putsFrom ys ops.toList 0 a0) w) : (Code.region id ops true).wp P Q a0 w0 := by
  refine wp_region_any hm ?_
  have h0 : putsFrom (nowOf ops a0) ops.toList 0 a0 = a0 := puts_now a0 ops.toList 0 (fun i o d hi hdo => by
    rw [Array.getElem?_toList] at hi
    simp only [nowOf, Nat.zero_add, hi, Option.bind_some, hdo])
  have hno : ∀ j, (Array.replicate ops.size false).getD j false = false := fun j => by
    by_cases e : j < ops.size <;> simp [Array.getD, e]
  have h := flow_any (P := P) (Q := Q) (F := F) hb hd hst (fun i o ho => by
    have := steps_of ops.toList 0 step i o (by rw [Array.getElem?_toList]; exact ho)
    rwa [Nat.zero_add] at this) fin ops.size (Array.replicate ops.size false) (nowOf ops a0) w0.drew (by simp) ?_ (fun j o _ hj => by rw [hno] at hj; cases hj) hI (fun j hj => by rw [hno] at hj; cases hj)
  · rw [h0] at h
    exact h
  · have : ∀ (n : Nat) (l : Array Bool), unl n l ≤ n := fun n l => by
      induction n with
      | zero => exact Nat.le_refl _
      | succ n ih => simp only [unl]; split <;> omega
    exact this _ _
end
end Go.Proofs.YtoobjjpheegmdaaGreat.E4
namespace Go.Proofs.YtoobjjpheegmdaaGreat.E4
open Go.RowKit Go
set_option maxHeartbeats 400000 in
theorem isNaN_str (x : ByteArray) (w : World) : Calls Tryz.prog 135 #[.string x] w fun e w' => e = .returned (.bool false) ∧ w' = w := by
  go_enter Tryz.func135, Tryz.ntmps135
  go_wp2
  go_ret
  exact ⟨by simp, rfl⟩
set_option maxHeartbeats 1000000 in
theorem cmp_str (x y : ByteArray) (w : World) : Calls Tryz.prog 122 #[.string x, .string y] w fun e w' => e = .returned (.int .i64 (strC x y)) ∧ w' = w := by
  have hl := less_strC x y
  have he := eq_strC x y
  have ht := strC_lc.tri x y
  generalize strC x y = c at hl he ht ⊢
  rcases ht with rfl | rfl | rfl
  all_goals
    simp only [Int.reduceNeg, Int.reduceEq, decide_true, decide_false] at hl he
    go_enter Tryz.func122, Tryz.ntmps122
    go_wp2_with (go_at_call 135; refine (isNaN_str _ _).mono ?_; rintro e w' ⟨rfl, rfl⟩)
    go_ret
    exact ⟨rfl, rfl⟩
theorem cmp_int (x y : Int) (w : World) : Calls Tryz.prog 119 #[.int .i64 x, .int .i64 y] w fun e w' => e = .returned (.int .i64 (intC x y)) ∧ w' = w := Tryz.cmp_Compare_int x y w
theorem firstNZ_drop (xs : List Int) (k : Nat) (hk : k < xs.length) : firstNZ (xs.drop k) = orI (xs.getD k 0) (firstNZ (xs.drop (k + 1))) := by
  rw [List.drop_eq_getElem_cons hk]
  simp [firstNZ, List.getD, hk]
set_option maxHeartbeats 2000000 in
theorem or_any (g o c : Nat) (xs : List Int) (hx : xs.length ≤ 1000) (w : World) (h : ∀ i, i < xs.length → w.cell? ⟨g, o + i, none⟩ = some (.int .i64 (xs.getD i 0))) :
    Calls Tryz.prog 118 #[.slice (some ⟨g, o, none⟩) xs.length c] w fun e w' => e = .returned (.int .i64 (firstNZ xs)) ∧ w' = w := by
  have HH := Lib.hid h
  clear h
  go_enter Tryz.func118, Tryz.ntmps118
  go_wp2_with fail
  go_loopw [8] (fun vi wr => ∃ k : Nat, vi = .int .i64 k ∧ k ≤ xs.length ∧ wr = w ∧ firstNZ xs = firstNZ (xs.drop k)) (fun vi _ => xs.length - (intOf vi).toNat)
  case atStart => exact ⟨0, rfl, Nat.zero_le _, rfl, by simp⟩
  case round =>
    obtain ⟨k, rfl, hk, rfl, hz⟩ := hrel
    have HZ := Lib.hid hz
    clear hz
    by_cases hlt : k < xs.length
    · have hc := HH.out k hlt
      have hd := Lib.hid (firstNZ_drop xs k hlt)
      generalize xs.getD k 0 = x at hc hd
      by_cases h0 : x = 0
      · subst h0
        go_wp2_with fail
        go_roundw
        case rel => exact ⟨k + 1, by go_num, by omega, by trivial, by rw [HZ.out, hd.out]; simp [orI]⟩
        case measure => simp [intOf]; omega
      · have H0 := Lib.hid h0
        have e0 : (x == 0) = false := by simpa using h0
        clear h0
        go_wp2_with fail
        go_ret
        exact ⟨by rw [HZ.out, hd.out]; simp [orI, H0.out], rfl⟩
    · obtain rfl : k = xs.length := by omega
      go_wp2_with fail
      go_ret
      exact ⟨by rw [HZ.out]; simp [firstNZ], rfl⟩
def LV (x y : Lab) (s : Nat) : Nat → Value → World → Prop
  | 0, v, _ => v = .pointer (some ⟨s, 0, none⟩)
  | 1, v, _ => v = .string x.n
  | 2, v, _ => v = .pointer (some ⟨s + 1, 0, none⟩)
  | 3, v, _ => v = .string y.n
  | 4, v, _ => v = .int .i64 (strC x.n y.n)
  | 5, v, _ => v = .pointer (some ⟨s, 1, none⟩)
  | 6, v, _ => v = .string x.v
  | 7, v, _ => v = .pointer (some ⟨s + 1, 1, none⟩)
  | 8, v, _ => v = .string y.v
  | 9, v, _ => v = .int .i64 (strC x.v y.v)
  | 10, v, W => ∃ g, v = .slice (some ⟨g, 0, none⟩) 2 2 ∧ g < W.heap.size ∧ W.cell? ⟨g, 0, none⟩ = some (.int .i64 (strC x.n y.n)) ∧ W.cell? ⟨g, 1, none⟩ = some (.int .i64 (strC x.v y.v))
  | _, v, _ => v = .int .i64 (labC x y)
theorem LV.lay {x y : Lab} {s j : Nat} {v : Value} {W W' : World} (h : LV x y s j v W) (hl : Lay W W') : LV x y s j v W' := by
  by_cases j10 : j = 10
  · subst j10
    obtain ⟨g, hg, hlt, k0, k1⟩ := h
    exact ⟨g, hg, Nat.lt_of_lt_of_le hlt hl.size, (hl.cell hlt).trans k0, (hl.cell hlt).trans k1⟩
  · unfold LV at h ⊢
    split at h <;> first | exact h | exact absurd rfl j10
set_option maxHeartbeats 4000000 in
set_option maxRecDepth 100000 in
theorem cmp_lab (x y : Lab) (w : World) : Calls Tryz.prog 121 #[x.val, y.val] w fun e w' => e = .returned (.int .i64 (labC x y)) ∧ Lay w w' := by
  have hL : Lay w ((w.alloc (.cells #[.string x.n, .string x.v] 86)).alloc (.cells #[.string y.n, .string y.v] 86)) := ((Keep.refl _ _).alloc _).alloc _
  have c0 : ((w.alloc (.cells #[.string x.n, .string x.v] 86)).alloc (.cells #[.string y.n, .string y.v] 86)).cell? ⟨w.heap.size, 0, none⟩ = some (.string x.n) := by go_simp
  have c1 : ((w.alloc (.cells #[.string x.n, .string x.v] 86)).alloc (.cells #[.string y.n, .string y.v] 86)).cell? ⟨w.heap.size, 1, none⟩ = some (.string x.v) := by go_simp
  have d0 : ((w.alloc (.cells #[.string x.n, .string x.v] 86)).alloc (.cells #[.string y.n, .string y.v] 86)).cell? ⟨w.heap.size + 1, 0, none⟩ = some (.string y.n) := by go_simp
  have d1 : ((w.alloc (.cells #[.string x.n, .string x.v] 86)).alloc (.cells #[.string y.n, .string y.v] 86)).cell? ⟨w.heap.size + 1, 1, none⟩ = some (.string y.v) := by go_simp
  have hlt1 : w.heap.size + 1 < ((w.alloc (.cells #[.string x.n, .string x.v] 86)).alloc (.cells #[.string y.n, .string y.v] 86)).heap.size := by simp
  have hlt0 : w.heap.size < ((w.alloc (.cells #[.string x.n, .string x.v] 86)).alloc (.cells #[.string y.n, .string y.v] 86)).heap.size := by omega
  have HL := Lib.hid hL
  unfold Lab.val
  go_enter Tryz.func121, Tryz.ntmps121
  go_wp2_with fail
  clear hL
  generalize (w.alloc (.cells #[.string x.n, .string x.v] 86)).alloc (.cells #[.string y.n, .string y.v] 86) = W0 at *
  refine wp_region_flow (by kernel_rfl) (fun W => Lay W0 W) (fun _ W W' => Lay W W') (LV x y w.heap.size) (fun j => j == 12) (by kernel_rfl) (by kernel_rfl) (fun _ _ _ _ _ _ _ _ h _ hl => h.lay hl) (Keep.refl _ _).drew ?step ?fin
  case step =>
    refine ⟨?_, ?_, ?_, ?_, ?_, ?_, ?_, ?_, ?_, ?_, ?_, ?_, ?_, trivial⟩
    · intro ys A W hA hI hd K hK
      have e2 : A.tmps.getD 2 undef = .pointer (some ⟨w.heap.size, 0, none⟩) := hA 2 (Nat.le_of_ble_eq_true rfl)
      refine step_run (.inl rfl) ?_
      clear hA hd
      go_simp
      exact hK _ _ hI (Keep.refl _ _) rfl
    · intro ys A W hA hI hd K hK
      have e5 : A.tmps.getD 5 undef = .pointer (some ⟨w.heap.size, 0, none⟩) := (hA 5 (Nat.le_of_ble_eq_true rfl)).trans (hd ⟨0, .data⟩ (by simp) rfl)
      refine step_run (.inl rfl) ?_
      clear hA hd
      have k0 := (Lay.cell hI hlt0).trans c0
      go_simp
      exact hK _ _ hI (Keep.refl _ _) rfl
    · intro ys A W hA hI hd K hK
      have e3 : A.tmps.getD 3 undef = .pointer (some ⟨w.heap.size + 1, 0, none⟩) := hA 3 (Nat.le_of_ble_eq_true rfl)
      refine step_run (.inl rfl) ?_
      clear hA hd
      go_simp
      exact hK _ _ hI (Keep.refl _ _) rfl
    · intro ys A W hA hI hd K hK
      have e7 : A.tmps.getD 7 undef = .pointer (some ⟨w.heap.size + 1, 0, none⟩) := (hA 7 (Nat.le_of_ble_eq_true rfl)).trans (hd ⟨2, .data⟩ (by simp) rfl)
      refine step_run (.inl rfl) ?_
      clear hA hd
      have k0 := (Lay.cell hI hlt1).trans d0
      go_simp
      exact hK _ _ hI (Keep.refl _ _) rfl
    · intro ys A W hA hI hd K hK
      have e6 : A.tmps.getD 6 undef = .string x.n := (hA 6 (Nat.le_of_ble_eq_true rfl)).trans (hd ⟨1, .data⟩ (by simp) rfl)
      have e8 : A.tmps.getD 8 undef = .string y.n := (hA 8 (Nat.le_of_ble_eq_true rfl)).trans (hd ⟨3, .data⟩ (by simp) rfl)
      refine step_run (.inl rfl) ?_
      clear hA hd
      go_simp
      refine (cmp_str _ _ _).mono ?_
      rintro e w' ⟨rfl, rfl⟩
      exact hK _ _ hI (Keep.refl _ _) rfl
    · intro ys A W hA hI hd K hK
      have e2 : A.tmps.getD 2 undef = .pointer (some ⟨w.heap.size, 0, none⟩) := hA 2 (Nat.le_of_ble_eq_true rfl)
      refine step_run (.inl rfl) ?_
      clear hA hd
      go_simp
      exact hK _ _ hI (Keep.refl _ _) rfl
    · intro ys A W hA hI hd K hK
      have e10 : A.tmps.getD 10 undef = .pointer (some ⟨w.heap.size, 1, none⟩) := (hA 10 (Nat.le_of_ble_eq_true rfl)).trans (hd ⟨5, .data⟩ (by simp) rfl)
      refine step_run (.inl rfl) ?_
      clear hA hd
      have k0 := (Lay.cell hI hlt0).trans c1
      go_simp
      exact hK _ _ hI (Keep.refl _ _) rfl
    · intro ys A W hA hI hd K hK
      have e3 : A.tmps.getD 3 undef = .pointer (some ⟨w.heap.size + 1, 0, none⟩) := hA 3 (Nat.le_of_ble_eq_true rfl)
      refine step_run (.inl rfl) ?_
      clear hA hd
      go_simp
      exact hK _ _ hI (Keep.refl _ _) rfl
    · intro ys A W hA hI hd K hK
      have e12 : A.tmps.getD 12 undef = .pointer (some ⟨w.heap.size + 1, 1, none⟩) := (hA 12 (Nat.le_of_ble_eq_true rfl)).trans (hd ⟨7, .data⟩ (by simp) rfl)
      refine step_run (.inl rfl) ?_
      clear hA hd
      have k0 := (Lay.cell hI hlt1).trans d1
      go_simp
      exact hK _ _ hI (Keep.refl _ _) rfl
    · intro ys A W hA hI hd K hK
      have e11 : A.tmps.getD 11 undef = .string x.v := (hA 11 (Nat.le_of_ble_eq_true rfl)).trans (hd ⟨6, .data⟩ (by simp) rfl)
      have e13 : A.tmps.getD 13 undef = .string y.v := (hA 13 (Nat.le_of_ble_eq_true rfl)).trans (hd ⟨8, .data⟩ (by simp) rfl)
      refine step_run (.inl rfl) ?_
      clear hA hd
      go_simp
      refine (cmp_str _ _ _).mono ?_
      rintro e w' ⟨rfl, rfl⟩
      exact hK _ _ hI (Keep.refl _ _) rfl
    · intro ys A W hA hI hd K hK
      have e9 : A.tmps.getD 9 undef = .int .i64 (strC x.n y.n) := (hA 9 (Nat.le_of_ble_eq_true rfl)).trans (hd ⟨4, .data⟩ (by simp) rfl)
      have e14 : A.tmps.getD 14 undef = .int .i64 (strC x.v y.v) := (hA 14 (Nat.le_of_ble_eq_true rfl)).trans (hd ⟨9, .data⟩ (by simp) rfl)
      refine step_run (.inl rfl) ?_
      clear hA hd
      have f9 : A.tmps[9]?.getD undef = _ := Array.getD_eq_getD_getElem?.symm.trans e9
      have f14 : A.tmps[14]?.getD undef = _ := Array.getD_eq_getD_getElem?.symm.trans e14
      go_simp
      exact hK _ _ (Keep.alloc hI (.cells #[.int .i64 (strC x.n y.n), .int .i64 (strC x.v y.v)] 3)) ((Keep.refl _ _).alloc _) ⟨W.heap.size, rfl, by simp, by go_simp, by go_simp⟩
    · intro ys A W hA hI hd K hK
      have e15 : A.tmps.getD 15 undef = ys 10 := hA 15 (Nat.le_of_ble_eq_true rfl)
      obtain ⟨g, hg, hlt, k0, k1⟩ : ∃ g, ys 10 = .slice (some ⟨g, 0, none⟩) 2 2 ∧ g < W.heap.size ∧ W.cell? ⟨g, 0, none⟩ = some (.int .i64 (strC x.n y.n)) ∧ W.cell? ⟨g, 1, none⟩ = some (.int .i64 (strC x.v y.v)) := hd ⟨10, .data⟩ (by simp) rfl
      rw [hg] at e15
      refine step_run (.inl rfl) ?_
      clear hA hd
      go_simp
      refine (or_any g 0 2 [strC x.n y.n, strC x.v y.v] (by simp) W ?_).mono ?_
      · intro i hi
        match i, hi with
        | 0, _ => exact k0
        | 1, _ => exact k1
      rintro e w' ⟨rfl, rfl⟩
      exact hK _ _ hI (Keep.refl _ _) (by rw [firstNZ2]; rfl)
    · intro ys A W hA hI hd K hK
      have e16 : A.tmps.getD 16 undef = .int .i64 (labC x y) := (hA 16 (Nat.le_of_ble_eq_true rfl)).trans (hd ⟨11, .data⟩ (by simp) rfl)
      refine step_run (.inl rfl) ?_
      clear hA hd
      go_simp
      exact hK _ _ hI (Keep.refl _ _) rfl
  case fin =>
    intro ys W hI hF
    have hv : ys 12 = .int .i64 (labC x y) := hF 12 (Nat.le_of_ble_eq_true rfl) rfl
    have HI := Lib.hid hI
    clear hI hF
    simp only [putsFrom]
    simp only [hv, Act.put, List.setIfInBounds_toArray, List.set_cons_succ, List.set_cons_zero]
    go_wp2_with fail
    go_ret
    exact ⟨rfl, Keep.trans HL.out HI.out⟩
set_option maxHeartbeats 4000000 in
theorem cmp_labs {G H : Nat → Prop} {w : World} {xl yl : Value} {xs ys : List Lab} (hx : LabsAt G w xl xs) (hy : LabsAt H w yl ys) :
    Calls Tryz.prog 120 #[xl, yl, .func (.func 121) #[] #[]] w fun e w' => e = .returned (.int .i64 (listC labC xs ys)) ∧ Lay w w' := by
  obtain ⟨a, ca, rfl, hlx, ha⟩ := hx
  obtain ⟨b, cb, rfl, hly, hb⟩ := hy
  have HA := Lib.hid ha
  have HB := Lib.hid hb
  clear ha hb
  go_enter Tryz.func120, Tryz.ntmps120
  go_wp2_with fail
  go_loopw [13] (fun vi wr => ∃ k : Nat, vi = .int .i64 k ∧ k ≤ xs.length ∧ k ≤ ys.length ∧ Lay w wr ∧ listC labC xs ys = listC labC (xs.drop k) (ys.drop k)) (fun vi _ => xs.length - (intOf vi).toNat)
  case atStart => exact ⟨0, rfl, Nat.zero_le _, Nat.zero_le _, Keep.refl _ _, by simp⟩
  case round =>
    obtain ⟨k, rfl, hk, hky, hl, hz⟩ := hrel
    have HZ := Lib.hid hz
    have HL := Lib.hid hl
    clear hz
    by_cases hlt : k < xs.length
    · rcases HA.out with h0 | ⟨bx, ox, rfl, hgx, hbx, hcx⟩
      · exact absurd hlt (by rw [h0]; simp)
      obtain ⟨x0, x1⟩ := hcx k hlt
      have g0 := (hl.cell hbx).trans x0
      have g1 := (hl.cell hbx).trans x1
      have hdx := Lib.hid (List.drop_eq_getElem_cons hlt)
      generalize hx : xs[k] = x at g0 g1 hdx
      clear x0 x1 hcx hx
      by_cases hlty : k < ys.length
      · rcases HB.out with h0 | ⟨by', oy, rfl, hgy, hby, hcy⟩
        · exact absurd hlty (by rw [h0]; simp)
        obtain ⟨y0, y1⟩ := hcy k hlty
        have k0 := (hl.cell hby).trans y0
        have k1 := (hl.cell hby).trans y1
        have hdy := Lib.hid (List.drop_eq_getElem_cons hlty)
        generalize hy : ys[k] = y at k0 k1 hdy
        have hbw : by' < wr.heap.size := Nat.lt_of_lt_of_le hby hl.size
        clear y0 y1 hcy hy hl
        go_wp2_with fail
        refine (cmp_lab x y _).mono ?_
        rintro e w' ⟨rfl, hl2⟩
        have HL2 := Lib.hid (Keep.trans ((HL.out.alloc _).alloc _) hl2)
        clear hl2
        by_cases h0 : labC x y = 0
        · have H0 := Lib.hid h0
          rw [h0]
          clear h0
          go_wp2_with fail
          go_roundw
          case rel => exact ⟨k + 1, by go_num, by omega, by omega, HL2.out, by rw [HZ.out, hdx.out, hdy.out]; simp [listC, orI, H0.out]⟩
          case measure => simp [intOf]; omega
        · have H0 := Lib.hid h0
          have e0 : (labC x y == 0) = false := by simpa using h0
          clear h0
          go_wp2_with fail
          go_ret
          refine ⟨?_, HL2.out⟩
          rw [HZ.out, hdx.out, hdy.out]
          simp [listC, orI, H0.out]
      · obtain rfl : k = ys.length := by omega
        go_wp2_with fail
        go_ret
        refine ⟨?_, Keep.alloc HL.out _⟩
        rw [HZ.out, hdx.out]
        simp [listC]
    · obtain rfl : k = xs.length := by omega
      by_cases hlty : xs.length < ys.length
      · go_wp2_with fail
        go_ret
        refine ⟨?_, HL.out⟩
        rw [HZ.out, List.drop_length, List.drop_eq_getElem_cons hlty]
        simp [listC]
      · have he : xs.length = ys.length := by omega
        go_wp2_with fail
        go_ret
        refine ⟨?_, HL.out⟩
        rw [HZ.out, List.drop_length, he, List.drop_length]
        simp [listC]
def EV (x y : Ent) (xl yl : Value) (s : Nat) : Nat → Value → World → Prop
  | 0, v, _ => v = .pointer (some ⟨s, 0, none⟩)
  | 1, v, _ => v = .int .i64 x.tm
  | 2, v, _ => v = .pointer (some ⟨s + 1, 0, none⟩)
  | 3, v, _ => v = .int .i64 y.tm
  | 4, v, _ => v = .int .i64 (intC x.tm y.tm)
  | 5, v, _ => v = .pointer (some ⟨s, 1, none⟩)
  | 6, v, _ => v = xl
  | 7, v, _ => v = .pointer (some ⟨s + 1, 1, none⟩)
  | 8, v, _ => v = yl
  | 9, v, _ => v = .int .i64 (listC labC x.labs y.labs)
  | 10, v, _ => v = .pointer (some ⟨s, 2, none⟩)
  | 11, v, _ => v = .string x.line
  | 12, v, _ => v = .pointer (some ⟨s + 1, 2, none⟩)
  | 13, v, _ => v = .string y.line
  | 14, v, _ => v = .int .i64 (strC x.line y.line)
  | 15, v, W => ∃ g, v = .slice (some ⟨g, 0, none⟩) 3 3 ∧ g < W.heap.size ∧ W.cell? ⟨g, 0, none⟩ = some (.int .i64 (intC x.tm y.tm)) ∧ W.cell? ⟨g, 1, none⟩ = some (.int .i64 (listC labC x.labs y.labs)) ∧ W.cell? ⟨g, 2, none⟩ = some (.int .i64 (strC x.line y.line))
  | _, v, _ => v = .int .i64 (entC x y)
theorem EV.lay {x y : Ent} {xl yl : Value} {s j : Nat} {v : Value} {W W' : World} (h : EV x y xl yl s j v W) (hl : Lay W W') : EV x y xl yl s j v W' := by
  by_cases j15 : j = 15
  · subst j15
    obtain ⟨g, hg, hlt, k0, k1, k2⟩ := h
    exact ⟨g, hg, Nat.lt_of_lt_of_le hlt hl.size, (hl.cell hlt).trans k0, (hl.cell hlt).trans k1, (hl.cell hlt).trans k2⟩
  · unfold EV at h ⊢
    split at h <;> first | exact h | exact absurd rfl j15
set_option maxHeartbeats 4000000 in
set_option maxRecDepth 100000 in
theorem compare_any {G H : Nat → Prop} {w : World} {x y : Ent} {xl yl : Value} (hx : LabsAt G w xl x.labs) (hy : LabsAt H w yl y.labs) :
    Calls Tryz.prog 109 #[x.val xl, y.val yl] w fun e w' => e = .returned (.int .i64 (entC x y)) ∧ Lay w w' := by
  obtain ⟨ax, cx, rfl, _, _⟩ := id hx
  obtain ⟨ay, cy, rfl, _, _⟩ := id hy
  have hL : Lay w ((w.alloc (.cells #[.int .i64 x.tm, .slice ax x.labs.length cx, .string x.line] 32)).alloc (.cells #[.int .i64 y.tm, .slice ay y.labs.length cy, .string y.line] 32)) := ((Keep.refl _ _).alloc _).alloc _
  have c0 : ((w.alloc (.cells #[.int .i64 x.tm, .slice ax x.labs.length cx, .string x.line] 32)).alloc (.cells #[.int .i64 y.tm, .slice ay y.labs.length cy, .string y.line] 32)).cell? ⟨w.heap.size, 0, none⟩ = some (.int .i64 x.tm) := by go_simp
  have c1 : ((w.alloc (.cells #[.int .i64 x.tm, .slice ax x.labs.length cx, .string x.line] 32)).alloc (.cells #[.int .i64 y.tm, .slice ay y.labs.length cy, .string y.line] 32)).cell? ⟨w.heap.size, 1, none⟩ = some (.slice ax x.labs.length cx) := by go_simp
  have c2 : ((w.alloc (.cells #[.int .i64 x.tm, .slice ax x.labs.length cx, .string x.line] 32)).alloc (.cells #[.int .i64 y.tm, .slice ay y.labs.length cy, .string y.line] 32)).cell? ⟨w.heap.size, 2, none⟩ = some (.string x.line) := by go_simp
  have d0 : ((w.alloc (.cells #[.int .i64 x.tm, .slice ax x.labs.length cx, .string x.line] 32)).alloc (.cells #[.int .i64 y.tm, .slice ay y.labs.length cy, .string y.line] 32)).cell? ⟨w.heap.size + 1, 0, none⟩ = some (.int .i64 y.tm) := by go_simp
  have d1 : ((w.alloc (.cells #[.int .i64 x.tm, .slice ax x.labs.length cx, .string x.line] 32)).alloc (.cells #[.int .i64 y.tm, .slice ay y.labs.length cy, .string y.line] 32)).cell? ⟨w.heap.size + 1, 1, none⟩ = some (.slice ay y.labs.length cy) := by go_simp
  have d2 : ((w.alloc (.cells #[.int .i64 x.tm, .slice ax x.labs.length cx, .string x.line] 32)).alloc (.cells #[.int .i64 y.tm, .slice ay y.labs.length cy, .string y.line] 32)).cell? ⟨w.heap.size + 1, 2, none⟩ = some (.string y.line) := by go_simp
  have hlt1 : w.heap.size + 1 < ((w.alloc (.cells #[.int .i64 x.tm, .slice ax x.labs.length cx, .string x.line] 32)).alloc (.cells #[.int .i64 y.tm, .slice ay y.labs.length cy, .string y.line] 32)).heap.size := by simp
  have hlt0 : w.heap.size < ((w.alloc (.cells #[.int .i64 x.tm, .slice ax x.labs.length cx, .string x.line] 32)).alloc (.cells #[.int .i64 y.tm, .slice ay y.labs.length cy, .string y.line] 32)).heap.size := by omega
  have HL := Lib.hid hL
  have HX := Lib.hid (hx.lay hL)
  have HY := Lib.hid (hy.lay hL)
  unfold Ent.val
  clear hx hy
  go_enter Tryz.func109, Tryz.ntmps109
  go_wp2_with fail
  clear hL
  generalize (w.alloc (.cells #[.int .i64 x.tm, .slice ax x.labs.length cx, .string x.line] 32)).alloc (.cells #[.int .i64 y.tm, .slice ay y.labs.length cy, .string y.line] 32) = W0 at *
  refine wp_region_flow (by kernel_rfl) (fun W => Lay W0 W) (fun _ W W' => Lay W W') (EV x y (.slice ax x.labs.length cx) (.slice ay y.labs.length cy) w.heap.size) (fun j => j == 17) (by kernel_rfl) (by kernel_rfl) (fun _ _ _ _ _ _ _ _ h _ hl => h.lay hl) (Keep.refl _ _).drew ?step ?fin
  case step =>
    refine ⟨?_, ?_, ?_, ?_, ?_, ?_, ?_, ?_, ?_, ?_, ?_, ?_, ?_, ?_, ?_, ?_, ?_, ?_, trivial⟩
    · intro ys A W hA hI hd K hK
      have e2 : A.tmps.getD 2 undef = .pointer (some ⟨w.heap.size, 0, none⟩) := hA 2 (Nat.le_of_ble_eq_true rfl)
      refine step_run (.inl rfl) ?_
      clear hA hd
      go_simp
      exact hK _ _ hI (Keep.refl _ _) rfl
    · intro ys A W hA hI hd K hK
      have e5 : A.tmps.getD 5 undef = .pointer (some ⟨w.heap.size, 0, none⟩) := (hA 5 (Nat.le_of_ble_eq_true rfl)).trans (hd ⟨0, .data⟩ (by simp) rfl)
      refine step_run (.inl rfl) ?_
      clear hA hd
      have k0 := (Lay.cell hI hlt0).trans c0
      go_simp
      exact hK _ _ hI (Keep.refl _ _) rfl
    · intro ys A W hA hI hd K hK
      have e3 : A.tmps.getD 3 undef = .pointer (some ⟨w.heap.size + 1, 0, none⟩) := hA 3 (Nat.le_of_ble_eq_true rfl)
      refine step_run (.inl rfl) ?_
      clear hA hd
      go_simp
      exact hK _ _ hI (Keep.refl _ _) rfl
    · intro ys A W hA hI hd K hK
      have e7 : A.tmps.getD 7 undef = .pointer (some ⟨w.heap.size + 1, 0, none⟩) := (hA 7 (Nat.le_of_ble_eq_true rfl)).trans (hd ⟨2, .data⟩ (by simp) rfl)
      refine step_run (.inl rfl) ?_
      clear hA hd
      have k0 := (Lay.cell hI hlt1).trans d0
      go_simp
      exact hK _ _ hI (Keep.refl _ _) rfl
    · intro ys A W hA hI hd K hK
      have e6 : A.tmps.getD 6 undef = .int .i64 x.tm := (hA 6 (Nat.le_of_ble_eq_true rfl)).trans (hd ⟨1, .data⟩ (by simp) rfl)
      have e8 : A.tmps.getD 8 undef = .int .i64 y.tm := (hA 8 (Nat.le_of_ble_eq_true rfl)).trans (hd ⟨3, .data⟩ (by simp) rfl)
      refine step_run (.inl rfl) ?_
      clear hA hd
      go_simp
      refine (cmp_int _ _ _).mono ?_
      rintro e w' ⟨rfl, rfl⟩
      exact hK _ _ hI (Keep.refl _ _) rfl
    · intro ys A W hA hI hd K hK
      have e2 : A.tmps.getD 2 undef = .pointer (some ⟨w.heap.size, 0, none⟩) := hA 2 (Nat.le_of_ble_eq_true rfl)
      refine step_run (.inl rfl) ?_
      clear hA hd
      go_simp
      exact hK _ _ hI (Keep.refl _ _) rfl
    · intro ys A W hA hI hd K hK
      have e10 : A.tmps.getD 10 undef = .pointer (some ⟨w.heap.size, 1, none⟩) := (hA 10 (Nat.le_of_ble_eq_true rfl)).trans (hd ⟨5, .data⟩ (by simp) rfl)
      refine step_run (.inl rfl) ?_
      clear hA hd
      have k0 := (Lay.cell hI hlt0).trans c1
      go_simp
      exact hK _ _ hI (Keep.refl _ _) rfl
    · intro ys A W hA hI hd K hK
      have e3 : A.tmps.getD 3 undef = .pointer (some ⟨w.heap.size + 1, 0, none⟩) := hA 3 (Nat.le_of_ble_eq_true rfl)
      refine step_run (.inl rfl) ?_
      clear hA hd
      go_simp
      exact hK _ _ hI (Keep.refl _ _) rfl
    · intro ys A W hA hI hd K hK
      have e12 : A.tmps.getD 12 undef = .pointer (some ⟨w.heap.size + 1, 1, none⟩) := (hA 12 (Nat.le_of_ble_eq_true rfl)).trans (hd ⟨7, .data⟩ (by simp) rfl)
      refine step_run (.inl rfl) ?_
      clear hA hd
      have k0 := (Lay.cell hI hlt1).trans d1
      go_simp
      exact hK _ _ hI (Keep.refl _ _) rfl
    · intro ys A W hA hI hd K hK
      have e11 : A.tmps.getD 11 undef = .slice ax x.labs.length cx := (hA 11 (Nat.le_of_ble_eq_true rfl)).trans (hd ⟨6, .data⟩ (by simp) rfl)
      have e13 : A.tmps.getD 13 undef = .slice ay y.labs.length cy := (hA 13 (Nat.le_of_ble_eq_true rfl)).trans (hd ⟨8, .data⟩ (by simp) rfl)
      refine step_run (.inl rfl) ?_
      clear hA hd
      go_simp
      refine (cmp_labs ((HX.out).lay hI) ((HY.out).lay hI)).mono ?_
      rintro e w' ⟨rfl, hl⟩
      exact hK _ _ (Keep.trans hI hl) hl rfl
    · intro ys A W hA hI hd K hK
      have e2 : A.tmps.getD 2 undef = .pointer (some ⟨w.heap.size, 0, none⟩) := hA 2 (Nat.le_of_ble_eq_true rfl)
      refine step_run (.inl rfl) ?_
      clear hA hd
      go_simp
      exact hK _ _ hI (Keep.refl _ _) rfl
    · intro ys A W hA hI hd K hK
      have e15 : A.tmps.getD 15 undef = .pointer (some ⟨w.heap.size, 2, none⟩) := (hA 15 (Nat.le_of_ble_eq_true rfl)).trans (hd ⟨10, .data⟩ (by simp) rfl)
      refine step_run (.inl rfl) ?_
      clear hA hd
      have k0 := (Lay.cell hI hlt0).trans c2
      go_simp
      exact hK _ _ hI (Keep.refl _ _) rfl
    · intro ys A W hA hI hd K hK
      have e3 : A.tmps.getD 3 undef = .pointer (some ⟨w.heap.size + 1, 0, none⟩) := hA 3 (Nat.le_of_ble_eq_true rfl)
      refine step_run (.inl rfl) ?_
      clear hA hd
      go_simp
      exact hK _ _ hI (Keep.refl _ _) rfl
    · intro ys A W hA hI hd K hK
      have e17 : A.tmps.getD 17 undef = .pointer (some ⟨w.heap.size + 1, 2, none⟩) := (hA 17 (Nat.le_of_ble_eq_true rfl)).trans (hd ⟨12, .data⟩ (by simp) rfl)
      refine step_run (.inl rfl) ?_
      clear hA hd
      have k0 := (Lay.cell hI hlt1).trans d2
      go_simp
      exact hK _ _ hI (Keep.refl _ _) rfl
    · intro ys A W hA hI hd K hK
      have e16 : A.tmps.getD 16 undef = .string x.line := (hA 16 (Nat.le_of_ble_eq_true rfl)).trans (hd ⟨11, .data⟩ (by simp) rfl)
      have e18 : A.tmps.getD 18 undef = .string y.line := (hA 18 (Nat.le_of_ble_eq_true rfl)).trans (hd ⟨13, .data⟩ (by simp) rfl)
      refine step_run (.inl rfl) ?_
      clear hA hd
      go_simp
      refine (cmp_str _ _ _).mono ?_
      rintro e w' ⟨rfl, rfl⟩
      exact hK _ _ hI (Keep.refl _ _) rfl
    · intro ys A W hA hI hd K hK
      have e9 : A.tmps.getD 9 undef = .int .i64 (intC x.tm y.tm) := (hA 9 (Nat.le_of_ble_eq_true rfl)).trans (hd ⟨4, .data⟩ (by simp) rfl)
      have e14 : A.tmps.getD 14 undef = .int .i64 (listC labC x.labs y.labs) := (hA 14 (Nat.le_of_ble_eq_true rfl)).trans (hd ⟨9, .data⟩ (by simp) rfl)
      have e19 : A.tmps.getD 19 undef = .int .i64 (strC x.line y.line) := (hA 19 (Nat.le_of_ble_eq_true rfl)).trans (hd ⟨14, .data⟩ (by simp) rfl)
      refine step_run (.inl rfl) ?_
      clear hA hd
      have f9 : A.tmps[9]?.getD undef = _ := Array.getD_eq_getD_getElem?.symm.trans e9
      have f14 : A.tmps[14]?.getD undef = _ := Array.getD_eq_getD_getElem?.symm.trans e14
      have f19 : A.tmps[19]?.getD undef = _ := Array.getD_eq_getD_getElem?.symm.trans e19
      go_simp
      exact hK _ _ (Keep.alloc hI (.cells #[.int .i64 (intC x.tm y.tm), .int .i64 (listC labC x.labs y.labs), .int .i64 (strC x.line y.line)] 3)) ((Keep.refl _ _).alloc _) ⟨W.heap.size, rfl, by simp, by go_simp, by go_simp, by go_simp⟩
    · intro ys A W hA hI hd K hK
      have e20 : A.tmps.getD 20 undef = ys 15 := hA 20 (Nat.le_of_ble_eq_true rfl)
      obtain ⟨g, hg, hlt, k0, k1, k2⟩ : ∃ g, ys 15 = .slice (some ⟨g, 0, none⟩) 3 3 ∧ g < W.heap.size ∧ W.cell? ⟨g, 0, none⟩ = some (.int .i64 (intC x.tm y.tm)) ∧ W.cell? ⟨g, 1, none⟩ = some (.int .i64 (listC labC x.labs y.labs)) ∧ W.cell? ⟨g, 2, none⟩ = some (.int .i64 (strC x.line y.line)) := hd ⟨15, .data⟩ (by simp) rfl
      rw [hg] at e20
      refine step_run (.inl rfl) ?_
      clear hA hd
      go_simp
      refine (or_any g 0 3 [intC x.tm y.tm, listC labC x.labs y.labs, strC x.line y.line] (by simp) W ?_).mono ?_
      · intro i hi
        match i, hi with
        | 0, _ => exact k0
        | 1, _ => exact k1
        | 2, _ => exact k2
      rintro e w' ⟨rfl, rfl⟩
      exact hK _ _ hI (Keep.refl _ _) (by rw [firstNZ3]; rfl)
    · intro ys A W hA hI hd K hK
      have e21 : A.tmps.getD 21 undef = .int .i64 (entC x y) := (hA 21 (Nat.le_of_ble_eq_true rfl)).trans (hd ⟨16, .data⟩ (by simp) rfl)
      refine step_run (.inl rfl) ?_
      clear hA hd
      go_simp
      exact hK _ _ hI (Keep.refl _ _) rfl
  case fin =>
    intro ys W hI hF
    have hv : ys 17 = .int .i64 (entC x y) := hF 17 (Nat.le_of_ble_eq_true rfl) rfl
    have HI := Lib.hid hI
    clear hI hF
    simp only [putsFrom]
    simp only [hv, Act.put, List.setIfInBounds_toArray, List.set_cons_succ, List.set_cons_zero]
    go_wp2_with fail
    go_ret
    exact ⟨rfl, Keep.trans HL.out HI.out⟩
end Go.Proofs.YtoobjjpheegmdaaGreat.E4
namespace Go.Proofs.YtoobjjpheegmdaaGreat.E4
open Go.RowKit Go
theorem entC_tm {x y : Ent} (h : x.tm ≠ y.tm) : decide (entC x y = -1) = decide (x.tm < y.tm) := by
  unfold entC orI
  have h0 : ¬ intC x.tm y.tm = 0 := fun e => h (intC_lc.eq _ _ e)
  rw [if_neg h0]
  rw [decide_eq_decide]
  exact intC_lt
theorem entC_rest {x y : Ent} (h : x.tm = y.tm) : entC x y = orI (listC labC x.labs y.labs) (strC x.line y.line) := by
  unfold entC
  rw [h, intC_lc.refl]
  simp [orI]
set_option maxHeartbeats 8000000 in
set_option maxRecDepth 100000 in
theorem before_any {G H : Nat → Prop} {w : World} {x y : Ent} {xl yl : Value} (hx : LabsAt G w xl x.labs) (hy : LabsAt H w yl y.labs) :
    Calls Tryz.prog 37 #[x.val xl, y.val yl] w fun e w' => e = .returned (.bool (decide (entC x y = -1))) ∧ Lay w w' := by
  obtain ⟨a, ca, rfl, hlx, ha⟩ := hx
  obtain ⟨b, cb, rfl, hly, hb⟩ := hy
  obtain ⟨xt, xs, xline⟩ := x
  obtain ⟨yt, ys, yline⟩ := y
  have HA := Lib.hid ha
  have HB := Lib.hid hb
  have HL0 : Hid (Lay w ((w.alloc (.cells #[.int .i64 xt, .slice a xs.length ca, .string xline] 32)).alloc (.cells #[.int .i64 yt, .slice b ys.length cb, .string yline] 32))) := Lib.hid (((Keep.refl _ _).alloc _).alloc _)
  unfold Ent.val
  clear ha hb
  simp only [] at hlx hly HA HB ⊢
  by_cases htm : xt = yt
  · subst htm
    have HE := Lib.hid (entC_rest (x := ⟨xt, xs, xline⟩) (y := ⟨xt, ys, yline⟩) rfl)
    have hLs := eq_strC xline yline
    have hLl := less_strC xline yline
    go_enter Tryz.func37, Tryz.ntmps37
    go_wp2_with fail
    go_loopw [5] (fun vi wr => ∃ k : Nat, vi = .int .i64 k ∧ k ≤ xs.length ∧ k ≤ ys.length ∧ Lay ((w.alloc (.cells #[.int .i64 xt, .slice a xs.length ca, .string xline] 32)).alloc (.cells #[.int .i64 xt, .slice b ys.length cb, .string yline] 32)) wr ∧ listC labC xs ys = listC labC (xs.drop k) (ys.drop k)) (fun vi _ => xs.length - (intOf vi).toNat)
    case atStart => exact ⟨0, rfl, Nat.zero_le _, Nat.zero_le _, Keep.refl _ _, by simp⟩
    case round =>
      obtain ⟨k, rfl, hk, hky, hl, hz⟩ := hrel
      have HZ := Lib.hid hz
      have x1 : wr.cell? ⟨w.heap.size, 1, none⟩ = some (.slice a xs.length ca) := (Lay.cell hl (by simp; try omega)).trans (by go_simp)
      have x2 : wr.cell? ⟨w.heap.size, 2, none⟩ = some (.string xline) := (Lay.cell hl (by simp; try omega)).trans (by go_simp)
      have y1 : wr.cell? ⟨w.heap.size + 1, 1, none⟩ = some (.slice b ys.length cb) := (Lay.cell hl (by simp; try omega)).trans (by go_simp)
      have y2 : wr.cell? ⟨w.heap.size + 1, 2, none⟩ = some (.string yline) := (Lay.cell hl (by simp; try omega)).trans (by go_simp)
      have hwr : w.heap.size + 1 < wr.heap.size := Nat.lt_of_lt_of_le (by simp) hl.size
      have hn1 : ¬ w.heap.size + 1 = wr.heap.size := by omega
      have hn2 : ¬ w.heap.size = wr.heap.size := by omega
      have hn3 : w.heap.size < wr.heap.size := by omega
      have HL := Lib.hid (Keep.trans HL0.out hl)
      have HLA := Lib.hid hl
      clear hz hl
      by_cases hlt : k < xs.length
      · by_cases hlty : k < ys.length
        · rcases HA.out with h0 | ⟨bx, ox, rfl, hgx, hbx, hcx⟩
          · exact absurd hlt (by rw [h0]; simp)
          rcases HB.out with h0 | ⟨b', oy, rfl, hgy, hby, hcy⟩
          · exact absurd hlty (by rw [h0]; simp)
          obtain ⟨u0, u1⟩ := hcx k hlt
          obtain ⟨v0, v1⟩ := hcy k hlty
          have g0 := (Lay.cell HL.out hbx).trans u0
          have g1 := (Lay.cell HL.out hbx).trans u1
          have k0 := (Lay.cell HL.out hby).trans v0
          have k1 := (Lay.cell HL.out hby).trans v1
          have hdx := Lib.hid (List.drop_eq_getElem_cons hlt)
          have hdy := Lib.hid (List.drop_eq_getElem_cons hlty)
          generalize xs[k] = x at g0 g1 hdx u0 u1
          generalize ys[k] = y at k0 k1 hdy v0 v1
          have hbw : bx < wr.heap.size := Nat.lt_of_lt_of_le hbx HL.out.size
          have hbw' : b' < wr.heap.size := Nat.lt_of_lt_of_le hby HL.out.size
          clear hcx hcy u0 u1 v0 v1 x2 y2 hLs hLl
          have hen := eq_strC x.n y.n
          have hln := less_strC x.n y.n
          have hev := eq_strC x.v y.v
          have hlv := less_strC x.v y.v
          have HLAB : Hid (labC x y = orI (strC x.n y.n) (strC x.v y.v)) := Lib.hid rfl
          have HLIST : Hid (listC labC xs ys = orI (labC x y) (listC labC (xs.drop (k + 1)) (ys.drop (k + 1)))) := Lib.hid (by rw [HZ.out, hdx.out, hdy.out]; rfl)
          generalize strC x.n y.n = r1 at hen hln HLAB
          generalize strC x.v y.v = r2 at hev hlv HLAB
          by_cases h1 : r1 = 0
          · have HLAB2 : Hid (labC x y = r2) := Lib.hid (by rw [HLAB.out, h1]; rfl)
            rw [decide_eq_true h1] at hen
            clear HLAB hln h1
            by_cases h2 : r2 = 0
            · rw [decide_eq_true h2] at hev
              have HLIST2 : Hid (listC labC xs ys = listC labC (xs.drop (k + 1)) (ys.drop (k + 1))) := Lib.hid (by rw [HLIST.out, HLAB2.out, h2]; rfl)
              clear HLAB2 hlv h2
              go_wp2_with fail
              go_region
              all_goals
                go_wp2_with fail
                go_roundw
                case rel => exact ⟨k + 1, by go_num, by omega, by omega, ((HLA.out.alloc _).alloc _).drew, HLIST2.out⟩
                case measure => simp [intOf]; omega
            · rw [decide_eq_false h2] at hev
              have HR : Hid (entC ⟨xt, xs, xline⟩ ⟨xt, ys, yline⟩ = r2) := Lib.hid (by rw [HE.out, HLIST.out, HLAB2.out]; simp [orI, h2])
              clear HLAB2 h2
              go_wp2_with fail
              go_region
              all_goals
                go_wp2_with fail
                go_ret
                exact ⟨by rw [HR.out]; rfl, ((HL.out.alloc _).alloc _).drew⟩
          · rw [decide_eq_false h1] at hen
            have HR : Hid (entC ⟨xt, xs, xline⟩ ⟨xt, ys, yline⟩ = r1) := Lib.hid (by rw [HE.out, HLIST.out, HLAB.out]; simp [orI, h1])
            clear HLAB h1
            go_wp2_with fail
            go_region
            all_goals
              go_wp2_with fail
              go_ret
              exact ⟨by rw [HR.out]; rfl, ((HL.out.alloc _).alloc _).drew⟩
        · obtain rfl : k = ys.length := by omega
          have hr : entC ⟨xt, xs, xline⟩ ⟨xt, ys, yline⟩ = 1 := by
            rw [HE.out, HZ.out, List.drop_length, List.drop_eq_getElem_cons hlt]
            rfl
          have HR := Lib.hid hr
          have hne : ((xs.length : Int) == (ys.length : Int)) = false := by simp; omega
          have hll : decide ((xs.length : Int) < (ys.length : Int)) = false := by simp; omega
          have hl2 : decide (xs.length < ys.length) = false := by simp; omega
          clear hr
          go_wp2_with fail
          go_ret
          exact ⟨by rw [HR.out]; rfl, HL.out⟩
      · obtain rfl : k = xs.length := by omega
        by_cases hlty : xs.length < ys.length
        · have hr : entC ⟨xt, xs, xline⟩ ⟨xt, ys, yline⟩ = -1 := by
            rw [HE.out, HZ.out, List.drop_length, List.drop_eq_getElem_cons hlty]
            rfl
          have HR := Lib.hid hr
          have hne : ((xs.length : Int) == (ys.length : Int)) = false := by simp; omega
          have hll : decide ((xs.length : Int) < (ys.length : Int)) = true := by simp; omega
          clear hr
          go_wp2_with fail
          go_ret
          exact ⟨by rw [HR.out]; rfl, HL.out⟩
        · have hxy : xs.length = ys.length := by omega
          have hr : entC ⟨xt, xs, xline⟩ ⟨xt, ys, yline⟩ = strC xline yline := by
            rw [HE.out, HZ.out, List.drop_length, hxy, List.drop_length]
            rfl
          have HR := Lib.hid hr
          have hne : ((xs.length : Int) == (ys.length : Int)) = true := by simp; omega
          clear hr
          go_wp2_with fail
          go_ret
          exact ⟨by rw [HR.out]; rfl, HL.out⟩
  · have HE := Lib.hid (entC_tm (x := ⟨xt, xs, xline⟩) (y := ⟨yt, ys, yline⟩) htm)
    have hne : (xt == yt) = false := by simpa using htm
    clear htm
    go_enter Tryz.func37, Tryz.ntmps37
    go_wp2_with fail
    go_ret
    exact ⟨by rw [HE.out]; rfl, HL0.out⟩
end Go.Proofs.YtoobjjpheegmdaaGreat.E4
namespace Go.Proofs.YtoobjjpheegmdaaGreat.E4
open Go.RowKit Go
set_option maxHeartbeats 2000000 in
set_option maxRecDepth 100000 in
theorem same_any {G H : Nat → Prop} {w : World} {x y : Ent} {xl yl : Value} (hx : LabsAt G w xl x.labs) (hy : LabsAt H w yl y.labs) :
    Calls Tryz.prog 29 #[x.val xl, y.val yl] w fun e w' => e = .returned (.bool (decide (entC x y = 0))) ∧ Lay w w' := by
  obtain ⟨a, ca, rfl, _⟩ := id hx
  obtain ⟨b, cb, rfl, _⟩ := id hy
  have HL0 : Hid (Lay w ((w.alloc (.cells #[.int .i64 x.tm, .slice a x.labs.length ca, .string x.line] 32)).alloc (.cells #[.int .i64 y.tm, .slice b y.labs.length cb, .string y.line] 32))) := Lib.hid (((Keep.refl _ _).alloc _).alloc _)
  have HX := Lib.hid (hx.lay HL0.out)
  have HY := Lib.hid (hy.lay HL0.out)
  have H1 := Lib.hid (before_any HX.out HY.out)
  have ht := entC_lc.tri x y
  have hn := entC_lc.neg x y
  unfold Ent.val at H1 ⊢
  clear hx hy
  generalize entC x y = r at H1 ht hn
  by_cases h1 : r = -1
  · subst h1
    go_enter Tryz.func29, Tryz.ntmps29
    go_wp2_with fail
    refine H1.out.mono ?_
    rintro e w1 ⟨rfl, hl1⟩
    have HL1 := Lib.hid (Keep.trans HL0.out hl1)
    clear hl1 H1 ht hn
    go_wp2_with fail
    go_ret
    exact ⟨by simp, HL1.out⟩
  · have d1 : decide (r = -1) = false := decide_eq_false h1
    rw [d1] at H1
    go_enter Tryz.func29, Tryz.ntmps29
    go_wp2_with fail
    refine H1.out.mono ?_
    rintro e w1 ⟨rfl, hl1⟩
    have HL1 := Lib.hid (Keep.trans HL0.out hl1)
    have k0 : w1.cell? ⟨w.heap.size, 0, none⟩ = some (.int .i64 x.tm) := (Lay.cell hl1 (by simp; try omega)).trans (by go_simp)
    have k1 : w1.cell? ⟨w.heap.size, 1, none⟩ = some (.slice a x.labs.length ca) := (Lay.cell hl1 (by simp; try omega)).trans (by go_simp)
    have k2 : w1.cell? ⟨w.heap.size, 2, none⟩ = some (.string x.line) := (Lay.cell hl1 (by simp; try omega)).trans (by go_simp)
    have q0 : w1.cell? ⟨w.heap.size + 1, 0, none⟩ = some (.int .i64 y.tm) := (Lay.cell hl1 (by simp; try omega)).trans (by go_simp)
    have q1 : w1.cell? ⟨w.heap.size + 1, 1, none⟩ = some (.slice b y.labs.length cb) := (Lay.cell hl1 (by simp; try omega)).trans (by go_simp)
    have q2 : w1.cell? ⟨w.heap.size + 1, 2, none⟩ = some (.string y.line) := (Lay.cell hl1 (by simp; try omega)).trans (by go_simp)
    have H2 := Lib.hid (before_any (HY.out.lay hl1) (HX.out.lay hl1))
    unfold Ent.val at H2
    rw [hn] at H2
    clear hl1 H1 hn
    by_cases h0 : r = 0
    · subst h0
      go_wp2_with fail
      refine H2.out.mono ?_
      rintro e w2 ⟨rfl, hl2⟩
      go_wp2_with fail
      go_ret
      exact ⟨by simp, Keep.trans HL1.out hl2⟩
    · obtain rfl : r = 1 := by omega
      go_wp2_with fail
      refine H2.out.mono ?_
      rintro e w2 ⟨rfl, hl2⟩
      go_wp2_with fail
      go_ret
      exact ⟨by simp, Keep.trans HL1.out hl2⟩
def ordC (desc : Bool) (x y : Ent) : Int := if desc then entC y x else entC x y
theorem ordC_lc (desc : Bool) : LC (ordC desc) := by
  cases desc
  · exact entC_lc
  · exact ⟨fun a b => entC_lc.tri b a, fun a b => entC_lc.neg b a, fun a b h => (entC_lc.eq _ _ h).symm, fun a => entC_lc.refl a, fun a b d h k => entC_lc.tr _ _ _ k h⟩
set_option maxHeartbeats 2000000 in
set_option maxRecDepth 100000 in
theorem ahead_any {G H : Nat → Prop} {w : World} (desc : Bool) {x y : Ent} {xl yl : Value} (hx : LabsAt G w xl x.labs) (hy : LabsAt H w yl y.labs) :
    Calls Tryz.prog 28 #[.bool desc, x.val xl, y.val yl] w fun e w' => e = .returned (.bool (decide (ordC desc x y = -1))) ∧ Lay w w' := by
  obtain ⟨a, ca, rfl, _⟩ := id hx
  obtain ⟨b, cb, rfl, _⟩ := id hy
  have HL0 : Hid (Lay w ((w.alloc (.cells #[.int .i64 x.tm, .slice a x.labs.length ca, .string x.line] 32)).alloc (.cells #[.int .i64 y.tm, .slice b y.labs.length cb, .string y.line] 32))) := Lib.hid (((Keep.refl _ _).alloc _).alloc _)
  cases desc
  · have H1 := Lib.hid (before_any (hx.lay HL0.out) (hy.lay HL0.out))
    unfold Ent.val at H1 ⊢
    clear hx hy
    go_enter Tryz.func28, Tryz.ntmps28
    go_wp2_with fail
    refine H1.out.mono ?_
    rintro e w1 ⟨rfl, hl1⟩
    go_wp2_with fail
    go_ret
    exact ⟨rfl, Keep.trans HL0.out hl1⟩
  · have H1 := Lib.hid (before_any (hy.lay HL0.out) (hx.lay HL0.out))
    unfold Ent.val at H1 ⊢
    clear hx hy
    go_enter Tryz.func28, Tryz.ntmps28
    go_wp2_with fail
    refine H1.out.mono ?_
    rintro e w1 ⟨rfl, hl1⟩
    go_wp2_with fail
    go_ret
    exact ⟨rfl, Keep.trans HL0.out hl1⟩
set_option maxHeartbeats 2000000 in
set_option maxRecDepth 100000 in
theorem desc_any {G H : Nat → Prop} {w : World} {x y : Ent} {xl yl : Value} (hx : LabsAt G w xl x.labs) (hy : LabsAt H w yl y.labs) :
    Calls Tryz.prog 110 #[x.val xl, y.val yl] w fun e w' => e = .returned (.int .i64 (entC y x)) ∧ Lay w w' := by
  obtain ⟨a, ca, rfl, _⟩ := id hx
  obtain ⟨b, cb, rfl, _⟩ := id hy
  have HL0 : Hid (Lay w ((w.alloc (.cells #[.int .i64 x.tm, .slice a x.labs.length ca, .string x.line] 32)).alloc (.cells #[.int .i64 y.tm, .slice b y.labs.length cb, .string y.line] 32))) := Lib.hid (((Keep.refl _ _).alloc _).alloc _)
  have H1 := Lib.hid (compare_any (hy.lay HL0.out) (hx.lay HL0.out))
  unfold Ent.val at H1 ⊢
  clear hx hy
  go_enter Tryz.func110, Tryz.ntmps110
  go_wp2_with fail
  refine H1.out.mono ?_
  rintro e w1 ⟨rfl, hl1⟩
  go_wp2_with fail
  go_ret
  exact ⟨rfl, Keep.trans HL0.out hl1⟩
def ordF (desc : Bool) : Nat := if desc then 110 else 109
set_option maxHeartbeats 400000 in
theorem order_any (desc : Bool) (w : World) : Calls Tryz.prog 89 #[.bool desc] w fun e w' => e = .returned (.func (.func (ordF desc)) #[] #[]) ∧ w' = w := by
  cases desc
  all_goals
    go_enter Tryz.func89, Tryz.ntmps89
    go_wp2
    go_ret
    exact ⟨rfl, rfl⟩
theorem ordF_any {G H : Nat → Prop} {w : World} (desc : Bool) {x y : Ent} {xl yl : Value} (hx : LabsAt G w xl x.labs) (hy : LabsAt H w yl y.labs) :
    Calls Tryz.prog (ordF desc) #[x.val xl, y.val yl] w fun e w' => e = .returned (.int .i64 (ordC desc x y)) ∧ Lay w w' := by
  cases desc
  · exact compare_any hx hy
  · exact desc_any hx hy
def Lab.big (x : Lab) : Bool := decide (200 < x.n.size) || decide (200 < x.v.size)
def Ent.big (e : Ent) : Bool := decide (20 < e.labs.length) || decide (1000 < e.line.size) || e.labs.any Lab.big
set_option maxHeartbeats 4000000 in
set_option maxRecDepth 100000 in
theorem great_any {G : Nat → Prop} {w : World} {e : Ent} {lv : Value} (h : LabsAt G w lv e.labs) :
    Calls Tryz.prog 22 #[e.val lv] w fun x w' => x = .returned (.bool e.big) ∧ Lay w w' := by
  obtain ⟨a, ca, rfl, hl63, ha⟩ := h
  obtain ⟨tm, labs, line⟩ := e
  have HA := Lib.hid ha
  have HL0 : Hid (Lay w (w.alloc (.cells #[.int .i64 tm, .slice a labs.length ca, .string line] 32))) := Lib.hid ((Keep.refl _ _).alloc _)
  have HOK : Hid (Ent.big ⟨tm, labs, line⟩ = (decide (20 < labs.length) || decide (1000 < line.size) || labs.any Lab.big)) := Lib.hid rfl
  unfold Ent.val
  clear ha
  simp only [] at hl63 HA ⊢
  by_cases h20 : 20 < labs.length
  · have d20 : decide (20 < (labs.length : Int)) = true := by simp; omega
    have HR : Hid (Ent.big ⟨tm, labs, line⟩ = true) := Lib.hid (by rw [HOK.out, decide_eq_true h20]; rfl)
    clear h20
    go_enter Tryz.func22, Tryz.ntmps22
    go_wp2_with fail
    go_ret
    exact ⟨by rw [HR.out]; rfl, HL0.out⟩
  · have d20 : decide (20 < (labs.length : Int)) = false := by simp; omega
    by_cases h1000 : 1000 < line.size
    · have d1 : decide (1000 < (line.size : Int)) = true := by simp; omega
      have HR : Hid (Ent.big ⟨tm, labs, line⟩ = true) := Lib.hid (by rw [HOK.out, decide_eq_true h1000]; simp)
      clear h20 h1000
      go_enter Tryz.func22, Tryz.ntmps22
      go_wp2_with fail
      go_ret
      exact ⟨by rw [HR.out]; rfl, HL0.out⟩
    · have d1 : decide (1000 < (line.size : Int)) = false := by simp; omega
      have HO := HOK.out
      rw [decide_eq_false h20, decide_eq_false h1000, Bool.false_or, Bool.false_or] at HO
      have HR := Lib.hid HO
      clear HO HOK h1000
      go_enter Tryz.func22, Tryz.ntmps22
      go_wp2_with fail
      clear d20 d1
      go_loopw [18] (fun vi wr => ∃ k : Nat, vi = .int .i64 k ∧ k ≤ labs.length ∧ Lay w wr ∧ labs.any Lab.big = (labs.drop k).any Lab.big) (fun vi _ => labs.length - (intOf vi).toNat)
      case atStart => exact ⟨0, rfl, Nat.zero_le _, HL0.out, by simp⟩
      case round =>
        obtain ⟨k, rfl, hk, hl, hz⟩ := hrel
        have HZ := Lib.hid hz
        have HL := Lib.hid hl
        clear hz
        by_cases hlt : k < labs.length
        · rcases HA.out with h0 | ⟨bx, ox, rfl, hgx, hbx, hcx⟩
          · exact absurd hlt (by rw [h0]; simp)
          obtain ⟨x0, x1⟩ := hcx k hlt
          have g0 := (hl.cell hbx).trans x0
          have g1 := (hl.cell hbx).trans x1
          have hdx := Lib.hid (List.drop_eq_getElem_cons hlt)
          generalize labs[k] = x at g0 g1 hdx x0 x1
          clear x0 x1 hcx hl
          by_cases hn : 200 < x.n.size
          · have dn : decide (200 < (x.n.size : Int)) = true := by simp; omega
            have HB : Hid (Lab.big x = true) := Lib.hid (by unfold Lab.big; rw [decide_eq_true hn]; rfl)
            clear hn
            go_wp2_with fail
            go_ret
            refine ⟨ret_bool ?_, HL.out.alloc _⟩
            rw [HR.out, HZ.out, hdx.out, List.any_cons, HB.out, Bool.true_or]
          · have dn : decide (200 < (x.n.size : Int)) = false := by simp; omega
            by_cases hv : 200 < x.v.size
            · have dv : decide (200 < (x.v.size : Int)) = true := by simp; omega
              have HB : Hid (Lab.big x = true) := Lib.hid (by unfold Lab.big; rw [decide_eq_true hv]; simp)
              clear hn hv
              go_wp2_with fail
              go_ret
              refine ⟨ret_bool ?_, HL.out.alloc _⟩
              rw [HR.out, HZ.out, hdx.out, List.any_cons, HB.out, Bool.true_or]
            · have dv : decide (200 < (x.v.size : Int)) = false := by simp; omega
              have HB : Hid (Lab.big x = false) := Lib.hid (by unfold Lab.big; rw [decide_eq_false hn, decide_eq_false hv]; rfl)
              clear hn hv
              go_wp2_with fail
              go_roundw
              case rel => exact ⟨k + 1, by go_num, by omega, HL.out.alloc _, by rw [HZ.out, hdx.out, List.any_cons, HB.out, Bool.false_or]⟩
              case measure => simp [intOf]; omega
        · obtain rfl : k = labs.length := by omega
          go_wp2_with fail
          go_ret
          refine ⟨ret_bool ?_, HL.out⟩
          rw [HR.out, HZ.out, List.drop_length]
          rfl
set_option maxHeartbeats 4000000 in
set_option maxRecDepth 100000 in
theorem many_any {G L : Nat → Prop} {w : World} {v : Value} {es : List Ent} (h : EntsAt G L w v es) (most : Nat) (hm : most ≤ 1000) :
    Calls Tryz.prog 19 #[v, .int .i64 most] w fun x w' => x = .returned (.bool (decide (most < es.length) || es.any Ent.big)) ∧ Lay w w' := by
  obtain ⟨a, ca, rfl, hl63, ha⟩ := h
  have HA := Lib.hid ha
  clear ha
  by_cases h60 : most < es.length
  · have HM := Lib.hid (decide_eq_true h60)
    have d1 : decide ((most : Int) < (es.length : Int)) = true := by simp; omega
    have d2 : decide (most < es.length) = true := decide_eq_true h60
    clear h60
    go_enter Tryz.func19, Tryz.ntmps19
    go_wp2_with fail
    go_ret
    exact ⟨ret_bool (by rw [HM.out, Bool.true_or]), Keep.refl _ _⟩
  · have HM := Lib.hid (decide_eq_false h60)
    rw [decide_eq_false h60, Bool.false_or]
    have d1 : decide ((most : Int) < (es.length : Int)) = false := by simp; omega
    have d2 : decide (most < es.length) = false := decide_eq_false h60
    go_enter Tryz.func19, Tryz.ntmps19
    go_wp2_with fail
    clear d1 d2
    go_loopw [13] (fun vi wr => ∃ k : Nat, vi = .int .i64 k ∧ k ≤ es.length ∧ Lay w wr ∧ es.any Ent.big = (es.drop k).any Ent.big) (fun vi _ => es.length - (intOf vi).toNat)
    case atStart => exact ⟨0, rfl, Nat.zero_le _, Keep.refl _ _, by simp⟩
    case round =>
      obtain ⟨k, rfl, hk, hl, hz⟩ := hrel
      have HZ := Lib.hid hz
      have HL := Lib.hid hl
      clear hz
      by_cases hlt : k < es.length
      · rcases HA.out with h0 | ⟨bx, ox, rfl, hgx, hbx, hcx⟩
        · exact absurd hlt (by rw [h0]; simp)
        obtain ⟨lv, x0, x1, x2, x3⟩ := hcx k hlt
        have g0 := (hl.cell hbx).trans x0
        have g1 := (hl.cell hbx).trans x1
        have g2 := (hl.cell hbx).trans x2
        have hdx := Lib.hid (List.drop_eq_getElem_cons hlt)
        generalize es[k] = x at g0 g1 g2 hdx x0 x1 x2 x3
        have hlab := x3.lay hl
        obtain ⟨al, cl, rfl, _⟩ := id hlab
        have HG := Lib.hid (great_any (hlab.alloc (.cells #[.int .i64 x.tm, .slice al x.labs.length cl, .string x.line] 32)))
        unfold Ent.val at HG
        clear x0 x1 x2 x3 hcx hl hlab
        cases hb : x.big
        all_goals
          rw [hb] at HG
          have HB := Lib.hid hb
          clear hb
          go_wp2_with fail
          refine HG.out.mono ?_
          rintro e w1 ⟨rfl, hl1⟩
          have HL1 := Lib.hid (Keep.trans (HL.out.alloc _) hl1)
          clear hl1
          go_wp2_with fail
        · go_roundw
          case rel => exact ⟨k + 1, by go_num, by omega, HL1.out, by rw [HZ.out, hdx.out, List.any_cons, HB.out, Bool.false_or]⟩
          case measure => simp [intOf]; omega
        · go_ret
          refine ⟨ret_bool ?_, HL1.out⟩
          rw [HZ.out, hdx.out, List.any_cons, HB.out, Bool.true_or]
      · obtain rfl : k = es.length := by omega
        go_wp2_with fail
        go_ret
        refine ⟨ret_bool ?_, HL.out⟩
        rw [HZ.out, List.drop_length]
        rfl
end Go.Proofs.YtoobjjpheegmdaaGreat.E4
namespace Go.Proofs.YtoobjjpheegmdaaGreat.E4
open Go.RowKit Go
def rawC (x : Value × Ent) : List Value := [.int .i64 x.2.tm, x.1, .string x.2.line]
def flatR : List (Value × Ent) → List Value
  | [] => []
  | x :: r => rawC x ++ flatR r
theorem flatR_length : ∀ R : List (Value × Ent), (flatR R).length = R.length * 3
  | [] => rfl
  | x :: r => by simp only [flatR, List.length_append, flatR_length r, rawC, List.length_cons, List.length_nil]; omega
theorem flatR_append : ∀ R S : List (Value × Ent), flatR (R ++ S) = flatR R ++ flatR S
  | [], _ => rfl
  | x :: r, S => by simp only [List.cons_append, flatR, flatR_append r S, List.append_assoc]
theorem flatR_get : ∀ (R : List (Value × Ent)) (i : Nat) (h : i < R.length) (c : Nat), c < 3 → (flatR R)[i * 3 + c]? = (rawC R[i])[c]?
  | [], i, h, _, _ => by simp at h
  | x :: r, 0, _, c, hc => by
    simp only [flatR, Nat.zero_mul, Nat.zero_add, List.getElem_cons_zero]
    rw [List.getElem?_append_left (by simp [rawC]; omega)]
  | x :: r, i + 1, h, c, hc => by
    simp only [flatR, List.getElem_cons_succ]
    rw [List.getElem?_append_right (by simp [rawC]; omega), ← flatR_get r i (by simpa using h) c hc]
    congr 1
    simp [rawC]
    omega
theorem LabsAt.one {G : Nat → Prop} {w : World} {v : Value} {ls : List Lab} (h : LabsAt G w v ls) : v.oneCell' = true := by
  obtain ⟨a, cap, rfl, _⟩ := h
  rfl
def RawL (L : Nat → Prop) (w : World) (R : List (Value × Ent)) : Prop := ∀ x ∈ R, LabsAt L w x.1 x.2.labs
theorem RawL.lay {L : Nat → Prop} {w w' : World} {R : List (Value × Ent)} (h : RawL L w R) (hl : Lay w w') : RawL L w' R := fun x hx => (h x hx).lay hl
theorem RawL.keep {L H : Nat → Prop} {w w' : World} {R : List (Value × Ent)} (h : RawL L w R) (hk : Keep H w w') (hd : ∀ b, L b → b < w.heap.size → ¬ H b) : RawL L w' R := fun x hx => (h x hx).keep hk hd
theorem RawL.mono {L M : Nat → Prop} {w : World} {R : List (Value × Ent)} (h : RawL L w R) (hM : ∀ b, L b → b < w.heap.size → M b) : RawL M w R := fun x hx => (h x hx).mono hM
theorem flatR_one {L : Nat → Prop} {w : World} {R : List (Value × Ent)} (h : RawL L w R) : ∀ u ∈ flatR R, u.oneCell' = true := by
  induction R with
  | nil => intro u hu; simp [flatR] at hu
  | cons x r ih =>
    intro u hu
    simp only [flatR, List.mem_append] at hu
    rcases hu with hu | hu
    · simp only [rawC, List.mem_cons, List.not_mem_nil, or_false] at hu
      rcases hu with rfl | rfl | rfl
      · rfl
      · exact (h x (by simp)).one
      · rfl
    · exact ih (fun y hy => h y (by simp [hy])) u hu
theorem list_of {α : Type} (d : α) (p : Nat → α → Prop) : ∀ (n : Nat), (∀ i, i < n → ∃ x, p i x) → ∃ l : List α, l.length = n ∧ ∀ i, i < n → p i (l.getD i d)
  | 0, _ => ⟨[], rfl, fun i h => by omega⟩
  | n + 1, h => by
    obtain ⟨l, hl, hp⟩ := list_of d p n (fun i hi => h i (by omega))
    obtain ⟨x, hx⟩ := h n (by omega)
    refine ⟨l ++ [x], by simp [hl], fun i hi => ?_⟩
    rcases Nat.lt_or_ge i n with hlt | hge
    · have := hp i hlt
      simp only [List.getD, List.getElem?_append_left (hl ▸ hlt)] at this ⊢
      exact this
    · obtain rfl : i = n := by omega
      simp only [List.getD, List.getElem?_append_right (Nat.le_of_eq hl), hl, Nat.sub_self, List.getElem?_cons_zero, Option.getD_some]
      exact hx
def RawAt (w : World) (b off : Nat) (R : List (Value × Ent)) : Prop :=
  ∀ i (h : i < R.length), w.cell? ⟨b, off + i * 3, none⟩ = some (.int .i64 R[i].2.tm) ∧ w.cell? ⟨b, off + i * 3 + 1, none⟩ = some R[i].1 ∧ w.cell? ⟨b, off + i * 3 + 2, none⟩ = some (.string R[i].2.line)
theorem EntsAt.raw {G L : Nat → Prop} {w : World} {a : Option Addr} {n cap : Nat} {es : List Ent} (h : EntsAt G L w (.slice a n cap) es) (h0 : es ≠ []) :
    ∃ b off R, a = some ⟨b, off, none⟩ ∧ n = R.length ∧ R.map Prod.snd = es ∧ G b ∧ b < w.heap.size ∧ RawAt w b off R ∧ RawL L w R := by
  obtain ⟨a', cap', hv, hn, h | ⟨b, off, ha, hg, hlt, hc⟩⟩ := h
  · exact absurd h h0
  · simp only [Value.slice.injEq] at hv
    obtain ⟨rfl, rfl, rfl⟩ := hv
    obtain ⟨vs, hl, hp⟩ := list_of (Value.slice none 0 0) (fun i lv => ∀ h : i < es.length, w.cell? ⟨b, off + i * 3, none⟩ = some (.int .i64 es[i].tm) ∧ w.cell? ⟨b, off + i * 3 + 1, none⟩ = some lv ∧ w.cell? ⟨b, off + i * 3 + 2, none⟩ = some (.string es[i].line) ∧ LabsAt L w lv es[i].labs) es.length (fun i hi => by
      obtain ⟨lv, h⟩ := hc i hi
      exact ⟨lv, fun _ => h⟩)
    have hz : (vs.zip es).length = es.length := by simp [hl]
    have hget : ∀ i (hi : i < (vs.zip es).length), (vs.zip es)[i] = (vs.getD i (Value.slice none 0 0), es[i]'(by omega)) := fun i hi => by
      rw [List.getElem_zip]
      have : i < vs.length := by omega
      simp [List.getD, this]
    refine ⟨b, off, vs.zip es, ha, hz.symm, ?_, hg, hlt, fun i hi => ?_, fun x hx => ?_⟩
    · exact List.map_snd_zip (by omega)
    · rw [hget i hi]
      have := hp i (by omega) (by omega)
      exact ⟨this.1, this.2.1, this.2.2.1⟩
    · obtain ⟨i, hi, rfl⟩ := List.getElem_of_mem hx
      rw [hget i hi]
      exact (hp i (by omega) (by omega)).2.2.2
theorem RawAt.cells {w : World} {b off : Nat} {R : List (Value × Ent)} (h : RawAt w b off R) (j : Nat) (u : Value) (hu : (flatR R)[j]? = some u) : w.cell? ⟨b, off + j, none⟩ = some u := by
  have hj : j < (flatR R).length := (List.getElem?_eq_some_iff.1 hu).1
  rw [flatR_length] at hj
  have hi : j / 3 < R.length := by omega
  have hjd : j = j / 3 * 3 + j % 3 := by omega
  have hg := flatR_get R (j / 3) hi (j % 3) (by omega)
  rw [← hjd, hu] at hg
  obtain ⟨h0, h1, h2⟩ := h (j / 3) hi
  have hm : j % 3 = 0 ∨ j % 3 = 1 ∨ j % 3 = 2 := by omega
  rcases hm with hm | hm | hm
  · rw [hm] at hg hjd
    rw [show off + j = off + j / 3 * 3 by omega, h0]
    simpa [rawC] using hg.symm
  · rw [hm] at hg hjd
    rw [show off + j = off + j / 3 * 3 + 1 by omega, h1]
    simpa [rawC] using hg.symm
  · rw [hm] at hg hjd
    rw [show off + j = off + j / 3 * 3 + 2 by omega, h2]
    simpa [rawC] using hg.symm
theorem RawAt.lay {w w' : World} {b off : Nat} {R : List (Value × Ent)} (h : RawAt w b off R) (hb : b < w.heap.size) (hl : Lay w w') : RawAt w' b off R := fun i hi => by
  obtain ⟨h0, h1, h2⟩ := h i hi
  exact ⟨(hl.cell hb).trans h0, (hl.cell hb).trans h1, (hl.cell hb).trans h2⟩
theorem RawAt.src {w : World} {b off : Nat} {R : List (Value × Ent)} (h : RawAt w b off R) {L : Nat → Prop} (hL : RawL L w R) (cap : Nat) : Src Tryz.prog 3 43 (.slice (some ⟨b, off, none⟩) R.length cap) R.length (flatR R) w :=
  Src.ofSlice w Tryz.underlying43 ⟨b, off, none⟩ R.length cap (flatR R) (flatR_length R) (fun j u hu => by
    have e : (⟨b, off, none⟩ : Addr).add j = ⟨b, off + j, none⟩ := by
      unfold Addr.add
      split
      · rename_i h; subst h; rfl
      · rfl
    rw [e]
    exact h.cells j u hu) (flatR_one hL)
theorem Rk.rawAt {G : Nat → Prop} {w : World} {v : Value} {n : Nat} {R : List (Value × Ent)} (h : Rk 3 G w v n (flatR R)) :
    n = R.length ∧ ((v = .slice none 0 0 ∧ R = []) ∨ ∃ g cap, v = .slice (some ⟨g, 0, none⟩) R.length cap ∧ G g ∧ g < w.heap.size ∧ R.length ≤ cap ∧ cap ≤ maxLen ∧ RawAt w g 0 R ∧ (∀ j, j < cap * 3 → (w.cell? ⟨g, j, none⟩).isSome = true ∧ w.frozen? ⟨g, j, none⟩ = false)) := by
  obtain ⟨h0, h⟩ := h
  rw [flatR_length] at h0
  have hn : n = R.length := by omega
  subst hn
  refine ⟨rfl, ?_⟩
  rcases h with ⟨h1, h2⟩ | ⟨g, cap, h1, h2, h3, h4, h5, h6, h7⟩
  · exact .inl ⟨h1, List.eq_nil_of_length_eq_zero h2⟩
  · refine .inr ⟨g, cap, h1, h2, h3, h4, h5, fun i hi => ?_, h7⟩
    have get : ∀ c, c < 3 → w.cell? ⟨g, 0 + i * 3 + c, none⟩ = (rawC R[i])[c]? := fun c hc => by
      rw [← flatR_get R i hi c hc, Nat.zero_add]
      exact h6 _ (by rw [flatR_length]; omega)
    exact ⟨by simpa [rawC] using get 0 (by omega), by simpa [rawC] using get 1 (by omega), by simpa [rawC] using get 2 (by omega)⟩
theorem RawAt.ents {G L : Nat → Prop} {w : World} {b off cap : Nat} {R : List (Value × Ent)} (h : RawAt w b off R) (hL : RawL L w R) (hg : G b) (hb : b < w.heap.size) (hn : R.length ≤ 9223372036854775807) :
    EntsAt G L w (.slice (some ⟨b, off, none⟩) R.length cap) (R.map Prod.snd) := by
  refine ⟨_, cap, by rw [List.length_map], by rw [List.length_map]; exact hn, .inr ⟨b, off, rfl, hg, hb, fun i hi => ?_⟩⟩
  rw [List.length_map] at hi
  obtain ⟨h0, h1, h2⟩ := h i hi
  rw [List.getElem_map]
  exact ⟨_, h0, h1, h2, hL _ (List.getElem_mem hi)⟩
theorem Rk.ents {G L : Nat → Prop} {w : World} {v : Value} {n : Nat} {R : List (Value × Ent)} (h : Rk 3 G w v n (flatR R)) (hL : RawL L w R) : EntsAt G L w v (R.map Prod.snd) := by
  obtain ⟨_, ⟨rfl, rfl⟩ | ⟨g, cap, rfl, hg, hb, hl, hm, hr, _⟩⟩ := h.rawAt
  · exact ⟨none, 0, rfl, by simp, .inl rfl⟩
  · exact hr.ents hL hg hb (by unfold maxLen at hm; omega)
theorem info24 : (Tryz.prog.info? 32).map (fun i => (i.zero, i.size, i.bytes)) = some (some (.agg #[.int .i64 0, .slice none 0 0, .string ⟨#[]⟩]), 3, 48) := by kernel_rfl
theorem elem24 : ∃ i z, Elem Tryz.prog 43 32 i z 3 48 := by
  obtain ⟨i, hi, hz, hs, hb⟩ := info_parts info24
  exact ⟨i, _, Tryz.underlying43, hi, hz, hs, hb, by kernel_rfl⟩
set_option maxHeartbeats 2000000 in
set_option maxRecDepth 100000 in
theorem clone_any {G L : Nat → Prop} {w : World} {v : Value} {es : List Ent} (h : EntsAt G L w v es) (hn : es.length ≤ 1000000) :
    Calls Tryz.prog 88 #[v] w fun e w' => ∃ v' R, e = .returned v' ∧ Rk 3 (fun k => w.heap.size ≤ k) w' v' es.length (flatR R) ∧ R.map Prod.snd = es ∧ RawL L w' R ∧ Lay w w' := by
  obtain ⟨i24, z24, E24⟩ := elem24
  have q39 : ∀ (w : World) (a : Option Addr) (n c n' c' : Nat), (binOp .eql 43 (.slice a n c) (.slice none n' c')).run Tryz.prog w = .ok (.bool a.isNone) w := fun w a n c n' c' => Lib.run_eql_slice_nil w _ _ a n c n' c' Tryz.underlying43
  have hsrc : ∃ R, R.map Prod.snd = es ∧ RawL L w R ∧ ∀ w1, Lay w w1 → Src Tryz.prog 3 43 v es.length (flatR R) w1 := by
    obtain ⟨a, cap, rfl, hn, hc⟩ := id h
    by_cases h0 : es = []
    · subst h0
      refine ⟨[], rfl, fun x hx => by simp at hx, fun w1 _ => ?_⟩
      cases a with
      | none => exact Src.ofNil _ Tryz.underlying43 cap
      | some p => exact Src.ofSlice _ Tryz.underlying43 p 0 cap [] rfl (fun j u hu => by simp at hu) (fun u hu => by simp at hu)
    · obtain ⟨b, off, R, rfl, hnR, hR, hg, hb, hraw, hL⟩ := h.raw h0
      exact ⟨R, hR, hL, fun w1 hl => by rw [hnR]; exact (hraw.lay hb hl).src (hL.lay hl) cap⟩
  obtain ⟨R, hR, hL, hs⟩ := hsrc
  obtain ⟨a, cap, rfl, hn63, hc⟩ := id h
  clear h
  cases a with
  | none =>
    have h0 : es = [] := by
      rcases hc with h0 | ⟨b, off, h0, _⟩
      · exact h0
      · cases h0
    subst h0
    clear hc hs
    go_enter Tryz.func88, Tryz.ntmps88
    go_wp2
    go_ret
    exact ⟨_, [], rfl, Rk.nil _ _ _, rfl, (fun x hx => by simp at hx), Keep.refl _ _⟩
  | some p =>
    clear hc
    have HSS := Lib.hid (hs (w.alloc (.cells #[] 32)) ((Keep.refl _ _).alloc _))
    have HR := Lib.hid hR
    have HLL := Lib.hid hL
    clear hR hL hs
    go_enter Tryz.func88, Tryz.ntmps88
    go_wp2_with (at_builtin; refine wpList_append_rk E24 _ rfl _ _ 43 rfl (G := fun k => w.heap.size ≤ k) rfl ((rk_new 3 w 0 [] 32 rfl (by omega)).mono (fun k hk _ => Nat.le_of_eq hk.symm)) ?c1 _ es.length (flatR R) rfl HSS.out ?c2 ?c3 ?_)
    case c1 => intro k hk; simp at hk; omega
    case c2 => omega
    case c3 => omega
    intro v' w1 hrk hk
    have HK := Lib.hid hrk
    have hk2 : Keep (fun k => w.heap.size ≤ k) (w.alloc (.cells #[] 32)) w1 := hk.into (fun b _ hb => by
      obtain ⟨n, c, e⟩ := hb
      simp only [Value.slice.injEq, Option.some.injEq, Addr.mk.injEq, and_true] at e
      omega)
    have hlay : Lay w w1 := Keep.into (Keep.trans ((Keep.refl (fun k => w.heap.size ≤ k) w).alloc _) hk2) (fun k hlt hk => by omega)
    have HLY := Lib.hid hlay
    clear hrk hk hk2 hlay
    go_wp2
    go_ret
    refine ⟨v', R, rfl, ?_, HR.out, ?_, HLY.out⟩
    · exact HK.out.mono (fun k hk _ => hk.1)
    · exact HLL.out.lay HLY.out
end Go.Proofs.YtoobjjpheegmdaaGreat.E4
namespace Go.Proofs.YtoobjjpheegmdaaGreat.E4
open Go.RowKit Go
def noLab : Lab := ⟨⟨#[]⟩, ⟨#[]⟩⟩
end Go.Proofs.YtoobjjpheegmdaaGreat.E4
namespace Go.Proofs.YtoobjjpheegmdaaGreat.E4
open Go.RowKit Go
theorem add_lit (b off k : Nat) : (⟨b, off, none⟩ : Addr).add k = ⟨b, off + k, none⟩ := by
  unfold Addr.add
  split
  · rename_i h; subst h; rfl
  · rfl
theorem cells55 : Tryz.prog.cellsOf 86 = 2 := by kernel_rfl
theorem cells24 : Tryz.prog.cellsOf 32 = 3 := by kernel_rfl
variable {H : Type} {enc : TypeId × Value → H}
set_option maxRecDepth 100000 in
theorem lab_at {w : World} {a : Addr} {k fuel : Nat} {spare : Nat → Bool} {held : Bool} {cs : List Value} {x : DataW H × List MemPlace}
    (h : w.cells? 0 (a.add (k * 2)) 2 = some cs) (ht : DataW.trod enc Tryz.prog w 0 spare held fuel 86 cs = some x) :
    (a.add (k * 2)).spot = none ∧ (a.add (k * 2)).block < w.heap.size ∧ ∃ y : Lab, w.cell? (a.add (k * 2)) = some (.string y.n) ∧ w.cell? ((a.add (k * 2)).add 1) = some (.string y.v) := by
  obtain ⟨_, hl, hc⟩ := World.cells?_some h
  obtain ⟨y0, y1, n, _, _, h0, h1⟩ := Go.ChangeShapes.trod_struct2 Tryz.underlying86 ht
  match cs, hl with
  | [c0, c1], _ =>
    have e9 : Tryz.prog.cellsOf 9 = 1 := by kernel_rfl
    simp only [e9, List.drop_zero, List.drop_succ_cons, List.take_succ_cons, List.take_zero] at h0 h1
    obtain ⟨s, hs, _, _⟩ := DataW.trod_string Tryz.underlying9 h0
    obtain ⟨t, htt, _, _⟩ := DataW.trod_string Tryz.underlying9 h1
    simp only [List.cons.injEq, and_true] at hs htt
    subst hs htt
    have g0 := hc 0 (by omega)
    have g1 := hc 1 (by omega)
    have e : (a.add (k * 2)).add 0 = a.add (k * 2) := by simp [Addr.add]
    rw [e] at g0
    simp only [List.getElem?_cons_zero, List.getElem?_cons_succ] at g0 g1
    exact ⟨World.cell?_spot g0, World.block_lt_of_cell? w _ g0, ⟨s, t⟩, g0, g1⟩
theorem labs_open {w : World} {spare : Nat → Bool} {held : Bool} {fuel : Nat} {lv : Value} {x : DataW H × List MemPlace}
    (h : DataW.trod enc Tryz.prog w 0 spare held fuel 30 [lv] = some x) : ∃ ls, LabsAt (fun _ => True) w lv ls := by
  rcases Go.Deep.open_slice Tryz.underlying30 h with ⟨hcs, _⟩ | ⟨a, len, cap, m, n, D, Pl, hcs, _, hl, hcap, hm, _, hel⟩
  · simp only [List.cons.injEq, and_true] at hcs
    exact ⟨[], none, 0, hcs, by simp, .inl rfl⟩
  · simp only [List.cons.injEq, and_true] at hcs
    subst hcs
    have hlm : len ≤ m := by rw [hm]; split <;> omega
    rw [cells55] at hel
    have h63 : len ≤ 9223372036854775807 := by unfold maxLen at hcap; omega
    by_cases h0 : len = 0
    · subst h0
      exact ⟨[], some a, cap, rfl, by simp, .inl rfl⟩
    obtain ⟨cs0, hc0, ht0⟩ := hel 0 (by omega)
    obtain ⟨hsp, hblt, _⟩ := lab_at hc0 ht0
    have ea : a.add (0 * 2) = a := by simp [Addr.add]
    rw [ea] at hsp hblt
    obtain ⟨b, off, spot⟩ := a
    simp only [] at hsp hblt
    subst hsp
    obtain ⟨ls, hlen, hits⟩ := list_of noLab (fun i y => w.cell? ⟨b, off + i * 2, none⟩ = some (.string y.n) ∧ w.cell? ⟨b, off + i * 2 + 1, none⟩ = some (.string y.v)) len (fun i hi => by
        obtain ⟨cs, hc, ht⟩ := hel i (by omega)
        obtain ⟨_, _, y, g0, g1⟩ := lab_at hc ht
        rw [add_lit] at g0 g1
        rw [add_lit] at g1
        exact ⟨y, g0, g1⟩)
    refine ⟨ls, _, cap, by rw [hlen], by omega, .inr ⟨b, off, rfl, trivial, hblt, fun i hi => ?_⟩⟩
    have := hits i (by omega)
    simp only [List.getD, List.getElem?_eq_getElem hi, Option.getD_some] at this
    exact this
structure Ent.Wf (e : Ent) : Prop where
  lo : -9223372036854775808 ≤ e.tm
  hi : e.tm ≤ 9223372036854775807
set_option maxRecDepth 100000 in
theorem ent_open {w : World} {spare : Nat → Bool} {held : Bool} {fuel : Nat} {cs : List Value} (hl : cs.length = 3) {x : DataW H × List MemPlace}
    (ht : DataW.trod enc Tryz.prog w 0 spare held fuel 32 cs = some x) : ∃ (e : Ent) (lv : Value), cs = [.int .i64 e.tm, lv, .string e.line] ∧ LabsAt (fun _ => True) w lv e.labs ∧ e.Wf := by
  obtain ⟨y0, y1, y2, n, _, _, h0, h1, h2⟩ := Go.Deep.trod_struct3 Tryz.underlying32 ht
  match cs, hl with
  | [c0, c1, c2], _ =>
    have e3 : Tryz.prog.cellsOf 3 = 1 := by kernel_rfl
    have e22 : Tryz.prog.cellsOf 30 = 1 := by kernel_rfl
    have e9 : Tryz.prog.cellsOf 9 = 1 := by kernel_rfl
    simp only [e3, e22, e9, List.drop_zero, List.drop_succ_cons, List.take_succ_cons, List.take_zero] at h0 h1 h2
    obtain ⟨kd, hk, _, wk⟩ := DataW.trod_int Tryz.underlying3 h0
    obtain ⟨s, hs, _, ws⟩ := DataW.trod_string Tryz.underlying9 h2
    obtain ⟨ls, hls⟩ := labs_open h1
    simp only [List.cons.injEq, and_true] at hk hs
    subst hk hs
    have bk := bounds_i64 wk
    exact ⟨⟨kd, ls, s⟩, c1, rfl, hls, ⟨by show -9223372036854775808 ≤ kd; omega, by show kd ≤ 9223372036854775807; omega⟩⟩
theorem ent_at {w : World} {a : Addr} {k fuel : Nat} {spare : Nat → Bool} {held : Bool} {cs : List Value} {x : DataW H × List MemPlace}
    (h : w.cells? 0 (a.add (k * 3)) 3 = some cs) (ht : DataW.trod enc Tryz.prog w 0 spare held fuel 32 cs = some x) :
    (a.add (k * 3)).spot = none ∧ (a.add (k * 3)).block < w.heap.size ∧ ∃ (e : Ent) (lv : Value), w.cell? (a.add (k * 3)) = some (.int .i64 e.tm) ∧ w.cell? ((a.add (k * 3)).add 1) = some lv ∧ w.cell? ((a.add (k * 3)).add 2) = some (.string e.line) ∧ LabsAt (fun _ => True) w lv e.labs ∧ e.Wf := by
  obtain ⟨_, hl, hc⟩ := World.cells?_some h
  obtain ⟨e, lv, rfl, h1, h2⟩ := ent_open hl ht
  have g0 := hc 0 (by omega)
  have g1 := hc 1 (by omega)
  have g2 := hc 2 (by omega)
  have e0 : (a.add (k * 3)).add 0 = a.add (k * 3) := by simp [Addr.add]
  rw [e0] at g0
  simp only [List.getElem?_cons_zero, List.getElem?_cons_succ] at g0 g1 g2
  exact ⟨World.cell?_spot g0, World.block_lt_of_cell? w _ g0, e, lv, g0, g1, g2, h1, h2⟩
theorem ents_open {w : World} {spare : Nat → Bool} {held : Bool} {fuel : Nat} {v : Value} {x : DataW H × List MemPlace}
    (h : DataW.trod enc Tryz.prog w 0 spare held fuel 43 [v] = some x) : ∃ es, EntsAt (fun _ => True) (fun _ => True) w v es ∧ ∀ e ∈ es, e.Wf := by
  rcases Go.Deep.open_slice Tryz.underlying43 h with ⟨hcs, _⟩ | ⟨a, len, cap, m, n, D, Pl, hcs, _, hl, hcap, hm, _, hel⟩
  · simp only [List.cons.injEq, and_true] at hcs
    exact ⟨[], ⟨none, 0, hcs, by simp, .inl rfl⟩, fun e he => by simp at he⟩
  · simp only [List.cons.injEq, and_true] at hcs
    subst hcs
    have hlm : len ≤ m := by rw [hm]; split <;> omega
    rw [cells24] at hel
    have h63 : len ≤ 9223372036854775807 := by unfold maxLen at hcap; omega
    by_cases h0 : len = 0
    · subst h0
      exact ⟨[], ⟨some a, cap, rfl, by simp, .inl rfl⟩, fun e he => by simp at he⟩
    obtain ⟨cs0, hc0, ht0⟩ := hel 0 (by omega)
    obtain ⟨hsp, hblt, _⟩ := ent_at hc0 ht0
    have ea : a.add (0 * 3) = a := by simp [Addr.add]
    rw [ea] at hsp hblt
    obtain ⟨b, off, spot⟩ := a
    simp only [] at hsp hblt
    subst hsp
    obtain ⟨es, hlen, hits⟩ := list_of (⟨0, [], ⟨#[]⟩⟩ : Ent) (fun i e => ∃ lv, (w.cell? ⟨b, off + i * 3, none⟩ = some (.int .i64 e.tm) ∧ w.cell? ⟨b, off + i * 3 + 1, none⟩ = some lv ∧ w.cell? ⟨b, off + i * 3 + 2, none⟩ = some (.string e.line) ∧ LabsAt (fun _ => True) w lv e.labs) ∧ e.Wf) len (fun i hi => by
        obtain ⟨cs, hc, ht⟩ := hel i (by omega)
        obtain ⟨_, _, e, lv, g0, g1, g2, g3, g4⟩ := ent_at hc ht
        rw [add_lit] at g0 g1 g2
        rw [add_lit] at g1 g2
        exact ⟨e, lv, ⟨g0, g1, g2, g3⟩, g4⟩)
    have hget : ∀ i (hi : i < es.length), es.getD i ⟨0, [], ⟨#[]⟩⟩ = es[i] := fun i hi => by simp [List.getD, hi]
    refine ⟨es, ⟨_, cap, by rw [hlen], by omega, .inr ⟨b, off, rfl, trivial, hblt, fun i hi => ?_⟩⟩, fun e he => ?_⟩
    · obtain ⟨lv, h1, _⟩ := hits i (by omega)
      rw [hget i hi] at h1
      exact ⟨lv, h1⟩
    · obtain ⟨i, hi, rfl⟩ := List.getElem_of_mem he
      obtain ⟨lv, _, h2⟩ := hits i (by omega)
      rw [hget i hi] at h2
      exact h2
end Go.Proofs.YtoobjjpheegmdaaGreat.E4
